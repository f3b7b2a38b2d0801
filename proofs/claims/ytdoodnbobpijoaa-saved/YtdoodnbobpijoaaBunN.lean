import Derived.Test.YtdoodnbobpijoaaBunH
import Derived.Test.YtdoodnbobpijoaaWk
namespace Go.Proofs.Ytdoodnbobpijoaa
open Go.RowKit

/-! ### One net of morainekeep: the program's net, how many routers, the costs as they were set -/
structure KN (w : World) (B : Nat) (ρ : Nat → Part) (i bk bx bs : Nat) (A : Nt) (C : Nat → Nat → Int) (V : Nat → Nat → Value) : Prop where
  g : Good A
  p : PN w bx bs (bl A) V
  wx : WR w B 104 ρ (tgx i) V A.wa
  px : ρ bx = (i + 1, 0)
  ps : ρ bs = (i + 1, 1)
  pk : ρ bk = (i + 1, 2)
  k0 : w.cell? ⟨bk, 0, none⟩ = some (.pointer (some ⟨bx, 0, none⟩))
  k1 : w.cell? ⟨bk, 1, none⟩ = some (.int .i64 A.n)
  kc : ∀ a b, a < 5 → b < 5 → w.cell? ⟨bk, 2 + a * 5 + b, none⟩ = some (I (C a b))
  kf : ∀ o, w.frozen? ⟨bk, o, none⟩ = false
section
variable {w : World} {B : Nat} {ρ : Nat → Part} {i bk bx bs : Nat} {A : Nt} {C : Nat → Nat → Int} {V : Nat → Nat → Value}
theorem KN.n0 (h : KN w B ρ i bk bx bs A C V) : 0 < A.n := by have := h.g.n2; omega
theorem KN.hbx (h : KN w B ρ i bk bx bs A C V) : ∀ a c, ρ bx ≠ tgx i a c := fun a c e => by rw [h.px] at e; have := congrArg Prod.snd e; simp only [tgx] at this; omega
theorem KN.hbs (h : KN w B ρ i bk bx bs A C V) : ∀ a c, ρ bs ≠ tgx i a c := fun a c e => by rw [h.ps] at e; have := congrArg Prod.snd e; simp only [tgx] at this; omega
theorem KN.lt (h : KN w B ρ i bk bx bs A C V) : bk < w.heap.size := lt_of_cell h.k0
theorem KN.of {w' : World} {ρ' : Nat → Part} (h : KN w B ρ i bk bx bs A C V) (hb : ∀ k, k < w.heap.size → (ρ k).1 = i + 1 → w'.heap[k]? = w.heap[k]?) (hρ : ∀ k, k < w.heap.size → ρ' k = ρ k) : KN w' B ρ' i bk bx bs A C V := by
  have l1 := h.p.lt
  have l2 := h.p.lts h.n0
  have l3 := h.lt
  have hk := hb _ l3 (by rw [h.pk])
  have hc : ∀ o, w'.cell? ⟨bk, o, none⟩ = w.cell? ⟨bk, o, none⟩ := fun o => World.cell?_of_block (w := w) hk
  exact ⟨h.g, h.p.of (hb _ l1 (by rw [h.px])) (hb _ l2 (by rw [h.ps])), h.wx.of (fun k a c hk _ _ hp => hb k hk (by rw [hp]; rfl)) hρ, by rw [hρ _ l1]; exact h.px, by rw [hρ _ l2]; exact h.ps, by rw [hρ _ l3]; exact h.pk, by rw [hc]; exact h.k0, by rw [hc]; exact h.k1, fun a b ha hb => by rw [hc]; exact h.kc a b ha hb, fun o => by rw [World.frozen?_of_block (w := w) hk]; exact h.kf o⟩
theorem KN.below {w' : World} (h : KN w B ρ i bk bx bs A C V) (hb : Below w.heap.size w w') : KN w' B ρ i bk bx bs A C V := h.of (fun k hk _ => hb.block k hk) (fun _ _ => rfl)
/-- A call of another net leaves it. -/
theorem KN.aft {w' : World} {ρ' : Nat → Part} {j : Nat} (h : KN w B ρ i bk bx bs A C V) (ha : Aft j ρ ρ' w w') (hj : i ≠ j) : KN w' B ρ' i bk bx bs A C V := h.of (fun k hk hp => ha.only.block k hk (by rw [hp]; omega)) ha.old
end
abbrev KI (w : World) (B : Nat) (ρ : Nat → Part) (i bk bx bs : Nat) (A : Nt) (V : Nat → Nat → Value) : Prop := KN w B ρ i bk bx bs A A.co V
/-- What a call leaves. -/
abbrev PostK (B i : Nat) (ρ : Nat → Part) (bk bx bs : Nat) (A' : Nt) (w w' : World) : Prop := ∃ ρ' V', KI w' B ρ' i bk bx bs A' V' ∧ Aft i ρ ρ' w w'
abbrev PostC (B i : Nat) (ρ : Nat → Part) (bk bx bs : Nat) (A' : Nt) (C : Nat → Nat → Int) (w w' : World) : Prop := ∃ ρ' V', KN w' B ρ' i bk bx bs A' C V' ∧ Aft i ρ ρ' w w'
section
variable {w : World} {B : Nat} {ρ : Nat → Part} {i bk bx bs : Nat} {A : Nt} {C : Nat → Nat → Int} {V : Nat → Nat → Value}
theorem KN.turn {w1 : World} {ρ1 : Nat → Part} {A' : Nt} {V' : Nat → Nat → Value} (h : KN w B ρ i bk bx bs A C V) (st : Steps A A') (p : PN w1 bx bs (bl A') V') (wx : WR w1 B 104 ρ1 (tgx i) V' A'.wa) (t : TurnP bx bs (tgx i) ρ ρ1 w w1) :
    PostC B i ρ bk bx bs A' C w w1 := by
  have l1 := h.p.lt
  have l2 := h.p.lts h.n0
  have l3 := h.lt
  have hm : ¬ MineP bx bs ρ (tgx i) bk := fun hM => by
    have hk := h.pk
    rcases hM with e | e | ⟨a, c, ha, hc, e⟩
    · rw [e, h.ps] at hk; simp at hk
    · rw [e, h.px] at hk; simp at hk
    · rw [e] at hk; have := congrArg Prod.snd hk; simp only [tgx] at this; omega
  have hk := t.only.block bk l3 hm
  have hc : ∀ o, w1.cell? ⟨bk, o, none⟩ = w.cell? ⟨bk, o, none⟩ := fun o => World.cell?_of_block (w := w) hk
  refine ⟨ρ1, V', ⟨st.good, p, wx, by rw [t.old _ l1]; exact h.px, by rw [t.old _ l2]; exact h.ps, by rw [t.old _ l3]; exact h.pk, by rw [hc]; exact h.k0, by rw [hc, st.n]; exact h.k1, fun a b ha hb => by rw [hc]; exact h.kc a b ha hb, fun o => by rw [World.frozen?_of_block (w := w) hk]; exact h.kf o⟩, t.only.mono fun k _ hM => ?_, t.old, t.new⟩
  rcases hM with e | e | ⟨a, c, _, _, e⟩
  · rw [e, h.ps]
  · rw [e, h.px]
  · rw [e]; rfl
theorem KN.two {w1 : World} {A' : Nt} (h : KN w B ρ i bk bx bs A C V) (hn : ∀ k, w.heap.size ≤ k → ρ k = (0, 0)) (st : Steps A A') (hw : A'.wa = A.wa) (p : PN w1 bx bs (bl A') V) (o : Only (Two bx bs) w w1) : PostC B i ρ bk bx bs A' C w w1 :=
  h.turn st p (by rw [hw]; exact h.wx.two h.hbx h.hbs o) (TurnP.two hn o)
theorem dumpC_co (A : Nt) (r : Int) : (dumpC A r).co = A.co := by
  unfold dumpC; split
  · exact dumpN_co A _
  · rfl
theorem deliverC_co (A : Nt) (a b k : Int) : (deliverC A a b k).co = A.co := by
  unfold deliverC; split
  · exact deliverN_co A _ _ _
  · rfl
theorem loseC_co (A : Nt) (a b k : Int) : (loseC A a b k).co = A.co := by unfold loseC; split <;> rfl
theorem againC_co (A : Nt) (a b k : Int) : (againC A a b k).co = A.co := by unfold againC; split <;> rfl
theorem tickC_co (A : Nt) (r : Int) : (tickC A r).co = A.co := by unfold tickC; split <;> rfl
theorem bumpC_co (A : Nt) (r : Int) : (bumpC A r).co = A.co := by unfold bumpC; split <;> rfl
theorem failC_co (A : Nt) (r k : Int) : (failC A r k).co = A.co := by unfold failC; split <;> rfl
theorem crashC_co (A : Nt) (r : Int) : (crashC A r).co = A.co := by unfold crashC; split <;> rfl
theorem restartC_co (A : Nt) (r : Int) : (restartC A r).co = A.co := by unfold restartC; split <;> rfl
theorem PostC.ki {A' : Nt} {w w' : World} (h : PostC B i ρ bk bx bs A' A.co w w') (hc : A'.co = A.co) : PostK B i ρ bk bx bs A' w w' := by
  obtain ⟨ρ', V', k, a⟩ := h
  rw [← hc] at k
  exact ⟨ρ', V', k, a⟩
/-! Each call of the program -/
theorem klink (h : KN w B ρ i bk bx bs A C V) (hn : ∀ k, w.heap.size ≤ k → ρ k = (0, 0)) (a b c : Int) : Calls Try.prog 67 #[.pointer (some ⟨bx, 0, none⟩), .int .i64 a, .int .i64 b, .int .i64 c] w fun e w' => e = .returned (.int .i64 (linkE A a b c)) ∧ PostC B i ρ bk bx bs (linkC A a b c) C w w' :=
  by
  have := plink bx bs a b c (bl A) V w h.g.n5 h.p
  rw [linkC_bl, linkE_bl] at this
  exact this.mono fun _ _ ⟨h1, h2, h3⟩ => ⟨h1, h.two hn (Steps.link h.g a b c) (linkC_wa _ _ _ _) h2 h3⟩
theorem kdeliver (h : KI w B ρ i bk bx bs A V) (hn : ∀ k, w.heap.size ≤ k → ρ k = (0, 0)) (a b c : Int) : Calls Try.prog 34 #[.pointer (some ⟨bx, 0, none⟩), .int .i64 a, .int .i64 b, .int .i64 c] w fun e w' => e = .returned (.int .i64 (msgE A a b c)) ∧ PostK B i ρ bk bx bs (deliverC A a b c) w w' :=
  by
  have := pdeliver bx bs B a b c ρ (tgx i) (bl A) V w h.g.bl h.p h.wx (tgx_ok i) h.hbx h.hbs hn
  rw [deliverC_bl, msgE_bl] at this
  exact this.mono fun _ _ ⟨h1, _, h2, h3, h4⟩ => ⟨h1, (h.turn (Steps.deliver h.g a b c) h2 h3 h4).ki (deliverC_co _ _ _ _)⟩
theorem klose (h : KI w B ρ i bk bx bs A V) (hn : ∀ k, w.heap.size ≤ k → ρ k = (0, 0)) (a b c : Int) : Calls Try.prog 40 #[.pointer (some ⟨bx, 0, none⟩), .int .i64 a, .int .i64 b, .int .i64 c] w fun e w' => e = .returned (.int .i64 (msgE A a b c)) ∧ PostK B i ρ bk bx bs (loseC A a b c) w w' :=
  by
  have := plose bx bs B a b c ρ (tgx i) (bl A) V w h.g.bl h.p h.wx (tgx_ok i) h.hbx h.hbs hn
  rw [loseC_bl, msgE_bl] at this
  exact this.mono fun _ _ ⟨h1, _, h2, h3, h4⟩ => ⟨h1, (h.turn (Steps.lose h.g a b c) h2 h3 h4).ki (loseC_co _ _ _ _)⟩
theorem kagain (h : KI w B ρ i bk bx bs A V) (hn : ∀ k, w.heap.size ≤ k → ρ k = (0, 0)) (hB : B ≤ w.heap.size) (a b c : Int) : Calls Try.prog 42 #[.pointer (some ⟨bx, 0, none⟩), .int .i64 a, .int .i64 b, .int .i64 c] w fun e w' => e = .returned (.int .i64 (againE A a b c)) ∧ PostK B i ρ bk bx bs (againC A a b c) w w' :=
  by
  have := pagain bx bs B a b c ρ (tgx i) (bl A) V w h.g.bl h.p h.wx hB (tgx_ok i) h.hbx h.hbs hn
  rw [againC_bl, againE_bl] at this
  exact this.mono fun _ _ ⟨h1, _, _, h2, h3, h4⟩ => ⟨h1, (h.turn (Steps.again h.g a b c) h2 h3 h4).ki (againC_co _ _ _ _)⟩
theorem kdump (h : KI w B ρ i bk bx bs A V) (hn : ∀ k, w.heap.size ≤ k → ρ k = (0, 0)) (hB : B ≤ w.heap.size) (a : Int) : Calls Try.prog 25 #[.pointer (some ⟨bx, 0, none⟩), .int .i64 a] w fun e w' => e = .returned (.int .i64 (dumpCE A a)) ∧ PostK B i ρ bk bx bs (dumpC A a) w w' :=
  by
  have := pdump bx bs B a ρ (tgx i) (bl A) V w h.g.bl h.p h.wx hB (tgx_ok i) h.hbx h.hbs hn
  rw [dumpC_bl, dumpCE_bl] at this
  exact this.mono fun _ _ ⟨h1, _, _, h2, h3, h4⟩ => ⟨h1, (h.turn (Steps.dump h.g a) h2 h3 h4).ki (dumpC_co _ _)⟩
theorem ktick (h : KI w B ρ i bk bx bs A V) (hn : ∀ k, w.heap.size ≤ k → ρ k = (0, 0)) (a : Int) : Calls Try.prog 31 #[.pointer (some ⟨bx, 0, none⟩), .int .i64 a] w fun e w' => e = .returned (.int .i64 (upE A a)) ∧ PostK B i ρ bk bx bs (tickC A a) w w' :=
  by
  have := ptick bx bs a (bl A) V w h.g.bl h.p
  rw [tickC_bl, upE_bl] at this
  exact this.mono fun _ _ ⟨h1, h2, h3⟩ => ⟨h1, (h.two hn (Steps.tick h.g a) (tickC_wa _ _) h2 h3).ki (tickC_co _ _)⟩
theorem kbump (h : KI w B ρ i bk bx bs A V) (hn : ∀ k, w.heap.size ≤ k → ρ k = (0, 0)) (a : Int) : Calls Try.prog 43 #[.pointer (some ⟨bx, 0, none⟩), .int .i64 a] w fun e w' => e = .returned (.int .i64 (bumpE A a)) ∧ PostK B i ρ bk bx bs (bumpC A a) w w' :=
  by
  have := pbump bx bs a (bl A) V w h.g.bl h.p
  rw [bumpC_bl, bumpE_bl] at this
  exact this.mono fun _ _ ⟨h1, h2, h3⟩ => ⟨h1, (h.two hn (Steps.bump h.g a) (bumpC_wa _ _) h2 h3).ki (bumpC_co _ _)⟩
theorem kwaiting (h : KN w B ρ i bk bx bs A C V) (a b : Int) : Calls Try.prog 33 #[.pointer (some ⟨bx, 0, none⟩), .int .i64 a, .int .i64 b] w fun e w' => e = .returned (.tuple #[.int .i64 (waitN A a b), .int .i64 (pairE A.n a b)]) ∧ w = w' :=
  pwaiting bx bs B 104 a b ρ (tgx i) (bl A) V w h.g.n5 h.p h.wx
theorem kroute (h : KN w B ρ i bk bx bs A C V) (a b : Int) : Calls Try.prog 28 #[.pointer (some ⟨bx, 0, none⟩), .int .i64 a, .int .i64 b] w fun e w' => e = .returned (.tuple #[.agg (rtA (routeN A a b)), .int .i64 (asksE A a b)]) ∧ Below w.heap.size w w' :=
  by
  have := proute bx bs a b (bl A) V w h.g.n5 h.n0 h.p
  rw [routeN_bl, asksE_bl] at this
  exact this
theorem kbest (h : KN w B ρ i bk bx bs A C V) (a b : Int) : Calls Try.prog 29 #[.pointer (some ⟨bx, 0, none⟩), .int .i64 a, .int .i64 b] w fun e w' => e = .returned (.tuple #[.agg (bsA (bestN A a b)), .int .i64 (asksE A a b)]) ∧ Below w.heap.size w w' :=
  by
  have := pbest bx bs a b (bl A) V w h.g.n5 h.n0 h.p
  rw [bestN_bl, asksE_bl] at this
  exact this
theorem ktrace (h : KN w B ρ i bk bx bs A C V) (a b : Int) : Calls Try.prog 19 #[.pointer (some ⟨bx, 0, none⟩), .int .i64 a, .int .i64 b] w fun e w' => ∃ nv, e = .returned (.tuple #[nv, .int .i64 (traceE A a b)]) ∧ w'.ownsRow w.heap.size 3 1 nv (traceL A a b).length (ints (traceL A a b)) ∧ Below w.heap.size w w' :=
  by
  have := ptrace bx bs a b (bl A) V w h.g.bl h.p
  rw [traceL_bl, traceE_bl] at this
  exact this
theorem kfail (h : KI w B ρ i bk bx bs A V) (hn : ∀ k, w.heap.size ≤ k → ρ k = (0, 0)) (a b : Int) : Calls Try.prog 22 #[.pointer (some ⟨bx, 0, none⟩), .int .i64 a, .int .i64 b] w fun e w' => e = .returned (.int .i64 (failE A a b)) ∧ PostK B i ρ bk bx bs (failC A a b) w w' := by
  have := pfail bx bs a b (bl A) V w h.p
  rw [failC_bl, failE_bl] at this
  exact this.mono fun _ _ ⟨h1, h2, h3⟩ => ⟨h1, (h.two hn (Steps.fail h.g a b) (failC_wa _ _ _) h2 h3).ki (failC_co _ _ _)⟩
theorem kcrash (h : KI w B ρ i bk bx bs A V) (hn : ∀ k, w.heap.size ≤ k → ρ k = (0, 0)) (a : Int) : Calls Try.prog 27 #[.pointer (some ⟨bx, 0, none⟩), .int .i64 a] w fun e w' => e = .returned (.int .i64 (upE A a)) ∧ PostK B i ρ bk bx bs (crashC A a) w w' := by
  have := pcrash bx bs a (bl A) V w h.p
  rw [crashC_bl, upE_bl] at this
  exact this.mono fun _ _ ⟨h1, h2, h3⟩ => ⟨h1, (h.two hn (Steps.crash h.g a) (crashC_wa _ _) h2 h3).ki (crashC_co _ _)⟩
theorem krestart (h : KI w B ρ i bk bx bs A V) (hn : ∀ k, w.heap.size ≤ k → ρ k = (0, 0)) (a : Int) : Calls Try.prog 21 #[.pointer (some ⟨bx, 0, none⟩), .int .i64 a] w fun e w' => e = .returned (.int .i64 (restartE A a)) ∧ PostK B i ρ bk bx bs (restartC A a) w w' := by
  have := prestart bx bs a (bl A) V w h.g.bl h.p
  rw [restartC_bl, restartE_bl] at this
  exact this.mono fun _ _ ⟨h1, h2, h3⟩ => ⟨h1, (h.two hn (Steps.restart h.g a) (restartC_wa _ _) h2 h3).ki (restartC_co _ _)⟩
end
/-! ### Its small functions -/
set_option maxHeartbeats 400000 in
theorem kpick (c n : Int) (w : World) (hc0 : -9223372036854775808 ≤ c) (hc1 : c ≤ 9223372036854775807) (hn : 0 < n) (hn' : n ≤ 9223372036854775807) :
    Calls Try.prog 20 #[.int .i64 c, .int .i64 n] w fun e w' => e = .returned (.int .i64 (pickI c n)) ∧ w = w' := by
  have hn3 : (n == 0) = false := by rw [beq_eq_false_iff_ne]; omega
  unfold pickI
  by_cases h1 : c < 0
  · rw [if_pos h1]
    have HE : Hid (-((c + 1).tmod n) = (-(c + 1)) % n) := by
      show -((c + 1).tmod n) = (-(c + 1)) % n
      rw [← Int.neg_tmod]; exact Int.tmod_eq_emod_of_nonneg (by omega)
    go_enter Try.func20, Try.ntmps20
    go_wp2
    go_ret
    exact ⟨congrArg (fun z => Ending.returned (.int .i64 z)) HE.out, rfl⟩
  · rw [if_neg h1]
    have HE : Hid (c.tmod n = c % n) := Int.tmod_eq_emod_of_nonneg (by omega)
    go_enter Try.func20, Try.ntmps20
    go_wp2
    go_ret
    first | exact ⟨congrArg (fun z => Ending.returned (.int .i64 z)) HE.out, rfl⟩ | exact ⟨rfl, rfl⟩
end Go.Proofs.Ytdoodnbobpijoaa

namespace Go.Proofs.Ytdoodnbobpijoaa
open Go.RowKit

section
variable {w : World} {B : Nat} {ρ : Nat → Part} {i bk bx bs : Nat} {A : Nt} {C : Nat → Nat → Int} {V : Nat → Nat → Value}
theorem waitN_pos {A : Nt} (a b : Int) : waitN A a b ≠ 0 ↔ pairE A.n a b = 0 ∧ (A.wa a.toNat b.toNat).length ≠ 0 := by
  unfold waitN
  by_cases h : pairE A.n a b = 0
  · rw [if_pos h]
    constructor
    · intro k; exact ⟨h, by omega⟩
    · rintro ⟨_, k⟩; omega
  · rw [if_neg h]
    constructor
    · intro k; exact absurd rfl k
    · rintro ⟨k, _⟩; exact absurd k h
set_option maxHeartbeats 400000 in
theorem kwaits (h : KN w B ρ i bk bx bs A C V) (a b : Nat) (ha : a < A.n) (hb : b < A.n) (hab : a ≠ b) :
    Calls Try.prog 55 #[.pointer (some ⟨bk, 0, none⟩), .int .i64 a, .int .i64 b] w fun e w' => e = .returned (.bool (decide (0 < (A.wa a b).length))) ∧ w = w' := by
  have c0 := h.k0
  have hp : pairE A.n a b = 0 := pairE_nat ha hb hab
  have hw : waitN A a b = ((A.wa a b).length : Nat) := by unfold waitN; rw [if_pos hp]; rfl
  have HC : Hid (Calls Try.prog 33 #[.pointer (some ⟨bx, 0, none⟩), .int .i64 a, .int .i64 b] w fun e w' => e = .returned (.tuple #[.int .i64 ((A.wa a b).length : Nat), .int .i64 0]) ∧ w = w') := by
    have := kwaiting h a b
    rw [hw, hp] at this
    exact this
  clear h hp hw ha hb hab
  by_cases hl : 0 < (A.wa a b).length
  · have hl' : (0 : Int) < ((A.wa a b).length : Nat) := by omega
    generalize (A.wa a b).length = m at *
    simp only [hl, decide_true]
    go_enter Try.func55, Try.ntmps55
    go_wp2_with (go_at_call 33; refine (HC.out).mono ?_; rintro e w' ⟨rfl, rfl⟩)
    go_ret
    exact ⟨rfl, rfl⟩
  · have hl' : (A.wa a b).length = 0 := by omega
    rw [hl'] at HC
    simp only [hl', Nat.lt_irrefl, decide_false]
    go_enter Try.func55, Try.ntmps55
    go_wp2_with (go_at_call 33; refine (HC.out).mono ?_; rintro e w' ⟨rfl, rfl⟩)
    go_ret
    exact ⟨rfl, rfl⟩
set_option maxHeartbeats 400000 in
theorem kmessage (h : KN w B ρ i bk bx bs A C V) (a b c : Int) (hc0 : -9223372036854775808 ≤ c) (hc1 : c ≤ 9223372036854775807) :
    Calls Try.prog 41 #[.pointer (some ⟨bk, 0, none⟩), .int .i64 a, .int .i64 b, .int .i64 c] w fun e w' => e = .returned (.int .i64 (whichI A a b c)) ∧ w = w' := by
  have c0 := h.k0
  have HC : Hid (Calls Try.prog 33 #[.pointer (some ⟨bx, 0, none⟩), .int .i64 a, .int .i64 b] w fun e w' => e = .returned (.tuple #[.int .i64 (waitN A a b), .int .i64 (pairE A.n a b)]) ∧ w = w') := kwaiting h a b
  by_cases hp : pairE A.n a b = 0
  · have hl6 : (A.wa a.toNat b.toNat).length ≤ 6 := by
      obtain ⟨⟨_, h1⟩, ⟨_, h2⟩, h3⟩ := pairE_zero hp
      exact h.g.wl _ _
    have hw : waitN A a b = ((A.wa a.toNat b.toNat).length : Nat) := by unfold waitN; rw [if_pos hp]
    rw [hw, hp] at HC
    unfold whichI
    by_cases hl : (A.wa a.toNat b.toNat).length = 0
    · rw [if_neg (by rintro ⟨_, k⟩; exact k hl)]
      rw [hl] at HC
      clear h hp hw hl hl6
      go_enter Try.func41, Try.ntmps41
      go_wp2_with (go_at_call 33; refine (HC.out).mono ?_; rintro e w' ⟨rfl, rfl⟩)
      go_ret
      exact ⟨rfl, rfl⟩
    · rw [if_pos ⟨hp, hl⟩]
      have HP : Hid (Calls Try.prog 20 #[.int .i64 c, .int .i64 ((A.wa a.toNat b.toNat).length : Nat)] w fun e w' => e = .returned (.int .i64 (pickI c ((A.wa a.toNat b.toNat).length : Nat))) ∧ w = w') := kpick c _ w hc0 hc1 (by omega) (by omega)
      have hl0 : ((((A.wa a.toNat b.toNat).length : Nat) : Int) == 0) = false := by rw [beq_eq_false_iff_ne]; omega
      generalize (A.wa a.toNat b.toNat).length = m at *
      clear h hp hw hl hl6
      go_enter Try.func41, Try.ntmps41
      go_wp2_with (first | (go_at_call 33; refine (HC.out).mono ?_; rintro e w' ⟨rfl, rfl⟩) | (go_at_call 20; refine (HP.out).mono ?_; rintro e w' ⟨rfl, rfl⟩))
      go_ret
      exact ⟨rfl, rfl⟩
  · have hw : waitN A a b = 0 := by unfold waitN; rw [if_neg hp]
    rw [hw] at HC
    unfold whichI
    rw [if_neg (by rintro ⟨k, _⟩; exact hp k)]
    have hp' : (pairE A.n a b != 0) = true := by simp [hp]
    clear h hp hw
    generalize pairE A.n a b = m at *
    go_enter Try.func41, Try.ntmps41
    go_wp2_with (go_at_call 33; refine (HC.out).mono ?_; rintro e w' ⟨rfl, rfl⟩)
    go_ret
    exact ⟨rfl, rfl⟩
/-- The costs, as they were set, turned. -/
theorem KN.setC (h : KN w B ρ i bk bx bs A C V) (x y : Nat) (hx : x < 5) (hy : y < 5) (c : Int) :
    KN ((w.setCell ⟨bk, 2 + x * 5 + y, none⟩ (I c)).setCell ⟨bk, 2 + y * 5 + x, none⟩ (I c)) B ρ i bk bx bs A (setCo C x y c) V := by
  have hne : ∀ k, k ≠ bk → ((w.setCell ⟨bk, 2 + x * 5 + y, none⟩ (I c)).setCell ⟨bk, 2 + y * 5 + x, none⟩ (I c)).heap[k]? = w.heap[k]? := fun k hk => by rw [heap_setCell_other _ _ _ _ hk, heap_setCell_other _ _ _ _ hk]
  have ho : ∀ o, o ≠ 2 + x * 5 + y → o ≠ 2 + y * 5 + x → ((w.setCell ⟨bk, 2 + x * 5 + y, none⟩ (I c)).setCell ⟨bk, 2 + y * 5 + x, none⟩ (I c)).cell? ⟨bk, o, none⟩ = w.cell? ⟨bk, o, none⟩ := fun o h1 h2 => by
    rw [World.cell?_setCell_other _ _ _ _ (addr_ne (by omega)), World.cell?_setCell_other _ _ _ _ (addr_ne (by omega))]
  have n1 : bx ≠ bk := fun e => by have := h.px; rw [e, h.pk] at this; simp at this
  have n2 : bs ≠ bk := fun e => by have := h.ps; rw [e, h.pk] at this; simp at this
  refine ⟨h.g, h.p.of (hne _ n1) (hne _ n2), h.wx.of (fun k a b _ _ _ hp => hne k fun e => ?_) (fun _ _ => rfl), h.px, h.ps, h.pk, by rw [ho _ (by omega) (by omega)]; exact h.k0, by rw [ho _ (by omega) (by omega)]; exact h.k1, fun a b ha hb => ?_, fun o => by rw [World.frozen?_setCell, World.frozen?_setCell]; exact h.kf o⟩
  · have e2 := h.pk
    rw [e] at hp
    rw [hp] at e2
    have := congrArg Prod.snd e2
    simp only [tgx] at this
    omega
  · obtain ⟨v1, hv1⟩ := cell?_setCell_some (w := w) (p := ⟨bk, 2 + x * 5 + y, none⟩) (x := I c) (q := ⟨bk, 2 + y * 5 + x, none⟩) (v := I (C y x)) (h.kc y x hy hx)
    show _ = some (I (setCo C x y c a b))
    unfold setCo
    by_cases h2 : a = y ∧ b = x
    · obtain ⟨rfl, rfl⟩ := h2
      rw [World.cell?_setCell_same _ _ _ hv1, if_pos (.inr ⟨rfl, rfl⟩)]
    · by_cases h1 : a = x ∧ b = y
      · obtain ⟨rfl, rfl⟩ := h1
        rw [World.cell?_setCell_other _ _ _ _ (addr_ne (by omega)), World.cell?_setCell_same _ _ _ (h.kc a b ha hb), if_pos (.inl ⟨rfl, rfl⟩)]
      · rw [ho _ (by omega) (by omega), h.kc a b ha hb, if_neg (by omega)]
theorem Aft.cells {i bk : Nat} {ρ ρ' : Nat → Part} {w w1 : World} (a : Aft i ρ ρ' w w1) (hk : ρ' bk = (i + 1, 2)) (o o' : Nat) (u v : Value) : Aft i ρ ρ' w ((w1.setCell ⟨bk, o, none⟩ u).setCell ⟨bk, o', none⟩ v) :=
  a.trans ⟨((Only.refl _ w1).setCell (p := ⟨bk, o, none⟩) (.inl (by show (ρ' bk).1 = i + 1; rw [hk])) _).setCell (p := ⟨bk, o', none⟩) (.inl (by show (ρ' bk).1 = i + 1; rw [hk])) _, fun _ _ => rfl, fun k hk => a.new k (by simpa using hk)⟩
theorem linkC_nat {A : Nt} {a b : Nat} {c : Int} (h : linkE A a b c = 0) : linkC A a b c = linkN A a b c := by unfold linkC; rw [if_pos h]; rfl
theorem linkE_nat {A : Nt} {a b : Nat} {c : Int} (ha : a < A.n) (hb : b < A.n) (hab : a ≠ b) (h0 : 0 ≤ c) (h9 : c ≤ 9) : linkE A a b c = 0 := by
  unfold linkE
  rw [if_neg (by rw [pairE_nat ha hb hab]; simp), if_neg (by omega)]
set_option maxHeartbeats 1000000 in
theorem klinks (h : KI w B ρ i bk bx bs A V) (hn : ∀ k, w.heap.size ≤ k → ρ k = (0, 0)) (a b : Nat) (c : Int) (ha : a < A.n) (hb : b < A.n) (hab : a ≠ b) (h0 : 0 ≤ c) (h9 : c ≤ 9) :
    Calls Try.prog 39 #[.pointer (some ⟨bk, 0, none⟩), .int .i64 a, .int .i64 b, .int .i64 c] w fun e w' => e = .returned (.bool true) ∧ PostK B i ρ bk bx bs (linkC A a b c) w w' := by
  have c0 := h.k0
  have hE := linkE_nat ha hb hab h0 h9
  have n5 := h.g.n5
  have a5 : a < 5 := by omega
  have b5 : b < 5 := by omega
  have a5' : (a : Int) < 5 := by omega
  have b5' : (b : Int) < 5 := by omega
  have HC : Hid (Calls Try.prog 67 #[.pointer (some ⟨bx, 0, none⟩), .int .i64 a, .int .i64 b, .int .i64 c] w fun e w' => e = .returned (.int .i64 0) ∧ PostC B i ρ bk bx bs (linkC A a b c) A.co w w') := by
    have := klink h hn a b c
    rw [hE] at this
    exact this
  have HE : Hid ((linkC A a b c).co = setCo A.co a b c) := by
    show (linkC A a b c).co = setCo A.co a b c
    rw [linkC_nat hE]; rfl
  clear h hE
  go_enter Try.func39, Try.ntmps39
  go_wp2_with (go_at_call 67; refine (HC.out).mono ?_; rintro e w1 ⟨rfl, ρ1, V1, k1, a1⟩; have d1 := k1.kc a b a5 b5; have d2 : (w1.setCell ⟨bk, 2 + a * 5 + b, none⟩ (I c)).cell? ⟨bk, 2 + b * 5 + a, none⟩ = some (I (A.co b a)) := (by rw [World.cell?_setCell_other _ _ _ _ (addr_ne (by omega))]; exact k1.kc b a b5 a5); have f1 := k1.kf; have K1 : Hid (KN w1 B ρ1 i bk bx bs (linkC A a b c) A.co V1) := k1; have A1 : Hid (Aft i ρ ρ1 w w1) := a1; clear k1 a1)
  go_ret
  refine ⟨rfl, ρ1, V1, ?_, A1.out.cells K1.out.pk _ _ _ _⟩
  show KN _ B ρ1 i bk bx bs (linkC A a b c) (linkC A a b c).co V1
  rw [HE.out]
  exact K1.out.setC a b a5 b5 c
end
end Go.Proofs.Ytdoodnbobpijoaa

namespace Go.Proofs.Ytdoodnbobpijoaa
open Go.RowKit

/-- The variable in which a step lies. -/
abbrev WS (w : World) (k a b c : Int) : World := w.alloc (.cells #[.int .i64 k, .int .i64 a, .int .i64 b, .int .i64 c] 31)
theorem WS_below (w : World) (k a b c : Int) : Below w.heap.size w (WS w k a b c) := (Below.refl _ _).alloc (Nat.le_refl _) _
/-- What the walk of a step takes with it. -/
structure DoH (w : World) (B : Nat) (ρ : Nat → Part) (i bk bx bs : Nat) (A : Nt) (V : Nat → Nat → Value) (k a b c kk : Int) (x y : Nat) : Prop where
  kn : KI (WS w k a b c) B ρ i bk bx bs A V
  new : ∀ j, (WS w k a b c).heap.size ≤ j → ρ j = (0, 0)
  low : ∀ j, w.heap.size ≤ j → ρ j = (0, 0)
  hB : B ≤ (WS w k a b c).heap.size
  hk : pickI k 20 = kk
  ha : pickI a A.n = (x : Int)
  hb : pickI b A.n = (y : Int)
  xn : x < A.n
  yn : y < A.n
  kb : -9223372036854775808 ≤ k ∧ k ≤ 9223372036854775807
  ab : -9223372036854775808 ≤ a ∧ a ≤ 9223372036854775807
  bb : -9223372036854775808 ≤ b ∧ b ≤ 9223372036854775807
  cb : -9223372036854775808 ≤ c ∧ c ≤ 9223372036854775807
section
variable {w : World} {B : Nat} {ρ : Nat → Part} {i bk bx bs : Nat} {A : Nt} {V : Nat → Nat → Value} {k a b c kk : Int} {x y : Nat}
theorem DoH.pk (h : DoH w B ρ i bk bx bs A V k a b c kk x y) (W : World) : Calls Try.prog 20 #[.int .i64 k, .int .i64 20] W fun e w' => e = .returned (.int .i64 kk) ∧ W = w' := by
  have := kpick k 20 W h.kb.1 h.kb.2 (by omega) (by omega)
  rw [h.hk] at this; exact this
theorem DoH.pa (h : DoH w B ρ i bk bx bs A V k a b c kk x y) (W : World) : Calls Try.prog 20 #[.int .i64 a, .int .i64 A.n] W fun e w' => e = .returned (.int .i64 x) ∧ W = w' := by
  have n2 := h.kn.g.n2
  have n5 := h.kn.g.n5
  have := kpick a A.n W h.ab.1 h.ab.2 (by omega) (by omega)
  rw [h.ha] at this; exact this
theorem DoH.pb (h : DoH w B ρ i bk bx bs A V k a b c kk x y) (W : World) : Calls Try.prog 20 #[.int .i64 b, .int .i64 A.n] W fun e w' => e = .returned (.int .i64 y) ∧ W = w' := by
  have n2 := h.kn.g.n2
  have n5 := h.kn.g.n5
  have := kpick b A.n W h.bb.1 h.bb.2 (by omega) (by omega)
  rw [h.hb] at this; exact this
theorem DoH.pc (h : DoH w B ρ i bk bx bs A V k a b c kk x y) (W : World) (n : Int) (hn : 0 < n) (hn' : n ≤ 9223372036854775807) : Calls Try.prog 20 #[.int .i64 c, .int .i64 n] W fun e w' => e = .returned (.int .i64 (pickI c n)) ∧ W = w' :=
  kpick c n W h.cb.1 h.cb.2 hn hn'
theorem DoH.s (_h : DoH w B ρ i bk bx bs A V k a b c kk x y) : (WS w k a b c).cell? ⟨w.heap.size, 0, none⟩ = some (.int .i64 k) ∧ (WS w k a b c).cell? ⟨w.heap.size, 1, none⟩ = some (.int .i64 a) ∧ (WS w k a b c).cell? ⟨w.heap.size, 2, none⟩ = some (.int .i64 b) ∧ (WS w k a b c).cell? ⟨w.heap.size, 3, none⟩ = some (.int .i64 c) := by
  have := Whole.new w 31 #[.int .i64 k, .int .i64 a, .int .i64 b, .int .i64 c]
  exact ⟨this.cell 0, this.cell 1, this.cell 2, this.cell 3⟩
/-- The end of it. -/
theorem DoH.fin {A' : Nt} {w1 w' : World} (h : DoH w B ρ i bk bx bs A V k a b c kk x y) (hp : PostK B i ρ bk bx bs A' w1 w') (hw : w1.heap = (WS w k a b c).heap ∧ w1.os = w.os ∧ w1.tape = w.tape ∧ w1.output = w.output) {A2 : Nt} (hA : A2 = A') : PostK B i ρ bk bx bs A2 w w' := by
  subst hA
  obtain ⟨ρ', V', k1, a1⟩ := hp
  have b0 : Below w.heap.size w w1 := by
    have := WS_below w k a b c
    exact ⟨hw.2.1, hw.2.2.1, hw.2.2.2, by rw [hw.1]; exact this.size, fun j hj => by rw [hw.1]; exact this.block j hj⟩
  exact ⟨ρ', V', k1, (Aft.below b0 h.low).trans a1⟩
theorem KN.drew {C : Nat → Nat → Int} (h : KN w B ρ i bk bx bs A C V) : KN w.drew B ρ i bk bx bs A C V := h.of (fun _ _ _ => rfl) (fun _ _ => rfl)
theorem DoH.self {w' : World} (h : DoH w B ρ i bk bx bs A V k a b c kk x y) (hw : w'.heap = (WS w k a b c).heap ∧ w'.os = w.os ∧ w'.tape = w.tape ∧ w'.output = w.output) {A2 : Nt} (hA : A2 = A) : PostK B i ρ bk bx bs A2 w w' := by
  subst hA
  have b0 : Below w.heap.size w w' := by
    have := WS_below w k a b c
    exact ⟨hw.2.1, hw.2.2.1, hw.2.2.2, by rw [hw.1]; exact this.size, fun j hj => by rw [hw.1]; exact this.block j hj⟩
  exact ⟨ρ, V, h.kn.of (fun j hj _ => by rw [hw.1]) (fun _ _ => rfl), Aft.below b0 h.low⟩
theorem DoH.keep {A' : Nt} {w1 w' : World} (h : DoH w B ρ i bk bx bs A V k a b c kk x y) (hp : PostK B i ρ bk bx bs A' w1 w') (hw : w1.heap = (WS w k a b c).heap) (hn : A'.n = A.n) : (fun v => v.cell? ⟨bk, 0, none⟩ = some (.pointer (some ⟨bx, 0, none⟩)) ∧ v.cell? ⟨bk, 1, none⟩ = some (.int .i64 A.n) ∧ v.cell? ⟨w.heap.size, 0, none⟩ = some (.int .i64 k) ∧ v.cell? ⟨w.heap.size, 1, none⟩ = some (.int .i64 a) ∧ v.cell? ⟨w.heap.size, 2, none⟩ = some (.int .i64 b) ∧ v.cell? ⟨w.heap.size, 3, none⟩ = some (.int .i64 c)) w' := by
  obtain ⟨ρ', V', k1, a1⟩ := hp
  have hb : w'.heap[w.heap.size]? = (WS w k a b c).heap[w.heap.size]? := by
    rw [← hw]
    exact a1.only.block _ (by rw [hw]; simp) (by rw [h.low _ (Nat.le_refl _)]; simp)
  obtain ⟨s0, s1, s2, s3⟩ := h.s
  have hc : ∀ o, w'.cell? ⟨w.heap.size, o, none⟩ = (WS w k a b c).cell? ⟨w.heap.size, o, none⟩ := fun o => World.cell?_of_block (w := WS w k a b c) hb
  exact ⟨k1.k0, by rw [← hn]; exact k1.k1, by rw [hc]; exact s0, by rw [hc]; exact s1, by rw [hc]; exact s2, by rw [hc]; exact s3⟩
set_option maxHeartbeats 4000000 in
theorem does_some (h : DoH w B ρ i bk bx bs A V k a b c kk x y) (hkk : kk < 20) :
    Calls Try.prog 15 #[.pointer (some ⟨bk, 0, none⟩), .agg #[.int .i64 k, .int .i64 a, .int .i64 b, .int .i64 c]] w fun e w' => e = .returned (.tuple #[]) ∧ PostK B i ρ bk bx bs (stepN A kk x y c) w w' := by
  have hk0 : 0 ≤ kk := by rw [← h.hk]; exact (pickI_ok k 20 (by omega)).1
  obtain ⟨s0, s1, s2, s3⟩ := h.s
  have sS : (fun v => v.cell? ⟨bk, 0, none⟩ = some (.pointer (some ⟨bx, 0, none⟩)) ∧ v.cell? ⟨bk, 1, none⟩ = some (.int .i64 A.n) ∧ v.cell? ⟨w.heap.size, 0, none⟩ = some (.int .i64 k) ∧ v.cell? ⟨w.heap.size, 1, none⟩ = some (.int .i64 a) ∧ v.cell? ⟨w.heap.size, 2, none⟩ = some (.int .i64 b) ∧ v.cell? ⟨w.heap.size, 3, none⟩ = some (.int .i64 c)) (WS w k a b c).drew := ⟨h.kn.k0, h.kn.k1, s0, s1, s2, s3⟩
  have PK : Hid (∀ W, Calls Try.prog 20 #[.int .i64 k, .int .i64 20] W fun e w' => e = .returned (.int .i64 kk) ∧ W = w') := h.pk
  have PA : Hid (∀ W, Calls Try.prog 20 #[.int .i64 a, .int .i64 A.n] W fun e w' => e = .returned (.int .i64 x) ∧ W = w') := h.pa
  have PB : Hid (∀ W, Calls Try.prog 20 #[.int .i64 b, .int .i64 A.n] W fun e w' => e = .returned (.int .i64 y) ∧ W = w') := h.pb
  have H : Hid (DoH w B ρ i bk bx bs A V k a b c kk x y) := h
  have c0 := h.kn.k0
  clear h
  go_enter Try.func15, Try.ntmps15
  go_wp2
  refine wp_region_held_drew (S := (fun v => v.cell? ⟨bk, 0, none⟩ = some (.pointer (some ⟨bx, 0, none⟩)) ∧ v.cell? ⟨bk, 1, none⟩ = some (.int .i64 A.n) ∧ v.cell? ⟨w.heap.size, 0, none⟩ = some (.int .i64 k) ∧ v.cell? ⟨w.heap.size, 1, none⟩ = some (.int .i64 a) ∧ v.cell? ⟨w.heap.size, 2, none⟩ = some (.int .i64 b) ∧ v.cell? ⟨w.heap.size, 3, none⟩ = some (.int .i64 c))) (by kernel_rfl) sS (fun _ => ?_)
  change wpAnyH _ _ _ _ _ _ _ _ (World.drew _)
  refine held_hq (fun _ _ x _ _ h => by cases x <;> exact h) ?_
  intro hQ
  refine held_to 0 (some 6) (.pointer (some ⟨w.heap.size, 1, none⟩)) hQ sS rfl rfl (by kernel_rfl) (by kernel_rfl) (by kernel_rfl) (by kernel_rfl) (fun w _ => by go_simp) ?_
  refine held_to 1 (some 7) (.int .i64 a) hQ sS rfl rfl (by kernel_rfl) (by kernel_rfl) (by kernel_rfl) (by kernel_rfl) (fun w hS => by obtain ⟨c0, c1, s0, s1, s2, s3⟩ := hS; go_simp) ?_
  refine held_to 2 (some 8) (.pointer (some ⟨bk, 0, none⟩)) hQ sS rfl rfl (by kernel_rfl) (by kernel_rfl) (by kernel_rfl) (by kernel_rfl) (fun w _ => by go_simp) ?_
  refine held_to 3 (some 9) (.pointer (some ⟨bk, 0, none⟩)) hQ sS rfl rfl (by kernel_rfl) (by kernel_rfl) (by kernel_rfl) (by kernel_rfl) (fun w _ => by go_simp) ?_
  refine held_to 4 (some 10) (.pointer (some ⟨bk, 1, none⟩)) hQ sS rfl rfl (by kernel_rfl) (by kernel_rfl) (by kernel_rfl) (by kernel_rfl) (fun w _ => by go_simp) ?_
  refine held_to 5 (some 11) (.int .i64 A.n) hQ sS rfl rfl (by kernel_rfl) (by kernel_rfl) (by kernel_rfl) (by kernel_rfl) (fun w hS => by obtain ⟨c0, c1, s0, s1, s2, s3⟩ := hS; go_simp) ?_
  refine wpAnyH_ready (rs := [6]) (by kernel_rfl) (by simp) ?_
  refine AllReadyH.cons rfl (fun K hK => ?_) AllReadyH.nil
  go_simp
  go_wp2_with (go_at_call 20; refine ((PA.out) _).mono ?_; rintro e w' ⟨rfl, rfl⟩)
  refine hK.out _ _ sS (fun _ => ?_)
  clear hK K
  refine held_to 7 (some 4) (.int .i64 x) hQ sS rfl rfl (by kernel_rfl) (by kernel_rfl) (by kernel_rfl) (by kernel_rfl) (fun w _ => by go_simp) ?_
  refine wpAnyH_done (by kernel_rfl) ?_ _
  clear hQ
  go_simp
  go_wp2
  refine wp_region_held_drew (S := (fun v => v.cell? ⟨bk, 0, none⟩ = some (.pointer (some ⟨bx, 0, none⟩)) ∧ v.cell? ⟨bk, 1, none⟩ = some (.int .i64 A.n) ∧ v.cell? ⟨w.heap.size, 0, none⟩ = some (.int .i64 k) ∧ v.cell? ⟨w.heap.size, 1, none⟩ = some (.int .i64 a) ∧ v.cell? ⟨w.heap.size, 2, none⟩ = some (.int .i64 b) ∧ v.cell? ⟨w.heap.size, 3, none⟩ = some (.int .i64 c))) (by kernel_rfl) sS (fun _ => ?_)
  change wpAnyH _ _ _ _ _ _ _ _ (World.drew _)
  refine held_hq (fun _ _ x _ _ h => by cases x <;> exact h) ?_
  intro hQ
  refine held_to 0 (some 13) (.pointer (some ⟨w.heap.size, 2, none⟩)) hQ sS rfl rfl (by kernel_rfl) (by kernel_rfl) (by kernel_rfl) (by kernel_rfl) (fun w _ => by go_simp) ?_
  refine held_to 1 (some 14) (.int .i64 b) hQ sS rfl rfl (by kernel_rfl) (by kernel_rfl) (by kernel_rfl) (by kernel_rfl) (fun w hS => by obtain ⟨c0, c1, s0, s1, s2, s3⟩ := hS; go_simp) ?_
  refine held_to 2 (some 15) (.pointer (some ⟨bk, 0, none⟩)) hQ sS rfl rfl (by kernel_rfl) (by kernel_rfl) (by kernel_rfl) (by kernel_rfl) (fun w _ => by go_simp) ?_
  refine held_to 3 (some 16) (.pointer (some ⟨bk, 0, none⟩)) hQ sS rfl rfl (by kernel_rfl) (by kernel_rfl) (by kernel_rfl) (by kernel_rfl) (fun w _ => by go_simp) ?_
  refine held_to 4 (some 17) (.pointer (some ⟨bk, 1, none⟩)) hQ sS rfl rfl (by kernel_rfl) (by kernel_rfl) (by kernel_rfl) (by kernel_rfl) (fun w _ => by go_simp) ?_
  refine held_to 5 (some 18) (.int .i64 A.n) hQ sS rfl rfl (by kernel_rfl) (by kernel_rfl) (by kernel_rfl) (by kernel_rfl) (fun w hS => by obtain ⟨c0, c1, s0, s1, s2, s3⟩ := hS; go_simp) ?_
  refine wpAnyH_ready (rs := [6]) (by kernel_rfl) (by simp) ?_
  refine AllReadyH.cons rfl (fun K hK => ?_) AllReadyH.nil
  go_simp
  go_wp2_with (go_at_call 20; refine ((PB.out) _).mono ?_; rintro e w' ⟨rfl, rfl⟩)
  refine hK.out _ _ sS (fun _ => ?_)
  clear hK K
  refine held_to 7 (some 5) (.int .i64 y) hQ sS rfl rfl (by kernel_rfl) (by kernel_rfl) (by kernel_rfl) (by kernel_rfl) (fun w _ => by go_simp) ?_
  refine wpAnyH_done (by kernel_rfl) ?_ _
  clear hQ
  go_simp
  go_wp2_with fail
  refine ((PK.out) _).mono ?_
  rintro e w' ⟨rfl, rfl⟩
  rcases (by omega : kk = 0 ∨ kk = 1 ∨ kk = 2 ∨ kk = 3 ∨ kk = 4 ∨ kk = 5 ∨ kk = 6 ∨ kk = 7 ∨ kk = 8 ∨ kk = 9 ∨ kk = 10 ∨ kk = 11 ∨ kk = 12 ∨ kk = 13 ∨ kk = 14 ∨ kk = 15 ∨ kk = 16 ∨ kk = 17 ∨ kk = 18 ∨ kk = 19) with rfl | rfl | rfl | rfl | rfl | rfl | rfl | rfl | rfl | rfl | rfl | rfl | rfl | rfl | rfl | rfl | rfl | rfl | rfl | rfl
  · by_cases hxy : x = y
    · subst hxy
      go_wp2
      go_end0
      refine ⟨rfl, H.out.self (w' := (WS w k a b c).drew.drew) ⟨rfl, rfl, rfl, rfl⟩ ?_⟩
      unfold stepN; rw [if_pos (by omega), if_neg (by simp)]
    · have hxy' : ((x : Int) == (y : Int)) = false := by rw [beq_eq_false_iff_ne]; omega
      have PC : Hid (∀ W, Calls Try.prog 20 #[.int .i64 c, .int .i64 6] W fun e w' => e = .returned (.int .i64 (pickI c 6)) ∧ W = w') := fun W => H.out.pc W 6 (by omega) (by omega)
      have hp := pickI_ok c 6 (by omega)
      have CX : Hid (Calls Try.prog 39 #[.pointer (some ⟨bk, 0, none⟩), .int .i64 x, .int .i64 y, .int .i64 (pickI c 6)] ((WS w k a b c).drew.drew) fun e w' => e = .returned (.bool true) ∧ PostK B i ρ bk bx bs (linkC A x y (pickI c 6)) ((WS w k a b c).drew.drew) w') := klinks (H.out.kn.drew.drew) H.out.new x y (pickI c 6) H.out.xn H.out.yn hxy hp.1 (by omega)
      clear hp
      generalize hpc : pickI c 6 = pc at PC CX
      go_wp2_with (first | (go_at_call 20; refine ((PC.out) _).mono ?_; rintro e w' ⟨rfl, rfl⟩) | (go_at_call 39; refine (CX.out).mono ?_; rintro e w' ⟨rfl, q1⟩))
      go_end0
      refine ⟨rfl, H.out.fin q1 ⟨rfl, rfl, rfl, rfl⟩ ?_⟩
      unfold stepN; rw [if_pos (by omega), if_pos (by omega), hpc]
  · by_cases hxy : x = y
    · subst hxy
      go_wp2
      go_end0
      refine ⟨rfl, H.out.self (w' := (WS w k a b c).drew.drew) ⟨rfl, rfl, rfl, rfl⟩ ?_⟩
      unfold stepN; rw [if_pos (by omega), if_neg (by simp)]
    · have hxy' : ((x : Int) == (y : Int)) = false := by rw [beq_eq_false_iff_ne]; omega
      have PC : Hid (∀ W, Calls Try.prog 20 #[.int .i64 c, .int .i64 6] W fun e w' => e = .returned (.int .i64 (pickI c 6)) ∧ W = w') := fun W => H.out.pc W 6 (by omega) (by omega)
      have hp := pickI_ok c 6 (by omega)
      have CX : Hid (Calls Try.prog 39 #[.pointer (some ⟨bk, 0, none⟩), .int .i64 x, .int .i64 y, .int .i64 (pickI c 6)] ((WS w k a b c).drew.drew) fun e w' => e = .returned (.bool true) ∧ PostK B i ρ bk bx bs (linkC A x y (pickI c 6)) ((WS w k a b c).drew.drew) w') := klinks (H.out.kn.drew.drew) H.out.new x y (pickI c 6) H.out.xn H.out.yn hxy hp.1 (by omega)
      clear hp
      generalize hpc : pickI c 6 = pc at PC CX
      go_wp2_with (first | (go_at_call 20; refine ((PC.out) _).mono ?_; rintro e w' ⟨rfl, rfl⟩) | (go_at_call 39; refine (CX.out).mono ?_; rintro e w' ⟨rfl, q1⟩))
      go_end0
      refine ⟨rfl, H.out.fin q1 ⟨rfl, rfl, rfl, rfl⟩ ?_⟩
      unfold stepN; rw [if_pos (by omega), if_pos (by omega), hpc]
  · have CX : Hid (Calls Try.prog 25 #[.pointer (some ⟨bx, 0, none⟩), .int .i64 x] ((WS w k a b c).drew.drew) fun e w' => e = .returned (.int .i64 (dumpCE A x)) ∧ PostK B i ρ bk bx bs (dumpC A x) ((WS w k a b c).drew.drew) w') := kdump (H.out.kn.drew.drew) H.out.new H.out.hB x
    go_wp2_with (go_at_call 25; refine (CX.out).mono ?_; rintro e w' ⟨rfl, q1⟩)
    go_end0
    exact ⟨rfl, H.out.fin q1 ⟨rfl, rfl, rfl, rfl⟩ rfl⟩
  · have CX : Hid (Calls Try.prog 25 #[.pointer (some ⟨bx, 0, none⟩), .int .i64 x] ((WS w k a b c).drew.drew) fun e w' => e = .returned (.int .i64 (dumpCE A x)) ∧ PostK B i ρ bk bx bs (dumpC A x) ((WS w k a b c).drew.drew) w') := kdump (H.out.kn.drew.drew) H.out.new H.out.hB x
    go_wp2_with (go_at_call 25; refine (CX.out).mono ?_; rintro e w' ⟨rfl, q1⟩)
    go_end0
    exact ⟨rfl, H.out.fin q1 ⟨rfl, rfl, rfl, rfl⟩ rfl⟩
  · have CX : Hid (Calls Try.prog 25 #[.pointer (some ⟨bx, 0, none⟩), .int .i64 x] ((WS w k a b c).drew.drew) fun e w' => e = .returned (.int .i64 (dumpCE A x)) ∧ PostK B i ρ bk bx bs (dumpC A x) ((WS w k a b c).drew.drew) w') := kdump (H.out.kn.drew.drew) H.out.new H.out.hB x
    go_wp2_with (go_at_call 25; refine (CX.out).mono ?_; rintro e w' ⟨rfl, q1⟩)
    go_end0
    exact ⟨rfl, H.out.fin q1 ⟨rfl, rfl, rfl, rfl⟩ rfl⟩
  · have CX : Hid (Calls Try.prog 25 #[.pointer (some ⟨bx, 0, none⟩), .int .i64 x] ((WS w k a b c).drew.drew) fun e w' => e = .returned (.int .i64 (dumpCE A x)) ∧ PostK B i ρ bk bx bs (dumpC A x) ((WS w k a b c).drew.drew) w') := kdump (H.out.kn.drew.drew) H.out.new H.out.hB x
    go_wp2_with (go_at_call 25; refine (CX.out).mono ?_; rintro e w' ⟨rfl, q1⟩)
    go_end0
    exact ⟨rfl, H.out.fin q1 ⟨rfl, rfl, rfl, rfl⟩ rfl⟩
  · have CX : Hid (Calls Try.prog 25 #[.pointer (some ⟨bx, 0, none⟩), .int .i64 x] ((WS w k a b c).drew.drew) fun e w' => e = .returned (.int .i64 (dumpCE A x)) ∧ PostK B i ρ bk bx bs (dumpC A x) ((WS w k a b c).drew.drew) w') := kdump (H.out.kn.drew.drew) H.out.new H.out.hB x
    go_wp2_with (go_at_call 25; refine (CX.out).mono ?_; rintro e w' ⟨rfl, q1⟩)
    go_end0
    exact ⟨rfl, H.out.fin q1 ⟨rfl, rfl, rfl, rfl⟩ rfl⟩
  · have PM : Hid (Calls Try.prog 41 #[.pointer (some ⟨bk, 0, none⟩), .int .i64 x, .int .i64 y, .int .i64 c] ((WS w k a b c).drew.drew.drew) fun e w' => e = .returned (.int .i64 (whichI A x y c)) ∧ ((WS w k a b c).drew.drew.drew) = w') := kmessage (H.out.kn.drew.drew.drew) x y c H.out.cb.1 H.out.cb.2
    have CX : Hid (Calls Try.prog 34 #[.pointer (some ⟨bx, 0, none⟩), .int .i64 x, .int .i64 y, .int .i64 (whichI A x y c)] ((WS w k a b c).drew.drew.drew) fun e w' => e = .returned (.int .i64 (msgE A x y (whichI A x y c))) ∧ PostK B i ρ bk bx bs (deliverC A x y (whichI A x y c)) ((WS w k a b c).drew.drew.drew) w') := kdeliver (H.out.kn.drew.drew.drew) H.out.new x y (whichI A x y c)
    generalize hwh : whichI A x y c = wh at PM CX
    go_wp2
    refine wp_region_held_drew (S := (fun v => v.cell? ⟨bk, 0, none⟩ = some (.pointer (some ⟨bx, 0, none⟩)) ∧ v.cell? ⟨bk, 1, none⟩ = some (.int .i64 A.n) ∧ v.cell? ⟨w.heap.size, 0, none⟩ = some (.int .i64 k) ∧ v.cell? ⟨w.heap.size, 1, none⟩ = some (.int .i64 a) ∧ v.cell? ⟨w.heap.size, 2, none⟩ = some (.int .i64 b) ∧ v.cell? ⟨w.heap.size, 3, none⟩ = some (.int .i64 c))) (by kernel_rfl) sS (fun _ => ?_)
    change wpAnyH _ _ _ _ _ _ _ _ (World.drew _)
    refine held_hq (fun _ _ x _ _ h => by cases x <;> exact h) ?_
    intro hQ
    refine held_to 0 (some 64) (.pointer (some ⟨bk, 0, none⟩)) hQ sS rfl rfl (by kernel_rfl) (by kernel_rfl) (by kernel_rfl) (by kernel_rfl) (fun w _ => by go_simp) ?_
    refine held_to 1 (some 65) (.pointer (some ⟨bk, 0, none⟩)) hQ sS rfl rfl (by kernel_rfl) (by kernel_rfl) (by kernel_rfl) (by kernel_rfl) (fun w _ => by go_simp) ?_
    refine held_to 2 (some 66) (.pointer (some ⟨bk, 0, none⟩)) hQ sS rfl rfl (by kernel_rfl) (by kernel_rfl) (by kernel_rfl) (by kernel_rfl) (fun w _ => by go_simp) ?_
    refine held_to 3 (some 67) (.pointer (some ⟨bx, 0, none⟩)) hQ sS rfl rfl (by kernel_rfl) (by kernel_rfl) (by kernel_rfl) (by kernel_rfl) (fun w hS => by obtain ⟨c0, c1, s0, s1, s2, s3⟩ := hS; go_simp) ?_
    refine held_to 4 (some 68) (.int .i64 x) hQ sS rfl rfl (by kernel_rfl) (by kernel_rfl) (by kernel_rfl) (by kernel_rfl) (fun w _ => by go_simp) ?_
    refine held_to 5 (some 69) (.int .i64 y) hQ sS rfl rfl (by kernel_rfl) (by kernel_rfl) (by kernel_rfl) (by kernel_rfl) (fun w _ => by go_simp) ?_
    refine held_to 6 (some 70) (.pointer (some ⟨bk, 0, none⟩)) hQ sS rfl rfl (by kernel_rfl) (by kernel_rfl) (by kernel_rfl) (by kernel_rfl) (fun w _ => by go_simp) ?_
    refine held_to 7 (some 71) (.int .i64 x) hQ sS rfl rfl (by kernel_rfl) (by kernel_rfl) (by kernel_rfl) (by kernel_rfl) (fun w _ => by go_simp) ?_
    refine held_to 8 (some 72) (.int .i64 y) hQ sS rfl rfl (by kernel_rfl) (by kernel_rfl) (by kernel_rfl) (by kernel_rfl) (fun w _ => by go_simp) ?_
    refine held_to 9 (some 73) (.pointer (some ⟨w.heap.size, 3, none⟩)) hQ sS rfl rfl (by kernel_rfl) (by kernel_rfl) (by kernel_rfl) (by kernel_rfl) (fun w _ => by go_simp) ?_
    refine held_to 10 (some 74) (.int .i64 c) hQ sS rfl rfl (by kernel_rfl) (by kernel_rfl) (by kernel_rfl) (by kernel_rfl) (fun w hS => by obtain ⟨c0, c1, s0, s1, s2, s3⟩ := hS; go_simp) ?_
    refine wpAnyH_ready (rs := [11]) (by kernel_rfl) (by simp) ?_
    refine AllReadyH.cons rfl (fun K hK => ?_) AllReadyH.nil
    go_simp
    go_wp2_with (go_at_call 41; refine (PM.out).mono ?_; rintro e w' ⟨rfl, rfl⟩)
    refine hK.out _ _ sS (fun _ => ?_)
    clear hK K
    refine wpAnyH_ready (rs := [12]) (by kernel_rfl) (by simp) ?_
    refine AllReadyH.cons rfl (fun K hK => ?_) AllReadyH.nil
    go_simp
    go_wp2_with (go_at_call 34; refine (CX.out).mono ?_; rintro e w1 ⟨rfl, q1⟩)
    refine hK.out _ _ (H.out.keep q1 rfl (Steps.deliver H.out.kn.g _ _ _).n) (fun _ => ?_)
    clear hK K
    refine wpAnyH_done (by kernel_rfl) ?_ _
    clear hQ
    go_simp
    go_wp2
    go_end0
    exact ⟨rfl, H.out.fin q1 ⟨rfl, rfl, rfl, rfl⟩ (by rw [← hwh]; rfl)⟩
  · have PM : Hid (Calls Try.prog 41 #[.pointer (some ⟨bk, 0, none⟩), .int .i64 x, .int .i64 y, .int .i64 c] ((WS w k a b c).drew.drew.drew) fun e w' => e = .returned (.int .i64 (whichI A x y c)) ∧ ((WS w k a b c).drew.drew.drew) = w') := kmessage (H.out.kn.drew.drew.drew) x y c H.out.cb.1 H.out.cb.2
    have CX : Hid (Calls Try.prog 34 #[.pointer (some ⟨bx, 0, none⟩), .int .i64 x, .int .i64 y, .int .i64 (whichI A x y c)] ((WS w k a b c).drew.drew.drew) fun e w' => e = .returned (.int .i64 (msgE A x y (whichI A x y c))) ∧ PostK B i ρ bk bx bs (deliverC A x y (whichI A x y c)) ((WS w k a b c).drew.drew.drew) w') := kdeliver (H.out.kn.drew.drew.drew) H.out.new x y (whichI A x y c)
    generalize hwh : whichI A x y c = wh at PM CX
    go_wp2
    refine wp_region_held_drew (S := (fun v => v.cell? ⟨bk, 0, none⟩ = some (.pointer (some ⟨bx, 0, none⟩)) ∧ v.cell? ⟨bk, 1, none⟩ = some (.int .i64 A.n) ∧ v.cell? ⟨w.heap.size, 0, none⟩ = some (.int .i64 k) ∧ v.cell? ⟨w.heap.size, 1, none⟩ = some (.int .i64 a) ∧ v.cell? ⟨w.heap.size, 2, none⟩ = some (.int .i64 b) ∧ v.cell? ⟨w.heap.size, 3, none⟩ = some (.int .i64 c))) (by kernel_rfl) sS (fun _ => ?_)
    change wpAnyH _ _ _ _ _ _ _ _ (World.drew _)
    refine held_hq (fun _ _ x _ _ h => by cases x <;> exact h) ?_
    intro hQ
    refine held_to 0 (some 64) (.pointer (some ⟨bk, 0, none⟩)) hQ sS rfl rfl (by kernel_rfl) (by kernel_rfl) (by kernel_rfl) (by kernel_rfl) (fun w _ => by go_simp) ?_
    refine held_to 1 (some 65) (.pointer (some ⟨bk, 0, none⟩)) hQ sS rfl rfl (by kernel_rfl) (by kernel_rfl) (by kernel_rfl) (by kernel_rfl) (fun w _ => by go_simp) ?_
    refine held_to 2 (some 66) (.pointer (some ⟨bk, 0, none⟩)) hQ sS rfl rfl (by kernel_rfl) (by kernel_rfl) (by kernel_rfl) (by kernel_rfl) (fun w _ => by go_simp) ?_
    refine held_to 3 (some 67) (.pointer (some ⟨bx, 0, none⟩)) hQ sS rfl rfl (by kernel_rfl) (by kernel_rfl) (by kernel_rfl) (by kernel_rfl) (fun w hS => by obtain ⟨c0, c1, s0, s1, s2, s3⟩ := hS; go_simp) ?_
    refine held_to 4 (some 68) (.int .i64 x) hQ sS rfl rfl (by kernel_rfl) (by kernel_rfl) (by kernel_rfl) (by kernel_rfl) (fun w _ => by go_simp) ?_
    refine held_to 5 (some 69) (.int .i64 y) hQ sS rfl rfl (by kernel_rfl) (by kernel_rfl) (by kernel_rfl) (by kernel_rfl) (fun w _ => by go_simp) ?_
    refine held_to 6 (some 70) (.pointer (some ⟨bk, 0, none⟩)) hQ sS rfl rfl (by kernel_rfl) (by kernel_rfl) (by kernel_rfl) (by kernel_rfl) (fun w _ => by go_simp) ?_
    refine held_to 7 (some 71) (.int .i64 x) hQ sS rfl rfl (by kernel_rfl) (by kernel_rfl) (by kernel_rfl) (by kernel_rfl) (fun w _ => by go_simp) ?_
    refine held_to 8 (some 72) (.int .i64 y) hQ sS rfl rfl (by kernel_rfl) (by kernel_rfl) (by kernel_rfl) (by kernel_rfl) (fun w _ => by go_simp) ?_
    refine held_to 9 (some 73) (.pointer (some ⟨w.heap.size, 3, none⟩)) hQ sS rfl rfl (by kernel_rfl) (by kernel_rfl) (by kernel_rfl) (by kernel_rfl) (fun w _ => by go_simp) ?_
    refine held_to 10 (some 74) (.int .i64 c) hQ sS rfl rfl (by kernel_rfl) (by kernel_rfl) (by kernel_rfl) (by kernel_rfl) (fun w hS => by obtain ⟨c0, c1, s0, s1, s2, s3⟩ := hS; go_simp) ?_
    refine wpAnyH_ready (rs := [11]) (by kernel_rfl) (by simp) ?_
    refine AllReadyH.cons rfl (fun K hK => ?_) AllReadyH.nil
    go_simp
    go_wp2_with (go_at_call 41; refine (PM.out).mono ?_; rintro e w' ⟨rfl, rfl⟩)
    refine hK.out _ _ sS (fun _ => ?_)
    clear hK K
    refine wpAnyH_ready (rs := [12]) (by kernel_rfl) (by simp) ?_
    refine AllReadyH.cons rfl (fun K hK => ?_) AllReadyH.nil
    go_simp
    go_wp2_with (go_at_call 34; refine (CX.out).mono ?_; rintro e w1 ⟨rfl, q1⟩)
    refine hK.out _ _ (H.out.keep q1 rfl (Steps.deliver H.out.kn.g _ _ _).n) (fun _ => ?_)
    clear hK K
    refine wpAnyH_done (by kernel_rfl) ?_ _
    clear hQ
    go_simp
    go_wp2
    go_end0
    exact ⟨rfl, H.out.fin q1 ⟨rfl, rfl, rfl, rfl⟩ (by rw [← hwh]; rfl)⟩
  · have PM : Hid (Calls Try.prog 41 #[.pointer (some ⟨bk, 0, none⟩), .int .i64 x, .int .i64 y, .int .i64 c] ((WS w k a b c).drew.drew.drew) fun e w' => e = .returned (.int .i64 (whichI A x y c)) ∧ ((WS w k a b c).drew.drew.drew) = w') := kmessage (H.out.kn.drew.drew.drew) x y c H.out.cb.1 H.out.cb.2
    have CX : Hid (Calls Try.prog 34 #[.pointer (some ⟨bx, 0, none⟩), .int .i64 x, .int .i64 y, .int .i64 (whichI A x y c)] ((WS w k a b c).drew.drew.drew) fun e w' => e = .returned (.int .i64 (msgE A x y (whichI A x y c))) ∧ PostK B i ρ bk bx bs (deliverC A x y (whichI A x y c)) ((WS w k a b c).drew.drew.drew) w') := kdeliver (H.out.kn.drew.drew.drew) H.out.new x y (whichI A x y c)
    generalize hwh : whichI A x y c = wh at PM CX
    go_wp2
    refine wp_region_held_drew (S := (fun v => v.cell? ⟨bk, 0, none⟩ = some (.pointer (some ⟨bx, 0, none⟩)) ∧ v.cell? ⟨bk, 1, none⟩ = some (.int .i64 A.n) ∧ v.cell? ⟨w.heap.size, 0, none⟩ = some (.int .i64 k) ∧ v.cell? ⟨w.heap.size, 1, none⟩ = some (.int .i64 a) ∧ v.cell? ⟨w.heap.size, 2, none⟩ = some (.int .i64 b) ∧ v.cell? ⟨w.heap.size, 3, none⟩ = some (.int .i64 c))) (by kernel_rfl) sS (fun _ => ?_)
    change wpAnyH _ _ _ _ _ _ _ _ (World.drew _)
    refine held_hq (fun _ _ x _ _ h => by cases x <;> exact h) ?_
    intro hQ
    refine held_to 0 (some 64) (.pointer (some ⟨bk, 0, none⟩)) hQ sS rfl rfl (by kernel_rfl) (by kernel_rfl) (by kernel_rfl) (by kernel_rfl) (fun w _ => by go_simp) ?_
    refine held_to 1 (some 65) (.pointer (some ⟨bk, 0, none⟩)) hQ sS rfl rfl (by kernel_rfl) (by kernel_rfl) (by kernel_rfl) (by kernel_rfl) (fun w _ => by go_simp) ?_
    refine held_to 2 (some 66) (.pointer (some ⟨bk, 0, none⟩)) hQ sS rfl rfl (by kernel_rfl) (by kernel_rfl) (by kernel_rfl) (by kernel_rfl) (fun w _ => by go_simp) ?_
    refine held_to 3 (some 67) (.pointer (some ⟨bx, 0, none⟩)) hQ sS rfl rfl (by kernel_rfl) (by kernel_rfl) (by kernel_rfl) (by kernel_rfl) (fun w hS => by obtain ⟨c0, c1, s0, s1, s2, s3⟩ := hS; go_simp) ?_
    refine held_to 4 (some 68) (.int .i64 x) hQ sS rfl rfl (by kernel_rfl) (by kernel_rfl) (by kernel_rfl) (by kernel_rfl) (fun w _ => by go_simp) ?_
    refine held_to 5 (some 69) (.int .i64 y) hQ sS rfl rfl (by kernel_rfl) (by kernel_rfl) (by kernel_rfl) (by kernel_rfl) (fun w _ => by go_simp) ?_
    refine held_to 6 (some 70) (.pointer (some ⟨bk, 0, none⟩)) hQ sS rfl rfl (by kernel_rfl) (by kernel_rfl) (by kernel_rfl) (by kernel_rfl) (fun w _ => by go_simp) ?_
    refine held_to 7 (some 71) (.int .i64 x) hQ sS rfl rfl (by kernel_rfl) (by kernel_rfl) (by kernel_rfl) (by kernel_rfl) (fun w _ => by go_simp) ?_
    refine held_to 8 (some 72) (.int .i64 y) hQ sS rfl rfl (by kernel_rfl) (by kernel_rfl) (by kernel_rfl) (by kernel_rfl) (fun w _ => by go_simp) ?_
    refine held_to 9 (some 73) (.pointer (some ⟨w.heap.size, 3, none⟩)) hQ sS rfl rfl (by kernel_rfl) (by kernel_rfl) (by kernel_rfl) (by kernel_rfl) (fun w _ => by go_simp) ?_
    refine held_to 10 (some 74) (.int .i64 c) hQ sS rfl rfl (by kernel_rfl) (by kernel_rfl) (by kernel_rfl) (by kernel_rfl) (fun w hS => by obtain ⟨c0, c1, s0, s1, s2, s3⟩ := hS; go_simp) ?_
    refine wpAnyH_ready (rs := [11]) (by kernel_rfl) (by simp) ?_
    refine AllReadyH.cons rfl (fun K hK => ?_) AllReadyH.nil
    go_simp
    go_wp2_with (go_at_call 41; refine (PM.out).mono ?_; rintro e w' ⟨rfl, rfl⟩)
    refine hK.out _ _ sS (fun _ => ?_)
    clear hK K
    refine wpAnyH_ready (rs := [12]) (by kernel_rfl) (by simp) ?_
    refine AllReadyH.cons rfl (fun K hK => ?_) AllReadyH.nil
    go_simp
    go_wp2_with (go_at_call 34; refine (CX.out).mono ?_; rintro e w1 ⟨rfl, q1⟩)
    refine hK.out _ _ (H.out.keep q1 rfl (Steps.deliver H.out.kn.g _ _ _).n) (fun _ => ?_)
    clear hK K
    refine wpAnyH_done (by kernel_rfl) ?_ _
    clear hQ
    go_simp
    go_wp2
    go_end0
    exact ⟨rfl, H.out.fin q1 ⟨rfl, rfl, rfl, rfl⟩ (by rw [← hwh]; rfl)⟩
  · have PM : Hid (Calls Try.prog 41 #[.pointer (some ⟨bk, 0, none⟩), .int .i64 x, .int .i64 y, .int .i64 c] ((WS w k a b c).drew.drew.drew) fun e w' => e = .returned (.int .i64 (whichI A x y c)) ∧ ((WS w k a b c).drew.drew.drew) = w') := kmessage (H.out.kn.drew.drew.drew) x y c H.out.cb.1 H.out.cb.2
    have CX : Hid (Calls Try.prog 34 #[.pointer (some ⟨bx, 0, none⟩), .int .i64 x, .int .i64 y, .int .i64 (whichI A x y c)] ((WS w k a b c).drew.drew.drew) fun e w' => e = .returned (.int .i64 (msgE A x y (whichI A x y c))) ∧ PostK B i ρ bk bx bs (deliverC A x y (whichI A x y c)) ((WS w k a b c).drew.drew.drew) w') := kdeliver (H.out.kn.drew.drew.drew) H.out.new x y (whichI A x y c)
    generalize hwh : whichI A x y c = wh at PM CX
    go_wp2
    refine wp_region_held_drew (S := (fun v => v.cell? ⟨bk, 0, none⟩ = some (.pointer (some ⟨bx, 0, none⟩)) ∧ v.cell? ⟨bk, 1, none⟩ = some (.int .i64 A.n) ∧ v.cell? ⟨w.heap.size, 0, none⟩ = some (.int .i64 k) ∧ v.cell? ⟨w.heap.size, 1, none⟩ = some (.int .i64 a) ∧ v.cell? ⟨w.heap.size, 2, none⟩ = some (.int .i64 b) ∧ v.cell? ⟨w.heap.size, 3, none⟩ = some (.int .i64 c))) (by kernel_rfl) sS (fun _ => ?_)
    change wpAnyH _ _ _ _ _ _ _ _ (World.drew _)
    refine held_hq (fun _ _ x _ _ h => by cases x <;> exact h) ?_
    intro hQ
    refine held_to 0 (some 64) (.pointer (some ⟨bk, 0, none⟩)) hQ sS rfl rfl (by kernel_rfl) (by kernel_rfl) (by kernel_rfl) (by kernel_rfl) (fun w _ => by go_simp) ?_
    refine held_to 1 (some 65) (.pointer (some ⟨bk, 0, none⟩)) hQ sS rfl rfl (by kernel_rfl) (by kernel_rfl) (by kernel_rfl) (by kernel_rfl) (fun w _ => by go_simp) ?_
    refine held_to 2 (some 66) (.pointer (some ⟨bk, 0, none⟩)) hQ sS rfl rfl (by kernel_rfl) (by kernel_rfl) (by kernel_rfl) (by kernel_rfl) (fun w _ => by go_simp) ?_
    refine held_to 3 (some 67) (.pointer (some ⟨bx, 0, none⟩)) hQ sS rfl rfl (by kernel_rfl) (by kernel_rfl) (by kernel_rfl) (by kernel_rfl) (fun w hS => by obtain ⟨c0, c1, s0, s1, s2, s3⟩ := hS; go_simp) ?_
    refine held_to 4 (some 68) (.int .i64 x) hQ sS rfl rfl (by kernel_rfl) (by kernel_rfl) (by kernel_rfl) (by kernel_rfl) (fun w _ => by go_simp) ?_
    refine held_to 5 (some 69) (.int .i64 y) hQ sS rfl rfl (by kernel_rfl) (by kernel_rfl) (by kernel_rfl) (by kernel_rfl) (fun w _ => by go_simp) ?_
    refine held_to 6 (some 70) (.pointer (some ⟨bk, 0, none⟩)) hQ sS rfl rfl (by kernel_rfl) (by kernel_rfl) (by kernel_rfl) (by kernel_rfl) (fun w _ => by go_simp) ?_
    refine held_to 7 (some 71) (.int .i64 x) hQ sS rfl rfl (by kernel_rfl) (by kernel_rfl) (by kernel_rfl) (by kernel_rfl) (fun w _ => by go_simp) ?_
    refine held_to 8 (some 72) (.int .i64 y) hQ sS rfl rfl (by kernel_rfl) (by kernel_rfl) (by kernel_rfl) (by kernel_rfl) (fun w _ => by go_simp) ?_
    refine held_to 9 (some 73) (.pointer (some ⟨w.heap.size, 3, none⟩)) hQ sS rfl rfl (by kernel_rfl) (by kernel_rfl) (by kernel_rfl) (by kernel_rfl) (fun w _ => by go_simp) ?_
    refine held_to 10 (some 74) (.int .i64 c) hQ sS rfl rfl (by kernel_rfl) (by kernel_rfl) (by kernel_rfl) (by kernel_rfl) (fun w hS => by obtain ⟨c0, c1, s0, s1, s2, s3⟩ := hS; go_simp) ?_
    refine wpAnyH_ready (rs := [11]) (by kernel_rfl) (by simp) ?_
    refine AllReadyH.cons rfl (fun K hK => ?_) AllReadyH.nil
    go_simp
    go_wp2_with (go_at_call 41; refine (PM.out).mono ?_; rintro e w' ⟨rfl, rfl⟩)
    refine hK.out _ _ sS (fun _ => ?_)
    clear hK K
    refine wpAnyH_ready (rs := [12]) (by kernel_rfl) (by simp) ?_
    refine AllReadyH.cons rfl (fun K hK => ?_) AllReadyH.nil
    go_simp
    go_wp2_with (go_at_call 34; refine (CX.out).mono ?_; rintro e w1 ⟨rfl, q1⟩)
    refine hK.out _ _ (H.out.keep q1 rfl (Steps.deliver H.out.kn.g _ _ _).n) (fun _ => ?_)
    clear hK K
    refine wpAnyH_done (by kernel_rfl) ?_ _
    clear hQ
    go_simp
    go_wp2
    go_end0
    exact ⟨rfl, H.out.fin q1 ⟨rfl, rfl, rfl, rfl⟩ (by rw [← hwh]; rfl)⟩
  · have PM : Hid (Calls Try.prog 41 #[.pointer (some ⟨bk, 0, none⟩), .int .i64 x, .int .i64 y, .int .i64 c] ((WS w k a b c).drew.drew.drew) fun e w' => e = .returned (.int .i64 (whichI A x y c)) ∧ ((WS w k a b c).drew.drew.drew) = w') := kmessage (H.out.kn.drew.drew.drew) x y c H.out.cb.1 H.out.cb.2
    have CX : Hid (Calls Try.prog 34 #[.pointer (some ⟨bx, 0, none⟩), .int .i64 x, .int .i64 y, .int .i64 (whichI A x y c)] ((WS w k a b c).drew.drew.drew) fun e w' => e = .returned (.int .i64 (msgE A x y (whichI A x y c))) ∧ PostK B i ρ bk bx bs (deliverC A x y (whichI A x y c)) ((WS w k a b c).drew.drew.drew) w') := kdeliver (H.out.kn.drew.drew.drew) H.out.new x y (whichI A x y c)
    generalize hwh : whichI A x y c = wh at PM CX
    go_wp2
    refine wp_region_held_drew (S := (fun v => v.cell? ⟨bk, 0, none⟩ = some (.pointer (some ⟨bx, 0, none⟩)) ∧ v.cell? ⟨bk, 1, none⟩ = some (.int .i64 A.n) ∧ v.cell? ⟨w.heap.size, 0, none⟩ = some (.int .i64 k) ∧ v.cell? ⟨w.heap.size, 1, none⟩ = some (.int .i64 a) ∧ v.cell? ⟨w.heap.size, 2, none⟩ = some (.int .i64 b) ∧ v.cell? ⟨w.heap.size, 3, none⟩ = some (.int .i64 c))) (by kernel_rfl) sS (fun _ => ?_)
    change wpAnyH _ _ _ _ _ _ _ _ (World.drew _)
    refine held_hq (fun _ _ x _ _ h => by cases x <;> exact h) ?_
    intro hQ
    refine held_to 0 (some 64) (.pointer (some ⟨bk, 0, none⟩)) hQ sS rfl rfl (by kernel_rfl) (by kernel_rfl) (by kernel_rfl) (by kernel_rfl) (fun w _ => by go_simp) ?_
    refine held_to 1 (some 65) (.pointer (some ⟨bk, 0, none⟩)) hQ sS rfl rfl (by kernel_rfl) (by kernel_rfl) (by kernel_rfl) (by kernel_rfl) (fun w _ => by go_simp) ?_
    refine held_to 2 (some 66) (.pointer (some ⟨bk, 0, none⟩)) hQ sS rfl rfl (by kernel_rfl) (by kernel_rfl) (by kernel_rfl) (by kernel_rfl) (fun w _ => by go_simp) ?_
    refine held_to 3 (some 67) (.pointer (some ⟨bx, 0, none⟩)) hQ sS rfl rfl (by kernel_rfl) (by kernel_rfl) (by kernel_rfl) (by kernel_rfl) (fun w hS => by obtain ⟨c0, c1, s0, s1, s2, s3⟩ := hS; go_simp) ?_
    refine held_to 4 (some 68) (.int .i64 x) hQ sS rfl rfl (by kernel_rfl) (by kernel_rfl) (by kernel_rfl) (by kernel_rfl) (fun w _ => by go_simp) ?_
    refine held_to 5 (some 69) (.int .i64 y) hQ sS rfl rfl (by kernel_rfl) (by kernel_rfl) (by kernel_rfl) (by kernel_rfl) (fun w _ => by go_simp) ?_
    refine held_to 6 (some 70) (.pointer (some ⟨bk, 0, none⟩)) hQ sS rfl rfl (by kernel_rfl) (by kernel_rfl) (by kernel_rfl) (by kernel_rfl) (fun w _ => by go_simp) ?_
    refine held_to 7 (some 71) (.int .i64 x) hQ sS rfl rfl (by kernel_rfl) (by kernel_rfl) (by kernel_rfl) (by kernel_rfl) (fun w _ => by go_simp) ?_
    refine held_to 8 (some 72) (.int .i64 y) hQ sS rfl rfl (by kernel_rfl) (by kernel_rfl) (by kernel_rfl) (by kernel_rfl) (fun w _ => by go_simp) ?_
    refine held_to 9 (some 73) (.pointer (some ⟨w.heap.size, 3, none⟩)) hQ sS rfl rfl (by kernel_rfl) (by kernel_rfl) (by kernel_rfl) (by kernel_rfl) (fun w _ => by go_simp) ?_
    refine held_to 10 (some 74) (.int .i64 c) hQ sS rfl rfl (by kernel_rfl) (by kernel_rfl) (by kernel_rfl) (by kernel_rfl) (fun w hS => by obtain ⟨c0, c1, s0, s1, s2, s3⟩ := hS; go_simp) ?_
    refine wpAnyH_ready (rs := [11]) (by kernel_rfl) (by simp) ?_
    refine AllReadyH.cons rfl (fun K hK => ?_) AllReadyH.nil
    go_simp
    go_wp2_with (go_at_call 41; refine (PM.out).mono ?_; rintro e w' ⟨rfl, rfl⟩)
    refine hK.out _ _ sS (fun _ => ?_)
    clear hK K
    refine wpAnyH_ready (rs := [12]) (by kernel_rfl) (by simp) ?_
    refine AllReadyH.cons rfl (fun K hK => ?_) AllReadyH.nil
    go_simp
    go_wp2_with (go_at_call 34; refine (CX.out).mono ?_; rintro e w1 ⟨rfl, q1⟩)
    refine hK.out _ _ (H.out.keep q1 rfl (Steps.deliver H.out.kn.g _ _ _).n) (fun _ => ?_)
    clear hK K
    refine wpAnyH_done (by kernel_rfl) ?_ _
    clear hQ
    go_simp
    go_wp2
    go_end0
    exact ⟨rfl, H.out.fin q1 ⟨rfl, rfl, rfl, rfl⟩ (by rw [← hwh]; rfl)⟩
  · have PM : Hid (Calls Try.prog 41 #[.pointer (some ⟨bk, 0, none⟩), .int .i64 x, .int .i64 y, .int .i64 c] ((WS w k a b c).drew.drew.drew) fun e w' => e = .returned (.int .i64 (whichI A x y c)) ∧ ((WS w k a b c).drew.drew.drew) = w') := kmessage (H.out.kn.drew.drew.drew) x y c H.out.cb.1 H.out.cb.2
    have CX : Hid (Calls Try.prog 34 #[.pointer (some ⟨bx, 0, none⟩), .int .i64 x, .int .i64 y, .int .i64 (whichI A x y c)] ((WS w k a b c).drew.drew.drew) fun e w' => e = .returned (.int .i64 (msgE A x y (whichI A x y c))) ∧ PostK B i ρ bk bx bs (deliverC A x y (whichI A x y c)) ((WS w k a b c).drew.drew.drew) w') := kdeliver (H.out.kn.drew.drew.drew) H.out.new x y (whichI A x y c)
    generalize hwh : whichI A x y c = wh at PM CX
    go_wp2
    refine wp_region_held_drew (S := (fun v => v.cell? ⟨bk, 0, none⟩ = some (.pointer (some ⟨bx, 0, none⟩)) ∧ v.cell? ⟨bk, 1, none⟩ = some (.int .i64 A.n) ∧ v.cell? ⟨w.heap.size, 0, none⟩ = some (.int .i64 k) ∧ v.cell? ⟨w.heap.size, 1, none⟩ = some (.int .i64 a) ∧ v.cell? ⟨w.heap.size, 2, none⟩ = some (.int .i64 b) ∧ v.cell? ⟨w.heap.size, 3, none⟩ = some (.int .i64 c))) (by kernel_rfl) sS (fun _ => ?_)
    change wpAnyH _ _ _ _ _ _ _ _ (World.drew _)
    refine held_hq (fun _ _ x _ _ h => by cases x <;> exact h) ?_
    intro hQ
    refine held_to 0 (some 64) (.pointer (some ⟨bk, 0, none⟩)) hQ sS rfl rfl (by kernel_rfl) (by kernel_rfl) (by kernel_rfl) (by kernel_rfl) (fun w _ => by go_simp) ?_
    refine held_to 1 (some 65) (.pointer (some ⟨bk, 0, none⟩)) hQ sS rfl rfl (by kernel_rfl) (by kernel_rfl) (by kernel_rfl) (by kernel_rfl) (fun w _ => by go_simp) ?_
    refine held_to 2 (some 66) (.pointer (some ⟨bk, 0, none⟩)) hQ sS rfl rfl (by kernel_rfl) (by kernel_rfl) (by kernel_rfl) (by kernel_rfl) (fun w _ => by go_simp) ?_
    refine held_to 3 (some 67) (.pointer (some ⟨bx, 0, none⟩)) hQ sS rfl rfl (by kernel_rfl) (by kernel_rfl) (by kernel_rfl) (by kernel_rfl) (fun w hS => by obtain ⟨c0, c1, s0, s1, s2, s3⟩ := hS; go_simp) ?_
    refine held_to 4 (some 68) (.int .i64 x) hQ sS rfl rfl (by kernel_rfl) (by kernel_rfl) (by kernel_rfl) (by kernel_rfl) (fun w _ => by go_simp) ?_
    refine held_to 5 (some 69) (.int .i64 y) hQ sS rfl rfl (by kernel_rfl) (by kernel_rfl) (by kernel_rfl) (by kernel_rfl) (fun w _ => by go_simp) ?_
    refine held_to 6 (some 70) (.pointer (some ⟨bk, 0, none⟩)) hQ sS rfl rfl (by kernel_rfl) (by kernel_rfl) (by kernel_rfl) (by kernel_rfl) (fun w _ => by go_simp) ?_
    refine held_to 7 (some 71) (.int .i64 x) hQ sS rfl rfl (by kernel_rfl) (by kernel_rfl) (by kernel_rfl) (by kernel_rfl) (fun w _ => by go_simp) ?_
    refine held_to 8 (some 72) (.int .i64 y) hQ sS rfl rfl (by kernel_rfl) (by kernel_rfl) (by kernel_rfl) (by kernel_rfl) (fun w _ => by go_simp) ?_
    refine held_to 9 (some 73) (.pointer (some ⟨w.heap.size, 3, none⟩)) hQ sS rfl rfl (by kernel_rfl) (by kernel_rfl) (by kernel_rfl) (by kernel_rfl) (fun w _ => by go_simp) ?_
    refine held_to 10 (some 74) (.int .i64 c) hQ sS rfl rfl (by kernel_rfl) (by kernel_rfl) (by kernel_rfl) (by kernel_rfl) (fun w hS => by obtain ⟨c0, c1, s0, s1, s2, s3⟩ := hS; go_simp) ?_
    refine wpAnyH_ready (rs := [11]) (by kernel_rfl) (by simp) ?_
    refine AllReadyH.cons rfl (fun K hK => ?_) AllReadyH.nil
    go_simp
    go_wp2_with (go_at_call 41; refine (PM.out).mono ?_; rintro e w' ⟨rfl, rfl⟩)
    refine hK.out _ _ sS (fun _ => ?_)
    clear hK K
    refine wpAnyH_ready (rs := [12]) (by kernel_rfl) (by simp) ?_
    refine AllReadyH.cons rfl (fun K hK => ?_) AllReadyH.nil
    go_simp
    go_wp2_with (go_at_call 34; refine (CX.out).mono ?_; rintro e w1 ⟨rfl, q1⟩)
    refine hK.out _ _ (H.out.keep q1 rfl (Steps.deliver H.out.kn.g _ _ _).n) (fun _ => ?_)
    clear hK K
    refine wpAnyH_done (by kernel_rfl) ?_ _
    clear hQ
    go_simp
    go_wp2
    go_end0
    exact ⟨rfl, H.out.fin q1 ⟨rfl, rfl, rfl, rfl⟩ (by rw [← hwh]; rfl)⟩
  · have PM : Hid (Calls Try.prog 41 #[.pointer (some ⟨bk, 0, none⟩), .int .i64 x, .int .i64 y, .int .i64 c] ((WS w k a b c).drew.drew.drew) fun e w' => e = .returned (.int .i64 (whichI A x y c)) ∧ ((WS w k a b c).drew.drew.drew) = w') := kmessage (H.out.kn.drew.drew.drew) x y c H.out.cb.1 H.out.cb.2
    have CX : Hid (Calls Try.prog 42 #[.pointer (some ⟨bx, 0, none⟩), .int .i64 x, .int .i64 y, .int .i64 (whichI A x y c)] ((WS w k a b c).drew.drew.drew) fun e w' => e = .returned (.int .i64 (againE A x y (whichI A x y c))) ∧ PostK B i ρ bk bx bs (againC A x y (whichI A x y c)) ((WS w k a b c).drew.drew.drew) w') := kagain (H.out.kn.drew.drew.drew) H.out.new H.out.hB x y (whichI A x y c)
    generalize hwh : whichI A x y c = wh at PM CX
    go_wp2
    refine wp_region_held_drew (S := (fun v => v.cell? ⟨bk, 0, none⟩ = some (.pointer (some ⟨bx, 0, none⟩)) ∧ v.cell? ⟨bk, 1, none⟩ = some (.int .i64 A.n) ∧ v.cell? ⟨w.heap.size, 0, none⟩ = some (.int .i64 k) ∧ v.cell? ⟨w.heap.size, 1, none⟩ = some (.int .i64 a) ∧ v.cell? ⟨w.heap.size, 2, none⟩ = some (.int .i64 b) ∧ v.cell? ⟨w.heap.size, 3, none⟩ = some (.int .i64 c))) (by kernel_rfl) sS (fun _ => ?_)
    change wpAnyH _ _ _ _ _ _ _ _ (World.drew _)
    refine held_hq (fun _ _ x _ _ h => by cases x <;> exact h) ?_
    intro hQ
    refine held_to 0 (some 79) (.pointer (some ⟨bk, 0, none⟩)) hQ sS rfl rfl (by kernel_rfl) (by kernel_rfl) (by kernel_rfl) (by kernel_rfl) (fun w _ => by go_simp) ?_
    refine held_to 1 (some 80) (.pointer (some ⟨bk, 0, none⟩)) hQ sS rfl rfl (by kernel_rfl) (by kernel_rfl) (by kernel_rfl) (by kernel_rfl) (fun w _ => by go_simp) ?_
    refine held_to 2 (some 81) (.pointer (some ⟨bk, 0, none⟩)) hQ sS rfl rfl (by kernel_rfl) (by kernel_rfl) (by kernel_rfl) (by kernel_rfl) (fun w _ => by go_simp) ?_
    refine held_to 3 (some 82) (.pointer (some ⟨bx, 0, none⟩)) hQ sS rfl rfl (by kernel_rfl) (by kernel_rfl) (by kernel_rfl) (by kernel_rfl) (fun w hS => by obtain ⟨c0, c1, s0, s1, s2, s3⟩ := hS; go_simp) ?_
    refine held_to 4 (some 83) (.int .i64 x) hQ sS rfl rfl (by kernel_rfl) (by kernel_rfl) (by kernel_rfl) (by kernel_rfl) (fun w _ => by go_simp) ?_
    refine held_to 5 (some 84) (.int .i64 y) hQ sS rfl rfl (by kernel_rfl) (by kernel_rfl) (by kernel_rfl) (by kernel_rfl) (fun w _ => by go_simp) ?_
    refine held_to 6 (some 85) (.pointer (some ⟨bk, 0, none⟩)) hQ sS rfl rfl (by kernel_rfl) (by kernel_rfl) (by kernel_rfl) (by kernel_rfl) (fun w _ => by go_simp) ?_
    refine held_to 7 (some 86) (.int .i64 x) hQ sS rfl rfl (by kernel_rfl) (by kernel_rfl) (by kernel_rfl) (by kernel_rfl) (fun w _ => by go_simp) ?_
    refine held_to 8 (some 87) (.int .i64 y) hQ sS rfl rfl (by kernel_rfl) (by kernel_rfl) (by kernel_rfl) (by kernel_rfl) (fun w _ => by go_simp) ?_
    refine held_to 9 (some 88) (.pointer (some ⟨w.heap.size, 3, none⟩)) hQ sS rfl rfl (by kernel_rfl) (by kernel_rfl) (by kernel_rfl) (by kernel_rfl) (fun w _ => by go_simp) ?_
    refine held_to 10 (some 89) (.int .i64 c) hQ sS rfl rfl (by kernel_rfl) (by kernel_rfl) (by kernel_rfl) (by kernel_rfl) (fun w hS => by obtain ⟨c0, c1, s0, s1, s2, s3⟩ := hS; go_simp) ?_
    refine wpAnyH_ready (rs := [11]) (by kernel_rfl) (by simp) ?_
    refine AllReadyH.cons rfl (fun K hK => ?_) AllReadyH.nil
    go_simp
    go_wp2_with (go_at_call 41; refine (PM.out).mono ?_; rintro e w' ⟨rfl, rfl⟩)
    refine hK.out _ _ sS (fun _ => ?_)
    clear hK K
    refine wpAnyH_ready (rs := [12]) (by kernel_rfl) (by simp) ?_
    refine AllReadyH.cons rfl (fun K hK => ?_) AllReadyH.nil
    go_simp
    go_wp2_with (go_at_call 42; refine (CX.out).mono ?_; rintro e w1 ⟨rfl, q1⟩)
    refine hK.out _ _ (H.out.keep q1 rfl (Steps.again H.out.kn.g _ _ _).n) (fun _ => ?_)
    clear hK K
    refine wpAnyH_done (by kernel_rfl) ?_ _
    clear hQ
    go_simp
    go_wp2
    go_end0
    exact ⟨rfl, H.out.fin q1 ⟨rfl, rfl, rfl, rfl⟩ (by rw [← hwh]; rfl)⟩
  · have PM : Hid (Calls Try.prog 41 #[.pointer (some ⟨bk, 0, none⟩), .int .i64 x, .int .i64 y, .int .i64 c] ((WS w k a b c).drew.drew.drew) fun e w' => e = .returned (.int .i64 (whichI A x y c)) ∧ ((WS w k a b c).drew.drew.drew) = w') := kmessage (H.out.kn.drew.drew.drew) x y c H.out.cb.1 H.out.cb.2
    have CX : Hid (Calls Try.prog 40 #[.pointer (some ⟨bx, 0, none⟩), .int .i64 x, .int .i64 y, .int .i64 (whichI A x y c)] ((WS w k a b c).drew.drew.drew) fun e w' => e = .returned (.int .i64 (msgE A x y (whichI A x y c))) ∧ PostK B i ρ bk bx bs (loseC A x y (whichI A x y c)) ((WS w k a b c).drew.drew.drew) w') := klose (H.out.kn.drew.drew.drew) H.out.new x y (whichI A x y c)
    generalize hwh : whichI A x y c = wh at PM CX
    go_wp2
    refine wp_region_held_drew (S := (fun v => v.cell? ⟨bk, 0, none⟩ = some (.pointer (some ⟨bx, 0, none⟩)) ∧ v.cell? ⟨bk, 1, none⟩ = some (.int .i64 A.n) ∧ v.cell? ⟨w.heap.size, 0, none⟩ = some (.int .i64 k) ∧ v.cell? ⟨w.heap.size, 1, none⟩ = some (.int .i64 a) ∧ v.cell? ⟨w.heap.size, 2, none⟩ = some (.int .i64 b) ∧ v.cell? ⟨w.heap.size, 3, none⟩ = some (.int .i64 c))) (by kernel_rfl) sS (fun _ => ?_)
    change wpAnyH _ _ _ _ _ _ _ _ (World.drew _)
    refine held_hq (fun _ _ x _ _ h => by cases x <;> exact h) ?_
    intro hQ
    refine held_to 0 (some 94) (.pointer (some ⟨bk, 0, none⟩)) hQ sS rfl rfl (by kernel_rfl) (by kernel_rfl) (by kernel_rfl) (by kernel_rfl) (fun w _ => by go_simp) ?_
    refine held_to 1 (some 95) (.pointer (some ⟨bk, 0, none⟩)) hQ sS rfl rfl (by kernel_rfl) (by kernel_rfl) (by kernel_rfl) (by kernel_rfl) (fun w _ => by go_simp) ?_
    refine held_to 2 (some 96) (.pointer (some ⟨bk, 0, none⟩)) hQ sS rfl rfl (by kernel_rfl) (by kernel_rfl) (by kernel_rfl) (by kernel_rfl) (fun w _ => by go_simp) ?_
    refine held_to 3 (some 97) (.pointer (some ⟨bx, 0, none⟩)) hQ sS rfl rfl (by kernel_rfl) (by kernel_rfl) (by kernel_rfl) (by kernel_rfl) (fun w hS => by obtain ⟨c0, c1, s0, s1, s2, s3⟩ := hS; go_simp) ?_
    refine held_to 4 (some 98) (.int .i64 x) hQ sS rfl rfl (by kernel_rfl) (by kernel_rfl) (by kernel_rfl) (by kernel_rfl) (fun w _ => by go_simp) ?_
    refine held_to 5 (some 99) (.int .i64 y) hQ sS rfl rfl (by kernel_rfl) (by kernel_rfl) (by kernel_rfl) (by kernel_rfl) (fun w _ => by go_simp) ?_
    refine held_to 6 (some 100) (.pointer (some ⟨bk, 0, none⟩)) hQ sS rfl rfl (by kernel_rfl) (by kernel_rfl) (by kernel_rfl) (by kernel_rfl) (fun w _ => by go_simp) ?_
    refine held_to 7 (some 101) (.int .i64 x) hQ sS rfl rfl (by kernel_rfl) (by kernel_rfl) (by kernel_rfl) (by kernel_rfl) (fun w _ => by go_simp) ?_
    refine held_to 8 (some 102) (.int .i64 y) hQ sS rfl rfl (by kernel_rfl) (by kernel_rfl) (by kernel_rfl) (by kernel_rfl) (fun w _ => by go_simp) ?_
    refine held_to 9 (some 103) (.pointer (some ⟨w.heap.size, 3, none⟩)) hQ sS rfl rfl (by kernel_rfl) (by kernel_rfl) (by kernel_rfl) (by kernel_rfl) (fun w _ => by go_simp) ?_
    refine held_to 10 (some 104) (.int .i64 c) hQ sS rfl rfl (by kernel_rfl) (by kernel_rfl) (by kernel_rfl) (by kernel_rfl) (fun w hS => by obtain ⟨c0, c1, s0, s1, s2, s3⟩ := hS; go_simp) ?_
    refine wpAnyH_ready (rs := [11]) (by kernel_rfl) (by simp) ?_
    refine AllReadyH.cons rfl (fun K hK => ?_) AllReadyH.nil
    go_simp
    go_wp2_with (go_at_call 41; refine (PM.out).mono ?_; rintro e w' ⟨rfl, rfl⟩)
    refine hK.out _ _ sS (fun _ => ?_)
    clear hK K
    refine wpAnyH_ready (rs := [12]) (by kernel_rfl) (by simp) ?_
    refine AllReadyH.cons rfl (fun K hK => ?_) AllReadyH.nil
    go_simp
    go_wp2_with (go_at_call 40; refine (CX.out).mono ?_; rintro e w1 ⟨rfl, q1⟩)
    refine hK.out _ _ (H.out.keep q1 rfl (Steps.lose H.out.kn.g _ _ _).n) (fun _ => ?_)
    clear hK K
    refine wpAnyH_done (by kernel_rfl) ?_ _
    clear hQ
    go_simp
    go_wp2
    go_end0
    exact ⟨rfl, H.out.fin q1 ⟨rfl, rfl, rfl, rfl⟩ (by rw [← hwh]; rfl)⟩
  · have CX : Hid (Calls Try.prog 31 #[.pointer (some ⟨bx, 0, none⟩), .int .i64 x] ((WS w k a b c).drew.drew) fun e w' => e = .returned (.int .i64 (upE A x)) ∧ PostK B i ρ bk bx bs (tickC A x) ((WS w k a b c).drew.drew) w') := ktick (H.out.kn.drew.drew) H.out.new x
    go_wp2_with (go_at_call 31; refine (CX.out).mono ?_; rintro e w' ⟨rfl, q1⟩)
    go_end0
    exact ⟨rfl, H.out.fin q1 ⟨rfl, rfl, rfl, rfl⟩ rfl⟩
  · have CX : Hid (Calls Try.prog 43 #[.pointer (some ⟨bx, 0, none⟩), .int .i64 x] ((WS w k a b c).drew.drew) fun e w' => e = .returned (.int .i64 (bumpE A x)) ∧ PostK B i ρ bk bx bs (bumpC A x) ((WS w k a b c).drew.drew) w') := kbump (H.out.kn.drew.drew) H.out.new x
    go_wp2_with (go_at_call 43; refine (CX.out).mono ?_; rintro e w' ⟨rfl, q1⟩)
    go_end0
    exact ⟨rfl, H.out.fin q1 ⟨rfl, rfl, rfl, rfl⟩ rfl⟩
  · have CX : Hid (Calls Try.prog 27 #[.pointer (some ⟨bx, 0, none⟩), .int .i64 x] ((WS w k a b c).drew.drew) fun e w' => e = .returned (.int .i64 (upE A x)) ∧ PostK B i ρ bk bx bs (crashC A x) ((WS w k a b c).drew.drew) w') := kcrash (H.out.kn.drew.drew) H.out.new x
    go_wp2_with (go_at_call 27; refine (CX.out).mono ?_; rintro e w' ⟨rfl, q1⟩)
    go_end0
    exact ⟨rfl, H.out.fin q1 ⟨rfl, rfl, rfl, rfl⟩ rfl⟩
  · have CX : Hid (Calls Try.prog 21 #[.pointer (some ⟨bx, 0, none⟩), .int .i64 x] ((WS w k a b c).drew.drew) fun e w' => e = .returned (.int .i64 (restartE A x)) ∧ PostK B i ρ bk bx bs (restartC A x) ((WS w k a b c).drew.drew) w') := krestart (H.out.kn.drew.drew) H.out.new x
    go_wp2_with (go_at_call 21; refine (CX.out).mono ?_; rintro e w' ⟨rfl, q1⟩)
    go_end0
    exact ⟨rfl, H.out.fin q1 ⟨rfl, rfl, rfl, rfl⟩ rfl⟩
  · have PC : Hid (∀ W, Calls Try.prog 20 #[.int .i64 c, .int .i64 4] W fun e w' => e = .returned (.int .i64 (pickI c 4)) ∧ W = w') := fun W => H.out.pc W 4 (by omega) (by omega)
    have CX : Hid (Calls Try.prog 22 #[.pointer (some ⟨bx, 0, none⟩), .int .i64 x, .int .i64 (pickI c 4)] ((WS w k a b c).drew.drew.drew) fun e w' => e = .returned (.int .i64 (failE A x (pickI c 4))) ∧ PostK B i ρ bk bx bs (failC A x (pickI c 4)) ((WS w k a b c).drew.drew.drew) w') := kfail (H.out.kn.drew.drew.drew) H.out.new x (pickI c 4)
    generalize hwh : pickI c 4 = wh at PC CX
    go_wp2
    refine wp_region_held_drew (S := (fun v => v.cell? ⟨bk, 0, none⟩ = some (.pointer (some ⟨bx, 0, none⟩)) ∧ v.cell? ⟨bk, 1, none⟩ = some (.int .i64 A.n) ∧ v.cell? ⟨w.heap.size, 0, none⟩ = some (.int .i64 k) ∧ v.cell? ⟨w.heap.size, 1, none⟩ = some (.int .i64 a) ∧ v.cell? ⟨w.heap.size, 2, none⟩ = some (.int .i64 b) ∧ v.cell? ⟨w.heap.size, 3, none⟩ = some (.int .i64 c))) (by kernel_rfl) sS (fun _ => ?_)
    change wpAnyH _ _ _ _ _ _ _ _ (World.drew _)
    refine held_hq (fun _ _ x _ _ h => by cases x <;> exact h) ?_
    intro hQ
    refine held_to 0 (some 23) (.pointer (some ⟨bk, 0, none⟩)) hQ sS rfl rfl (by kernel_rfl) (by kernel_rfl) (by kernel_rfl) (by kernel_rfl) (fun w _ => by go_simp) ?_
    refine held_to 1 (some 24) (.pointer (some ⟨bk, 0, none⟩)) hQ sS rfl rfl (by kernel_rfl) (by kernel_rfl) (by kernel_rfl) (by kernel_rfl) (fun w _ => by go_simp) ?_
    refine held_to 2 (some 25) (.pointer (some ⟨bk, 0, none⟩)) hQ sS rfl rfl (by kernel_rfl) (by kernel_rfl) (by kernel_rfl) (by kernel_rfl) (fun w _ => by go_simp) ?_
    refine held_to 3 (some 26) (.pointer (some ⟨bx, 0, none⟩)) hQ sS rfl rfl (by kernel_rfl) (by kernel_rfl) (by kernel_rfl) (by kernel_rfl) (fun w hS => by obtain ⟨c0, c1, s0, s1, s2, s3⟩ := hS; go_simp) ?_
    refine held_to 4 (some 27) (.int .i64 x) hQ sS rfl rfl (by kernel_rfl) (by kernel_rfl) (by kernel_rfl) (by kernel_rfl) (fun w _ => by go_simp) ?_
    refine held_to 5 (some 28) (.pointer (some ⟨w.heap.size, 3, none⟩)) hQ sS rfl rfl (by kernel_rfl) (by kernel_rfl) (by kernel_rfl) (by kernel_rfl) (fun w _ => by go_simp) ?_
    refine held_to 6 (some 29) (.int .i64 c) hQ sS rfl rfl (by kernel_rfl) (by kernel_rfl) (by kernel_rfl) (by kernel_rfl) (fun w hS => by obtain ⟨c0, c1, s0, s1, s2, s3⟩ := hS; go_simp) ?_
    refine wpAnyH_ready (rs := [7]) (by kernel_rfl) (by simp) ?_
    refine AllReadyH.cons rfl (fun K hK => ?_) AllReadyH.nil
    go_simp
    go_wp2_with (go_at_call 20; refine ((PC.out) _).mono ?_; rintro e w' ⟨rfl, rfl⟩)
    refine hK.out _ _ sS (fun _ => ?_)
    clear hK K
    refine wpAnyH_ready (rs := [8]) (by kernel_rfl) (by simp) ?_
    refine AllReadyH.cons rfl (fun K hK => ?_) AllReadyH.nil
    go_simp
    go_wp2_with (go_at_call 22; refine (CX.out).mono ?_; rintro e w1 ⟨rfl, q1⟩)
    refine hK.out _ _ (H.out.keep q1 rfl (Steps.fail H.out.kn.g _ _).n) (fun _ => ?_)
    clear hK K
    refine wpAnyH_done (by kernel_rfl) ?_ _
    clear hQ
    go_simp
    go_wp2
    go_end0
    exact ⟨rfl, H.out.fin q1 ⟨rfl, rfl, rfl, rfl⟩ (by rw [← hwh]; rfl)⟩
end
end Go.Proofs.Ytdoodnbobpijoaa

namespace Go.Proofs.Ytdoodnbobpijoaa
open Go.RowKit

theorem dumpCE_nat {A : Nt} {r : Nat} (hr : r < A.n) (hup : (A.rs r).dn = false) : dumpCE A r = dumpE A r := by
  unfold dumpCE
  rw [if_neg (by rw [upE_nat hr hup]; simp)]; rfl
theorem dumpC_nat {A : Nt} {r : Nat} (hr : r < A.n) (hup : (A.rs r).dn = false) : dumpC A r = dumpN A r := by
  unfold dumpC
  rw [if_pos (upE_nat hr hup)]; rfl
theorem dump_again {A : Nt} {r : Nat} (hr : r < A.n) (hup : (A.rs r).dn = false) (k : Int) (hk : 0 < k) : dumpCE (failN A r k) r = 7 ∧ dumpC (failN A r k) r = failN A r (k - 1) := by
  have hu : ((failN A r k).rs r).dn = false := by rw [failN_same]; exact hup
  have hf : ((failN A r k).rs r).fa = k := by rw [failN_same]
  rw [dumpCE_nat (by exact hr) hu, dumpC_nat (by exact hr) hu]
  unfold dumpE dumpN
  rw [hf, if_pos hk, if_pos hk]
  exact ⟨rfl, failOnce_N A r k⟩
theorem dump_last {A : Nt} {r : Nat} (hr : r < A.n) (hup : (A.rs r).dn = false) : dumpCE (failN A r 0) r = 0 ∧ dumpC (failN A r 0) r = dumpTill A r := by
  have hu : ((failN A r 0).rs r).dn = false := by rw [failN_same]; exact hup
  have hf : ((failN A r 0).rs r).fa = 0 := by rw [failN_same]
  rw [dumpCE_nat (by exact hr) hu, dumpC_nat (by exact hr) hu]
  unfold dumpE dumpN
  rw [hf, if_neg (by omega), if_neg (by omega)]
  exact ⟨rfl, rfl⟩
section
variable {w : World} {B : Nat} {ρ : Nat → Part} {i bk bx bs : Nat} {A : Nt} {V : Nat → Nat → Value}
set_option maxHeartbeats 1000000 in
theorem kdumps (h : KI w B ρ i bk bx bs A V) (hn : ∀ k, w.heap.size ≤ k → ρ k = (0, 0)) (hB : B ≤ w.heap.size) (r : Nat) (hr : r < A.n) (hup : (A.rs r).dn = false) :
    Calls Try.prog 26 #[.pointer (some ⟨bk, 0, none⟩), .int .i64 r] w fun e w' => e = .returned (.bool true) ∧ PostK B i ρ bk bx bs (dumpTill A r) w w' := by
  have f0 := h.g.fa0 r hr
  have f3 := h.g.fa3 r hr
  obtain ⟨f, hf⟩ := Int.eq_ofNat_of_zero_le f0
  have f3' : f ≤ 3 := by omega
  have hA : failN A r ((f : Int) - (0 : Nat)) = A := by rw [← hf]; simpa using failN_self A r
  have h' : KI w B ρ i bk bx bs (failN A r ((f : Int) - (0 : Nat))) V := by rw [hA]; exact h
  have aR := Aft.below (i := i) (Below.refl w.heap.size w) hn
  clear h hA hf f0 f3
  go_enter Try.func26, Try.ntmps26
  go_wp2
  go_loopw [5] (fun j wr => ∃ k : Nat, k ≤ f ∧ j = .int .i64 k ∧ ∃ ρ' V', KI wr B ρ' i bk bx bs (failN A r ((f : Int) - (k : Nat))) V' ∧ Aft i ρ ρ' w wr) (fun j _ => 5 - (intOf j).toNat)
  case atStart => exact ⟨0, by omega, rfl, ρ, V, h', aR⟩
  case round =>
    obtain ⟨k, hk, rfl, ρ1, V1, q1, q2⟩ := hrel
    have hk4 : (k : Int) < 4 := by omega
    have c0 := q1.k0
    have z1 : B ≤ wr.heap.size := Nat.le_trans hB q2.only.size
    by_cases hkf : k < f
    · obtain ⟨e1, e2⟩ := dump_again (A := A) hr hup ((f : Int) - (k : Nat)) (by omega)
      have CX : Hid (Calls Try.prog 25 #[.pointer (some ⟨bx, 0, none⟩), .int .i64 r] wr fun e w' => e = .returned (.int .i64 7) ∧ PostK B i ρ1 bk bx bs (failN A r ((f : Int) - (k + 1 : Nat))) wr w') := by
        have := kdump q1 q2.new z1 r
        rw [e1, e2, show (f : Int) - (k : Nat) - 1 = (f : Int) - (k + 1 : Nat) by omega] at this
        exact this
      have Q2 : Hid (Aft i ρ ρ1 w wr) := q2
      clear q1 q2 e1 e2
      go_wp2_with (go_at_call 25; refine (CX.out).mono ?_; rintro e w1 ⟨rfl, ρ2, V2, t1, t2⟩)
      go_roundw
      case rel => exact ⟨k + 1, by omega, by go_num, ρ2, V2, t1, Q2.out.trans t2⟩
      case measure => simp [intOf]; omega
    · have e : k = f := by omega
      subst e
      obtain ⟨e1, e2⟩ := dump_last (A := A) hr hup
      have CX : Hid (Calls Try.prog 25 #[.pointer (some ⟨bx, 0, none⟩), .int .i64 r] wr fun e w' => e = .returned (.int .i64 0) ∧ PostK B i ρ1 bk bx bs (dumpTill A r) wr w') := by
        have := kdump q1 q2.new z1 r
        rw [show (k : Int) - (k : Nat) = 0 by omega, e1, e2] at this
        exact this
      have Q2 : Hid (Aft i ρ ρ1 w wr) := q2
      clear q1 q2 e1 e2
      go_wp2_with (go_at_call 25; refine (CX.out).mono ?_; rintro e w1 ⟨rfl, ρ2, V2, t1, t2⟩)
      go_ret
      exact ⟨rfl, ρ2, V2, t1, Q2.out.trans t2⟩
end
end Go.Proofs.Ytdoodnbobpijoaa

namespace Go.Proofs.Ytdoodnbobpijoaa
open Go.RowKit

theorem Good.same_nil {A : Nt} (g : Good A) (a : Nat) : A.wa a a = [] := by
  cases e : A.wa a a with
  | nil => rfl
  | cons m l => exact absurd rfl (g.wn a a m (by rw [e]; exact List.mem_cons_self)).2.2
theorem iterD_step {A : Nt} (g : Good A) {a b j : Nat} (ha : a < A.n) (hb : b < A.n) (hab : a ≠ b) (hj : j < (A.wa a b).length) : deliverC (iterD A a b j) a b 0 = iterD A a b (j + 1) := by
  obtain ⟨k1, k2, _⟩ := iterD_ok g a b j (by omega)
  have hm : msgE (iterD A a b j) a b 0 = 0 := by
    unfold msgE
    rw [k1.n, if_neg (by rw [pairE_nat ha hb hab]; simp), Int.toNat_natCast, Int.toNat_natCast, k2, List.length_drop, if_neg (by omega)]
  unfold deliverC
  rw [if_pos hm]; rfl
section
variable {w : World} {B : Nat} {ρ : Nat → Part} {i bk bx bs : Nat} {A : Nt} {V : Nat → Nat → Value}
set_option maxHeartbeats 2000000 in
theorem kall (h : KI w B ρ i bk bx bs A V) (hn : ∀ k, w.heap.size ≤ k → ρ k = (0, 0)) :
    Calls Try.prog 32 #[.pointer (some ⟨bk, 0, none⟩)] w fun e w' => e = .returned (.tuple #[]) ∧ PostK B i ρ bk bx bs (allN A) w w' := by
  have g0 : Hid (Good A) := h.g
  have n5 := h.g.n5
  have aR := Aft.below (i := i) (Below.refl w.heap.size w) hn
  go_enter Try.func32, Try.ntmps32
  go_wp2
  go_loopw [2] (fun v wr => ∃ a : Nat, a ≤ A.n ∧ v = .int .i64 a ∧ ∃ ρ' V', KI wr B ρ' i bk bx bs (allTo A a) V' ∧ Aft i ρ ρ' w wr) (fun v _ => A.n - (intOf v).toNat)
  case atStart => exact ⟨0, by omega, rfl, ρ, V, h, aR⟩
  case round =>
    obtain ⟨a, ha, rfl, ρ1, V1, q1, q2⟩ := hrel
    obtain ⟨wo, rfl⟩ : ∃ wo : World, wo = wr := ⟨_, rfl⟩
    have hna : (allTo A a).n = A.n := ((allTo_ok g0.out a).1).n
    have c1 := q1.k1
    rw [hna] at c1
    by_cases han : a < A.n
    · have han' : (a : Int) < (A.n : Int) := by omega
      have Q1 : Hid (KI wo B ρ1 i bk bx bs (allTo A a) V1) := q1
      have Q2 : Hid (Aft i ρ ρ1 w wo) := q2
      have G1 : Hid (Good (allTo A a)) := q1.g
      clear q1 q2
      go_wp2
      go_loopw [3] (fun v wr => ∃ b : Nat, b ≤ A.n ∧ v = .int .i64 b ∧ ∃ ρ' V', KI wr B ρ' i bk bx bs (allRow (allTo A a) a b) V' ∧ Aft i ρ ρ' w wr) (fun v _ => A.n - (intOf v).toNat)
      case atStart => exact ⟨0, by omega, rfl, ρ1, V1, Q1.out, Q2.out⟩
      case round =>
        obtain ⟨b, hb, rfl, ρ2, V2, q1, q2⟩ := hrel
        obtain ⟨wp, rfl⟩ : ∃ wp : World, wp = wr := ⟨_, rfl⟩
        have hnb : (allRow (allTo A a) a b).n = A.n := ((allRow_ok G1.out a b).1).n.trans hna
        have c2 := q1.k1
        rw [hnb] at c2
        by_cases hbn : b < A.n
        · have hbn' : (b : Int) < (A.n : Int) := by omega
          have Q3 : Hid (KI wp B ρ2 i bk bx bs (allRow (allTo A a) a b) V2) := q1
          have Q4 : Hid (Aft i ρ ρ2 w wp) := q2
          have G2 : Hid (Good (allRow (allTo A a) a b)) := q1.g
          have HR : Hid (allRow (allTo A a) a (b + 1) = drain (allRow (allTo A a) a b) a b) := rfl
          clear q1 q2
          generalize allRow (allTo A a) a b = M at *
          go_wp2
          go_loopw [4] (fun v wr => ∃ j : Nat, j ≤ (M.wa a b).length ∧ v = .int .i64 j ∧ ∃ ρ' V', KI wr B ρ' i bk bx bs (iterD M a b j) V' ∧ Aft i ρ ρ' w wr) (fun v _ => 10 - (intOf v).toNat)
          case atStart => exact ⟨0, by omega, rfl, ρ2, V2, Q3.out, Q4.out⟩
          case round =>
            obtain ⟨j, hj, rfl, ρ3, V3, q1, q2⟩ := hrel
            have h6 := G2.out.wl a b
            have hj10 : (j : Int) < 10 := by omega
            by_cases hab : a = b
            · subst hab
              have hl : (M.wa a a).length = 0 := by rw [G2.out.same_nil]; rfl
              have e0 : j = 0 := by omega
              subst e0
              have Q5 : Hid (KI wr B ρ3 i bk bx bs (drain M a a) V3) := by
                show KI wr B ρ3 i bk bx bs (iterD M a a (M.wa a a).length) V3
                rw [hl]; exact q1
              have Q6 : Hid (Aft i ρ ρ3 w wr) := q2
              clear q1 q2 hl
              go_wp2
              go_roundw
              case rel => exact ⟨a + 1, by omega, by go_num, ρ3, V3, by rw [HR.out]; exact Q5.out, Q6.out⟩
              case measure => simp [intOf]; omega
            · have hab' : ((a : Int) == (b : Int)) = false := by rw [beq_eq_false_iff_ne]; omega
              have hab2 : ((a : Int) != (b : Int)) = true := by simp; omega
              obtain ⟨k1, k2, _⟩ := iterD_ok G2.out a b j hj
              have hnj : (iterD M a b j).n = A.n := k1.n.trans hnb
              have hwl : ((iterD M a b j).wa a b).length = (M.wa a b).length - j := by rw [k2, List.length_drop]
              by_cases hjl : j < (M.wa a b).length
              · have CW : Hid (Calls Try.prog 55 #[.pointer (some ⟨bk, 0, none⟩), .int .i64 a, .int .i64 b] wr fun e w' => e = .returned (.bool true) ∧ wr = w') := by
                  have := kwaits q1 a b (by omega) (by omega) hab
                  rw [decide_eq_true (by omega)] at this
                  exact this
                have CX : Hid (Calls Try.prog 34 #[.pointer (some ⟨bx, 0, none⟩), .int .i64 a, .int .i64 b, .int .i64 0] wr fun e w' => e = .returned (.int .i64 (msgE (iterD M a b j) a b 0)) ∧ PostK B i ρ3 bk bx bs (iterD M a b (j + 1)) wr w') := by
                  have := kdeliver q1 q2.new a b 0
                  rw [iterD_step G2.out (by omega) (by omega) hab hjl] at this
                  exact this
                have c0 := q1.k0
                have Q6 : Hid (Aft i ρ ρ3 w wr) := q2
                clear q1 q2 k1 k2
                go_wp2_with (first | (go_at_call 55; refine (CW.out).mono ?_; rintro e w' ⟨rfl, rfl⟩) | (go_at_call 34; refine (CX.out).mono ?_; rintro e w1 ⟨rfl, ρ4, V4, t1, t2⟩))
                go_roundw
                case rel => exact ⟨j + 1, by omega, by go_num, ρ4, V4, t1, Q6.out.trans t2⟩
                case measure => simp [intOf]; omega
              · have CW : Hid (Calls Try.prog 55 #[.pointer (some ⟨bk, 0, none⟩), .int .i64 a, .int .i64 b] wr fun e w' => e = .returned (.bool false) ∧ wr = w') := by
                  have := kwaits q1 a b (by omega) (by omega) hab
                  rw [decide_eq_false (by omega)] at this
                  exact this
                have ej : j = (M.wa a b).length := by omega
                have Q5 : Hid (KI wr B ρ3 i bk bx bs (drain M a b) V3) := by
                  show KI wr B ρ3 i bk bx bs (iterD M a b (M.wa a b).length) V3
                  rw [← ej]; exact q1
                have Q6 : Hid (Aft i ρ ρ3 w wr) := q2
                clear q1 q2 k1 k2 ej
                go_wp2_with (go_at_call 55; refine (CW.out).mono ?_; rintro e w' ⟨rfl, rfl⟩)
                go_roundw
                case rel => exact ⟨b + 1, by omega, by go_num, ρ3, V3, by rw [HR.out]; exact Q5.out, Q6.out⟩
                case measure => simp [intOf]; omega
        · have e : b = A.n := by omega
          subst e
          have Q5 : Hid (KI wp B ρ2 i bk bx bs (allTo A (a + 1)) V2) := q1
          have Q6 : Hid (Aft i ρ ρ2 w wp) := q2
          clear q1 q2
          go_wp2
          go_roundw
          case rel => exact ⟨a + 1, by omega, by go_num, ρ2, V2, Q5.out, Q6.out⟩
          case measure => simp [intOf]; omega
    · have e : a = A.n := by omega
      subst e
      have Q5 : Hid (KI wo B ρ1 i bk bx bs (allN A) V1) := q1
      have Q6 : Hid (Aft i ρ ρ1 w wo) := q2
      clear q1 q2
      go_wp2
      go_end0
      exact ⟨rfl, ρ1, V1, Q5.out, Q6.out⟩
end
end Go.Proofs.Ytdoodnbobpijoaa

namespace Go.Proofs.Ytdoodnbobpijoaa
open Go.RowKit

def netA (bx n : Nat) : Array Value := #[.pointer (some ⟨bx, 0, none⟩), .int .i64 n, I 0, I 0, I 0, I 0, I 0, I 0, I 0, I 0, I 0, I 0, I 0, I 0, I 0, I 0, I 0, I 0, I 0, I 0, I 0, I 0, I 0, I 0, I 0, I 0, I 0]
theorem netA_c (bx n k : Nat) (h : k < 25) : (netA bx n)[2 + k]? = some (I 0) := by
  have key : ∀ k, k < 25 → (netA bx n)[2 + k]? = some (I 0) := by
    intro k hk
    rcases (by omega : k = 0 ∨ k = 1 ∨ k = 2 ∨ k = 3 ∨ k = 4 ∨ k = 5 ∨ k = 6 ∨ k = 7 ∨ k = 8 ∨ k = 9 ∨ k = 10 ∨ k = 11 ∨ k = 12 ∨ k = 13 ∨ k = 14 ∨ k = 15 ∨ k = 16 ∨ k = 17 ∨ k = 18 ∨ k = 19 ∨ k = 20 ∨ k = 21 ∨ k = 22 ∨ k = 23 ∨ k = 24) with rfl | rfl | rfl | rfl | rfl | rfl | rfl | rfl | rfl | rfl | rfl | rfl | rfl | rfl | rfl | rfl | rfl | rfl | rfl | rfl | rfl | rfl | rfl | rfl | rfl <;> rfl
  exact key k h
theorem kn_new {w w1 : World} {B : Nat} {ρ : Nat → Part} {i bx bs n : Nat} (h2 : 2 ≤ n) (h5 : n ≤ 5) (hP : PN w1 bx bs (newN n) (fun _ _ => .slice none 0 0)) (lx : w.heap.size ≤ bx) (ls : w.heap.size ≤ bs) (b1 : Below w.heap.size w w1) (hn : ∀ k, w.heap.size ≤ k → ρ k = (0, 0)) :
    PostK B i ρ w1.heap.size bx bs (newN n) w (w1.alloc (.cells (netA bx n) 39)) := by
  have l1 := hP.lt
  have l2 := hP.lts (by show 0 < n; omega)
  have ne := hP.ne
  have z1 := b1.size
  have b2 : Below w1.heap.size w1 (w1.alloc (.cells (netA bx n) 39)) := (Below.refl _ _).alloc (Nat.le_refl _) _
  have nw := Whole.new w1 39 (netA bx n)
  refine ⟨fun k => if k = bx then (i + 1, 0) else if k = bs then (i + 1, 1) else if k = w1.heap.size then (i + 1, 2) else ρ k, fun _ _ => .slice none 0 0, ⟨Good.new n h2 h5, hP.below (by show 0 < n; omega) b2, newWR _ _ _ _ _ _, by simp only [if_true], by simp only [ne.symm, if_false, if_true], ?_, nw.cell 0, nw.cell 1, fun a b ha hb => ?_, fun o => nw.frozen o⟩, Only.ofBelow (b1.trans (b2.mono z1)), fun k hk => ?_, fun k hk => ?_⟩
  · show (if w1.heap.size = bx then _ else _) = _
    rw [if_neg (by omega), if_neg (by omega), if_pos rfl]
  · have := nw.cell (2 + (a * 5 + b))
    rw [netA_c bx n (a * 5 + b) (by omega)] at this
    rw [Nat.add_assoc]; exact this
  · show (if k = bx then _ else _) = _
    rw [if_neg (by omega), if_neg (by omega), if_neg (by omega)]
  · have hk' : w1.heap.size + 1 ≤ k := by simpa using hk
    show (if k = bx then _ else _) = _
    rw [if_neg (by omega), if_neg (by omega), if_neg (by omega)]
    exact hn k (by omega)
theorem row_form {w : World} {B e s n : Nat} {v : Value} {xs : List Value} (h : w.ownsRow B e s v n xs) : ∃ ad cap, v = .slice ad n cap := by
  rcases h.2 with ⟨h1, h2⟩ | ⟨g, cap, cur, hv, _⟩
  · exact ⟨none, 0, by rw [h1, h2]⟩
  · exact ⟨_, cap, hv⟩
theorem laidD_succ {A : Nt} {n : Nat} (hA : A.n = n) (k : Nat) : laidD A (k + 1) = loses (deliverC (dumpC (laidD A k) (n - 1 - k : Nat)) (n - 1 - k : Nat) ((n - 1 - k : Nat) - 1 : Int) 0) (n - 1 - k) (if n - 1 - k + 1 < n then 3 else 0) := by subst hA; rfl
section
variable {w : World} {B : Nat} {ρ : Nat → Part} {i : Nat}
set_option maxRecDepth 4000 in
set_option maxHeartbeats 2000000 in
theorem klaid (size : Int) (n : Nat) (hs0 : -9223372036854775808 ≤ size) (hs1 : size ≤ 9223372036854775807) (hsz : 2 + pickI size 4 = (n : Int)) (hn : ∀ k, w.heap.size ≤ k → ρ k = (0, 0)) (hB : B ≤ w.heap.size) :
    Calls Try.prog 14 #[.int .i64 size] w fun e w' => ∃ bk bx bs, e = .returned (.pointer (some ⟨bk, 0, none⟩)) ∧ PostK B i ρ bk bx bs (laidN n) w w' := by
  have hp := pickI_ok size 4 (by omega)
  have h2 : 2 ≤ n := by omega
  have h5 : n ≤ 5 := by omega
  have PS : Hid (∀ W, Calls Try.prog 20 #[.int .i64 size, .int .i64 4] W fun e w' => e = .returned (.int .i64 ((n : Int) - 2)) ∧ W = w') := fun W => by
    have := kpick size 4 W hs0 hs1 (by omega) (by omega)
    rw [show pickI size 4 = (n : Int) - 2 by omega] at this
    exact this
  have n2' : ¬ (n : Int) < 2 := by omega
  have n5' : ¬ (5 : Int) < (n : Int) := by omega
  have en : (2 : Int) + ((n : Int) - 2) = (n : Int) := by omega
  clear hp hsz
  go_enter Try.func14, Try.ntmps14
  go_wp2_with fail
  refine ((PS.out) _).mono ?_
  rintro e w' ⟨rfl, rfl⟩
  go_wp2_with fail
  refine (pnew_ok n _ h2 h5).mono ?_
  rintro e w1 ⟨bx, bs, lx, ls, rfl, p1, b1⟩
  go_wp2_with fail
  have K1 : PostK B i ρ w1.heap.size bx bs (newN n) w (w1.alloc (.cells (netA bx n) 39)) := kn_new h2 h5 p1 lx ls b1 hn
  generalize w1.heap.size = bk at K1 ⊢
  have hL := fun k => laidL_ok n h2 h5 k
  have HC : Hid (∀ k, k < n - 1 → dumpCE (laidD (laidL n (n - 1)) k) (n - 1 - k : Nat) = 0 ∧ msgE (dumpC (laidD (laidL n (n - 1)) k) (n - 1 - k : Nat)) (n - 1 - k : Nat) ((n - 1 - k : Nat) - 1 : Int) 0 = 0) := laid_calls n h2 h5
  have HT : Hid ((trace (laidN n) 0 (n - 1)).length = n) := laid_trace n h2 h5
  have HG : Hid (Good (laidN n) ∧ (laidN n).n = n) := laid_good n h2 h5
  go_loopw [7] (fun v wr => ∃ k : Nat, k ≤ n - 1 ∧ v = .int .i64 k ∧ ∃ ρ' V', KI wr B ρ' i bk bx bs (laidL n k) V' ∧ Aft i ρ ρ' w wr) (fun v _ => n - (intOf v).toNat)
  case atStart =>
    obtain ⟨ρ1, V1, q1, q2⟩ := K1
    exact ⟨0, by omega, rfl, ρ1, V1, q1, q2⟩
  case round =>
    clear K1 p1 b1 lx ls
    obtain ⟨k, hk, rfl, ρ1, V1, q1, q2⟩ := hrel
    by_cases hkn : k < n - 1
    · have hk' : (k : Int) + 1 < (n : Int) := by omega
      have CX : Hid (Calls Try.prog 39 #[.pointer (some ⟨bk, 0, none⟩), .int .i64 k, .int .i64 ((k : Int) + 1), .int .i64 (1 + (k : Int))] wr fun e w' => e = .returned (.bool true) ∧ PostK B i ρ1 bk bx bs (laidL n (k + 1)) wr w') := klinks q1 q2.new k (k + 1) (1 + (k : Int)) (by rw [(hL k).2]; omega) (by rw [(hL k).2]; omega) (by omega) (by omega) (by omega)
      have Q2 : Hid (Aft i ρ ρ1 w wr) := q2
      clear q1 q2 hL
      go_wp2_with (go_at_call 39; refine (CX.out).mono ?_; rintro e w2 ⟨rfl, ρ2, V2, t1, t2⟩)
      go_roundw
      case rel => exact ⟨k + 1, by omega, by go_num, ρ2, V2, t1, Q2.out.trans t2⟩
      case measure => simp [intOf]; omega
    · have e : k = n - 1 := by omega
      subst e
      have hk' : ¬ ((n - 1 : Nat) : Int) + 1 < (n : Int) := by omega
      have hA : (laidL n (n - 1)).n = n := (hL (n - 1)).2
      have Q1 : Hid (KI wr B ρ1 i bk bx bs (laidL n (n - 1)) V1) := q1
      have Q2 : Hid (Aft i ρ ρ1 w wr) := q2
      clear q1 q2 hL
      generalize hLe : laidL n (n - 1) = L at *
      have HLe : Hid (laidN n = laidD L (n - 1)) := by
        show laidD (laidL n (n - 1)) (n - 1) = laidD L (n - 1)
        rw [hLe]
      clear hLe
      obtain ⟨wo, rfl⟩ : ∃ wo : World, wo = wr := ⟨_, rfl⟩
      have en1 : (n : Int) - 1 = ((n - 1 : Nat) : Int) := by omega
      go_wp2
      go_loopw [9] (fun v wr => ∃ m k : Nat, k + m = n - 1 ∧ v = .int .i64 m ∧ ∃ ρ' V', KI wr B ρ' i bk bx bs (laidD L k) V' ∧ Aft i ρ ρ' w wr) (fun v _ => (intOf v).toNat)
      case atStart => exact ⟨n - 1, 0, by omega, by rw [← en1], ρ1, V1, Q1.out, Q2.out⟩
      case round =>
        clear Q1 Q2
        obtain ⟨m, k, hkm, rfl, ρ2, V2, q1, q2⟩ := hrel
        by_cases hm : 0 < m
        · have hm' : (0 : Int) < (m : Int) := by omega
          obtain ⟨e1, e2⟩ := HC.out k (by omega)
          have ek : n - 1 - k = m := by omega
          rw [ek] at e1 e2
          have z1 : B ≤ wr.heap.size := Nat.le_trans hB q2.only.size
          have CX : Hid (Calls Try.prog 25 #[.pointer (some ⟨bx, 0, none⟩), .int .i64 m] wr fun e w' => e = .returned (.int .i64 0) ∧ PostK B i ρ2 bk bx bs (dumpC (laidD L k) m) wr w') := by
            have := kdump q1 q2.new z1 m
            rw [e1] at this
            exact this
          have CY : Hid (∀ (W : World) (ρ' : Nat → Part) V', KI W B ρ' i bk bx bs (dumpC (laidD L k) m) V' → (∀ j, W.heap.size ≤ j → ρ' j = (0, 0)) → Calls Try.prog 34 #[.pointer (some ⟨bx, 0, none⟩), .int .i64 m, .int .i64 ((m : Int) - 1), .int .i64 0] W fun e w' => e = .returned (.int .i64 0) ∧ PostK B i ρ' bk bx bs (deliverC (dumpC (laidD L k) m) m ((m : Int) - 1) 0) W w') := fun W ρ' V' hK hn' => by
            have := kdeliver hK hn' m ((m : Int) - 1) 0
            rw [e2] at this
            exact this
          have HS : Hid (laidD L (k + 1) = loses (deliverC (dumpC (laidD L k) m) m ((m : Int) - 1) 0) m (if m + 1 < n then 3 else 0)) := by
            show laidD L (k + 1) = loses (deliverC (dumpC (laidD L k) m) m ((m : Int) - 1) 0) m (if m + 1 < n then 3 else 0)
            rw [laidD_succ hA k, ek]
          have Q2 : Hid (Aft i ρ ρ2 w wr) := q2
          clear q1 q2 e1 e2
          generalize deliverC (dumpC (laidD L k) m) m ((m : Int) - 1) 0 = D at *
          go_wp2_with (first | (go_at_call 25; refine (CX.out).mono ?_; rintro e w2 ⟨rfl, ρ3, V3, t1, t2⟩) | (go_at_call 34; refine (CY.out _ _ _ t1 t2.new).mono ?_; rintro e w3 ⟨rfl, ρ4, V4, t3, t4⟩))
          have Q4 : Hid (Aft i ρ ρ4 w w3) := (Q2.out.trans t2).trans t4
          have Q3 : Hid (KI w3 B ρ4 i bk bx bs D V4) := t3
          clear t1 t2 t3 t4 CX CY
          obtain ⟨wp, rfl⟩ : ∃ wp : World, wp = wr := ⟨_, rfl⟩
          go_loopw [12] (fun v wr => ∃ c : Nat, c ≤ (if m + 1 < n then 3 else 0) ∧ v = .int .i64 c ∧ ∃ ρ' V', KI wr B ρ' i bk bx bs (loses D m c) V' ∧ Aft i ρ ρ' w wr) (fun v _ => 4 - (intOf v).toNat)
          case atStart => exact ⟨0, by omega, rfl, ρ4, V4, Q3.out, Q4.out⟩
          case round =>
            obtain ⟨c, hc, rfl, ρ5, V5, q1, q2⟩ := hrel
            by_cases hmn : m + 1 < n
            · rw [if_pos hmn] at hc HS
              have hmn' : (m : Int) + 1 < (n : Int) := by omega
              by_cases hc3 : c < 3
              · have hc3' : (c : Int) < 3 := by omega
                have CX : Hid (Calls Try.prog 40 #[.pointer (some ⟨bx, 0, none⟩), .int .i64 m, .int .i64 ((m : Int) + 1), .int .i64 0] wr fun e w' => e = .returned (.int .i64 (msgE (loses D m c) m ((m : Int) + 1) 0)) ∧ PostK B i ρ5 bk bx bs (loses D m (c + 1)) wr w') := klose q1 q2.new m ((m : Int) + 1) 0
                have Q6 : Hid (Aft i ρ ρ5 w wr) := q2
                clear q1 q2
                go_wp2_with (go_at_call 40; refine (CX.out).mono ?_; rintro e w4 ⟨rfl, ρ6, V6, t1, t2⟩)
                go_roundw
                case rel => exact ⟨c + 1, by rw [if_pos hmn]; omega, by go_num, ρ6, V6, t1, Q6.out.trans t2⟩
                case measure => simp [intOf]; omega
              · have e : c = 3 := by omega
                subst e
                have Q5 : Hid (KI wr B ρ5 i bk bx bs (laidD L (k + 1)) V5) := by rw [HS.out]; exact q1
                have Q6 : Hid (Aft i ρ ρ5 w wr) := q2
                clear q1 q2
                go_wp2
                go_roundw
                case rel => exact ⟨m - 1, k + 1, by omega, by rw [show ((m - 1 : Nat) : Int) = (m : Int) - 1 by omega], ρ5, V5, Q5.out, Q6.out⟩
                case measure => simp [intOf]; omega
            · rw [if_neg hmn] at hc HS
              have hmn' : ¬ (m : Int) + 1 < (n : Int) := by omega
              have e : c = 0 := by omega
              subst e
              have Q5 : Hid (KI wr B ρ5 i bk bx bs (laidD L (k + 1)) V5) := by rw [HS.out]; exact q1
              have Q6 : Hid (Aft i ρ ρ5 w wr) := q2
              clear q1 q2
              go_wp2
              go_roundw
              case rel => exact ⟨m - 1, k + 1, by omega, by rw [show ((m - 1 : Nat) : Int) = (m : Int) - 1 by omega], ρ5, V5, Q5.out, Q6.out⟩
              case measure => simp [intOf]; omega
        · have e : m = 0 := by omega
          subst e
          have ek : k = n - 1 := by omega
          subst ek
          have Q1 : Hid (KI wr B ρ2 i bk bx bs (laidN n) V2) := by rw [HLe.out]; exact q1
          have Q2 : Hid (Aft i ρ ρ2 w wr) := q2
          clear q1 q2
          have hb1 : isB (laidN n).n 0 = true ∧ isB (laidN n).n ((n - 1 : Nat) : Int) = true := by
            rw [HG.out.2]
            exact ⟨isB_nat (r := 0) (by omega), isB_nat (r := n - 1) (by omega)⟩
          have CX : Hid (Calls Try.prog 19 #[.pointer (some ⟨bx, 0, none⟩), .int .i64 0, .int .i64 ((n - 1 : Nat) : Int)] wr fun e w' => ∃ ad cap, e = .returned (.tuple #[.slice ad n cap, .int .i64 0]) ∧ Below wr.heap.size wr w') := by
            refine (ktrace Q1.out 0 ((n - 1 : Nat) : Int)).mono ?_
            rintro e w' ⟨nv, h1, h2, h3⟩
            have hE : traceE (laidN n) 0 ((n - 1 : Nat) : Int) = 0 := by unfold traceE; rw [if_pos hb1]
            have hT : traceL (laidN n) 0 ((n - 1 : Nat) : Int) = trace (laidN n) 0 (n - 1) := by unfold traceL; rw [if_pos hb1]; rfl
            rw [hT, HT.out] at h2
            rw [hE] at h1
            obtain ⟨ad, cap, hv⟩ := row_form h2
            exact ⟨ad, cap, by rw [h1, hv], h3⟩
          clear hb1
          have hnn : ((n : Int) != (n : Int)) = false := by simp
          go_wp2_with (go_at_call 19; refine (CX.out).mono ?_; rintro e w2 ⟨ad, cap, rfl, b2⟩)
          go_ret
          exact ⟨bk, bx, bs, rfl, ρ2, V2, Q1.out.below b2, Q2.out.trans (Aft.below b2 Q2.out.new)⟩
end
end Go.Proofs.Ytdoodnbobpijoaa

