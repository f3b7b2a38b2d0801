import Derived.Test.YtdoodnbobpijoaaBunX
import Derived.Test.YtdoodnbobpijoaaPcr
import Derived.Test.YtdoodnbobpijoaaPnew
import Derived.Test.YtdoodnbobpijoaaBunD
import Derived.Test.YtdoodnbobpijoaaRefQ
import Derived.Test.YtdoodnbobpijoaaBunB
import Derived.Test.YtdoodnbobpijoaaRefJ
import Derived.ProofKit
import Derived.OpenShut
import Derived.ChangeOld
import Derived.Below
import Derived.SizedLaws
import Derived.Deep.Slices
namespace Go.Proofs.Ytdoodnbobpijoaa
open Go.RowKit

/-! ### One net, on both sides -/
theorem Only.mono {S T : Nat → Prop} {w w' : World} (h : Only S w w') (hT : ∀ k, k < w.heap.size → S k → T k) : Only T w w' := ⟨h.os, h.tape, h.output, h.size, fun k hk hs => h.block k hk (fun hS => hs (hT k hk hS))⟩
def tgx (i : Nat) : Nat → Nat → Part := fun a c => (i + 1, 3 + a * 5 + c)
def tgr (i : Nat) : Nat → Nat → Part := fun a c => (i + 1, 28 + a * 5 + c)
theorem tgx_ok (i : Nat) : TgOk (tgx i) :=
  ⟨fun a c a' c' _ hc _ hc' h => by have := congrArg Prod.snd h; simp only [tgx] at this; omega, fun a c h => by have := congrArg Prod.fst h; simp [tgx] at this⟩
theorem tgr_ok (i : Nat) : TgOk (tgr i) :=
  ⟨fun a c a' c' _ hc _ hc' h => by have := congrArg Prod.snd h; simp only [tgr] at this; omega, fun a c h => by have := congrArg Prod.fst h; simp [tgr] at this⟩
structure NetH (w : World) (B : Nat) (ρ : Nat → Part) (i bx bs br : Nat) (Ax Ar : Nt) (Vx Vr : Nat → Nat → Value) : Prop where
  gx : Good Ax
  gr : Good Ar
  p : PN w bx bs (bl Ax) Vx
  r : RN w br Ar Vr
  wx : WR w B 104 ρ (tgx i) Vx Ax.wa
  wr : WR w B 164 ρ (tgr i) Vr Ar.wa
  px : ρ bx = (i + 1, 0)
  ps : ρ bs = (i + 1, 1)
  pr : ρ br = (i + 1, 2)
theorem NetH.n0 {w : World} {B : Nat} {ρ : Nat → Part} {i bx bs br : Nat} {Ax Ar : Nt} {Vx Vr : Nat → Nat → Value} (h : NetH w B ρ i bx bs br Ax Ar Vx Vr) : 0 < Ax.n := by have := h.gx.n2; omega
theorem NetH.hbx {w : World} {B : Nat} {ρ : Nat → Part} {i bx bs br : Nat} {Ax Ar : Nt} {Vx Vr : Nat → Nat → Value} (h : NetH w B ρ i bx bs br Ax Ar Vx Vr) : ∀ a c, ρ bx ≠ tgx i a c := fun a c e => by rw [h.px] at e; have := congrArg Prod.snd e; simp only [tgx] at this; omega
theorem NetH.hbs {w : World} {B : Nat} {ρ : Nat → Part} {i bx bs br : Nat} {Ax Ar : Nt} {Vx Vr : Nat → Nat → Value} (h : NetH w B ρ i bx bs br Ax Ar Vx Vr) : ∀ a c, ρ bs ≠ tgx i a c := fun a c e => by rw [h.ps] at e; have := congrArg Prod.snd e; simp only [tgx] at this; omega
theorem NetH.hbr {w : World} {B : Nat} {ρ : Nat → Part} {i bx bs br : Nat} {Ax Ar : Nt} {Vx Vr : Nat → Nat → Value} (h : NetH w B ρ i bx bs br Ax Ar Vx Vr) : ∀ a c, ρ br ≠ tgr i a c := fun a c e => by rw [h.pr] at e; have := congrArg Prod.snd e; simp only [tgr] at this; omega
/-- What a call on net i leaves. -/
structure Aft (i : Nat) (ρ ρ' : Nat → Part) (w w' : World) : Prop where
  only : Only (fun k => (ρ k).1 = i + 1) w w'
  old : ∀ k, k < w.heap.size → ρ' k = ρ k
  new : ∀ k, w'.heap.size ≤ k → ρ' k = (0, 0)
theorem Aft.trans {i : Nat} {ρ ρ1 ρ2 : Nat → Part} {a b c : World} (h : Aft i ρ ρ1 a b) (k : Aft i ρ1 ρ2 b c) : Aft i ρ ρ2 a c :=
  ⟨h.only.trans k.only (fun j hj hT => by rw [h.old j hj] at hT; exact hT), fun j hj => (k.old j (Nat.lt_of_lt_of_le hj h.only.size)).trans (h.old j hj), k.new⟩
theorem Aft.below {i : Nat} {ρ : Nat → Part} {w w' : World} (h : Below w.heap.size w w') (hnew : ∀ k, w.heap.size ≤ k → ρ k = (0, 0)) : Aft i ρ ρ w w' :=
  ⟨Only.ofBelow h, fun _ _ => rfl, fun k hk => hnew k (Nat.le_trans h.size hk)⟩
theorem NetH.of {w w' : World} {B : Nat} {ρ ρ' : Nat → Part} {i bx bs br : Nat} {Ax Ar : Nt} {Vx Vr : Nat → Nat → Value} (h : NetH w B ρ i bx bs br Ax Ar Vx Vr) (hb : ∀ k, k < w.heap.size → (ρ k).1 = i + 1 → w'.heap[k]? = w.heap[k]?) (hρ : ∀ k, k < w.heap.size → ρ' k = ρ k) : NetH w' B ρ' i bx bs br Ax Ar Vx Vr := by
  have l1 := h.p.lt
  have l2 := h.p.lts h.n0
  have l3 := h.r.lt
  exact ⟨h.gx, h.gr, h.p.of (hb _ l1 (by rw [h.px])) (hb _ l2 (by rw [h.ps])), h.r.of (hb _ l3 (by rw [h.pr])), h.wx.of (fun k a c hk _ _ hp => hb k hk (by rw [hp]; rfl)) hρ, h.wr.of (fun k a c hk _ _ hp => hb k hk (by rw [hp]; rfl)) hρ, by rw [hρ _ l1]; exact h.px, by rw [hρ _ l2]; exact h.ps, by rw [hρ _ l3]; exact h.pr⟩
theorem NetH.below {w w' : World} {B : Nat} {ρ : Nat → Part} {i bx bs br : Nat} {Ax Ar : Nt} {Vx Vr : Nat → Nat → Value} (h : NetH w B ρ i bx bs br Ax Ar Vx Vr) (hb : Below w.heap.size w w') : NetH w' B ρ i bx bs br Ax Ar Vx Vr := h.of (fun k hk _ => hb.block k hk) (fun _ _ => rfl)
/-- The program's half turned. -/
theorem NetH.prog {w w1 : World} {B : Nat} {ρ ρ1 : Nat → Part} {i bx bs br : Nat} {Ax Ar Ax' : Nt} {Vx Vr Vx' : Nat → Nat → Value} (h : NetH w B ρ i bx bs br Ax Ar Vx Vr) (g : Good Ax') (p : PN w1 bx bs (bl Ax') Vx') (wx : WR w1 B 104 ρ1 (tgx i) Vx' Ax'.wa) (t : TurnP bx bs (tgx i) ρ ρ1 w w1) :
    NetH w1 B ρ1 i bx bs br Ax' Ar Vx' Vr ∧ Aft i ρ ρ1 w w1 := by
  have l1 := h.p.lt
  have l2 := h.p.lts h.n0
  have l3 := h.r.lt
  have hm : ∀ k, ρ k = (i + 1, 2) ∨ (∃ a c, a < 5 ∧ c < 5 ∧ ρ k = tgr i a c) → ¬ MineP bx bs ρ (tgx i) k := fun k hk hM => by
    rcases hM with e | e | ⟨a, c, ha, hc, e⟩
    · rw [e, h.ps] at hk
      rcases hk with hk | ⟨a, c, _, _, hk⟩
      · simp at hk
      · have := congrArg Prod.snd hk; simp only [tgr] at this; omega
    · rw [e, h.px] at hk
      rcases hk with hk | ⟨a, c, _, _, hk⟩
      · simp at hk
      · have := congrArg Prod.snd hk; simp only [tgr] at this; omega
    · rw [e] at hk
      rcases hk with hk | ⟨a', c', _, _, hk⟩
      · have := congrArg Prod.snd hk; simp only [tgx] at this; omega
      · have := congrArg Prod.snd hk; simp only [tgx, tgr] at this; omega
  refine ⟨⟨g, h.gr, p, h.r.of (t.only.block br l3 (hm br (.inl h.pr))), wx, h.wr.of (fun k a c hk ha hc hp => t.only.block k hk (hm k (.inr ⟨a, c, ha, hc, hp⟩))) t.old, by rw [t.old _ l1]; exact h.px, by rw [t.old _ l2]; exact h.ps, by rw [t.old _ l3]; exact h.pr⟩, t.only.mono fun k _ hM => ?_, t.old, t.new⟩
  rcases hM with e | e | ⟨a, c, _, _, e⟩
  · rw [e, h.ps]
  · rw [e, h.px]
  · rw [e]; rfl
/-- The reference's half turned. -/
theorem NetH.ref {w w1 : World} {B : Nat} {ρ ρ1 : Nat → Part} {i bx bs br : Nat} {Ax Ar Ar' : Nt} {Vx Vr Vr' : Nat → Nat → Value} (h : NetH w B ρ i bx bs br Ax Ar Vx Vr) (g : Good Ar') (r : RN w1 br Ar' Vr') (wr : WR w1 B 164 ρ1 (tgr i) Vr' Ar'.wa) (t : Turn br (tgr i) ρ ρ1 w w1) :
    NetH w1 B ρ1 i bx bs br Ax Ar' Vx Vr' ∧ Aft i ρ ρ1 w w1 := by
  have l1 := h.p.lt
  have l2 := h.p.lts h.n0
  have l3 := h.r.lt
  have hm : ∀ k, (ρ k = (i + 1, 0) ∨ ρ k = (i + 1, 1)) ∨ (∃ a c, a < 5 ∧ c < 5 ∧ ρ k = tgx i a c) → ¬ Mine br ρ (tgr i) k := fun k hk hM => by
    rcases hM with e | ⟨a, c, ha, hc, e⟩
    · rw [e, h.pr] at hk
      rcases hk with (hk | hk) | ⟨a, c, _, _, hk⟩
      · simp at hk
      · simp at hk
      · have := congrArg Prod.snd hk; simp only [tgx] at this; omega
    · rw [e] at hk
      rcases hk with (hk | hk) | ⟨a', c', _, _, hk⟩
      · have := congrArg Prod.snd hk; simp only [tgr] at this; omega
      · have := congrArg Prod.snd hk; simp only [tgr] at this; omega
      · have := congrArg Prod.snd hk; simp only [tgx, tgr] at this; omega
  refine ⟨⟨h.gx, g, h.p.of (t.only.block bx l1 (hm bx (.inl (.inl h.px)))) (t.only.block bs l2 (hm bs (.inl (.inr h.ps)))), r, h.wx.of (fun k a c hk ha hc hp => t.only.block k hk (hm k (.inr ⟨a, c, ha, hc, hp⟩))) t.old, wr, by rw [t.old _ l1]; exact h.px, by rw [t.old _ l2]; exact h.ps, by rw [t.old _ l3]; exact h.pr⟩, t.only.mono fun k _ hM => ?_, t.old, t.new⟩
  rcases hM with e | ⟨a, c, _, _, e⟩
  · rw [e, h.pr]
  · rw [e]; rfl
structure NetD where
  bx : Nat
  bs : Nat
  br : Nat
  A : Nt
  Vx : Nat → Nat → Value
  Vr : Nat → Nat → Value
abbrev NetI (w : World) (B : Nat) (ρ : Nat → Part) (i : Nat) (N : NetD) : Prop := NetH w B ρ i N.bx N.bs N.br N.A N.A N.Vx N.Vr
/-! ### Each call, on the program and on the document's answer, in one form -/
section
variable {B i : Nat} {ρ : Nat → Part} {bx bs br : Nat} {Ax Ar : Nt} {Vx Vr : Nat → Nat → Value} {w : World}
/-- What a call of the program leaves. -/
abbrev PostP (B i : Nat) (ρ : Nat → Part) (bx bs : Nat) (A' : Nt) (w w' : World) : Prop := ∃ ρ' V', PN w' bx bs (bl A') V' ∧ WR w' B 104 ρ' (tgx i) V' A'.wa ∧ TurnP bx bs (tgx i) ρ ρ' w w'
abbrev PostR (B i : Nat) (ρ : Nat → Part) (br : Nat) (A' : Nt) (w w' : World) : Prop := ∃ ρ' V', RN w' br A' V' ∧ WR w' B 164 ρ' (tgr i) V' A'.wa ∧ Turn br (tgr i) ρ ρ' w w'
theorem NetH.postP (h : NetH w B ρ i bx bs br Ax Ar Vx Vr) (hn : ∀ k, w.heap.size ≤ k → ρ k = (0, 0)) {A' : Nt} {w' : World} (hw : A'.wa = Ax.wa) (p : PN w' bx bs (bl A') Vx) (o : Only (Two bx bs) w w') : PostP B i ρ bx bs A' w w' :=
  ⟨ρ, Vx, p, by rw [hw]; exact h.wx.two h.hbx h.hbs o, TurnP.two hn o⟩
theorem NetH.postR (h : NetH w B ρ i bx bs br Ax Ar Vx Vr) (hn : ∀ k, w.heap.size ≤ k → ρ k = (0, 0)) {A' : Nt} {w' : World} (hw : A'.wa = Ar.wa) (p : RN w' br A' Vr) (o : Only (· = br) w w') : PostR B i ρ br A' w w' :=
  ⟨ρ, Vr, p, by rw [hw]; exact h.wr.onlyB h.hbr o, Turn.onlyB hn o⟩
theorem linkC_wa (A : Nt) (a b c : Int) : (linkC A a b c).wa = A.wa := by unfold linkC; split <;> rfl
theorem tickC_wa (A : Nt) (r : Int) : (tickC A r).wa = A.wa := by unfold tickC; split <;> rfl
theorem bumpC_wa (A : Nt) (r : Int) : (bumpC A r).wa = A.wa := by unfold bumpC; split <;> rfl
theorem xlink (h : NetH w B ρ i bx bs br Ax Ar Vx Vr) (hn : ∀ k, w.heap.size ≤ k → ρ k = (0, 0)) (_hB : B ≤ w.heap.size) (a b c : Int) : Calls Try.prog 67 #[.pointer (some ⟨bx, 0, none⟩), .int .i64 a, .int .i64 b, .int .i64 c] w fun e w' => e = .returned (.int .i64 (linkE Ax a b c)) ∧ PostP B i ρ bx bs (linkC Ax a b c) w w' :=
  by
  have := plink bx bs a b c (bl Ax) Vx w h.gx.n5 h.p
  rw [linkC_bl, linkE_bl] at this
  exact this.mono fun _ _ ⟨h1, h2, h3⟩ => ⟨h1, h.postP hn (linkC_wa _ _ _ _) h2 h3⟩
theorem ylink (h : NetH w B ρ i bx bs br Ax Ar Vx Vr) (hn : ∀ k, w.heap.size ≤ k → ρ k = (0, 0)) (_hB : B ≤ w.heap.size) (a b c : Int) : Calls Try.prog 92 #[.pointer (some ⟨br, 0, none⟩), .int .i64 a, .int .i64 b, .int .i64 c] w fun e w' => e = .returned (.int .i64 (linkE Ar a b c)) ∧ PostR B i ρ br (linkC Ar a b c) w w' :=
  (rlink br a b c Ar Vr w h.gr.n5 h.r).mono fun _ _ ⟨h1, h2, h3⟩ => ⟨h1, h.postR hn (linkC_wa _ _ _ _) h2 h3⟩
theorem xdeliver (h : NetH w B ρ i bx bs br Ax Ar Vx Vr) (hn : ∀ k, w.heap.size ≤ k → ρ k = (0, 0)) (_hB : B ≤ w.heap.size) (a b c : Int) : Calls Try.prog 34 #[.pointer (some ⟨bx, 0, none⟩), .int .i64 a, .int .i64 b, .int .i64 c] w fun e w' => e = .returned (.int .i64 (msgE Ax a b c)) ∧ PostP B i ρ bx bs (deliverC Ax a b c) w w' :=
  by
  have := pdeliver bx bs B a b c ρ (tgx i) (bl Ax) Vx w h.gx.bl h.p h.wx (tgx_ok i) h.hbx h.hbs hn
  rw [deliverC_bl, msgE_bl] at this
  exact this.mono fun _ _ ⟨h1, V', h2, h3, h4⟩ => ⟨h1, ρ, V', h2, h3, h4⟩
theorem ydeliver (h : NetH w B ρ i bx bs br Ax Ar Vx Vr) (hn : ∀ k, w.heap.size ≤ k → ρ k = (0, 0)) (hB : B ≤ w.heap.size) (a b c : Int) : Calls Try.prog 93 #[.pointer (some ⟨br, 0, none⟩), .int .i64 a, .int .i64 b, .int .i64 c] w fun e w' => e = .returned (.int .i64 (msgE Ar a b c)) ∧ PostR B i ρ br (deliverC Ar a b c) w w' :=
  rdeliver br B a b c ρ (tgr i) Ar Vr w h.gr h.r h.wr hB (tgr_ok i) h.hbr hn
theorem xlose (h : NetH w B ρ i bx bs br Ax Ar Vx Vr) (hn : ∀ k, w.heap.size ≤ k → ρ k = (0, 0)) (_hB : B ≤ w.heap.size) (a b c : Int) : Calls Try.prog 40 #[.pointer (some ⟨bx, 0, none⟩), .int .i64 a, .int .i64 b, .int .i64 c] w fun e w' => e = .returned (.int .i64 (msgE Ax a b c)) ∧ PostP B i ρ bx bs (loseC Ax a b c) w w' :=
  by
  have := plose bx bs B a b c ρ (tgx i) (bl Ax) Vx w h.gx.bl h.p h.wx (tgx_ok i) h.hbx h.hbs hn
  rw [loseC_bl, msgE_bl] at this
  exact this.mono fun _ _ ⟨h1, V', h2, h3, h4⟩ => ⟨h1, ρ, V', h2, h3, h4⟩
theorem ylose (h : NetH w B ρ i bx bs br Ax Ar Vx Vr) (hn : ∀ k, w.heap.size ≤ k → ρ k = (0, 0)) (hB : B ≤ w.heap.size) (a b c : Int) : Calls Try.prog 94 #[.pointer (some ⟨br, 0, none⟩), .int .i64 a, .int .i64 b, .int .i64 c] w fun e w' => e = .returned (.int .i64 (msgE Ar a b c)) ∧ PostR B i ρ br (loseC Ar a b c) w w' :=
  rlose br B a b c ρ (tgr i) Ar Vr w h.gr h.r h.wr hB h.hbr hn
theorem xagain (h : NetH w B ρ i bx bs br Ax Ar Vx Vr) (hn : ∀ k, w.heap.size ≤ k → ρ k = (0, 0)) (hB : B ≤ w.heap.size) (a b c : Int) : Calls Try.prog 42 #[.pointer (some ⟨bx, 0, none⟩), .int .i64 a, .int .i64 b, .int .i64 c] w fun e w' => e = .returned (.int .i64 (againE Ax a b c)) ∧ PostP B i ρ bx bs (againC Ax a b c) w w' :=
  by
  have := pagain bx bs B a b c ρ (tgx i) (bl Ax) Vx w h.gx.bl h.p h.wx hB (tgx_ok i) h.hbx h.hbs hn
  rw [againC_bl, againE_bl] at this
  exact this
theorem yagain (h : NetH w B ρ i bx bs br Ax Ar Vx Vr) (hn : ∀ k, w.heap.size ≤ k → ρ k = (0, 0)) (hB : B ≤ w.heap.size) (a b c : Int) : Calls Try.prog 95 #[.pointer (some ⟨br, 0, none⟩), .int .i64 a, .int .i64 b, .int .i64 c] w fun e w' => e = .returned (.int .i64 (againE Ar a b c)) ∧ PostR B i ρ br (againC Ar a b c) w w' :=
  ragain br B a b c ρ (tgr i) Ar Vr w h.gr h.r h.wr hB (tgr_ok i) h.hbr hn
theorem xdump (h : NetH w B ρ i bx bs br Ax Ar Vx Vr) (hn : ∀ k, w.heap.size ≤ k → ρ k = (0, 0)) (hB : B ≤ w.heap.size) (a : Int) : Calls Try.prog 25 #[.pointer (some ⟨bx, 0, none⟩), .int .i64 a] w fun e w' => e = .returned (.int .i64 (dumpCE Ax a)) ∧ PostP B i ρ bx bs (dumpC Ax a) w w' :=
  by
  have := pdump bx bs B a ρ (tgx i) (bl Ax) Vx w h.gx.bl h.p h.wx hB (tgx_ok i) h.hbx h.hbs hn
  rw [dumpC_bl, dumpCE_bl] at this
  exact this
theorem ydump (h : NetH w B ρ i bx bs br Ax Ar Vx Vr) (hn : ∀ k, w.heap.size ≤ k → ρ k = (0, 0)) (hB : B ≤ w.heap.size) (a : Int) : Calls Try.prog 96 #[.pointer (some ⟨br, 0, none⟩), .int .i64 a] w fun e w' => e = .returned (.int .i64 (dumpCE Ar a)) ∧ PostR B i ρ br (dumpC Ar a) w w' :=
  rdump br B a ρ (tgr i) Ar Vr w h.gr h.r h.wr hB (tgr_ok i) h.hbr hn
theorem xtick (h : NetH w B ρ i bx bs br Ax Ar Vx Vr) (hn : ∀ k, w.heap.size ≤ k → ρ k = (0, 0)) (_hB : B ≤ w.heap.size) (a : Int) : Calls Try.prog 31 #[.pointer (some ⟨bx, 0, none⟩), .int .i64 a] w fun e w' => e = .returned (.int .i64 (upE Ax a)) ∧ PostP B i ρ bx bs (tickC Ax a) w w' :=
  by
  have := ptick bx bs a (bl Ax) Vx w h.gx.bl h.p
  rw [tickC_bl, upE_bl] at this
  exact this.mono fun _ _ ⟨h1, h2, h3⟩ => ⟨h1, h.postP hn (tickC_wa _ _) h2 h3⟩
theorem ytick (h : NetH w B ρ i bx bs br Ax Ar Vx Vr) (hn : ∀ k, w.heap.size ≤ k → ρ k = (0, 0)) (_hB : B ≤ w.heap.size) (a : Int) : Calls Try.prog 97 #[.pointer (some ⟨br, 0, none⟩), .int .i64 a] w fun e w' => e = .returned (.int .i64 (upE Ar a)) ∧ PostR B i ρ br (tickC Ar a) w w' :=
  (rtick br a Ar Vr w h.gr h.r).mono fun _ _ ⟨h1, h2, h3⟩ => ⟨h1, h.postR hn (tickC_wa _ _) h2 h3⟩
theorem xbump (h : NetH w B ρ i bx bs br Ax Ar Vx Vr) (hn : ∀ k, w.heap.size ≤ k → ρ k = (0, 0)) (_hB : B ≤ w.heap.size) (a : Int) : Calls Try.prog 43 #[.pointer (some ⟨bx, 0, none⟩), .int .i64 a] w fun e w' => e = .returned (.int .i64 (bumpE Ax a)) ∧ PostP B i ρ bx bs (bumpC Ax a) w w' :=
  by
  have := pbump bx bs a (bl Ax) Vx w h.gx.bl h.p
  rw [bumpC_bl, bumpE_bl] at this
  exact this.mono fun _ _ ⟨h1, h2, h3⟩ => ⟨h1, h.postP hn (bumpC_wa _ _) h2 h3⟩
theorem ybump (h : NetH w B ρ i bx bs br Ax Ar Vx Vr) (hn : ∀ k, w.heap.size ≤ k → ρ k = (0, 0)) (_hB : B ≤ w.heap.size) (a : Int) : Calls Try.prog 98 #[.pointer (some ⟨br, 0, none⟩), .int .i64 a] w fun e w' => e = .returned (.int .i64 (bumpE Ar a)) ∧ PostR B i ρ br (bumpC Ar a) w w' :=
  (rbump br a Ar Vr w h.gr h.r).mono fun _ _ ⟨h1, h2, h3⟩ => ⟨h1, h.postR hn (bumpC_wa _ _) h2 h3⟩
theorem failC_wa (A : Nt) (r k : Int) : (failC A r k).wa = A.wa := by unfold failC; split <;> rfl
theorem crashC_wa (A : Nt) (r : Int) : (crashC A r).wa = A.wa := by unfold crashC; split <;> rfl
theorem restartC_wa (A : Nt) (r : Int) : (restartC A r).wa = A.wa := by unfold restartC; split <;> rfl
theorem xfail (h : NetH w B ρ i bx bs br Ax Ar Vx Vr) (hn : ∀ k, w.heap.size ≤ k → ρ k = (0, 0)) (_hB : B ≤ w.heap.size) (a b : Int) : Calls Try.prog 22 #[.pointer (some ⟨bx, 0, none⟩), .int .i64 a, .int .i64 b] w fun e w' => e = .returned (.int .i64 (failE Ax a b)) ∧ PostP B i ρ bx bs (failC Ax a b) w w' := by
  have := pfail bx bs a b (bl Ax) Vx w h.p
  rw [failC_bl, failE_bl] at this
  exact this.mono fun _ _ ⟨h1, h2, h3⟩ => ⟨h1, h.postP hn (failC_wa _ _ _) h2 h3⟩
theorem yfail (h : NetH w B ρ i bx bs br Ax Ar Vx Vr) (hn : ∀ k, w.heap.size ≤ k → ρ k = (0, 0)) (_hB : B ≤ w.heap.size) (a b : Int) : Calls Try.prog 99 #[.pointer (some ⟨br, 0, none⟩), .int .i64 a, .int .i64 b] w fun e w' => e = .returned (.int .i64 (failE Ar a b)) ∧ PostR B i ρ br (failC Ar a b) w w' :=
  (rfail br a b Ar Vr w h.gr h.r).mono fun _ _ ⟨h1, h2, h3⟩ => ⟨h1, h.postR hn (failC_wa _ _ _) h2 h3⟩
theorem xcrash (h : NetH w B ρ i bx bs br Ax Ar Vx Vr) (hn : ∀ k, w.heap.size ≤ k → ρ k = (0, 0)) (_hB : B ≤ w.heap.size) (a : Int) : Calls Try.prog 27 #[.pointer (some ⟨bx, 0, none⟩), .int .i64 a] w fun e w' => e = .returned (.int .i64 (upE Ax a)) ∧ PostP B i ρ bx bs (crashC Ax a) w w' := by
  have := pcrash bx bs a (bl Ax) Vx w h.p
  rw [crashC_bl, upE_bl] at this
  exact this.mono fun _ _ ⟨h1, h2, h3⟩ => ⟨h1, h.postP hn (crashC_wa _ _) h2 h3⟩
theorem ycrash (h : NetH w B ρ i bx bs br Ax Ar Vx Vr) (hn : ∀ k, w.heap.size ≤ k → ρ k = (0, 0)) (_hB : B ≤ w.heap.size) (a : Int) : Calls Try.prog 100 #[.pointer (some ⟨br, 0, none⟩), .int .i64 a] w fun e w' => e = .returned (.int .i64 (upE Ar a)) ∧ PostR B i ρ br (crashC Ar a) w w' :=
  (rcrash br a Ar Vr w h.gr h.r).mono fun _ _ ⟨h1, h2, h3⟩ => ⟨h1, h.postR hn (crashC_wa _ _) h2 h3⟩
theorem xrestart (h : NetH w B ρ i bx bs br Ax Ar Vx Vr) (hn : ∀ k, w.heap.size ≤ k → ρ k = (0, 0)) (_hB : B ≤ w.heap.size) (a : Int) : Calls Try.prog 21 #[.pointer (some ⟨bx, 0, none⟩), .int .i64 a] w fun e w' => e = .returned (.int .i64 (restartE Ax a)) ∧ PostP B i ρ bx bs (restartC Ax a) w w' := by
  have := prestart bx bs a (bl Ax) Vx w h.gx.bl h.p
  rw [restartC_bl, restartE_bl] at this
  exact this.mono fun _ _ ⟨h1, h2, h3⟩ => ⟨h1, h.postP hn (restartC_wa _ _) h2 h3⟩
theorem yrestart (h : NetH w B ρ i bx bs br Ax Ar Vx Vr) (hn : ∀ k, w.heap.size ≤ k → ρ k = (0, 0)) (_hB : B ≤ w.heap.size) (a : Int) : Calls Try.prog 101 #[.pointer (some ⟨br, 0, none⟩), .int .i64 a] w fun e w' => e = .returned (.int .i64 (restartE Ar a)) ∧ PostR B i ρ br (restartC Ar a) w w' :=
  (rrestart br a Ar Vr w h.gr h.r).mono fun _ _ ⟨h1, h2, h3⟩ => ⟨h1, h.postR hn (restartC_wa _ _) h2 h3⟩
theorem routeN_bl (A : Nt) (a b : Int) : routeN (bl A) a b = routeN A a b := by
  unfold routeN
  rw [asksE_bl]
  by_cases hh : asksE A a b = 0
  · have hd : (A.rs a.toNat).dn = false := by
      unfold asksE at hh
      cases e : (A.rs a.toNat).dn with
      | false => rfl
      | true => rw [e] at hh; split at hh <;> simp_all
    rw [bl_up hd]
  · rw [if_neg hh, if_neg hh]
theorem bestN_bl (A : Nt) (a b : Int) : bestN (bl A) a b = bestN A a b := by
  unfold bestN
  rw [asksE_bl]
  by_cases hh : asksE A a b = 0
  · have hd : (A.rs a.toNat).dn = false := by
      unfold asksE at hh
      cases e : (A.rs a.toNat).dn with
      | false => rfl
      | true => rw [e] at hh; split at hh <;> simp_all
    rw [bl_up hd]
  · rw [if_neg hh, if_neg hh]
theorem traceL_bl (A : Nt) (a b : Int) : traceL (bl A) a b = traceL A a b := by
  unfold traceL
  rw [trace_bl]; rfl
theorem traceE_bl (A : Nt) (a b : Int) : traceE (bl A) a b = traceE A a b := rfl
theorem xwaiting (h : NetH w B ρ i bx bs br Ax Ar Vx Vr) (a b : Int) : Calls Try.prog 33 #[.pointer (some ⟨bx, 0, none⟩), .int .i64 a, .int .i64 b] w fun e w' => e = .returned (.tuple #[.int .i64 (waitN Ax a b), .int .i64 (pairE Ax.n a b)]) ∧ w = w' :=
  pwaiting bx bs B 104 a b ρ (tgx i) (bl Ax) Vx w h.gx.n5 h.p h.wx
theorem xroute (h : NetH w B ρ i bx bs br Ax Ar Vx Vr) (a b : Int) : Calls Try.prog 28 #[.pointer (some ⟨bx, 0, none⟩), .int .i64 a, .int .i64 b] w fun e w' => e = .returned (.tuple #[.agg (rtA (routeN Ax a b)), .int .i64 (asksE Ax a b)]) ∧ Below w.heap.size w w' := by
  have := proute bx bs a b (bl Ax) Vx w h.gx.n5 h.n0 h.p
  rw [routeN_bl, asksE_bl] at this
  exact this
theorem xbest (h : NetH w B ρ i bx bs br Ax Ar Vx Vr) (a b : Int) : Calls Try.prog 29 #[.pointer (some ⟨bx, 0, none⟩), .int .i64 a, .int .i64 b] w fun e w' => e = .returned (.tuple #[.agg (bsA (bestN Ax a b)), .int .i64 (asksE Ax a b)]) ∧ Below w.heap.size w w' := by
  have := pbest bx bs a b (bl Ax) Vx w h.gx.n5 h.n0 h.p
  rw [bestN_bl, asksE_bl] at this
  exact this
theorem xtrace (h : NetH w B ρ i bx bs br Ax Ar Vx Vr) (a b : Int) : Calls Try.prog 19 #[.pointer (some ⟨bx, 0, none⟩), .int .i64 a, .int .i64 b] w fun e w' => ∃ nv, e = .returned (.tuple #[nv, .int .i64 (traceE Ax a b)]) ∧ w'.ownsRow w.heap.size 3 1 nv (traceL Ax a b).length (ints (traceL Ax a b)) ∧ Below w.heap.size w w' := by
  have := ptrace bx bs a b (bl Ax) Vx w h.gx.bl h.p
  rw [traceL_bl, traceE_bl] at this
  exact this
end
end Go.Proofs.Ytdoodnbobpijoaa

namespace Go.Proofs.Ytdoodnbobpijoaa
open Go.RowKit

/-- The two variables in which a step's net and numbers lie. -/
abbrev W0 (w : World) (bx br : Nat) (k u a b c : Int) : World := (w.alloc (.cells #[.pointer (some ⟨bx, 0, none⟩), .pointer (some ⟨br, 0, none⟩)] 112)).alloc (.cells #[.int .i64 k, .int .i64 u, .int .i64 a, .int .i64 b, .int .i64 c] 78)
theorem W0_below (w : World) (bx br : Nat) (k u a b c : Int) : Below w.heap.size w (W0 w bx br k u a b c) := ((Below.refl _ _).alloc (Nat.le_refl _) _).alloc (by simp) _
/-- They stay. -/
structure Box (w' w : World) (bx br : Nat) (k u a b c : Int) : Prop where
  one : Whole w' w.heap.size 112 #[.pointer (some ⟨bx, 0, none⟩), .pointer (some ⟨br, 0, none⟩)]
  two : Whole w' (w.heap.size + 1) 78 #[.int .i64 k, .int .i64 u, .int .i64 a, .int .i64 b, .int .i64 c]
theorem Box.start (w : World) (bx br : Nat) (k u a b c : Int) : Box (W0 w bx br k u a b c) w bx br k u a b c := ⟨(Whole.new w _ _).alloc _, by
  have := Whole.new (w.alloc (.cells #[.pointer (some ⟨bx, 0, none⟩), .pointer (some ⟨br, 0, none⟩)] 112)) 78 #[.int .i64 k, .int .i64 u, .int .i64 a, .int .i64 b, .int .i64 c]
  simp only [World.size_alloc] at this
  exact this⟩
theorem Box.lt {w1 w : World} {bx br : Nat} {k u a b c : Int} (h : Box w1 w bx br k u a b c) : w.heap.size + 1 < w1.heap.size := h.two.lt
theorem Box.aft {w1 w2 w : World} {bx br i : Nat} {k u a b c : Int} {ρ ρ' : Nat → Part} (h : Box w1 w bx br k u a b c) (ha : Aft i ρ ρ' w1 w2) (hn : ∀ j, w.heap.size ≤ j → j < w.heap.size + 2 → ρ j = (0, 0)) : Box w2 w bx br k u a b c :=
  ⟨h.one.of (ha.only.block _ h.one.lt (by rw [hn _ (Nat.le_refl _) (by omega)]; simp)), h.two.of (ha.only.block _ h.two.lt (by rw [hn _ (by omega) (by omega)]; simp))⟩
theorem Box.below {w1 w2 w : World} {bx br : Nat} {k u a b c : Int} (h : Box w1 w bx br k u a b c) (hb : Below w1.heap.size w1 w2) : Box w2 w bx br k u a b c := ⟨h.one.below hb, h.two.below hb⟩
theorem Box.c0 {w1 w : World} {bx br : Nat} {k u a b c : Int} (h : Box w1 w bx br k u a b c) : w1.cell? ⟨w.heap.size, 0, none⟩ = some (.pointer (some ⟨bx, 0, none⟩)) := h.one.cell 0
theorem Box.c1 {w1 w : World} {bx br : Nat} {k u a b c : Int} (h : Box w1 w bx br k u a b c) : w1.cell? ⟨w.heap.size, 1, none⟩ = some (.pointer (some ⟨br, 0, none⟩)) := h.one.cell 1
theorem Box.k {w1 w : World} {bx br : Nat} {k u a b c : Int} (h : Box w1 w bx br k u a b c) : w1.cell? ⟨w.heap.size + 1, 0, none⟩ = some (.int .i64 k) := h.two.cell 0
theorem Box.a {w1 w : World} {bx br : Nat} {k u a b c : Int} (h : Box w1 w bx br k u a b c) : w1.cell? ⟨w.heap.size + 1, 2, none⟩ = some (.int .i64 a) := h.two.cell 2
theorem Box.b {w1 w : World} {bx br : Nat} {k u a b c : Int} (h : Box w1 w bx br k u a b c) : w1.cell? ⟨w.heap.size + 1, 3, none⟩ = some (.int .i64 b) := h.two.cell 3
theorem Box.c {w1 w : World} {bx br : Nat} {k u a b c : Int} (h : Box w1 w bx br k u a b c) : w1.cell? ⟨w.heap.size + 1, 4, none⟩ = some (.int .i64 c) := h.two.cell 4
/-- What a step on net i leaves. -/
abbrev PostN (B i : Nat) (ρ : Nat → Part) (N : NetD) (w w' : World) : Prop := ∃ ρ' N', N'.bx = N.bx ∧ N'.br = N.br ∧ NetI w' B ρ' i N' ∧ Aft i ρ ρ' w w'
set_option maxHeartbeats 1000000 in
theorem happens_link (B i : Nat) (ρ : Nat → Part) (N : NetD) (u a b c : Int) (w : World) (hI : NetI w B ρ i N) (hnew : ∀ k, w.heap.size ≤ k → ρ k = (0, 0)) (hB : B ≤ w.heap.size) :
    Calls Try.prog 64 #[.agg #[.pointer (some ⟨N.bx, 0, none⟩), .pointer (some ⟨N.br, 0, none⟩)], .agg #[.int .i64 2, .int .i64 u, .int .i64 a, .int .i64 b, .int .i64 c]] w fun e w' => e = .returned (.bool true) ∧ PostN B i ρ N w w' := by
  have b0 := W0_below w N.bx N.br 2 u a b c
  have X0 : Hid (Box (W0 w N.bx N.br 2 u a b c) w N.bx N.br 2 u a b c) := Box.start w N.bx N.br 2 u a b c
  have HI0 : Hid (NetI (W0 w N.bx N.br 2 u a b c) B ρ i N) := hI.below b0
  have HN : Hid (∀ k, w.heap.size ≤ k → ρ k = (0, 0)) := hnew
  have HN0 : Hid (∀ k, (W0 w N.bx N.br 2 u a b c).heap.size ≤ k → ρ k = (0, 0)) := fun k hk => hnew k (Nat.le_trans b0.size hk)
  have HB0 : Hid (B ≤ (W0 w N.bx N.br 2 u a b c).heap.size) := Nat.le_trans hB b0.size
  have B0 : Hid (Below w.heap.size w (W0 w N.bx N.br 2 u a b c)) := b0
  have CX : Hid (Calls Try.prog 67 #[.pointer (some ⟨N.bx, 0, none⟩), .int .i64 a, .int .i64 b, .int .i64 c] (W0 w N.bx N.br 2 u a b c) fun e w' => e = .returned (.int .i64 (linkE N.A a b c)) ∧ PostP B i ρ N.bx N.bs (linkC N.A a b c) (W0 w N.bx N.br 2 u a b c) w') := xlink HI0.out HN0.out HB0.out a b c
  clear b0 hI hnew hB
  go_enter Try.func64, Try.ntmps64
  go_wp2_with (first | (go_at_call 67; refine (CX.out).mono ?_; rintro e w1 ⟨rfl, ρ1, V1, p1, q1, t1⟩; obtain ⟨h1, a1⟩ := HI0.out.prog (Steps.link HI0.out.gx a b c).good p1 q1 t1; have x1 := X0.out.aft a1 (fun j hj _ => HN.out j hj); have g1 := x1.c1; have g2 := x1.a; have g3 := x1.b; have g4 := x1.c; have H1 : Hid (NetH w1 B ρ1 i N.bx N.bs N.br (linkC N.A a b c) N.A V1 N.Vr) := h1; have A1 : Hid (Aft i ρ ρ1 (W0 w N.bx N.br 2 u a b c) w1) := a1; have z1 : B ≤ w1.heap.size := Nat.le_trans HB0.out a1.only.size; clear x1 h1 a1 p1 q1 t1) |
    (go_at_call 92; refine (ylink H1.out A1.out.new z1 a b c).mono ?_; rintro e w2 ⟨rfl, ρ2, V2, p2, q2, t2⟩))
  go_ret
  obtain ⟨h2, a2⟩ := H1.out.ref (Steps.link H1.out.gr a b c).good p2 q2 t2
  exact ⟨rfl, ρ2, ⟨N.bx, N.bs, N.br, linkC N.A a b c, V1, V2⟩, rfl, rfl, h2, ((Aft.below B0.out HN.out).trans A1.out).trans a2⟩
set_option maxHeartbeats 1000000 in
theorem happens_deliver (B i : Nat) (ρ : Nat → Part) (N : NetD) (u a b c : Int) (w : World) (hI : NetI w B ρ i N) (hnew : ∀ k, w.heap.size ≤ k → ρ k = (0, 0)) (hB : B ≤ w.heap.size) :
    Calls Try.prog 64 #[.agg #[.pointer (some ⟨N.bx, 0, none⟩), .pointer (some ⟨N.br, 0, none⟩)], .agg #[.int .i64 5, .int .i64 u, .int .i64 a, .int .i64 b, .int .i64 c]] w fun e w' => e = .returned (.bool true) ∧ PostN B i ρ N w w' := by
  have b0 := W0_below w N.bx N.br 5 u a b c
  have X0 : Hid (Box (W0 w N.bx N.br 5 u a b c) w N.bx N.br 5 u a b c) := Box.start w N.bx N.br 5 u a b c
  have HI0 : Hid (NetI (W0 w N.bx N.br 5 u a b c) B ρ i N) := hI.below b0
  have HN : Hid (∀ k, w.heap.size ≤ k → ρ k = (0, 0)) := hnew
  have HN0 : Hid (∀ k, (W0 w N.bx N.br 5 u a b c).heap.size ≤ k → ρ k = (0, 0)) := fun k hk => hnew k (Nat.le_trans b0.size hk)
  have HB0 : Hid (B ≤ (W0 w N.bx N.br 5 u a b c).heap.size) := Nat.le_trans hB b0.size
  have B0 : Hid (Below w.heap.size w (W0 w N.bx N.br 5 u a b c)) := b0
  have CX : Hid (Calls Try.prog 34 #[.pointer (some ⟨N.bx, 0, none⟩), .int .i64 a, .int .i64 b, .int .i64 c] (W0 w N.bx N.br 5 u a b c) fun e w' => e = .returned (.int .i64 (msgE N.A a b c)) ∧ PostP B i ρ N.bx N.bs (deliverC N.A a b c) (W0 w N.bx N.br 5 u a b c) w') := xdeliver HI0.out HN0.out HB0.out a b c
  clear b0 hI hnew hB
  go_enter Try.func64, Try.ntmps64
  go_wp2_with (first | (go_at_call 34; refine (CX.out).mono ?_; rintro e w1 ⟨rfl, ρ1, V1, p1, q1, t1⟩; obtain ⟨h1, a1⟩ := HI0.out.prog (Steps.deliver HI0.out.gx a b c).good p1 q1 t1; have x1 := X0.out.aft a1 (fun j hj _ => HN.out j hj); have g1 := x1.c1; have g2 := x1.a; have g3 := x1.b; have g4 := x1.c; have H1 : Hid (NetH w1 B ρ1 i N.bx N.bs N.br (deliverC N.A a b c) N.A V1 N.Vr) := h1; have A1 : Hid (Aft i ρ ρ1 (W0 w N.bx N.br 5 u a b c) w1) := a1; have z1 : B ≤ w1.heap.size := Nat.le_trans HB0.out a1.only.size; clear x1 h1 a1 p1 q1 t1) |
    (go_at_call 93; refine (ydeliver H1.out A1.out.new z1 a b c).mono ?_; rintro e w2 ⟨rfl, ρ2, V2, p2, q2, t2⟩))
  go_ret
  obtain ⟨h2, a2⟩ := H1.out.ref (Steps.deliver H1.out.gr a b c).good p2 q2 t2
  exact ⟨rfl, ρ2, ⟨N.bx, N.bs, N.br, deliverC N.A a b c, V1, V2⟩, rfl, rfl, h2, ((Aft.below B0.out HN.out).trans A1.out).trans a2⟩
set_option maxHeartbeats 1000000 in
theorem happens_lose (B i : Nat) (ρ : Nat → Part) (N : NetD) (u a b c : Int) (w : World) (hI : NetI w B ρ i N) (hnew : ∀ k, w.heap.size ≤ k → ρ k = (0, 0)) (hB : B ≤ w.heap.size) :
    Calls Try.prog 64 #[.agg #[.pointer (some ⟨N.bx, 0, none⟩), .pointer (some ⟨N.br, 0, none⟩)], .agg #[.int .i64 9, .int .i64 u, .int .i64 a, .int .i64 b, .int .i64 c]] w fun e w' => e = .returned (.bool true) ∧ PostN B i ρ N w w' := by
  have b0 := W0_below w N.bx N.br 9 u a b c
  have X0 : Hid (Box (W0 w N.bx N.br 9 u a b c) w N.bx N.br 9 u a b c) := Box.start w N.bx N.br 9 u a b c
  have HI0 : Hid (NetI (W0 w N.bx N.br 9 u a b c) B ρ i N) := hI.below b0
  have HN : Hid (∀ k, w.heap.size ≤ k → ρ k = (0, 0)) := hnew
  have HN0 : Hid (∀ k, (W0 w N.bx N.br 9 u a b c).heap.size ≤ k → ρ k = (0, 0)) := fun k hk => hnew k (Nat.le_trans b0.size hk)
  have HB0 : Hid (B ≤ (W0 w N.bx N.br 9 u a b c).heap.size) := Nat.le_trans hB b0.size
  have B0 : Hid (Below w.heap.size w (W0 w N.bx N.br 9 u a b c)) := b0
  have CX : Hid (Calls Try.prog 40 #[.pointer (some ⟨N.bx, 0, none⟩), .int .i64 a, .int .i64 b, .int .i64 c] (W0 w N.bx N.br 9 u a b c) fun e w' => e = .returned (.int .i64 (msgE N.A a b c)) ∧ PostP B i ρ N.bx N.bs (loseC N.A a b c) (W0 w N.bx N.br 9 u a b c) w') := xlose HI0.out HN0.out HB0.out a b c
  clear b0 hI hnew hB
  go_enter Try.func64, Try.ntmps64
  go_wp2_with (first | (go_at_call 40; refine (CX.out).mono ?_; rintro e w1 ⟨rfl, ρ1, V1, p1, q1, t1⟩; obtain ⟨h1, a1⟩ := HI0.out.prog (Steps.lose HI0.out.gx a b c).good p1 q1 t1; have x1 := X0.out.aft a1 (fun j hj _ => HN.out j hj); have g1 := x1.c1; have g2 := x1.a; have g3 := x1.b; have g4 := x1.c; have H1 : Hid (NetH w1 B ρ1 i N.bx N.bs N.br (loseC N.A a b c) N.A V1 N.Vr) := h1; have A1 : Hid (Aft i ρ ρ1 (W0 w N.bx N.br 9 u a b c) w1) := a1; have z1 : B ≤ w1.heap.size := Nat.le_trans HB0.out a1.only.size; clear x1 h1 a1 p1 q1 t1) |
    (go_at_call 94; refine (ylose H1.out A1.out.new z1 a b c).mono ?_; rintro e w2 ⟨rfl, ρ2, V2, p2, q2, t2⟩))
  go_ret
  obtain ⟨h2, a2⟩ := H1.out.ref (Steps.lose H1.out.gr a b c).good p2 q2 t2
  exact ⟨rfl, ρ2, ⟨N.bx, N.bs, N.br, loseC N.A a b c, V1, V2⟩, rfl, rfl, h2, ((Aft.below B0.out HN.out).trans A1.out).trans a2⟩
set_option maxHeartbeats 1000000 in
theorem happens_again (B i : Nat) (ρ : Nat → Part) (N : NetD) (u a b c : Int) (w : World) (hI : NetI w B ρ i N) (hnew : ∀ k, w.heap.size ≤ k → ρ k = (0, 0)) (hB : B ≤ w.heap.size) :
    Calls Try.prog 64 #[.agg #[.pointer (some ⟨N.bx, 0, none⟩), .pointer (some ⟨N.br, 0, none⟩)], .agg #[.int .i64 10, .int .i64 u, .int .i64 a, .int .i64 b, .int .i64 c]] w fun e w' => e = .returned (.bool true) ∧ PostN B i ρ N w w' := by
  have b0 := W0_below w N.bx N.br 10 u a b c
  have X0 : Hid (Box (W0 w N.bx N.br 10 u a b c) w N.bx N.br 10 u a b c) := Box.start w N.bx N.br 10 u a b c
  have HI0 : Hid (NetI (W0 w N.bx N.br 10 u a b c) B ρ i N) := hI.below b0
  have HN : Hid (∀ k, w.heap.size ≤ k → ρ k = (0, 0)) := hnew
  have HN0 : Hid (∀ k, (W0 w N.bx N.br 10 u a b c).heap.size ≤ k → ρ k = (0, 0)) := fun k hk => hnew k (Nat.le_trans b0.size hk)
  have HB0 : Hid (B ≤ (W0 w N.bx N.br 10 u a b c).heap.size) := Nat.le_trans hB b0.size
  have B0 : Hid (Below w.heap.size w (W0 w N.bx N.br 10 u a b c)) := b0
  have CX : Hid (Calls Try.prog 42 #[.pointer (some ⟨N.bx, 0, none⟩), .int .i64 a, .int .i64 b, .int .i64 c] (W0 w N.bx N.br 10 u a b c) fun e w' => e = .returned (.int .i64 (againE N.A a b c)) ∧ PostP B i ρ N.bx N.bs (againC N.A a b c) (W0 w N.bx N.br 10 u a b c) w') := xagain HI0.out HN0.out HB0.out a b c
  clear b0 hI hnew hB
  go_enter Try.func64, Try.ntmps64
  go_wp2_with (first | (go_at_call 42; refine (CX.out).mono ?_; rintro e w1 ⟨rfl, ρ1, V1, p1, q1, t1⟩; obtain ⟨h1, a1⟩ := HI0.out.prog (Steps.again HI0.out.gx a b c).good p1 q1 t1; have x1 := X0.out.aft a1 (fun j hj _ => HN.out j hj); have g1 := x1.c1; have g2 := x1.a; have g3 := x1.b; have g4 := x1.c; have H1 : Hid (NetH w1 B ρ1 i N.bx N.bs N.br (againC N.A a b c) N.A V1 N.Vr) := h1; have A1 : Hid (Aft i ρ ρ1 (W0 w N.bx N.br 10 u a b c) w1) := a1; have z1 : B ≤ w1.heap.size := Nat.le_trans HB0.out a1.only.size; clear x1 h1 a1 p1 q1 t1) |
    (go_at_call 95; refine (yagain H1.out A1.out.new z1 a b c).mono ?_; rintro e w2 ⟨rfl, ρ2, V2, p2, q2, t2⟩))
  go_ret
  obtain ⟨h2, a2⟩ := H1.out.ref (Steps.again H1.out.gr a b c).good p2 q2 t2
  exact ⟨rfl, ρ2, ⟨N.bx, N.bs, N.br, againC N.A a b c, V1, V2⟩, rfl, rfl, h2, ((Aft.below B0.out HN.out).trans A1.out).trans a2⟩
set_option maxHeartbeats 1000000 in
theorem does_dump (B i : Nat) (ρ : Nat → Part) (N : NetD) (u a b c : Int) (w : World) (hI : NetI w B ρ i N) (hnew : ∀ k, w.heap.size ≤ k → ρ k = (0, 0)) (hB : B ≤ w.heap.size) :
    Calls Try.prog 65 #[.agg #[.pointer (some ⟨N.bx, 0, none⟩), .pointer (some ⟨N.br, 0, none⟩)], .agg #[.int .i64 3, .int .i64 u, .int .i64 a, .int .i64 b, .int .i64 c]] w fun e w' => e = .returned (.bool true) ∧ PostN B i ρ N w w' := by
  have b0 := W0_below w N.bx N.br 3 u a b c
  have X0 : Hid (Box (W0 w N.bx N.br 3 u a b c) w N.bx N.br 3 u a b c) := Box.start w N.bx N.br 3 u a b c
  have HI0 : Hid (NetI (W0 w N.bx N.br 3 u a b c) B ρ i N) := hI.below b0
  have HN : Hid (∀ k, w.heap.size ≤ k → ρ k = (0, 0)) := hnew
  have HN0 : Hid (∀ k, (W0 w N.bx N.br 3 u a b c).heap.size ≤ k → ρ k = (0, 0)) := fun k hk => hnew k (Nat.le_trans b0.size hk)
  have HB0 : Hid (B ≤ (W0 w N.bx N.br 3 u a b c).heap.size) := Nat.le_trans hB b0.size
  have B0 : Hid (Below w.heap.size w (W0 w N.bx N.br 3 u a b c)) := b0
  have CX : Hid (Calls Try.prog 25 #[.pointer (some ⟨N.bx, 0, none⟩), .int .i64 a] (W0 w N.bx N.br 3 u a b c) fun e w' => e = .returned (.int .i64 (dumpCE N.A a)) ∧ PostP B i ρ N.bx N.bs (dumpC N.A a) (W0 w N.bx N.br 3 u a b c) w') := xdump HI0.out HN0.out HB0.out a
  clear b0 hI hnew hB
  go_enter Try.func65, Try.ntmps65
  go_wp2_with (first | (go_at_call 25; refine (CX.out).mono ?_; rintro e w1 ⟨rfl, ρ1, V1, p1, q1, t1⟩; obtain ⟨h1, a1⟩ := HI0.out.prog (Steps.dump HI0.out.gx a).good p1 q1 t1; have x1 := X0.out.aft a1 (fun j hj _ => HN.out j hj); have g1 := x1.c1; have g2 := x1.a; have g3 := x1.b; have g4 := x1.c; have H1 : Hid (NetH w1 B ρ1 i N.bx N.bs N.br (dumpC N.A a) N.A V1 N.Vr) := h1; have A1 : Hid (Aft i ρ ρ1 (W0 w N.bx N.br 3 u a b c) w1) := a1; have z1 : B ≤ w1.heap.size := Nat.le_trans HB0.out a1.only.size; clear x1 h1 a1 p1 q1 t1) |
    (go_at_call 96; refine (ydump H1.out A1.out.new z1 a).mono ?_; rintro e w2 ⟨rfl, ρ2, V2, p2, q2, t2⟩))
  go_ret
  obtain ⟨h2, a2⟩ := H1.out.ref (Steps.dump H1.out.gr a).good p2 q2 t2
  exact ⟨rfl, ρ2, ⟨N.bx, N.bs, N.br, dumpC N.A a, V1, V2⟩, rfl, rfl, h2, ((Aft.below B0.out HN.out).trans A1.out).trans a2⟩
set_option maxHeartbeats 1000000 in
theorem does_tick (B i : Nat) (ρ : Nat → Part) (N : NetD) (u a b c : Int) (w : World) (hI : NetI w B ρ i N) (hnew : ∀ k, w.heap.size ≤ k → ρ k = (0, 0)) (hB : B ≤ w.heap.size) :
    Calls Try.prog 65 #[.agg #[.pointer (some ⟨N.bx, 0, none⟩), .pointer (some ⟨N.br, 0, none⟩)], .agg #[.int .i64 11, .int .i64 u, .int .i64 a, .int .i64 b, .int .i64 c]] w fun e w' => e = .returned (.bool true) ∧ PostN B i ρ N w w' := by
  have b0 := W0_below w N.bx N.br 11 u a b c
  have X0 : Hid (Box (W0 w N.bx N.br 11 u a b c) w N.bx N.br 11 u a b c) := Box.start w N.bx N.br 11 u a b c
  have HI0 : Hid (NetI (W0 w N.bx N.br 11 u a b c) B ρ i N) := hI.below b0
  have HN : Hid (∀ k, w.heap.size ≤ k → ρ k = (0, 0)) := hnew
  have HN0 : Hid (∀ k, (W0 w N.bx N.br 11 u a b c).heap.size ≤ k → ρ k = (0, 0)) := fun k hk => hnew k (Nat.le_trans b0.size hk)
  have HB0 : Hid (B ≤ (W0 w N.bx N.br 11 u a b c).heap.size) := Nat.le_trans hB b0.size
  have B0 : Hid (Below w.heap.size w (W0 w N.bx N.br 11 u a b c)) := b0
  have CX : Hid (Calls Try.prog 31 #[.pointer (some ⟨N.bx, 0, none⟩), .int .i64 a] (W0 w N.bx N.br 11 u a b c) fun e w' => e = .returned (.int .i64 (upE N.A a)) ∧ PostP B i ρ N.bx N.bs (tickC N.A a) (W0 w N.bx N.br 11 u a b c) w') := xtick HI0.out HN0.out HB0.out a
  clear b0 hI hnew hB
  go_enter Try.func65, Try.ntmps65
  go_wp2_with (first | (go_at_call 31; refine (CX.out).mono ?_; rintro e w1 ⟨rfl, ρ1, V1, p1, q1, t1⟩; obtain ⟨h1, a1⟩ := HI0.out.prog (Steps.tick HI0.out.gx a).good p1 q1 t1; have x1 := X0.out.aft a1 (fun j hj _ => HN.out j hj); have g1 := x1.c1; have g2 := x1.a; have g3 := x1.b; have g4 := x1.c; have H1 : Hid (NetH w1 B ρ1 i N.bx N.bs N.br (tickC N.A a) N.A V1 N.Vr) := h1; have A1 : Hid (Aft i ρ ρ1 (W0 w N.bx N.br 11 u a b c) w1) := a1; have z1 : B ≤ w1.heap.size := Nat.le_trans HB0.out a1.only.size; clear x1 h1 a1 p1 q1 t1) |
    (go_at_call 97; refine (ytick H1.out A1.out.new z1 a).mono ?_; rintro e w2 ⟨rfl, ρ2, V2, p2, q2, t2⟩))
  go_ret
  obtain ⟨h2, a2⟩ := H1.out.ref (Steps.tick H1.out.gr a).good p2 q2 t2
  exact ⟨rfl, ρ2, ⟨N.bx, N.bs, N.br, tickC N.A a, V1, V2⟩, rfl, rfl, h2, ((Aft.below B0.out HN.out).trans A1.out).trans a2⟩
set_option maxHeartbeats 1000000 in
theorem does_bump (B i : Nat) (ρ : Nat → Part) (N : NetD) (u a b c : Int) (w : World) (hI : NetI w B ρ i N) (hnew : ∀ k, w.heap.size ≤ k → ρ k = (0, 0)) (hB : B ≤ w.heap.size) :
    Calls Try.prog 65 #[.agg #[.pointer (some ⟨N.bx, 0, none⟩), .pointer (some ⟨N.br, 0, none⟩)], .agg #[.int .i64 12, .int .i64 u, .int .i64 a, .int .i64 b, .int .i64 c]] w fun e w' => e = .returned (.bool true) ∧ PostN B i ρ N w w' := by
  have b0 := W0_below w N.bx N.br 12 u a b c
  have X0 : Hid (Box (W0 w N.bx N.br 12 u a b c) w N.bx N.br 12 u a b c) := Box.start w N.bx N.br 12 u a b c
  have HI0 : Hid (NetI (W0 w N.bx N.br 12 u a b c) B ρ i N) := hI.below b0
  have HN : Hid (∀ k, w.heap.size ≤ k → ρ k = (0, 0)) := hnew
  have HN0 : Hid (∀ k, (W0 w N.bx N.br 12 u a b c).heap.size ≤ k → ρ k = (0, 0)) := fun k hk => hnew k (Nat.le_trans b0.size hk)
  have HB0 : Hid (B ≤ (W0 w N.bx N.br 12 u a b c).heap.size) := Nat.le_trans hB b0.size
  have B0 : Hid (Below w.heap.size w (W0 w N.bx N.br 12 u a b c)) := b0
  have CX : Hid (Calls Try.prog 43 #[.pointer (some ⟨N.bx, 0, none⟩), .int .i64 a] (W0 w N.bx N.br 12 u a b c) fun e w' => e = .returned (.int .i64 (bumpE N.A a)) ∧ PostP B i ρ N.bx N.bs (bumpC N.A a) (W0 w N.bx N.br 12 u a b c) w') := xbump HI0.out HN0.out HB0.out a
  clear b0 hI hnew hB
  go_enter Try.func65, Try.ntmps65
  go_wp2_with (first | (go_at_call 43; refine (CX.out).mono ?_; rintro e w1 ⟨rfl, ρ1, V1, p1, q1, t1⟩; obtain ⟨h1, a1⟩ := HI0.out.prog (Steps.bump HI0.out.gx a).good p1 q1 t1; have x1 := X0.out.aft a1 (fun j hj _ => HN.out j hj); have g1 := x1.c1; have g2 := x1.a; have g3 := x1.b; have g4 := x1.c; have H1 : Hid (NetH w1 B ρ1 i N.bx N.bs N.br (bumpC N.A a) N.A V1 N.Vr) := h1; have A1 : Hid (Aft i ρ ρ1 (W0 w N.bx N.br 12 u a b c) w1) := a1; have z1 : B ≤ w1.heap.size := Nat.le_trans HB0.out a1.only.size; clear x1 h1 a1 p1 q1 t1) |
    (go_at_call 98; refine (ybump H1.out A1.out.new z1 a).mono ?_; rintro e w2 ⟨rfl, ρ2, V2, p2, q2, t2⟩))
  go_ret
  obtain ⟨h2, a2⟩ := H1.out.ref (Steps.bump H1.out.gr a).good p2 q2 t2
  exact ⟨rfl, ρ2, ⟨N.bx, N.bs, N.br, bumpC N.A a, V1, V2⟩, rfl, rfl, h2, ((Aft.below B0.out HN.out).trans A1.out).trans a2⟩
set_option maxHeartbeats 1000000 in
theorem does_fail (B i : Nat) (ρ : Nat → Part) (N : NetD) (u a b c : Int) (w : World) (hI : NetI w B ρ i N) (hnew : ∀ k, w.heap.size ≤ k → ρ k = (0, 0)) (hB : B ≤ w.heap.size) :
    Calls Try.prog 65 #[.agg #[.pointer (some ⟨N.bx, 0, none⟩), .pointer (some ⟨N.br, 0, none⟩)], .agg #[.int .i64 13, .int .i64 u, .int .i64 a, .int .i64 b, .int .i64 c]] w fun e w' => e = .returned (.bool true) ∧ PostN B i ρ N w w' := by
  have b0 := W0_below w N.bx N.br 13 u a b c
  have X0 : Hid (Box (W0 w N.bx N.br 13 u a b c) w N.bx N.br 13 u a b c) := Box.start w N.bx N.br 13 u a b c
  have HI0 : Hid (NetI (W0 w N.bx N.br 13 u a b c) B ρ i N) := hI.below b0
  have HN : Hid (∀ k, w.heap.size ≤ k → ρ k = (0, 0)) := hnew
  have HN0 : Hid (∀ k, (W0 w N.bx N.br 13 u a b c).heap.size ≤ k → ρ k = (0, 0)) := fun k hk => hnew k (Nat.le_trans b0.size hk)
  have HB0 : Hid (B ≤ (W0 w N.bx N.br 13 u a b c).heap.size) := Nat.le_trans hB b0.size
  have B0 : Hid (Below w.heap.size w (W0 w N.bx N.br 13 u a b c)) := b0
  have CX : Hid (Calls Try.prog 22 #[.pointer (some ⟨N.bx, 0, none⟩), .int .i64 a, .int .i64 b] (W0 w N.bx N.br 13 u a b c) fun e w' => e = .returned (.int .i64 (failE N.A a b)) ∧ PostP B i ρ N.bx N.bs (failC N.A a b) (W0 w N.bx N.br 13 u a b c) w') := xfail HI0.out HN0.out HB0.out a b
  clear b0 hI hnew hB
  go_enter Try.func65, Try.ntmps65
  go_wp2_with (first | (go_at_call 22; refine (CX.out).mono ?_; rintro e w1 ⟨rfl, ρ1, V1, p1, q1, t1⟩; obtain ⟨h1, a1⟩ := HI0.out.prog (Steps.fail HI0.out.gx a b).good p1 q1 t1; have x1 := X0.out.aft a1 (fun j hj _ => HN.out j hj); have g1 := x1.c1; have g2 := x1.a; have g3 := x1.b; have g4 := x1.c; have H1 : Hid (NetH w1 B ρ1 i N.bx N.bs N.br (failC N.A a b) N.A V1 N.Vr) := h1; have A1 : Hid (Aft i ρ ρ1 (W0 w N.bx N.br 13 u a b c) w1) := a1; have z1 : B ≤ w1.heap.size := Nat.le_trans HB0.out a1.only.size; clear x1 h1 a1 p1 q1 t1) |
    (go_at_call 99; refine (yfail H1.out A1.out.new z1 a b).mono ?_; rintro e w2 ⟨rfl, ρ2, V2, p2, q2, t2⟩))
  go_ret
  obtain ⟨h2, a2⟩ := H1.out.ref (Steps.fail H1.out.gr a b).good p2 q2 t2
  exact ⟨rfl, ρ2, ⟨N.bx, N.bs, N.br, failC N.A a b, V1, V2⟩, rfl, rfl, h2, ((Aft.below B0.out HN.out).trans A1.out).trans a2⟩
set_option maxHeartbeats 1000000 in
theorem does_crash (B i : Nat) (ρ : Nat → Part) (N : NetD) (u a b c : Int) (w : World) (hI : NetI w B ρ i N) (hnew : ∀ k, w.heap.size ≤ k → ρ k = (0, 0)) (hB : B ≤ w.heap.size) :
    Calls Try.prog 65 #[.agg #[.pointer (some ⟨N.bx, 0, none⟩), .pointer (some ⟨N.br, 0, none⟩)], .agg #[.int .i64 14, .int .i64 u, .int .i64 a, .int .i64 b, .int .i64 c]] w fun e w' => e = .returned (.bool true) ∧ PostN B i ρ N w w' := by
  have b0 := W0_below w N.bx N.br 14 u a b c
  have X0 : Hid (Box (W0 w N.bx N.br 14 u a b c) w N.bx N.br 14 u a b c) := Box.start w N.bx N.br 14 u a b c
  have HI0 : Hid (NetI (W0 w N.bx N.br 14 u a b c) B ρ i N) := hI.below b0
  have HN : Hid (∀ k, w.heap.size ≤ k → ρ k = (0, 0)) := hnew
  have HN0 : Hid (∀ k, (W0 w N.bx N.br 14 u a b c).heap.size ≤ k → ρ k = (0, 0)) := fun k hk => hnew k (Nat.le_trans b0.size hk)
  have HB0 : Hid (B ≤ (W0 w N.bx N.br 14 u a b c).heap.size) := Nat.le_trans hB b0.size
  have B0 : Hid (Below w.heap.size w (W0 w N.bx N.br 14 u a b c)) := b0
  have CX : Hid (Calls Try.prog 27 #[.pointer (some ⟨N.bx, 0, none⟩), .int .i64 a] (W0 w N.bx N.br 14 u a b c) fun e w' => e = .returned (.int .i64 (upE N.A a)) ∧ PostP B i ρ N.bx N.bs (crashC N.A a) (W0 w N.bx N.br 14 u a b c) w') := xcrash HI0.out HN0.out HB0.out a
  clear b0 hI hnew hB
  go_enter Try.func65, Try.ntmps65
  go_wp2_with (first | (go_at_call 27; refine (CX.out).mono ?_; rintro e w1 ⟨rfl, ρ1, V1, p1, q1, t1⟩; obtain ⟨h1, a1⟩ := HI0.out.prog (Steps.crash HI0.out.gx a).good p1 q1 t1; have x1 := X0.out.aft a1 (fun j hj _ => HN.out j hj); have g1 := x1.c1; have g2 := x1.a; have g3 := x1.b; have g4 := x1.c; have H1 : Hid (NetH w1 B ρ1 i N.bx N.bs N.br (crashC N.A a) N.A V1 N.Vr) := h1; have A1 : Hid (Aft i ρ ρ1 (W0 w N.bx N.br 14 u a b c) w1) := a1; have z1 : B ≤ w1.heap.size := Nat.le_trans HB0.out a1.only.size; clear x1 h1 a1 p1 q1 t1) |
    (go_at_call 100; refine (ycrash H1.out A1.out.new z1 a).mono ?_; rintro e w2 ⟨rfl, ρ2, V2, p2, q2, t2⟩))
  go_ret
  obtain ⟨h2, a2⟩ := H1.out.ref (Steps.crash H1.out.gr a).good p2 q2 t2
  exact ⟨rfl, ρ2, ⟨N.bx, N.bs, N.br, crashC N.A a, V1, V2⟩, rfl, rfl, h2, ((Aft.below B0.out HN.out).trans A1.out).trans a2⟩
set_option maxHeartbeats 1000000 in
theorem does_restart (B i : Nat) (ρ : Nat → Part) (N : NetD) (u a b c : Int) (w : World) (hI : NetI w B ρ i N) (hnew : ∀ k, w.heap.size ≤ k → ρ k = (0, 0)) (hB : B ≤ w.heap.size) :
    Calls Try.prog 65 #[.agg #[.pointer (some ⟨N.bx, 0, none⟩), .pointer (some ⟨N.br, 0, none⟩)], .agg #[.int .i64 15, .int .i64 u, .int .i64 a, .int .i64 b, .int .i64 c]] w fun e w' => e = .returned (.bool true) ∧ PostN B i ρ N w w' := by
  have b0 := W0_below w N.bx N.br 15 u a b c
  have X0 : Hid (Box (W0 w N.bx N.br 15 u a b c) w N.bx N.br 15 u a b c) := Box.start w N.bx N.br 15 u a b c
  have HI0 : Hid (NetI (W0 w N.bx N.br 15 u a b c) B ρ i N) := hI.below b0
  have HN : Hid (∀ k, w.heap.size ≤ k → ρ k = (0, 0)) := hnew
  have HN0 : Hid (∀ k, (W0 w N.bx N.br 15 u a b c).heap.size ≤ k → ρ k = (0, 0)) := fun k hk => hnew k (Nat.le_trans b0.size hk)
  have HB0 : Hid (B ≤ (W0 w N.bx N.br 15 u a b c).heap.size) := Nat.le_trans hB b0.size
  have B0 : Hid (Below w.heap.size w (W0 w N.bx N.br 15 u a b c)) := b0
  have CX : Hid (Calls Try.prog 21 #[.pointer (some ⟨N.bx, 0, none⟩), .int .i64 a] (W0 w N.bx N.br 15 u a b c) fun e w' => e = .returned (.int .i64 (restartE N.A a)) ∧ PostP B i ρ N.bx N.bs (restartC N.A a) (W0 w N.bx N.br 15 u a b c) w') := xrestart HI0.out HN0.out HB0.out a
  clear b0 hI hnew hB
  go_enter Try.func65, Try.ntmps65
  go_wp2_with (first | (go_at_call 21; refine (CX.out).mono ?_; rintro e w1 ⟨rfl, ρ1, V1, p1, q1, t1⟩; obtain ⟨h1, a1⟩ := HI0.out.prog (Steps.restart HI0.out.gx a).good p1 q1 t1; have x1 := X0.out.aft a1 (fun j hj _ => HN.out j hj); have g1 := x1.c1; have g2 := x1.a; have g3 := x1.b; have g4 := x1.c; have H1 : Hid (NetH w1 B ρ1 i N.bx N.bs N.br (restartC N.A a) N.A V1 N.Vr) := h1; have A1 : Hid (Aft i ρ ρ1 (W0 w N.bx N.br 15 u a b c) w1) := a1; have z1 : B ≤ w1.heap.size := Nat.le_trans HB0.out a1.only.size; clear x1 h1 a1 p1 q1 t1) |
    (go_at_call 101; refine (yrestart H1.out A1.out.new z1 a).mono ?_; rintro e w2 ⟨rfl, ρ2, V2, p2, q2, t2⟩))
  go_ret
  obtain ⟨h2, a2⟩ := H1.out.ref (Steps.restart H1.out.gr a).good p2 q2 t2
  exact ⟨rfl, ρ2, ⟨N.bx, N.bs, N.br, restartC N.A a, V1, V2⟩, rfl, rfl, h2, ((Aft.below B0.out HN.out).trans A1.out).trans a2⟩
end Go.Proofs.Ytdoodnbobpijoaa

namespace Go.Proofs.Ytdoodnbobpijoaa
open Go.RowKit

/-! ### What is asked -/
set_option maxHeartbeats 1000000 in
theorem asked_wait (B i : Nat) (y : Value) (ρ : Nat → Part) (N : NetD) (u a b c : Int) (w : World) (hI : NetI w B ρ i N) :
    Calls Try.prog 63 #[y, .agg #[.pointer (some ⟨N.bx, 0, none⟩), .pointer (some ⟨N.br, 0, none⟩)], .agg #[.int .i64 4, .int .i64 u, .int .i64 a, .int .i64 b, .int .i64 c]] w fun e w' =>
      e = .returned (.bool true) ∧ Below w.heap.size w w' := by
  have b0 := W0_below w N.bx N.br 4 u a b c
  have I0 := hI.below b0
  have hn5 := hI.gx.n5
  have HI0 : Hid (NetI (W0 w N.bx N.br 4 u a b c) B ρ i N) := I0; clear I0 hI
  have B0 : Hid (Below w.heap.size w (W0 w N.bx N.br 4 u a b c)) := b0; clear b0
  go_enter Try.func63, Try.ntmps63
  go_wp2_with (first | (go_at_call 33; refine (xwaiting HI0.out a b).mono ?_; rintro e w1 ⟨rfl, rfl⟩) |
    (go_at_call 86; refine (rwaiting N.br B _ a b ρ (tgr i) N.A N.Vr _ hn5 HI0.out.r HI0.out.wr).mono ?_; rintro e w2 ⟨rfl, rfl⟩))
  go_ret
  exact ⟨rfl, B0.out⟩
set_option maxHeartbeats 1000000 in
theorem asked_route (B i : Nat) (y : Value) (ρ : Nat → Part) (N : NetD) (u a b c : Int) (w : World) (hI : NetI w B ρ i N) :
    Calls Try.prog 63 #[y, .agg #[.pointer (some ⟨N.bx, 0, none⟩), .pointer (some ⟨N.br, 0, none⟩)], .agg #[.int .i64 6, .int .i64 u, .int .i64 a, .int .i64 b, .int .i64 c]] w fun e w' =>
      e = .returned (.bool true) ∧ Below w.heap.size w w' := by
  have b0 := W0_below w N.bx N.br 6 u a b c
  have x0 := Box.start w N.bx N.br 6 u a b c
  have I0 := hI.below b0
  have hn5 := hI.gx.n5
  have hn0 := hI.n0
  have HI0 : Hid (NetI (W0 w N.bx N.br 6 u a b c) B ρ i N) := I0; clear I0 hI
  have B0 : Hid (Below w.heap.size w (W0 w N.bx N.br 6 u a b c)) := b0; clear b0
  have X0 : Hid (Box (W0 w N.bx N.br 6 u a b c) w N.bx N.br 6 u a b c) := x0; clear x0
  obtain ⟨R, hR⟩ : ∃ R, routeN N.A a b = R := ⟨_, rfl⟩
  have CX : Hid (Calls Try.prog 28 #[.pointer (some ⟨N.bx, 0, none⟩), .int .i64 a, .int .i64 b] (W0 w N.bx N.br 6 u a b c) fun e w' => e = .returned (.tuple #[.agg #[.int .i64 R.nx, .int .i64 R.sq, .int .i64 R.mt, .int .i64 R.ag, .int .i64 R.st], .int .i64 (asksE N.A a b)]) ∧ Below (W0 w N.bx N.br 6 u a b c).heap.size (W0 w N.bx N.br 6 u a b c) w') := (by rw [← hR]; exact xroute HI0.out a b)
  have CR : Hid (∀ W, RN W N.br N.A N.Vr → Calls Try.prog 87 #[.pointer (some ⟨N.br, 0, none⟩), .int .i64 a, .int .i64 b] W fun e w' => e = .returned (.tuple #[.agg #[.int .i64 R.nx, .int .i64 R.sq, .int .i64 R.mt, .int .i64 R.ag, .int .i64 R.st], .int .i64 (asksE N.A a b)]) ∧ Below W.heap.size W w') := fun W h => (by rw [← hR]; exact rroute N.br a b N.A N.Vr W hn5 h)
  clear hR
  go_enter Try.func63, Try.ntmps63
  go_wp2_with (first | (go_at_call 28; refine (CX.out).mono ?_; rintro e w1 ⟨rfl, b1⟩; have x1 := X0.out.below b1; have g1 := x1.c1; have g2 := x1.a; have g3 := x1.b; have l1 := x1.lt; have l0 := Nat.lt_of_succ_lt x1.lt; clear x1) |
    (go_at_call 87; refine (CR.out _ ((HI0.out.r.of (b1.block _ HI0.out.r.lt)).of (Below.heap_alloc _ _ _ (Nat.lt_of_lt_of_le HI0.out.r.lt b1.size)))).mono ?_; rintro e w2 ⟨rfl, b2⟩; have k0 := (Whole.below (Whole.new w1 47 #[.int .i64 R.nx, .int .i64 R.sq, .int .i64 R.mt, .int .i64 R.ag, .int .i64 R.st]) b2).cell; have l2 : w1.heap.size < w2.heap.size := (by have := b2.size; simp at this; omega)))
  go_ret
  have z0 := B0.out.size
  have C1 : Below w.heap.size w w1 := B0.out.trans (b1.mono z0)
  have C2 : Below w.heap.size w w2 := (C1.alloc C1.size (.cells #[.int .i64 R.nx, .int .i64 R.sq, .int .i64 R.mt, .int .i64 R.ag, .int .i64 R.st] 47)).trans (b2.mono (by have := C1.size; simp; omega))
  exact ⟨rfl, C2.alloc C2.size _⟩
set_option maxHeartbeats 1000000 in
theorem asked_best (B i : Nat) (y : Value) (ρ : Nat → Part) (N : NetD) (u a b c : Int) (w : World) (hI : NetI w B ρ i N) :
    Calls Try.prog 63 #[y, .agg #[.pointer (some ⟨N.bx, 0, none⟩), .pointer (some ⟨N.br, 0, none⟩)], .agg #[.int .i64 7, .int .i64 u, .int .i64 a, .int .i64 b, .int .i64 c]] w fun e w' =>
      e = .returned (.bool true) ∧ Below w.heap.size w w' := by
  have b0 := W0_below w N.bx N.br 7 u a b c
  have x0 := Box.start w N.bx N.br 7 u a b c
  have I0 := hI.below b0
  have hn5 := hI.gx.n5
  have hn0 := hI.n0
  have HI0 : Hid (NetI (W0 w N.bx N.br 7 u a b c) B ρ i N) := I0; clear I0 hI
  have B0 : Hid (Below w.heap.size w (W0 w N.bx N.br 7 u a b c)) := b0; clear b0
  have X0 : Hid (Box (W0 w N.bx N.br 7 u a b c) w N.bx N.br 7 u a b c) := x0; clear x0
  obtain ⟨R, hR⟩ : ∃ R, bestN N.A a b = R := ⟨_, rfl⟩
  have CX : Hid (Calls Try.prog 29 #[.pointer (some ⟨N.bx, 0, none⟩), .int .i64 a, .int .i64 b] (W0 w N.bx N.br 7 u a b c) fun e w' => e = .returned (.tuple #[.agg #[.int .i64 R.sq, .int .i64 R.mt], .int .i64 (asksE N.A a b)]) ∧ Below (W0 w N.bx N.br 7 u a b c).heap.size (W0 w N.bx N.br 7 u a b c) w') := (by rw [← hR]; exact xbest HI0.out a b)
  have CR : Hid (∀ W, RN W N.br N.A N.Vr → Calls Try.prog 88 #[.pointer (some ⟨N.br, 0, none⟩), .int .i64 a, .int .i64 b] W fun e w' => e = .returned (.tuple #[.agg #[.int .i64 R.sq, .int .i64 R.mt], .int .i64 (asksE N.A a b)]) ∧ Below W.heap.size W w') := fun W h => (by rw [← hR]; exact rbest N.br a b N.A N.Vr W hn5 h)
  clear hR
  go_enter Try.func63, Try.ntmps63
  go_wp2_with (first | (go_at_call 29; refine (CX.out).mono ?_; rintro e w1 ⟨rfl, b1⟩; have x1 := X0.out.below b1; have g1 := x1.c1; have g2 := x1.a; have g3 := x1.b; have l1 := x1.lt; have l0 := Nat.lt_of_succ_lt x1.lt; clear x1) |
    (go_at_call 88; refine (CR.out _ ((HI0.out.r.of (b1.block _ HI0.out.r.lt)).of (Below.heap_alloc _ _ _ (Nat.lt_of_lt_of_le HI0.out.r.lt b1.size)))).mono ?_; rintro e w2 ⟨rfl, b2⟩; have k0 := (Whole.below (Whole.new w1 50 #[.int .i64 R.sq, .int .i64 R.mt]) b2).cell; have l2 : w1.heap.size < w2.heap.size := (by have := b2.size; simp at this; omega)))
  go_ret
  have z0 := B0.out.size
  have C1 : Below w.heap.size w w1 := B0.out.trans (b1.mono z0)
  have C2 : Below w.heap.size w w2 := (C1.alloc C1.size (.cells #[.int .i64 R.sq, .int .i64 R.mt] 50)).trans (b2.mono (by have := C1.size; simp; omega))
  exact ⟨rfl, C2.alloc C2.size _⟩
theorem Bk.mono {w : World} {B : Nat} {Z Y : Nat → Prop} {v : Value} {n : Nat} (h : Bk w B Z v n) (hz : ∀ k, Z k → Y k) : Bk w B Y v n := by
  obtain ⟨xs, h1, h2, h3⟩ := h.is
  exact ⟨xs, h1, fun g hg => hz g (h2 g hg), fun i u hu => (h3 i u hu).mono hz⟩
theorem ownsRow_base {w : World} {B B' e s : Nat} {v : Value} {n : Nat} {xs : List Value} (h : w.ownsRow B e s v n xs) (hB : B' ≤ B) : w.ownsRow B' e s v n xs := by
  refine ⟨h.1, ?_⟩
  rcases h.2 with hn | ⟨g, cap, cur, hv, h1, h2⟩
  · exact .inl hn
  · exact .inr ⟨g, cap, cur, hv, Nat.le_trans hB h1, h2⟩
theorem traceL_len {A : Nt} (g : Good A) (r d : Int) : (traceL A r d).length ≤ 6 := by
  have hn := g.n5
  unfold traceL
  split
  · unfold trace
    have : ∀ k x, (trF A d.toNat k x).length ≤ k + 1 := fun k => by
      induction k with
      | zero => intro x; simp [trF]
      | succ k ih =>
        intro x
        by_cases he : ends A d.toNat x
        · rw [trF_end he]; simp
        · rw [trF_go he]; simp only [List.length_cons]; have := ih ((A.rs x).t.ro d.toNat).nx.toNat; omega
    have := this A.n r.toNat
    omega
  · simp
set_option maxHeartbeats 2000000 in
theorem asked_trace (B i yb n : Nat) (v bv : Value) (ρ : Nat → Part) (N : NetD) (u a b c : Int) (w : World) (hI : NetI w B ρ i N) (hnew : ∀ k, w.heap.size ≤ k → ρ k = (0, 0)) (hB : B ≤ w.heap.size) (hY : Whole w yb 74 #[v, bv]) (py : ρ yb = (0, 1)) (hK : Bk w B (fun k => ρ k = (0, 3)) bv n) (hn : (n + 1) * 24 ≤ 140737488355328) :
    Calls Try.prog 63 #[.pointer (some ⟨yb, 0, none⟩), .agg #[.pointer (some ⟨N.bx, 0, none⟩), .pointer (some ⟨N.br, 0, none⟩)], .agg #[.int .i64 8, .int .i64 u, .int .i64 a, .int .i64 b, .int .i64 c]] w fun e w' =>
      e = .returned (.bool true) ∧ ∃ (ρ' : Nat → Part) (bv' : Value), Whole w' yb 74 #[v, bv'] ∧ Bk w' B (fun k => ρ' k = (0, 3)) bv' (n + 1) ∧ (∀ k, k < w.heap.size → ρ' k = ρ k) ∧ (∀ k, w'.heap.size ≤ k → ρ' k = (0, 0)) ∧ Only (fun k => k = yb ∨ ρ k = (0, 3)) w w' := by
  have b0 := W0_below w N.bx N.br 8 u a b c
  have x0 := Box.start w N.bx N.br 8 u a b c
  have I0 := hI.below b0
  have hgx := hI.gx
  have hll := traceL_len hgx a b
  have HI0 : Hid (NetI (W0 w N.bx N.br 8 u a b c) B ρ i N) := I0; clear I0 hI
  have B0 : Hid (Below w.heap.size w (W0 w N.bx N.br 8 u a b c)) := b0; clear b0
  have X0 : Hid (Box (W0 w N.bx N.br 8 u a b c) w N.bx N.br 8 u a b c) := x0; clear x0
  have HY : Hid (Whole w yb 74 #[v, bv]) := hY
  have HK : Hid (Bk w B (fun k => ρ k = (0, 3)) bv n) := hK
  have HG : Hid (Good N.A) := hgx
  have ly := hY.lt
  have hZy : ¬ (ρ yb = (0, 3) ∨ w.heap.size ≤ yb) := by rintro (e | e); rw [py] at e; simp at e; omega
  have hlow : ∀ k, ρ k = (0, 3) → k < w.heap.size := fun k hk => by
    rcases Nat.lt_or_ge k w.heap.size with h | h
    · exact h
    · rw [hnew k h] at hk; simp at hk
  have HL : Hid (∀ k, ρ k = (0, 3) → k < w.heap.size) := hlow
  have HN : Hid (∀ k, w.heap.size ≤ k → ρ k = (0, 0)) := hnew
  have CX : Hid (Calls Try.prog 19 #[.pointer (some ⟨N.bx, 0, none⟩), .int .i64 a, .int .i64 b] (W0 w N.bx N.br 8 u a b c) fun e w' => ∃ nv, e = .returned (.tuple #[nv, .int .i64 (traceE N.A a b)]) ∧ w'.ownsRow (W0 w N.bx N.br 8 u a b c).heap.size 3 1 nv (traceL N.A a b).length (ints (traceL N.A a b)) ∧ Below (W0 w N.bx N.br 8 u a b c).heap.size (W0 w N.bx N.br 8 u a b c) w') := xtrace HI0.out a b
  clear hlow hnew hY hK hgx
  go_enter Try.func63, Try.ntmps63
  go_wp2_with (first | (go_at_call 19; refine (CX.out).mono ?_; rintro e w1 ⟨nv, rfl, o1, b1⟩; have x1 := X0.out.below b1; have g1 := x1.c1; have g2 := x1.a; have g3 := x1.b; have O1 : Hid (w1.ownsRow (W0 w N.bx N.br 8 u a b c).heap.size 3 1 nv (traceL N.A a b).length (ints (traceL N.A a b))) := o1; have B1 : Hid (Below (W0 w N.bx N.br 8 u a b c).heap.size (W0 w N.bx N.br 8 u a b c) w1) := b1; clear x1 o1 b1) |
    (go_at_call 89; refine (rtrace N.br a b N.A N.Vr _ HG.out (HI0.out.r.of (B1.out.block _ HI0.out.r.lt))).mono ?_; rintro e w2 ⟨nu, rfl, o2, b2⟩; have O2 : Hid (w2.ownsRow w1.heap.size 3 1 nu (traceL N.A a b).length (ints (traceL N.A a b))) := o2; have B2 : Hid (Below w1.heap.size w1 w2) := b2; clear o2 b2) |
    (go_at_call 90; refine (same_any (traceL N.A a b) nv nu _ _ _ (ownsRow_of O1.out (fun g hg => B2.out.block g (O1.out.lt g hg).2)) O2.out (by omega)).mono ?_; rintro e w3 ⟨rfl, b3⟩; have B3 : Hid (Below w2.heap.size w2 w3) := b3; clear b3; have B4 : Hid (Below w.heap.size w w3) := ((B0.out.trans (B1.out.mono B0.out.size)).trans (B2.out.mono (Nat.le_trans B0.out.size B1.out.size))).trans (B3.out.mono (Nat.le_trans B0.out.size (Nat.le_trans B1.out.size B2.out.size))); have Y3 : Hid (Whole w3 yb 74 #[v, bv]) := HY.out.below B4.out) |
    (go_at_call 91; refine (ints_any yb B w.heap.size n (traceL N.A a b).length (fun k => ρ k = (0, 3) ∨ w.heap.size ≤ k) bv nv (ints (traceL N.A a b)) _ (Y3.out.cell 1) (Y3.out.frozen 1) ((HK.out.of (fun k _ hk => B4.out.block k hk)).mono (fun k hk => ⟨.inl hk, HL.out k hk⟩)) (ownsRow_base (ownsRow_of (ownsRow_of O1.out (fun g hg => B2.out.block g (O1.out.lt g hg).2)) (fun g hg => B3.out.block g (Nat.lt_of_lt_of_le (O1.out.lt g hg).2 B2.out.size))) B0.out.size) (fun k hk => .inr hk) B4.out.size ly hZy hB (by omega) hn).mono ?_; rintro e w4 ⟨rfl, v', c4, k4, o4, _, y4⟩))
  go_ret
  have z4 : w.heap.size ≤ w4.heap.size := Nat.le_trans B4.out.size o4.size
  refine ⟨rfl, fun k => if w.heap.size ≤ k ∧ k < w4.heap.size then (0, 3) else ρ k, v', y4 _ _ Y3.out, k4.mono (fun k hk => ?_), fun k hk => ?_, fun k hk => ?_, ⟨o4.os.trans B4.out.os, o4.tape.trans B4.out.tape, o4.output.trans B4.out.output, z4, fun k hk hs => ?_⟩⟩
  · show (if _ then _ else _) = (0, 3)
    split
    · rfl
    · next h =>
      rcases hk.1 with h1 | h1
      · exact h1
      · exact absurd ⟨h1, hk.2⟩ h
  · show (if _ then _ else _) = _
    rw [if_neg (by omega)]
  · show (if _ then _ else _) = _
    rw [if_neg (by omega)]; exact HN.out k (by omega)
  · refine (o4.block k (Nat.lt_of_lt_of_le hk B4.out.size) (fun e => ?_)).trans (B4.out.block k hk)
    rcases e with e | e | e
    · exact hs (.inl e)
    · exact hs (.inr e)
    · omega
end Go.Proofs.Ytdoodnbobpijoaa

namespace Go.Proofs.Ytdoodnbobpijoaa
open Go.RowKit

/-! ### The play -/
def ptrs (ns : List NetD) : List Value := ns.flatMap fun N => [.pointer (some ⟨N.bx, 0, none⟩), .pointer (some ⟨N.br, 0, none⟩)]
theorem ptrs_length (ns : List NetD) : (ptrs ns).length = ns.length * 2 := by
  induction ns with
  | nil => rfl
  | cons N r ih => simp only [ptrs, List.flatMap_cons, List.length_append, List.length_cons] at *; simp at *; omega
theorem ptrs_append (ns : List NetD) (N : NetD) : ptrs (ns ++ [N]) = ptrs ns ++ [.pointer (some ⟨N.bx, 0, none⟩), .pointer (some ⟨N.br, 0, none⟩)] := by simp [ptrs]
theorem ptrs_at : ∀ (ns : List NetD) (j : Nat) (N : NetD), ns[j]? = some N → (ptrs ns)[j * 2]? = some (.pointer (some ⟨N.bx, 0, none⟩)) ∧ (ptrs ns)[j * 2 + 1]? = some (.pointer (some ⟨N.br, 0, none⟩))
  | [], j, N, h => by simp at h
  | M :: r, 0, N, h => by
    have : M = N := by simpa using h
    subst this
    exact ⟨rfl, rfl⟩
  | M :: r, j + 1, N, h => by
    have := ptrs_at r j N (by simpa using h)
    have e1 : (j + 1) * 2 = j * 2 + 1 + 1 := by omega
    have e2 : (j + 1) * 2 + 1 = j * 2 + 1 + 1 + 1 := by omega
    rw [e1]
    simp only [ptrs, List.flatMap_cons, List.cons_append, List.nil_append, List.getElem?_cons_succ]
    exact this
theorem ptrs_set : ∀ (ns : List NetD) (i : Nat) (N N' : NetD), ns[i]? = some N → N'.bx = N.bx → N'.br = N.br → ptrs (ns.set i N') = ptrs ns
  | [], _, _, _, h, _, _ => by simp at h
  | M :: r, 0, N, N', h, h1, h2 => by
    have : M = N := by simpa using h
    subst this
    simp [ptrs, h1, h2]
  | M :: r, i + 1, N, N', h, h1, h2 => by
    have := ptrs_set r i N N' (by simpa using h) h1 h2
    simp only [ptrs, List.set_cons_succ, List.flatMap_cons] at *
    rw [this]
/-- The play, in memory: its nets, and a book of n lists. -/
structure Inv (w : World) (B : Nat) (ρ : Nat → Part) (yb : Nat) (ns : List NetD) (n : Nat) : Prop where
  nets : ∀ i N, ns[i]? = some N → NetI w B ρ i N
  new : ∀ k, w.heap.size ≤ k → ρ k = (0, 0)
  low : ∀ k, k < B → ρ k = (0, 0)
  hB : B ≤ w.heap.size
  y : ∃ v bv, Whole w yb 74 #[v, bv] ∧ w.ownsRow B 112 2 v ns.length (ptrs ns) ∧ (∀ g, v.ownBlock = some g → ρ g = (0, 2)) ∧ Bk w B (fun k => ρ k = (0, 3)) bv n
  py : ρ yb = (0, 1)
  yB : B ≤ yb
theorem Bk.parts {w w' : World} {B : Nat} {ρ ρ' : Nat → Part} {v : Value} {n : Nat} (h : Bk w B (fun k => ρ k = (0, 3)) v n) (hn : ∀ k, w.heap.size ≤ k → ρ k = (0, 0)) (hb : ∀ k, k < w.heap.size → ρ k = (0, 3) → w'.heap[k]? = w.heap[k]?) (hρ : ∀ k, k < w.heap.size → ρ' k = ρ k) : Bk w' B (fun k => ρ' k = (0, 3)) v n :=
  (h.of (fun k hz hk => hb k hk hz)).mono fun k hk => by
    rcases Nat.lt_or_ge k w.heap.size with h1 | h1
    · rw [hρ k h1]; exact hk
    · rw [hn k h1] at hk; simp at hk
/-- What is nobody's stays. -/
def Stays (ρ ρ' : Nat → Part) (w w' : World) : Prop := (∀ k, k < w.heap.size → ρ' k = ρ k) ∧ (∀ k, k < w.heap.size → ρ k = (0, 0) → w'.heap[k]? = w.heap[k]?) ∧ w.heap.size ≤ w'.heap.size
theorem Stays.below {ρ : Nat → Part} {w w' : World} (h : Below w.heap.size w w') : Stays ρ ρ w w' := ⟨fun _ _ => rfl, fun k hk _ => h.block k hk, h.size⟩
theorem Stays.aft {i : Nat} {ρ ρ' : Nat → Part} {w w' : World} (h : Aft i ρ ρ' w w') : Stays ρ ρ' w w' := ⟨h.old, fun k hk h0 => h.only.block k hk (by rw [h0]; simp), h.only.size⟩
theorem Stays.trans {ρ ρ1 ρ2 : Nat → Part} {a b c : World} (h : Stays ρ ρ1 a b) (k : Stays ρ1 ρ2 b c) : Stays ρ ρ2 a c :=
  ⟨fun j hj => (k.1 j (Nat.lt_of_lt_of_le hj h.2.2)).trans (h.1 j hj), fun j hj h0 => (k.2.1 j (Nat.lt_of_lt_of_le hj h.2.2) (by rw [h.1 j hj]; exact h0)).trans (h.2.1 j hj h0), Nat.le_trans h.2.2 k.2.2⟩
theorem Inv.step {w w' : World} {B : Nat} {ρ ρ' : Nat → Part} {yb i n : Nat} {ns : List NetD} {N N' : NetD} (h : Inv w B ρ yb ns n) (hi : ns[i]? = some N) (hN : NetI w' B ρ' i N') (h1 : N'.bx = N.bx) (h2 : N'.br = N.br) (ha : Aft i ρ ρ' w w') :
    Inv w' B ρ' yb (ns.set i N') n ∧ Below B w w' := by
  obtain ⟨v, bv, y1, y2, y3, y4⟩ := h.y
  have hsz := ha.only.size
  have hil : i < ns.length := (List.getElem?_eq_some_iff.1 hi).1
  refine ⟨⟨fun j M hj => ?_, ha.new, fun k hk => ?_, Nat.le_trans h.hB hsz, ⟨v, bv, ?_, ?_, fun g hg => ?_, ?_⟩, ?_, h.yB⟩, ha.only.os, ha.only.tape, ha.only.output, hsz, fun k hk => ?_⟩
  · by_cases hji : j = i
    · subst hji
      rw [List.getElem?_set_self hil] at hj
      have : N' = M := by simpa using hj
      rw [← this]; exact hN
    · rw [List.getElem?_set_ne (Ne.symm hji)] at hj
      exact (h.nets j M hj).of (fun k hk hp => ha.only.block k hk (by rw [hp]; omega)) ha.old
  · rw [ha.old k (Nat.lt_of_lt_of_le hk h.hB)]; exact h.low k hk
  · exact y1.of (ha.only.block yb y1.lt (by rw [h.py]; simp))
  · rw [ptrs_set ns i N N' hi h1 h2, List.length_set]
    exact ownsRow_of y2 fun g hg => ha.only.block g (y2.lt g hg).2 (by rw [y3 g hg]; simp)
  · rw [ha.old g (y2.lt g hg).2]; exact y3 g hg
  · exact y4.parts h.new (fun k hk hz => ha.only.block k hk (by rw [hz]; simp)) ha.old
  · rw [ha.old yb y1.lt]; exact h.py
  · exact ha.only.block k (Nat.lt_of_lt_of_le hk h.hB) (by rw [h.low k hk]; simp)
theorem Inv.of {w w' : World} {B : Nat} {ρ : Nat → Part} {yb n : Nat} {ns : List NetD} (h : Inv w B ρ yb ns n) (hb : ∀ k, k < w.heap.size → w'.heap[k]? = w.heap[k]?) (hs : w.heap.size ≤ w'.heap.size) : Inv w' B ρ yb ns n := by
  obtain ⟨v, bv, y1, y2, y3, y4⟩ := h.y
  exact ⟨fun i N hi => (h.nets i N hi).of (fun k hk _ => hb k hk) (fun _ _ => rfl), fun k hk => h.new k (Nat.le_trans hs hk), h.low, Nat.le_trans h.hB hs, ⟨v, bv, y1.of (hb _ y1.lt), ownsRow_of y2 fun g hg => hb g (y2.lt g hg).2, y3, y4.of fun k _ hk => hb k hk⟩, h.py, h.yB⟩
theorem Inv.below {w w' : World} {B : Nat} {ρ : Nat → Part} {yb n : Nat} {ns : List NetD} (h : Inv w B ρ yb ns n) (hb : Below w.heap.size w w') : Inv w' B ρ yb ns n := h.of (fun k hk => hb.block k hk) hb.size
/-- One list more in the book. -/
theorem Inv.listed {w w' : World} {B : Nat} {ρ ρ' : Nat → Part} {yb n : Nat} {ns : List NetD} {v bv bv' : Value} (h : Inv w B ρ yb ns n) (y1 : Whole w yb 74 #[v, bv]) (y1' : Whole w' yb 74 #[v, bv']) (y4 : Bk w' B (fun k => ρ' k = (0, 3)) bv' (n + 1)) (hρ : ∀ k, k < w.heap.size → ρ' k = ρ k) (hn : ∀ k, w'.heap.size ≤ k → ρ' k = (0, 0)) (ho : Only (fun k => k = yb ∨ ρ k = (0, 3)) w w') :
    Inv w' B ρ' yb ns (n + 1) ∧ Below B w w' ∧ Stays ρ ρ' w w' := by
  obtain ⟨v0, bv0, z1, z2, z3, z4⟩ := h.y
  have ev : v0 = v := by
    have e1 := z1.cell 0
    rw [y1.cell 0] at e1
    simpa using e1.symm
  subst ev
  have hsz := ho.size
  have hb := h.hB
  refine ⟨⟨fun i N hi => (h.nets i N hi).of (fun k hk hp => ho.block k hk ?_) hρ, hn, fun k hk => ?_, Nat.le_trans hb hsz, ⟨v0, bv', y1', ownsRow_of z2 fun g hg => ho.block g (z2.lt g hg).2 ?_, fun g hg => ?_, y4⟩, ?_, h.yB⟩, ⟨ho.os, ho.tape, ho.output, hsz, fun k hk => ho.block k (by omega) ?_⟩, ⟨hρ, fun k hk h0 => ho.block k hk ?_, hsz⟩⟩
  · rintro (e | e)
    · rw [e, h.py] at hp; simp at hp
    · rw [e] at hp; simp at hp
  · rw [hρ k (by omega)]; exact h.low k hk
  · have hz := z3 g hg
    rintro (e | e)
    · rw [e, h.py] at hz; simp at hz
    · rw [e] at hz; simp at hz
  · rw [hρ g (z2.lt g hg).2]; exact z3 g hg
  · rw [hρ yb z1.lt]; exact h.py
  · have hz := h.low k hk
    have hy := h.yB
    rintro (e | e)
    · omega
    · rw [e] at hz; simp at hz
  · rintro (e | e)
    · rw [e, h.py] at h0; simp at h0
    · rw [e] at h0; simp at h0
/-! ### Small functions of the play -/
theorem ret_int {k : IntKind} {a b : Int} (h : a = b) : Ending.returned (.int k a) = .returned (.int k b) := by rw [h]
set_option maxHeartbeats 400000 in
theorem pick_any (c : Int) (n : Nat) (hc0 : -9223372036854775808 ≤ c) (hc1 : c ≤ 9223372036854775807) (hn : 0 < n) (hn' : n ≤ maxLen) :
    ∃ j : Nat, j < n ∧ ∀ w : World, Calls Try.prog 62 #[.int .i64 c, .int .i64 n] w fun e w' => e = .returned (.int .i64 j) ∧ w = w' := by
  unfold maxLen at hn'
  have hn1 : (0 : Int) < (n : Int) := by omega
  have hn2 : (n : Int) ≤ 9223372036854775807 := by omega
  have hn3 : ((n : Int) == 0) = false := by rw [beq_eq_false_iff_ne]; omega
  by_cases h1 : c < 0
  · have h2 : (-(c + 1)).tmod n = (-(c + 1)) % n := Int.tmod_eq_emod_of_nonneg (by omega)
    have h3 := Int.emod_nonneg (-(c + 1)) (by omega : (n : Int) ≠ 0)
    have h4 := Int.emod_lt_of_pos (-(c + 1)) hn1
    refine ⟨((-(c + 1)) % n).toNat, by omega, fun w => ?_⟩
    have HE : Hid (-((c + 1).tmod n) = (((-(c + 1)) % (n : Int)).toNat : Nat)) := by show -((c + 1).tmod n) = (((-(c + 1)) % (n : Int)).toNat : Nat); rw [← Int.neg_tmod]; omega
    clear h2 h3 h4
    go_enter Try.func62, Try.ntmps62
    go_wp2
    go_ret
    exact ⟨ret_int HE.out, rfl⟩
  · have h2 : c.tmod n = c % n := Int.tmod_eq_emod_of_nonneg (by omega)
    have h3 := Int.emod_nonneg c (by omega : (n : Int) ≠ 0)
    have h4 := Int.emod_lt_of_pos c hn1
    obtain ⟨j, hj⟩ := Int.eq_ofNat_of_zero_le h3
    refine ⟨j, by omega, fun w => ?_⟩
    have HE : Hid (c % (n : Int) = (j : Int)) := hj; clear hj
    clear h2 h3 h4
    go_enter Try.func62, Try.ntmps62
    go_wp2
    go_ret
    exact ⟨ret_int HE.out, rfl⟩
def headA : Array Value := #[I 1, I 0, I 3, I 0, I 0, I 2, I 0, I 0, I 1, I 2, I 2, I 0, I 1, I 2, I 3]
set_option maxHeartbeats 400000 in
theorem head_any (w : World) : Calls Try.prog 35 #[] w fun e w' => e = .returned (.slice (some ⟨w.heap.size, 0, none⟩) 3 3) ∧ w.alloc (.cells headA 78) = w' := by
  have hbs : ∀ w, (Instr.buildSlice 22 3 #[(0, .agg #[.int .i64 1, .int .i64 0, .int .i64 3, .int .i64 0, .int .i64 0]), (1, .agg #[.int .i64 2, .int .i64 0, .int .i64 0, .int .i64 1, .int .i64 2]), (2, .agg #[.int .i64 2, .int .i64 0, .int .i64 1, .int .i64 2, .int .i64 3])]).run Try.prog w = .ok (.slice (some ⟨w.heap.size, 0, none⟩) 3 3) (w.alloc (.cells headA 78)) := fun w => by kernel_rfl
  go_enter Try.func35, Try.ntmps35
  go_wp2
  go_ret
  exact ⟨rfl, rfl⟩
end Go.Proofs.Ytdoodnbobpijoaa

namespace Go.Proofs.Ytdoodnbobpijoaa
open Go.RowKit

/-! ### One net more -/
def freshN (bx bs br n : Nat) : NetD := ⟨bx, bs, br, newN n, fun _ _ => .slice none 0 0, fun _ _ => .slice none 0 0⟩
theorem Inv.opened {w w2 w0 w3 : World} {B yb bx bs br n g cap m : Nat} {ρ : Nat → Part} {ns : List NetD} {v bv : Value} (h : Inv w B ρ yb ns m) (h2 : 2 ≤ n) (h5 : n ≤ 5) (lx : w.heap.size ≤ bx) (ls : w.heap.size ≤ bs) (lr : w.heap.size ≤ br) (nxr : bx ≠ br) (nsr : bs ≠ br)
    (hP : PN w2 bx bs (newN n) (fun _ _ => .slice none 0 0)) (hR : RN w2 br (newN n) (fun _ _ => .slice none 0 0)) (b2 : Below w.heap.size w w2)
    (y1 : Whole w yb 74 #[v, bv]) (y2 : w.ownsRow B 112 2 v ns.length (ptrs ns)) (y3 : ∀ k, v.ownBlock = some k → ρ k = (0, 2)) (y4 : Bk w B (fun k => ρ k = (0, 3)) bv m)
    (b0 : Below w2.heap.size w2 w0) (hs : w0.heap.size = w2.heap.size + 1)
    (ho : w3.ownsRow B 112 2 (.slice (some ⟨g, 0, none⟩) (ns.length + 1) cap) (ns.length + 1) (ptrs ns ++ [.pointer (some ⟨bx, 0, none⟩), .pointer (some ⟨br, 0, none⟩)])) (hgrow : w0.grownBy w3 v.ownBlock) (hat : v.ownBlock = some g ∨ g = w2.heap.size + 1) (hlt : g < w3.heap.size) :
    ∃ ρ', Inv (w3.setCell ⟨yb, 0, none⟩ (.slice (some ⟨g, 0, none⟩) (ns.length + 1) cap)) B ρ' yb (ns ++ [freshN bx bs br n]) m ∧ Below B w (w3.setCell ⟨yb, 0, none⟩ (.slice (some ⟨g, 0, none⟩) (ns.length + 1) cap)) ∧ Stays ρ ρ' w (w3.setCell ⟨yb, 0, none⟩ (.slice (some ⟨g, 0, none⟩) (ns.length + 1) cap)) := by
  have nxs := hP.ne
  have l2x := hP.lt
  have l2s := hP.lts (by show 0 < n; omega)
  have l2r := hR.lt
  have zy := y1.lt
  have z2 := b2.size
  have z3 := hgrow.size
  have hv : ∀ k, v.ownBlock = some k → k < w.heap.size := fun k hk => (y2.lt k hk).2
  have hgo : g < w.heap.size → ρ g = (0, 2) := fun hg => by
    rcases hat with e | e
    · exact y3 g e
    · omega
  have hgn : ∀ k, k < w2.heap.size → k = g → v.ownBlock = some k := fun k hk e => by
    rcases hat with e' | e'
    · rw [e]; exact e'
    · omega
  have keep : ∀ k, k < w2.heap.size → some k ≠ v.ownBlock → k ≠ yb → (w3.setCell ⟨yb, 0, none⟩ (.slice (some ⟨g, 0, none⟩) (ns.length + 1) cap)).heap[k]? = w2.heap[k]? := fun k hk h1 h2 => by
    rw [heap_setCell_other _ _ _ _ h2, hgrow.block k (by omega) h1, b0.block k hk]
  have old : ∀ k, k < w.heap.size → (if k = g then ((0, 2) : Part) else if k = bx then (ns.length + 1, 0) else if k = bs then (ns.length + 1, 1) else if k = br then (ns.length + 1, 2) else ρ k) = ρ k := fun k hk => by
    by_cases e : k = g
    · subst e; simp only [if_true]; exact (hgo hk).symm
    · simp only [e, if_false]
      rw [if_neg (by omega), if_neg (by omega), if_neg (by omega)]
  refine ⟨fun k => if k = g then (0, 2) else if k = bx then (ns.length + 1, 0) else if k = bs then (ns.length + 1, 1) else if k = br then (ns.length + 1, 2) else ρ k, ?_, ?_, ?_⟩
  rotate_left
  · refine ⟨hgrow.os.trans (b0.os.trans b2.os), hgrow.tape.trans (b0.tape.trans b2.tape), hgrow.output.trans (b0.output.trans b2.output), by simp; omega, fun k hk => ?_⟩
    have hk' := h.hB
    rw [keep k (by omega) (fun e => by have := (y2.lt k e.symm).1; omega) (by have := h.yB; omega), b2.block k (by omega)]
  · refine ⟨old, fun k hk h0 => ?_, by simp; omega⟩
    rw [keep k (by omega) (fun e => by have := y3 k e.symm; rw [h0] at this; simp at this) (fun e => by have := h.py; rw [← e, h0] at this; simp at this), b2.block k hk]
  · have gx : bx ≠ g := fun e => by have := hv _ (hgn bx l2x e); omega
    have gs : bs ≠ g := fun e => by have := hv _ (hgn bs l2s e); omega
    have gr : br ≠ g := fun e => by have := hv _ (hgn br l2r e); omega
    have kx := keep bx l2x (fun e => by have := hv _ e.symm; omega) (by omega)
    have ks := keep bs l2s (fun e => by have := hv _ e.symm; omega) (by omega)
    have kr := keep br l2r (fun e => by have := hv _ e.symm; omega) (by omega)
    refine ⟨fun i N hi => ?_, fun k hk => ?_, fun k hk => ?_, ?_, ⟨.slice (some ⟨g, 0, none⟩) (ns.length + 1) cap, bv, ?_, ?_, ?_, ?_⟩, ?_, h.yB⟩
    · by_cases hin : i < ns.length
      · rw [List.getElem?_append_left hin] at hi
        refine (h.nets i N hi).of (fun k hk hp => ?_) old
        rw [keep k (by omega) (fun e => by rw [y3 k e.symm] at hp; simp at hp) (fun e => by rw [e, h.py] at hp; simp at hp), b2.block k hk]
      · have hil := (List.getElem?_eq_some_iff.1 hi).1
        simp at hil
        have e : i = ns.length := by omega
        subst e
        have : freshN bx bs br n = N := by simpa using hi
        subst this
        exact ⟨Good.new n h2 h5, Good.new n h2 h5, hP.of kx ks, hR.of kr, newWR _ _ _ _ _ _, newWR _ _ _ _ _ _, by simp only [freshN, gx, if_false, if_true], by simp only [freshN, gs, nxs.symm, if_false, if_true], by simp only [freshN, gr, nxr.symm, nsr.symm, if_false, if_true]⟩
    · have hk' : w3.heap.size ≤ k := by simpa using hk
      rw [if_neg (by omega), if_neg (by omega), if_neg (by omega), if_neg (by omega)]
      exact h.new k (by omega)
    · rw [old k (by have := h.hB; omega)]; exact h.low k hk
    · have := h.hB; simp; omega
    · have yw : Whole w3 yb 74 #[v, bv] := by
        refine y1.of ?_
        rw [hgrow.block yb (by omega) (fun e => by have h1 := y3 yb e.symm; rw [h.py] at h1; simp at h1), b0.block yb (by omega), b2.block yb zy]
      exact yw.setAt 0 _
    · rw [ptrs_append, List.length_append]
      refine ownsRow_of ho fun k hk => heap_setCell_other _ _ _ _ ?_
      intro e
      have ek : g = k := by simpa [Value.ownBlock] using hk
      have e : k = yb := e
      rcases hat with e' | e'
      · have h1 := y3 g e'; rw [ek, e, h.py] at h1; simp at h1
      · omega
    · intro k hk
      have ek : g = k := by simpa [Value.ownBlock] using hk
      simp [ek]
    · refine y4.parts h.new (fun k hk hz => ?_) old
      rw [keep k (by omega) (fun e => by have := y3 k e.symm; rw [hz] at this; simp at this) (fun e => by have := h.py; rw [← e, hz] at this; simp at this), b2.block k hk]
    · rw [old yb zy]; exact h.py
theorem infoB : ∃ i z, Try.prog.info? 112 = some i ∧ i.zero = some z ∧ i.size = 2 ∧ i.bytes = 16 ∧ z.cells.size = 2 := by
  have h : (match Try.prog.info? 112 with | some i => (match i.zero with | some z => i.size == 2 && i.bytes == 16 && z.cells.size == 2 | none => false) | none => false) = true := by kernel_rfl
  cases hi : Try.prog.info? 112 with
  | none => simp [hi] at h
  | some i =>
    cases hz : i.zero with
    | none => simp [hi, hz] at h
    | some z => simp [hi, hz] at h; exact ⟨i, z, rfl, hz, h.1.1, h.1.2, h.2⟩
set_option maxHeartbeats 1000000 in
theorem opened_no (yb : Nat) (n : Int) (w : World) (h : n < 2 ∨ 5 < n) :
    Calls Try.prog 61 #[.pointer (some ⟨yb, 0, none⟩), .int .i64 n] w fun e w' => e = .returned (.bool true) ∧ w = w' := by
  go_enter Try.func61, Try.ntmps61
  go_wp2_with (first | (go_at_call 38; refine (pnew_no n _ h).mono ?_; rintro e w1 ⟨rfl, rfl⟩) | (go_at_call 85; refine (rnew_no n _ h).mono ?_; rintro e w2 ⟨rfl, rfl⟩))
  go_ret
  exact ⟨rfl, rfl⟩
set_option maxHeartbeats 1000000 in
theorem opened_ok (yb B n m : Nat) (ρ : Nat → Part) (ns : List NetD) (w : World) (h2 : 2 ≤ n) (h5 : n ≤ 5) (hI : Inv w B ρ yb ns m) (hL : ns.length + 1 ≤ maxLen) (hY : (ns.length + 1) * 16 ≤ 140737488355328) :
    Calls Try.prog 61 #[.pointer (some ⟨yb, 0, none⟩), .int .i64 n] w fun e w' => e = .returned (.bool true) ∧ ∃ ρ' N, Inv w' B ρ' yb (ns ++ [N]) m ∧ Below B w w' ∧ Stays ρ ρ' w w' := by
  obtain ⟨v, bv, y1, y2, y3, y4⟩ := hI.y
  obtain ⟨i, z, hi1, hi2, hi3, hi4, hi5⟩ := infoB
  have I1 : Hid (Try.prog.info? 112 = some i) := hi1; have I2 : Hid (i.zero = some z) := hi2; have I3 : Hid (i.size = 2) := hi3; have I4 : Hid (i.bytes = 16) := hi4; have I5 : Hid (z.cells.size = 2) := hi5
  clear hi1 hi2 hi3 hi4 hi5
  have HL : Hid (ns.length + 1 ≤ maxLen) := hL; clear hL
  have HY : Hid ((ns.length + 1) * 16 ≤ 140737488355328) := hY; clear hY
  have HI : Hid (Inv w B ρ yb ns m) := hI; clear hI
  have Y1 : Hid (Whole w yb 74 #[v, bv]) := y1; clear y1
  have Y2 : Hid (w.ownsRow B 112 2 v ns.length (ptrs ns)) := y2; clear y2
  have Y3 : Hid (∀ k, v.ownBlock = some k → ρ k = (0, 2)) := y3; clear y3
  have Y4 : Hid (Bk w B (fun k => ρ k = (0, 3)) bv m) := y4; clear y4
  go_enter Try.func61, Try.ntmps61
  go_wp2_with (first | (go_at_call 38; refine (pnew_ok n _ h2 h5).mono ?_; rintro e w1 ⟨bx, bs, lx, ls, rfl, p1, b1⟩) |
    (go_at_call 85; refine (rnew_ok n _ h2 h5).mono ?_; rintro e w2 ⟨br, lr, rfl, r2, b2⟩
     have hn0 : 0 < (newN n).n := (show 0 < n by omega)
     have P2 : Hid (PN w2 bx bs (newN n) (fun _ _ => .slice none 0 0)) := p1.below hn0 b2
     have R2 : Hid (RN w2 br (newN n) (fun _ _ => .slice none 0 0)) := r2
     have B2 : Hid (Below w.heap.size w w2) := b1.trans (b2.mono b1.size)
     have nxr : Hid (bx ≠ br) := Nat.ne_of_lt (Nat.lt_of_lt_of_le p1.lt lr)
     have nsr : Hid (bs ≠ br) := Nat.ne_of_lt (Nat.lt_of_lt_of_le (p1.lts hn0) lr)
     have LX : Hid (w.heap.size ≤ bx) := lx
     have LS : Hid (w.heap.size ≤ bs) := ls
     have LR : Hid (w.heap.size ≤ br) := Nat.le_trans b1.size lr
     have yw := (Y1.out.below B2.out)
     have c0 : w2.cell? ⟨yb, 0, none⟩ = some v := (yw.cell 0).trans rfl
     have ly := yw.lt
     have O2 : Hid ((w2.alloc (.cells #[.pointer (some ⟨bx, 0, none⟩), .pointer (some ⟨br, 0, none⟩)] 112)).ownsRow B 112 2 v ns.length (ptrs ns)) := (ownsRow_of Y2.out fun g hg => B2.out.block g (Y2.out.lt g hg).2).alloc _
     have HBw : Hid (B ≤ (w2.alloc (.cells #[.pointer (some ⟨bx, 0, none⟩), .pointer (some ⟨br, 0, none⟩)] 112)).heap.size) := (by have h1 := HI.out.hB; have h2 := B2.out.size; show B ≤ (w2.alloc (.cells #[.pointer (some ⟨bx, 0, none⟩), .pointer (some ⟨br, 0, none⟩)] 112)).heap.size; simp; omega)
     have YW : Hid (Whole w2 yb 74 #[v, bv]) := yw
     clear p1 r2 b1 b2 lx ls lr yw) |
    (at_builtin; refine wpList_append_lies _ (by rfl) _ _ 69 (by rfl) B 112 i z 2 16 Try.underlying69 I1.out I2.out I3.out I4.out I5.out (by omega) v ns.length (ptrs ns) (by rfl) O2.out ⟨w2.heap.size, 0, none⟩ 1 1 [.pointer (some ⟨bx, 0, none⟩), .pointer (some ⟨br, 0, none⟩)] (by rfl) rfl (World.news_of_block (heap_alloc_new w2 _)) (by simp [Value.oneCell']) (by omega) HL.out HY.out HBw.out (w2.heap.size + 1) (by simp) ?_; intro g cap w3 ho hgrow hat hlt
     have yw3 : Whole w3 yb 74 #[v, bv] := (YW.out.alloc _).of (hgrow.block yb (by simp; omega) (fun e => by have h1 := Y3.out yb e.symm; rw [HI.out.py] at h1; simp at h1))
     have c3 : w3.cell? ⟨yb, 0, none⟩ = some v := (yw3.cell 0).trans rfl
     have f3 := yw3.frozen 0
     clear yw3))
  go_ret
  obtain ⟨ρ', q1, q2, q3⟩ := Inv.opened HI.out h2 h5 LX.out LS.out LR.out nxr.out nsr.out P2.out R2.out B2.out Y1.out Y2.out Y3.out Y4.out (w0 := w2.alloc (.cells #[.pointer (some ⟨bx, 0, none⟩), .pointer (some ⟨br, 0, none⟩)] 112)) ((Below.refl _ _).alloc (Nat.le_refl _) _) (by simp) ho hgrow hat hlt
  exact ⟨rfl, ρ', _, q1, q2, q3⟩
end Go.Proofs.Ytdoodnbobpijoaa

namespace Go.Proofs.Ytdoodnbobpijoaa
open Go.RowKit

abbrev opV (k u a b c : Int) : Value := .agg #[.int .i64 k, .int .i64 u, .int .i64 a, .int .i64 b, .int .i64 c]
theorem allocO (w : World) (k u a b c : Int) : Below w.heap.size w (w.alloc (.cells #[.int .i64 k, .int .i64 u, .int .i64 a, .int .i64 b, .int .i64 c] 78)) := (Below.refl _ _).alloc (Nat.le_refl _) _
set_option maxHeartbeats 1000000 in
theorem step_new (yb B n : Nat) (x u b c : Int) (ρ : Nat → Part) (ns : List NetD) (w : World) (hI : Inv w B ρ yb ns n) (hL : ns.length + 1 ≤ maxLen) (hY : (ns.length + 1) * 16 ≤ 140737488355328) :
    Calls Try.prog 36 #[.pointer (some ⟨yb, 0, none⟩), opV 1 u x b c] w fun e w' => e = .returned (.bool true) ∧ ∃ ρ' ns' n', Inv w' B ρ' yb ns' n' ∧ Below B w w' ∧ ns.length ≤ ns'.length ∧ ns'.length ≤ ns.length + 1 ∧ n' ≤ n + 1 ∧ Stays ρ ρ' w w' := by
  have b0 := allocO w 1 u x b c
  have I0 := hI.below b0
  have HI0 : Hid (Inv (w.alloc (.cells #[.int .i64 1, .int .i64 u, .int .i64 x, .int .i64 b, .int .i64 c] 78)) B ρ yb ns n) := I0; clear I0
  have HB : Hid (B ≤ w.heap.size) := hI.hB
  have B0 : Hid (Below w.heap.size w (w.alloc (.cells #[.int .i64 1, .int .i64 u, .int .i64 x, .int .i64 b, .int .i64 c] 78))) := b0; clear b0
  clear hI
  by_cases hn : x < 2 ∨ 5 < x
  · go_enter Try.func36, Try.ntmps36
    go_wp2_with (go_at_call 61; refine (opened_no yb x _ hn).mono ?_; rintro e w1 ⟨rfl, rfl⟩)
    go_ret
    exact ⟨rfl, ρ, ns, n, HI0.out, B0.out.mono HB.out, Nat.le_refl _, Nat.le_succ _, Nat.le_succ _, Stays.below B0.out⟩
  · have hn2 : 2 ≤ x := by omega
    have hn5 : x ≤ 5 := by omega
    obtain ⟨m, rfl⟩ := Int.eq_ofNat_of_zero_le (by omega : 0 ≤ x)
    clear hn
    have h2 : 2 ≤ m := by omega
    have h5 : m ≤ 5 := by omega
    clear hn2 hn5
    have HL : Hid (ns.length + 1 ≤ maxLen) := hL; clear hL
    have HY : Hid ((ns.length + 1) * 16 ≤ 140737488355328) := hY; clear hY
    go_enter Try.func36, Try.ntmps36
    go_wp2_with (go_at_call 61; refine (opened_ok yb B m n ρ ns _ h2 h5 HI0.out HL.out HY.out).mono ?_; rintro e w1 ⟨rfl, ρ', N, i1, b1, s1⟩)
    go_ret
    exact ⟨rfl, ρ', _, n, i1, (B0.out.mono HB.out).trans b1, by simp, by simp, Nat.le_succ _, (Stays.below B0.out).trans s1⟩
set_option maxHeartbeats 1000000 in
theorem step_empty (yb B n : Nat) (k u a b c : Int) (ρ : Nat → Part) (w : World) (hI : Inv w B ρ yb [] n) (hk : 2 ≤ k) :
    Calls Try.prog 36 #[.pointer (some ⟨yb, 0, none⟩), opV k u a b c] w fun e w' => e = .returned (.bool true) ∧ Below w.heap.size w w' := by
  have b0 := allocO w k u a b c
  obtain ⟨v, bv, y1, y2, _⟩ := (hI.below b0).y
  have hv : v = .slice none 0 0 ∨ ∃ ad cap, v = .slice (some ad) 0 cap := by
    rcases y2.2 with ⟨e, _⟩ | ⟨g, cap, cur, e, _⟩
    · exact .inl e
    · exact .inr ⟨_, cap, e⟩
  have c0 := (y1.cell 0).trans (show (#[v, bv] : Array Value)[0]? = some v from rfl)
  have hk1 : (k == 1) = false := by rw [beq_eq_false_iff_ne]; omega
  have B0 : Hid (Below w.heap.size w (w.alloc (.cells #[.int .i64 k, .int .i64 u, .int .i64 a, .int .i64 b, .int .i64 c] 78))) := b0; clear b0
  clear hI y1 y2
  rcases hv with rfl | ⟨ad, cap, rfl⟩
  · go_enter Try.func36, Try.ntmps36
    go_wp2
    go_ret
    exact ⟨rfl, B0.out⟩
  · go_enter Try.func36, Try.ntmps36
    go_wp2
    go_ret
    exact ⟨rfl, B0.out⟩
def S5 (yb g len cap ob j bx br : Nat) (u : Int) (w' : World) : Prop := w'.cell? ⟨yb, 0, none⟩ = some (.slice (some ⟨g, 0, none⟩) len cap) ∧ w'.cell? ⟨ob, 1, none⟩ = some (.int .i64 u) ∧ w'.cell? ⟨g, j * 2, none⟩ = some (.pointer (some ⟨bx, 0, none⟩)) ∧ w'.cell? ⟨g, j * 2 + 1, none⟩ = some (.pointer (some ⟨br, 0, none⟩))
theorem S5.alloc {yb g len cap ob j bx br : Nat} {u : Int} {w : World} (h : S5 yb g len cap ob j bx br u w) (o : Obj) : S5 yb g len cap ob j bx br u (w.alloc o) := four_below2 h ((Below.refl _ _).alloc (Nat.le_refl _) _)
/-- The net that a step speaks of: where it lies. -/
theorem Inv.at {w : World} {B yb n : Nat} {ρ : Nat → Part} {ns : List NetD} (h : Inv w B ρ yb ns n) (hne : ns ≠ []) :
    ∃ g cap, w.cell? ⟨yb, 0, none⟩ = some (.slice (some ⟨g, 0, none⟩) ns.length cap) ∧ ns.length ≤ maxLen ∧ ∀ j N, ns[j]? = some N → w.cell? ⟨g, j * 2, none⟩ = some (.pointer (some ⟨N.bx, 0, none⟩)) ∧ w.cell? ⟨g, j * 2 + 1, none⟩ = some (.pointer (some ⟨N.br, 0, none⟩)) := by
  obtain ⟨v, bv, y1, y2, _⟩ := h.y
  have hl : 0 < ns.length := List.length_pos_iff.2 hne
  rcases y2.2 with ⟨_, e⟩ | ⟨g, cap, cur, e, h1, h2, h3, h4, h5, h6⟩
  · omega
  · refine ⟨g, cap, ?_, by omega, fun j N hj => ?_⟩
    · rw [y1.cell 0, e]; rfl
    · have hc := y2.cells (g := g) (by rw [e]; rfl)
      have hp := ptrs_at ns j N hj
      have a1 := hc (j * 2) _ hp.1
      have a2 := hc (j * 2 + 1) _ hp.2
      rw [Addr.add_mid] at a1 a2
      rw [Nat.zero_add] at a1 a2
      exact ⟨a1, a2⟩
attribute [local go_sem ↓] Go.wp_at_zero Go.wp_at_succ
set_option maxHeartbeats 2000000 in
set_option maxRecDepth 100000 in
theorem step_wait (yb B n : Nat) (u a b c : Int) (ρ : Nat → Part) (ns : List NetD) (w : World) (hI : Inv w B ρ yb ns n) (hne : ns ≠ []) (hu0 : -9223372036854775808 ≤ u) (hu1 : u ≤ 9223372036854775807) :
    Calls Try.prog 36 #[.pointer (some ⟨yb, 0, none⟩), opV 4 u a b c] w fun e w' => e = .returned (.bool true) ∧ ∃ ρ' ns' n', Inv w' B ρ' yb ns' n' ∧ Below B w w' ∧ ns.length ≤ ns'.length ∧ ns'.length ≤ ns.length + 1 ∧ n' ≤ n + 1 ∧ Stays ρ ρ' w w' := by
  have b0 := allocO w 4 u a b c
  have I0 := hI.below b0
  obtain ⟨g, cap, c0, hlen, hat⟩ := I0.at hne
  have hpos : 0 < ns.length := List.length_pos_iff.2 hne
  obtain ⟨j, hj, PK⟩ := pick_any u ns.length hu0 hu1 hpos hlen
  obtain ⟨N, hN⟩ : ∃ N, ns[j]? = some N := ⟨ns[j], by simp [hj]⟩
  have hj' : (j : Int) < (ns.length : Int) := by omega
  have hj0 : (0 : Int) ≤ (j : Int) := by omega
  have hl0 : ((ns.length : Int) == 0) = false := by rw [beq_eq_false_iff_ne]; omega
  have hx := hat j N hN
  have sS : S5 yb g ns.length cap w.heap.size j N.bx N.br u (w.alloc (.cells #[.int .i64 4, .int .i64 u, .int .i64 a, .int .i64 b, .int .i64 c] 78)).drew := ⟨c0, (Whole.new w 78 #[.int .i64 4, .int .i64 u, .int .i64 a, .int .i64 b, .int .i64 c]).cell 1, hx.1, hx.2⟩
  have HP : Hid (∀ w : World, Calls Try.prog 62 #[.int .i64 u, .int .i64 ns.length] w fun e w' => e = .returned (.int .i64 j) ∧ w = w') := PK; clear PK
  have HI : Hid (Inv w B ρ yb ns n) := hI
  have NI0 := I0.nets j N hN
  have HNI0 : Hid (NetI (w.alloc (.cells #[.int .i64 4, .int .i64 u, .int .i64 a, .int .i64 b, .int .i64 c] 78)) B ρ j N) := NI0; clear NI0
  have B0 : Hid (Below w.heap.size w (w.alloc (.cells #[.int .i64 4, .int .i64 u, .int .i64 a, .int .i64 b, .int .i64 c] 78))) := b0; clear b0
  have HB : Hid (B ≤ w.heap.size) := hI.hB
  have Hj : Hid (ns[j]? = some N) := hN; clear hN
  clear hat I0 hx hI hu0 hu1
  unfold maxLen at hlen
  have D1 : Hid (Below w.heap.size w (((w.alloc (.cells #[.int .i64 4, .int .i64 u, .int .i64 a, .int .i64 b, .int .i64 c] 78)).alloc (.cells #[.pointer (some ⟨N.bx, 0, none⟩), .pointer (some ⟨N.br, 0, none⟩)] 112)).drew)) := (B0.out.alloc B0.out.size _).drew
  have NI : Hid (NetI (((w.alloc (.cells #[.int .i64 4, .int .i64 u, .int .i64 a, .int .i64 b, .int .i64 c] 78)).alloc (.cells #[.pointer (some ⟨N.bx, 0, none⟩), .pointer (some ⟨N.br, 0, none⟩)] 112)).drew) B ρ j N) := HNI0.out.below ((Below.refl _ _).alloc (Nat.le_refl _) _).drew
  have NW : Hid (∀ k, (((w.alloc (.cells #[.int .i64 4, .int .i64 u, .int .i64 a, .int .i64 b, .int .i64 c] 78)).alloc (.cells #[.pointer (some ⟨N.bx, 0, none⟩), .pointer (some ⟨N.br, 0, none⟩)] 112)).drew).heap.size ≤ k → ρ k = (0, 0)) := fun k hk => HI.out.new k (Nat.le_trans D1.out.size hk)
  have S15 : Hid (S5 yb g ns.length cap w.heap.size j N.bx N.br u (((w.alloc (.cells #[.int .i64 4, .int .i64 u, .int .i64 a, .int .i64 b, .int .i64 c] 78)).alloc (.cells #[.pointer (some ⟨N.bx, 0, none⟩), .pointer (some ⟨N.br, 0, none⟩)] 112)).drew)) := (show S5 yb g ns.length cap w.heap.size j N.bx N.br u (((w.alloc (.cells #[.int .i64 4, .int .i64 u, .int .i64 a, .int .i64 b, .int .i64 c] 78)).alloc (.cells #[.pointer (some ⟨N.bx, 0, none⟩), .pointer (some ⟨N.br, 0, none⟩)] 112)).drew) from sS.alloc _)
  go_enter Try.func36, Try.ntmps36
  go_wp2_with fail
  refine wp_region_held_drew (S := (S5 yb g ns.length cap w.heap.size j N.bx N.br u)) (by kernel_rfl) sS (fun _ => ?_)
  change wpAnyH _ _ _ _ _ _ _ _ (World.drew _)
  refine held_hq (fun _ _ x _ _ h => by cases x <;> exact h) ?_
  intro hQ
  refine held_to 0 (some 29) (.pointer (some ⟨yb, 0, none⟩)) hQ sS rfl rfl (by kernel_rfl) (by kernel_rfl) (by kernel_rfl) (by kernel_rfl) (fun w _ => by go_simp) ?_
  refine held_to 1 (some 30) (.pointer (some ⟨yb, 0, none⟩)) hQ sS rfl rfl (by kernel_rfl) (by kernel_rfl) (by kernel_rfl) (by kernel_rfl) (fun w _ => by go_simp) ?_
  refine held_to 2 (some 31) (.pointer (some ⟨yb, 0, none⟩)) hQ sS rfl rfl (by kernel_rfl) (by kernel_rfl) (by kernel_rfl) (by kernel_rfl) (fun w _ => by go_simp) ?_
  refine held_to 3 (some 32) (.slice (some ⟨g, 0, none⟩) ns.length cap) hQ sS rfl rfl (by kernel_rfl) (by kernel_rfl) (by kernel_rfl) (by kernel_rfl) (fun w hS => by obtain ⟨h1, h2, h3, h4⟩ := hS; go_simp) ?_
  refine held_to 4 (some 33) (.pointer (some ⟨w.heap.size, 1, none⟩)) hQ sS rfl rfl (by kernel_rfl) (by kernel_rfl) (by kernel_rfl) (by kernel_rfl) (fun w _ => by go_simp) ?_
  refine held_to 5 (some 34) (.int .i64 u) hQ sS rfl rfl (by kernel_rfl) (by kernel_rfl) (by kernel_rfl) (by kernel_rfl) (fun w hS => by obtain ⟨h1, h2, h3, h4⟩ := hS; go_simp) ?_
  refine held_to 6 (some 35) (.pointer (some ⟨yb, 0, none⟩)) hQ sS rfl rfl (by kernel_rfl) (by kernel_rfl) (by kernel_rfl) (by kernel_rfl) (fun w _ => by go_simp) ?_
  refine held_to 7 (some 36) (.pointer (some ⟨yb, 0, none⟩)) hQ sS rfl rfl (by kernel_rfl) (by kernel_rfl) (by kernel_rfl) (by kernel_rfl) (fun w _ => by go_simp) ?_
  refine held_to 8 (some 37) (.pointer (some ⟨yb, 0, none⟩)) hQ sS rfl rfl (by kernel_rfl) (by kernel_rfl) (by kernel_rfl) (by kernel_rfl) (fun w _ => by go_simp) ?_
  refine held_to 9 (some 38) (.slice (some ⟨g, 0, none⟩) ns.length cap) hQ sS rfl rfl (by kernel_rfl) (by kernel_rfl) (by kernel_rfl) (by kernel_rfl) (fun w hS => by obtain ⟨h1, h2, h3, h4⟩ := hS; go_simp) ?_
  refine held_to 10 (some 39) (.int .i64 ns.length) hQ sS rfl rfl (by kernel_rfl) (by kernel_rfl) (by kernel_rfl) (by kernel_rfl) (fun w _ => by go_simp) ?_
  refine wpAnyH_ready (rs := [11, 14]) (by kernel_rfl) (by simp) ?_
  refine AllReadyH.cons rfl (fun K hK => ?_) (AllReadyH.cons rfl (fun K hK => ?_) AllReadyH.nil)
  · go_simp
    go_wp2_with (go_at_call 62; refine (HP.out _).mono ?_; rintro e w' ⟨rfl, rfl⟩)
    refine hK.out _ _ sS (fun _ => ?_)
    clear hK K
    refine held_to 12 (some 41) (.pointer (some ⟨g, j * 2, none⟩)) hQ sS rfl rfl (by kernel_rfl) (by kernel_rfl) (by kernel_rfl) (by kernel_rfl) (fun w _ => by go_simp) ?_
    refine held_to 13 (some 42) (.agg #[.pointer (some ⟨N.bx, 0, none⟩), .pointer (some ⟨N.br, 0, none⟩)]) hQ sS rfl rfl (by kernel_rfl) (by kernel_rfl) (by kernel_rfl) (by kernel_rfl) (fun w hS => by obtain ⟨h1, h2, h3, h4⟩ := hS; go_simp) ?_
    refine wpAnyH_ready (rs := [14]) (by kernel_rfl) (by simp) ?_
    refine AllReadyH.cons rfl (fun K hK => ?_) AllReadyH.nil
    go_simp
    refine hK.out _ _ (sS.alloc _) (fun _ => ?_)
    clear hK K
    refine wpAnyH_ready (rs := [15]) (by kernel_rfl) (by simp) ?_
    refine AllReadyH.cons rfl (fun K hK => ?_) AllReadyH.nil
    go_simp
    refine hK.out _ _ (by first | exact sS.alloc _ | exact S15.out) (fun _ => ?_)
    clear hK K
    refine wpAnyH_done (by kernel_rfl) ?_ _
    clear hQ
    go_simp
    go_wp2_with (go_at_call 63; refine (asked_wait B j (.pointer (some ⟨yb, 0, none⟩)) ρ N u a b c _ NI.out).mono ?_; rintro e w2 ⟨rfl, b2⟩)
    go_ret
    have E2 := D1.out.trans (b2.mono D1.out.size)
    exact ⟨rfl, ρ, ns, n, HI.out.below E2, E2.mono HB.out, Nat.le_refl _, Nat.le_succ _, Nat.le_succ _, Stays.below E2⟩
  · go_simp
    refine hK.out _ _ (sS.alloc _) (fun _ => ?_)
    clear hK K
    refine wpAnyH_ready (rs := [11]) (by kernel_rfl) (by simp) ?_
    refine AllReadyH.cons rfl (fun K hK => ?_) AllReadyH.nil
    go_simp
    go_wp2_with (go_at_call 62; refine (HP.out _).mono ?_; rintro e w' ⟨rfl, rfl⟩)
    refine hK.out _ _ (sS.alloc _) (fun _ => ?_)
    clear hK K
    refine held_to 12 (some 41) (.pointer (some ⟨g, j * 2, none⟩)) hQ (sS.alloc _) rfl rfl (by kernel_rfl) (by kernel_rfl) (by kernel_rfl) (by kernel_rfl) (fun w _ => by go_simp) ?_
    refine held_to 13 (some 42) (.agg #[.pointer (some ⟨N.bx, 0, none⟩), .pointer (some ⟨N.br, 0, none⟩)]) hQ (sS.alloc _) rfl rfl (by kernel_rfl) (by kernel_rfl) (by kernel_rfl) (by kernel_rfl) (fun w hS => by obtain ⟨h1, h2, h3, h4⟩ := hS; go_simp) ?_
    refine wpAnyH_ready (rs := [15]) (by kernel_rfl) (by simp) ?_
    refine AllReadyH.cons rfl (fun K hK => ?_) AllReadyH.nil
    go_simp
    refine hK.out _ _ (by first | exact sS.alloc _ | exact S15.out) (fun _ => ?_)
    clear hK K
    refine wpAnyH_done (by kernel_rfl) ?_ _
    clear hQ
    go_simp
    go_wp2_with (go_at_call 63; refine (asked_wait B j (.pointer (some ⟨yb, 0, none⟩)) ρ N u a b c _ NI.out).mono ?_; rintro e w2 ⟨rfl, b2⟩)
    go_ret
    have E2 := D1.out.trans (b2.mono D1.out.size)
    exact ⟨rfl, ρ, ns, n, HI.out.below E2, E2.mono HB.out, Nat.le_refl _, Nat.le_succ _, Nat.le_succ _, Stays.below E2⟩
set_option maxHeartbeats 2000000 in
set_option maxRecDepth 100000 in
theorem step_route (yb B n : Nat) (u a b c : Int) (ρ : Nat → Part) (ns : List NetD) (w : World) (hI : Inv w B ρ yb ns n) (hne : ns ≠ []) (hu0 : -9223372036854775808 ≤ u) (hu1 : u ≤ 9223372036854775807) :
    Calls Try.prog 36 #[.pointer (some ⟨yb, 0, none⟩), opV 6 u a b c] w fun e w' => e = .returned (.bool true) ∧ ∃ ρ' ns' n', Inv w' B ρ' yb ns' n' ∧ Below B w w' ∧ ns.length ≤ ns'.length ∧ ns'.length ≤ ns.length + 1 ∧ n' ≤ n + 1 ∧ Stays ρ ρ' w w' := by
  have b0 := allocO w 6 u a b c
  have I0 := hI.below b0
  obtain ⟨g, cap, c0, hlen, hat⟩ := I0.at hne
  have hpos : 0 < ns.length := List.length_pos_iff.2 hne
  obtain ⟨j, hj, PK⟩ := pick_any u ns.length hu0 hu1 hpos hlen
  obtain ⟨N, hN⟩ : ∃ N, ns[j]? = some N := ⟨ns[j], by simp [hj]⟩
  have hj' : (j : Int) < (ns.length : Int) := by omega
  have hj0 : (0 : Int) ≤ (j : Int) := by omega
  have hl0 : ((ns.length : Int) == 0) = false := by rw [beq_eq_false_iff_ne]; omega
  have hx := hat j N hN
  have sS : S5 yb g ns.length cap w.heap.size j N.bx N.br u (w.alloc (.cells #[.int .i64 6, .int .i64 u, .int .i64 a, .int .i64 b, .int .i64 c] 78)).drew := ⟨c0, (Whole.new w 78 #[.int .i64 6, .int .i64 u, .int .i64 a, .int .i64 b, .int .i64 c]).cell 1, hx.1, hx.2⟩
  have HP : Hid (∀ w : World, Calls Try.prog 62 #[.int .i64 u, .int .i64 ns.length] w fun e w' => e = .returned (.int .i64 j) ∧ w = w') := PK; clear PK
  have HI : Hid (Inv w B ρ yb ns n) := hI
  have NI0 := I0.nets j N hN
  have HNI0 : Hid (NetI (w.alloc (.cells #[.int .i64 6, .int .i64 u, .int .i64 a, .int .i64 b, .int .i64 c] 78)) B ρ j N) := NI0; clear NI0
  have B0 : Hid (Below w.heap.size w (w.alloc (.cells #[.int .i64 6, .int .i64 u, .int .i64 a, .int .i64 b, .int .i64 c] 78))) := b0; clear b0
  have HB : Hid (B ≤ w.heap.size) := hI.hB
  have Hj : Hid (ns[j]? = some N) := hN; clear hN
  clear hat I0 hx hI hu0 hu1
  unfold maxLen at hlen
  have D1 : Hid (Below w.heap.size w (((w.alloc (.cells #[.int .i64 6, .int .i64 u, .int .i64 a, .int .i64 b, .int .i64 c] 78)).alloc (.cells #[.pointer (some ⟨N.bx, 0, none⟩), .pointer (some ⟨N.br, 0, none⟩)] 112)).drew)) := (B0.out.alloc B0.out.size _).drew
  have NI : Hid (NetI (((w.alloc (.cells #[.int .i64 6, .int .i64 u, .int .i64 a, .int .i64 b, .int .i64 c] 78)).alloc (.cells #[.pointer (some ⟨N.bx, 0, none⟩), .pointer (some ⟨N.br, 0, none⟩)] 112)).drew) B ρ j N) := HNI0.out.below ((Below.refl _ _).alloc (Nat.le_refl _) _).drew
  have NW : Hid (∀ k, (((w.alloc (.cells #[.int .i64 6, .int .i64 u, .int .i64 a, .int .i64 b, .int .i64 c] 78)).alloc (.cells #[.pointer (some ⟨N.bx, 0, none⟩), .pointer (some ⟨N.br, 0, none⟩)] 112)).drew).heap.size ≤ k → ρ k = (0, 0)) := fun k hk => HI.out.new k (Nat.le_trans D1.out.size hk)
  have S15 : Hid (S5 yb g ns.length cap w.heap.size j N.bx N.br u (((w.alloc (.cells #[.int .i64 6, .int .i64 u, .int .i64 a, .int .i64 b, .int .i64 c] 78)).alloc (.cells #[.pointer (some ⟨N.bx, 0, none⟩), .pointer (some ⟨N.br, 0, none⟩)] 112)).drew)) := (show S5 yb g ns.length cap w.heap.size j N.bx N.br u (((w.alloc (.cells #[.int .i64 6, .int .i64 u, .int .i64 a, .int .i64 b, .int .i64 c] 78)).alloc (.cells #[.pointer (some ⟨N.bx, 0, none⟩), .pointer (some ⟨N.br, 0, none⟩)] 112)).drew) from sS.alloc _)
  go_enter Try.func36, Try.ntmps36
  go_wp2_with fail
  refine wp_region_held_drew (S := (S5 yb g ns.length cap w.heap.size j N.bx N.br u)) (by kernel_rfl) sS (fun _ => ?_)
  change wpAnyH _ _ _ _ _ _ _ _ (World.drew _)
  refine held_hq (fun _ _ x _ _ h => by cases x <;> exact h) ?_
  intro hQ
  refine held_to 0 (some 29) (.pointer (some ⟨yb, 0, none⟩)) hQ sS rfl rfl (by kernel_rfl) (by kernel_rfl) (by kernel_rfl) (by kernel_rfl) (fun w _ => by go_simp) ?_
  refine held_to 1 (some 30) (.pointer (some ⟨yb, 0, none⟩)) hQ sS rfl rfl (by kernel_rfl) (by kernel_rfl) (by kernel_rfl) (by kernel_rfl) (fun w _ => by go_simp) ?_
  refine held_to 2 (some 31) (.pointer (some ⟨yb, 0, none⟩)) hQ sS rfl rfl (by kernel_rfl) (by kernel_rfl) (by kernel_rfl) (by kernel_rfl) (fun w _ => by go_simp) ?_
  refine held_to 3 (some 32) (.slice (some ⟨g, 0, none⟩) ns.length cap) hQ sS rfl rfl (by kernel_rfl) (by kernel_rfl) (by kernel_rfl) (by kernel_rfl) (fun w hS => by obtain ⟨h1, h2, h3, h4⟩ := hS; go_simp) ?_
  refine held_to 4 (some 33) (.pointer (some ⟨w.heap.size, 1, none⟩)) hQ sS rfl rfl (by kernel_rfl) (by kernel_rfl) (by kernel_rfl) (by kernel_rfl) (fun w _ => by go_simp) ?_
  refine held_to 5 (some 34) (.int .i64 u) hQ sS rfl rfl (by kernel_rfl) (by kernel_rfl) (by kernel_rfl) (by kernel_rfl) (fun w hS => by obtain ⟨h1, h2, h3, h4⟩ := hS; go_simp) ?_
  refine held_to 6 (some 35) (.pointer (some ⟨yb, 0, none⟩)) hQ sS rfl rfl (by kernel_rfl) (by kernel_rfl) (by kernel_rfl) (by kernel_rfl) (fun w _ => by go_simp) ?_
  refine held_to 7 (some 36) (.pointer (some ⟨yb, 0, none⟩)) hQ sS rfl rfl (by kernel_rfl) (by kernel_rfl) (by kernel_rfl) (by kernel_rfl) (fun w _ => by go_simp) ?_
  refine held_to 8 (some 37) (.pointer (some ⟨yb, 0, none⟩)) hQ sS rfl rfl (by kernel_rfl) (by kernel_rfl) (by kernel_rfl) (by kernel_rfl) (fun w _ => by go_simp) ?_
  refine held_to 9 (some 38) (.slice (some ⟨g, 0, none⟩) ns.length cap) hQ sS rfl rfl (by kernel_rfl) (by kernel_rfl) (by kernel_rfl) (by kernel_rfl) (fun w hS => by obtain ⟨h1, h2, h3, h4⟩ := hS; go_simp) ?_
  refine held_to 10 (some 39) (.int .i64 ns.length) hQ sS rfl rfl (by kernel_rfl) (by kernel_rfl) (by kernel_rfl) (by kernel_rfl) (fun w _ => by go_simp) ?_
  refine wpAnyH_ready (rs := [11, 14]) (by kernel_rfl) (by simp) ?_
  refine AllReadyH.cons rfl (fun K hK => ?_) (AllReadyH.cons rfl (fun K hK => ?_) AllReadyH.nil)
  · go_simp
    go_wp2_with (go_at_call 62; refine (HP.out _).mono ?_; rintro e w' ⟨rfl, rfl⟩)
    refine hK.out _ _ sS (fun _ => ?_)
    clear hK K
    refine held_to 12 (some 41) (.pointer (some ⟨g, j * 2, none⟩)) hQ sS rfl rfl (by kernel_rfl) (by kernel_rfl) (by kernel_rfl) (by kernel_rfl) (fun w _ => by go_simp) ?_
    refine held_to 13 (some 42) (.agg #[.pointer (some ⟨N.bx, 0, none⟩), .pointer (some ⟨N.br, 0, none⟩)]) hQ sS rfl rfl (by kernel_rfl) (by kernel_rfl) (by kernel_rfl) (by kernel_rfl) (fun w hS => by obtain ⟨h1, h2, h3, h4⟩ := hS; go_simp) ?_
    refine wpAnyH_ready (rs := [14]) (by kernel_rfl) (by simp) ?_
    refine AllReadyH.cons rfl (fun K hK => ?_) AllReadyH.nil
    go_simp
    refine hK.out _ _ (sS.alloc _) (fun _ => ?_)
    clear hK K
    refine wpAnyH_ready (rs := [15]) (by kernel_rfl) (by simp) ?_
    refine AllReadyH.cons rfl (fun K hK => ?_) AllReadyH.nil
    go_simp
    refine hK.out _ _ (by first | exact sS.alloc _ | exact S15.out) (fun _ => ?_)
    clear hK K
    refine wpAnyH_done (by kernel_rfl) ?_ _
    clear hQ
    go_simp
    go_wp2_with (go_at_call 63; refine (asked_route B j (.pointer (some ⟨yb, 0, none⟩)) ρ N u a b c _ NI.out).mono ?_; rintro e w2 ⟨rfl, b2⟩)
    go_ret
    have E2 := D1.out.trans (b2.mono D1.out.size)
    exact ⟨rfl, ρ, ns, n, HI.out.below E2, E2.mono HB.out, Nat.le_refl _, Nat.le_succ _, Nat.le_succ _, Stays.below E2⟩
  · go_simp
    refine hK.out _ _ (sS.alloc _) (fun _ => ?_)
    clear hK K
    refine wpAnyH_ready (rs := [11]) (by kernel_rfl) (by simp) ?_
    refine AllReadyH.cons rfl (fun K hK => ?_) AllReadyH.nil
    go_simp
    go_wp2_with (go_at_call 62; refine (HP.out _).mono ?_; rintro e w' ⟨rfl, rfl⟩)
    refine hK.out _ _ (sS.alloc _) (fun _ => ?_)
    clear hK K
    refine held_to 12 (some 41) (.pointer (some ⟨g, j * 2, none⟩)) hQ (sS.alloc _) rfl rfl (by kernel_rfl) (by kernel_rfl) (by kernel_rfl) (by kernel_rfl) (fun w _ => by go_simp) ?_
    refine held_to 13 (some 42) (.agg #[.pointer (some ⟨N.bx, 0, none⟩), .pointer (some ⟨N.br, 0, none⟩)]) hQ (sS.alloc _) rfl rfl (by kernel_rfl) (by kernel_rfl) (by kernel_rfl) (by kernel_rfl) (fun w hS => by obtain ⟨h1, h2, h3, h4⟩ := hS; go_simp) ?_
    refine wpAnyH_ready (rs := [15]) (by kernel_rfl) (by simp) ?_
    refine AllReadyH.cons rfl (fun K hK => ?_) AllReadyH.nil
    go_simp
    refine hK.out _ _ (by first | exact sS.alloc _ | exact S15.out) (fun _ => ?_)
    clear hK K
    refine wpAnyH_done (by kernel_rfl) ?_ _
    clear hQ
    go_simp
    go_wp2_with (go_at_call 63; refine (asked_route B j (.pointer (some ⟨yb, 0, none⟩)) ρ N u a b c _ NI.out).mono ?_; rintro e w2 ⟨rfl, b2⟩)
    go_ret
    have E2 := D1.out.trans (b2.mono D1.out.size)
    exact ⟨rfl, ρ, ns, n, HI.out.below E2, E2.mono HB.out, Nat.le_refl _, Nat.le_succ _, Nat.le_succ _, Stays.below E2⟩
set_option maxHeartbeats 2000000 in
set_option maxRecDepth 100000 in
theorem step_best (yb B n : Nat) (u a b c : Int) (ρ : Nat → Part) (ns : List NetD) (w : World) (hI : Inv w B ρ yb ns n) (hne : ns ≠ []) (hu0 : -9223372036854775808 ≤ u) (hu1 : u ≤ 9223372036854775807) :
    Calls Try.prog 36 #[.pointer (some ⟨yb, 0, none⟩), opV 7 u a b c] w fun e w' => e = .returned (.bool true) ∧ ∃ ρ' ns' n', Inv w' B ρ' yb ns' n' ∧ Below B w w' ∧ ns.length ≤ ns'.length ∧ ns'.length ≤ ns.length + 1 ∧ n' ≤ n + 1 ∧ Stays ρ ρ' w w' := by
  have b0 := allocO w 7 u a b c
  have I0 := hI.below b0
  obtain ⟨g, cap, c0, hlen, hat⟩ := I0.at hne
  have hpos : 0 < ns.length := List.length_pos_iff.2 hne
  obtain ⟨j, hj, PK⟩ := pick_any u ns.length hu0 hu1 hpos hlen
  obtain ⟨N, hN⟩ : ∃ N, ns[j]? = some N := ⟨ns[j], by simp [hj]⟩
  have hj' : (j : Int) < (ns.length : Int) := by omega
  have hj0 : (0 : Int) ≤ (j : Int) := by omega
  have hl0 : ((ns.length : Int) == 0) = false := by rw [beq_eq_false_iff_ne]; omega
  have hx := hat j N hN
  have sS : S5 yb g ns.length cap w.heap.size j N.bx N.br u (w.alloc (.cells #[.int .i64 7, .int .i64 u, .int .i64 a, .int .i64 b, .int .i64 c] 78)).drew := ⟨c0, (Whole.new w 78 #[.int .i64 7, .int .i64 u, .int .i64 a, .int .i64 b, .int .i64 c]).cell 1, hx.1, hx.2⟩
  have HP : Hid (∀ w : World, Calls Try.prog 62 #[.int .i64 u, .int .i64 ns.length] w fun e w' => e = .returned (.int .i64 j) ∧ w = w') := PK; clear PK
  have HI : Hid (Inv w B ρ yb ns n) := hI
  have NI0 := I0.nets j N hN
  have HNI0 : Hid (NetI (w.alloc (.cells #[.int .i64 7, .int .i64 u, .int .i64 a, .int .i64 b, .int .i64 c] 78)) B ρ j N) := NI0; clear NI0
  have B0 : Hid (Below w.heap.size w (w.alloc (.cells #[.int .i64 7, .int .i64 u, .int .i64 a, .int .i64 b, .int .i64 c] 78))) := b0; clear b0
  have HB : Hid (B ≤ w.heap.size) := hI.hB
  have Hj : Hid (ns[j]? = some N) := hN; clear hN
  clear hat I0 hx hI hu0 hu1
  unfold maxLen at hlen
  have D1 : Hid (Below w.heap.size w (((w.alloc (.cells #[.int .i64 7, .int .i64 u, .int .i64 a, .int .i64 b, .int .i64 c] 78)).alloc (.cells #[.pointer (some ⟨N.bx, 0, none⟩), .pointer (some ⟨N.br, 0, none⟩)] 112)).drew)) := (B0.out.alloc B0.out.size _).drew
  have NI : Hid (NetI (((w.alloc (.cells #[.int .i64 7, .int .i64 u, .int .i64 a, .int .i64 b, .int .i64 c] 78)).alloc (.cells #[.pointer (some ⟨N.bx, 0, none⟩), .pointer (some ⟨N.br, 0, none⟩)] 112)).drew) B ρ j N) := HNI0.out.below ((Below.refl _ _).alloc (Nat.le_refl _) _).drew
  have NW : Hid (∀ k, (((w.alloc (.cells #[.int .i64 7, .int .i64 u, .int .i64 a, .int .i64 b, .int .i64 c] 78)).alloc (.cells #[.pointer (some ⟨N.bx, 0, none⟩), .pointer (some ⟨N.br, 0, none⟩)] 112)).drew).heap.size ≤ k → ρ k = (0, 0)) := fun k hk => HI.out.new k (Nat.le_trans D1.out.size hk)
  have S15 : Hid (S5 yb g ns.length cap w.heap.size j N.bx N.br u (((w.alloc (.cells #[.int .i64 7, .int .i64 u, .int .i64 a, .int .i64 b, .int .i64 c] 78)).alloc (.cells #[.pointer (some ⟨N.bx, 0, none⟩), .pointer (some ⟨N.br, 0, none⟩)] 112)).drew)) := (show S5 yb g ns.length cap w.heap.size j N.bx N.br u (((w.alloc (.cells #[.int .i64 7, .int .i64 u, .int .i64 a, .int .i64 b, .int .i64 c] 78)).alloc (.cells #[.pointer (some ⟨N.bx, 0, none⟩), .pointer (some ⟨N.br, 0, none⟩)] 112)).drew) from sS.alloc _)
  go_enter Try.func36, Try.ntmps36
  go_wp2_with fail
  refine wp_region_held_drew (S := (S5 yb g ns.length cap w.heap.size j N.bx N.br u)) (by kernel_rfl) sS (fun _ => ?_)
  change wpAnyH _ _ _ _ _ _ _ _ (World.drew _)
  refine held_hq (fun _ _ x _ _ h => by cases x <;> exact h) ?_
  intro hQ
  refine held_to 0 (some 29) (.pointer (some ⟨yb, 0, none⟩)) hQ sS rfl rfl (by kernel_rfl) (by kernel_rfl) (by kernel_rfl) (by kernel_rfl) (fun w _ => by go_simp) ?_
  refine held_to 1 (some 30) (.pointer (some ⟨yb, 0, none⟩)) hQ sS rfl rfl (by kernel_rfl) (by kernel_rfl) (by kernel_rfl) (by kernel_rfl) (fun w _ => by go_simp) ?_
  refine held_to 2 (some 31) (.pointer (some ⟨yb, 0, none⟩)) hQ sS rfl rfl (by kernel_rfl) (by kernel_rfl) (by kernel_rfl) (by kernel_rfl) (fun w _ => by go_simp) ?_
  refine held_to 3 (some 32) (.slice (some ⟨g, 0, none⟩) ns.length cap) hQ sS rfl rfl (by kernel_rfl) (by kernel_rfl) (by kernel_rfl) (by kernel_rfl) (fun w hS => by obtain ⟨h1, h2, h3, h4⟩ := hS; go_simp) ?_
  refine held_to 4 (some 33) (.pointer (some ⟨w.heap.size, 1, none⟩)) hQ sS rfl rfl (by kernel_rfl) (by kernel_rfl) (by kernel_rfl) (by kernel_rfl) (fun w _ => by go_simp) ?_
  refine held_to 5 (some 34) (.int .i64 u) hQ sS rfl rfl (by kernel_rfl) (by kernel_rfl) (by kernel_rfl) (by kernel_rfl) (fun w hS => by obtain ⟨h1, h2, h3, h4⟩ := hS; go_simp) ?_
  refine held_to 6 (some 35) (.pointer (some ⟨yb, 0, none⟩)) hQ sS rfl rfl (by kernel_rfl) (by kernel_rfl) (by kernel_rfl) (by kernel_rfl) (fun w _ => by go_simp) ?_
  refine held_to 7 (some 36) (.pointer (some ⟨yb, 0, none⟩)) hQ sS rfl rfl (by kernel_rfl) (by kernel_rfl) (by kernel_rfl) (by kernel_rfl) (fun w _ => by go_simp) ?_
  refine held_to 8 (some 37) (.pointer (some ⟨yb, 0, none⟩)) hQ sS rfl rfl (by kernel_rfl) (by kernel_rfl) (by kernel_rfl) (by kernel_rfl) (fun w _ => by go_simp) ?_
  refine held_to 9 (some 38) (.slice (some ⟨g, 0, none⟩) ns.length cap) hQ sS rfl rfl (by kernel_rfl) (by kernel_rfl) (by kernel_rfl) (by kernel_rfl) (fun w hS => by obtain ⟨h1, h2, h3, h4⟩ := hS; go_simp) ?_
  refine held_to 10 (some 39) (.int .i64 ns.length) hQ sS rfl rfl (by kernel_rfl) (by kernel_rfl) (by kernel_rfl) (by kernel_rfl) (fun w _ => by go_simp) ?_
  refine wpAnyH_ready (rs := [11, 14]) (by kernel_rfl) (by simp) ?_
  refine AllReadyH.cons rfl (fun K hK => ?_) (AllReadyH.cons rfl (fun K hK => ?_) AllReadyH.nil)
  · go_simp
    go_wp2_with (go_at_call 62; refine (HP.out _).mono ?_; rintro e w' ⟨rfl, rfl⟩)
    refine hK.out _ _ sS (fun _ => ?_)
    clear hK K
    refine held_to 12 (some 41) (.pointer (some ⟨g, j * 2, none⟩)) hQ sS rfl rfl (by kernel_rfl) (by kernel_rfl) (by kernel_rfl) (by kernel_rfl) (fun w _ => by go_simp) ?_
    refine held_to 13 (some 42) (.agg #[.pointer (some ⟨N.bx, 0, none⟩), .pointer (some ⟨N.br, 0, none⟩)]) hQ sS rfl rfl (by kernel_rfl) (by kernel_rfl) (by kernel_rfl) (by kernel_rfl) (fun w hS => by obtain ⟨h1, h2, h3, h4⟩ := hS; go_simp) ?_
    refine wpAnyH_ready (rs := [14]) (by kernel_rfl) (by simp) ?_
    refine AllReadyH.cons rfl (fun K hK => ?_) AllReadyH.nil
    go_simp
    refine hK.out _ _ (sS.alloc _) (fun _ => ?_)
    clear hK K
    refine wpAnyH_ready (rs := [15]) (by kernel_rfl) (by simp) ?_
    refine AllReadyH.cons rfl (fun K hK => ?_) AllReadyH.nil
    go_simp
    refine hK.out _ _ (by first | exact sS.alloc _ | exact S15.out) (fun _ => ?_)
    clear hK K
    refine wpAnyH_done (by kernel_rfl) ?_ _
    clear hQ
    go_simp
    go_wp2_with (go_at_call 63; refine (asked_best B j (.pointer (some ⟨yb, 0, none⟩)) ρ N u a b c _ NI.out).mono ?_; rintro e w2 ⟨rfl, b2⟩)
    go_ret
    have E2 := D1.out.trans (b2.mono D1.out.size)
    exact ⟨rfl, ρ, ns, n, HI.out.below E2, E2.mono HB.out, Nat.le_refl _, Nat.le_succ _, Nat.le_succ _, Stays.below E2⟩
  · go_simp
    refine hK.out _ _ (sS.alloc _) (fun _ => ?_)
    clear hK K
    refine wpAnyH_ready (rs := [11]) (by kernel_rfl) (by simp) ?_
    refine AllReadyH.cons rfl (fun K hK => ?_) AllReadyH.nil
    go_simp
    go_wp2_with (go_at_call 62; refine (HP.out _).mono ?_; rintro e w' ⟨rfl, rfl⟩)
    refine hK.out _ _ (sS.alloc _) (fun _ => ?_)
    clear hK K
    refine held_to 12 (some 41) (.pointer (some ⟨g, j * 2, none⟩)) hQ (sS.alloc _) rfl rfl (by kernel_rfl) (by kernel_rfl) (by kernel_rfl) (by kernel_rfl) (fun w _ => by go_simp) ?_
    refine held_to 13 (some 42) (.agg #[.pointer (some ⟨N.bx, 0, none⟩), .pointer (some ⟨N.br, 0, none⟩)]) hQ (sS.alloc _) rfl rfl (by kernel_rfl) (by kernel_rfl) (by kernel_rfl) (by kernel_rfl) (fun w hS => by obtain ⟨h1, h2, h3, h4⟩ := hS; go_simp) ?_
    refine wpAnyH_ready (rs := [15]) (by kernel_rfl) (by simp) ?_
    refine AllReadyH.cons rfl (fun K hK => ?_) AllReadyH.nil
    go_simp
    refine hK.out _ _ (by first | exact sS.alloc _ | exact S15.out) (fun _ => ?_)
    clear hK K
    refine wpAnyH_done (by kernel_rfl) ?_ _
    clear hQ
    go_simp
    go_wp2_with (go_at_call 63; refine (asked_best B j (.pointer (some ⟨yb, 0, none⟩)) ρ N u a b c _ NI.out).mono ?_; rintro e w2 ⟨rfl, b2⟩)
    go_ret
    have E2 := D1.out.trans (b2.mono D1.out.size)
    exact ⟨rfl, ρ, ns, n, HI.out.below E2, E2.mono HB.out, Nat.le_refl _, Nat.le_succ _, Nat.le_succ _, Stays.below E2⟩
end Go.Proofs.Ytdoodnbobpijoaa

namespace Go.Proofs.Ytdoodnbobpijoaa
open Go.RowKit
attribute [local go_sem ↓] Go.wp_at_zero Go.wp_at_succ
set_option maxHeartbeats 2000000 in
set_option maxRecDepth 100000 in
theorem step_trace (yb B n : Nat) (u a b c : Int) (ρ : Nat → Part) (ns : List NetD) (w : World) (hI : Inv w B ρ yb ns n) (hne : ns ≠ []) (hu0 : -9223372036854775808 ≤ u) (hu1 : u ≤ 9223372036854775807) (hn24 : (n + 1) * 24 ≤ 140737488355328) :
    Calls Try.prog 36 #[.pointer (some ⟨yb, 0, none⟩), opV 8 u a b c] w fun e w' => e = .returned (.bool true) ∧ ∃ ρ' ns' n', Inv w' B ρ' yb ns' n' ∧ Below B w w' ∧ ns.length ≤ ns'.length ∧ ns'.length ≤ ns.length + 1 ∧ n' ≤ n + 1 ∧ Stays ρ ρ' w w' := by
  have b0 := allocO w 8 u a b c
  have I0 := hI.below b0
  obtain ⟨v, bv, yw, _, _, yk⟩ := hI.y
  have YW : Hid (Whole w yb 74 #[v, bv]) := yw
  have YB : Hid (Bk w B (fun k => ρ k = (0, 3)) bv n) := yk
  have HN24 : Hid ((n + 1) * 24 ≤ 140737488355328) := hn24
  clear yw yk hn24
  obtain ⟨g, cap, c0, hlen, hat⟩ := I0.at hne
  have hpos : 0 < ns.length := List.length_pos_iff.2 hne
  obtain ⟨j, hj, PK⟩ := pick_any u ns.length hu0 hu1 hpos hlen
  obtain ⟨N, hN⟩ : ∃ N, ns[j]? = some N := ⟨ns[j], by simp [hj]⟩
  have hj' : (j : Int) < (ns.length : Int) := by omega
  have hj0 : (0 : Int) ≤ (j : Int) := by omega
  have hl0 : ((ns.length : Int) == 0) = false := by rw [beq_eq_false_iff_ne]; omega
  have hx := hat j N hN
  have sS : S5 yb g ns.length cap w.heap.size j N.bx N.br u (w.alloc (.cells #[.int .i64 8, .int .i64 u, .int .i64 a, .int .i64 b, .int .i64 c] 78)).drew := ⟨c0, (Whole.new w 78 #[.int .i64 8, .int .i64 u, .int .i64 a, .int .i64 b, .int .i64 c]).cell 1, hx.1, hx.2⟩
  have HP : Hid (∀ w : World, Calls Try.prog 62 #[.int .i64 u, .int .i64 ns.length] w fun e w' => e = .returned (.int .i64 j) ∧ w = w') := PK; clear PK
  have HI : Hid (Inv w B ρ yb ns n) := hI
  have NI0 := I0.nets j N hN
  have HNI0 : Hid (NetI (w.alloc (.cells #[.int .i64 8, .int .i64 u, .int .i64 a, .int .i64 b, .int .i64 c] 78)) B ρ j N) := NI0; clear NI0
  have B0 : Hid (Below w.heap.size w (w.alloc (.cells #[.int .i64 8, .int .i64 u, .int .i64 a, .int .i64 b, .int .i64 c] 78))) := b0; clear b0
  have HB : Hid (B ≤ w.heap.size) := hI.hB
  have Hj : Hid (ns[j]? = some N) := hN; clear hN
  clear hat I0 hx hI hu0 hu1
  unfold maxLen at hlen
  have D1 : Hid (Below w.heap.size w (((w.alloc (.cells #[.int .i64 8, .int .i64 u, .int .i64 a, .int .i64 b, .int .i64 c] 78)).alloc (.cells #[.pointer (some ⟨N.bx, 0, none⟩), .pointer (some ⟨N.br, 0, none⟩)] 112)).drew)) := (B0.out.alloc B0.out.size _).drew
  have NI : Hid (NetI (((w.alloc (.cells #[.int .i64 8, .int .i64 u, .int .i64 a, .int .i64 b, .int .i64 c] 78)).alloc (.cells #[.pointer (some ⟨N.bx, 0, none⟩), .pointer (some ⟨N.br, 0, none⟩)] 112)).drew) B ρ j N) := HNI0.out.below ((Below.refl _ _).alloc (Nat.le_refl _) _).drew
  have NW : Hid (∀ k, (((w.alloc (.cells #[.int .i64 8, .int .i64 u, .int .i64 a, .int .i64 b, .int .i64 c] 78)).alloc (.cells #[.pointer (some ⟨N.bx, 0, none⟩), .pointer (some ⟨N.br, 0, none⟩)] 112)).drew).heap.size ≤ k → ρ k = (0, 0)) := fun k hk => HI.out.new k (Nat.le_trans D1.out.size hk)
  have S15 : Hid (S5 yb g ns.length cap w.heap.size j N.bx N.br u (((w.alloc (.cells #[.int .i64 8, .int .i64 u, .int .i64 a, .int .i64 b, .int .i64 c] 78)).alloc (.cells #[.pointer (some ⟨N.bx, 0, none⟩), .pointer (some ⟨N.br, 0, none⟩)] 112)).drew)) := (show S5 yb g ns.length cap w.heap.size j N.bx N.br u (((w.alloc (.cells #[.int .i64 8, .int .i64 u, .int .i64 a, .int .i64 b, .int .i64 c] 78)).alloc (.cells #[.pointer (some ⟨N.bx, 0, none⟩), .pointer (some ⟨N.br, 0, none⟩)] 112)).drew) from sS.alloc _)
  go_enter Try.func36, Try.ntmps36
  go_wp2_with fail
  refine wp_region_held_drew (S := (S5 yb g ns.length cap w.heap.size j N.bx N.br u)) (by kernel_rfl) sS (fun _ => ?_)
  change wpAnyH _ _ _ _ _ _ _ _ (World.drew _)
  refine held_hq (fun _ _ x _ _ h => by cases x <;> exact h) ?_
  intro hQ
  refine held_to 0 (some 29) (.pointer (some ⟨yb, 0, none⟩)) hQ sS rfl rfl (by kernel_rfl) (by kernel_rfl) (by kernel_rfl) (by kernel_rfl) (fun w _ => by go_simp) ?_
  refine held_to 1 (some 30) (.pointer (some ⟨yb, 0, none⟩)) hQ sS rfl rfl (by kernel_rfl) (by kernel_rfl) (by kernel_rfl) (by kernel_rfl) (fun w _ => by go_simp) ?_
  refine held_to 2 (some 31) (.pointer (some ⟨yb, 0, none⟩)) hQ sS rfl rfl (by kernel_rfl) (by kernel_rfl) (by kernel_rfl) (by kernel_rfl) (fun w _ => by go_simp) ?_
  refine held_to 3 (some 32) (.slice (some ⟨g, 0, none⟩) ns.length cap) hQ sS rfl rfl (by kernel_rfl) (by kernel_rfl) (by kernel_rfl) (by kernel_rfl) (fun w hS => by obtain ⟨h1, h2, h3, h4⟩ := hS; go_simp) ?_
  refine held_to 4 (some 33) (.pointer (some ⟨w.heap.size, 1, none⟩)) hQ sS rfl rfl (by kernel_rfl) (by kernel_rfl) (by kernel_rfl) (by kernel_rfl) (fun w _ => by go_simp) ?_
  refine held_to 5 (some 34) (.int .i64 u) hQ sS rfl rfl (by kernel_rfl) (by kernel_rfl) (by kernel_rfl) (by kernel_rfl) (fun w hS => by obtain ⟨h1, h2, h3, h4⟩ := hS; go_simp) ?_
  refine held_to 6 (some 35) (.pointer (some ⟨yb, 0, none⟩)) hQ sS rfl rfl (by kernel_rfl) (by kernel_rfl) (by kernel_rfl) (by kernel_rfl) (fun w _ => by go_simp) ?_
  refine held_to 7 (some 36) (.pointer (some ⟨yb, 0, none⟩)) hQ sS rfl rfl (by kernel_rfl) (by kernel_rfl) (by kernel_rfl) (by kernel_rfl) (fun w _ => by go_simp) ?_
  refine held_to 8 (some 37) (.pointer (some ⟨yb, 0, none⟩)) hQ sS rfl rfl (by kernel_rfl) (by kernel_rfl) (by kernel_rfl) (by kernel_rfl) (fun w _ => by go_simp) ?_
  refine held_to 9 (some 38) (.slice (some ⟨g, 0, none⟩) ns.length cap) hQ sS rfl rfl (by kernel_rfl) (by kernel_rfl) (by kernel_rfl) (by kernel_rfl) (fun w hS => by obtain ⟨h1, h2, h3, h4⟩ := hS; go_simp) ?_
  refine held_to 10 (some 39) (.int .i64 ns.length) hQ sS rfl rfl (by kernel_rfl) (by kernel_rfl) (by kernel_rfl) (by kernel_rfl) (fun w _ => by go_simp) ?_
  refine wpAnyH_ready (rs := [11, 14]) (by kernel_rfl) (by simp) ?_
  refine AllReadyH.cons rfl (fun K hK => ?_) (AllReadyH.cons rfl (fun K hK => ?_) AllReadyH.nil)
  · go_simp
    go_wp2_with (go_at_call 62; refine (HP.out _).mono ?_; rintro e w' ⟨rfl, rfl⟩)
    refine hK.out _ _ sS (fun _ => ?_)
    clear hK K
    refine held_to 12 (some 41) (.pointer (some ⟨g, j * 2, none⟩)) hQ sS rfl rfl (by kernel_rfl) (by kernel_rfl) (by kernel_rfl) (by kernel_rfl) (fun w _ => by go_simp) ?_
    refine held_to 13 (some 42) (.agg #[.pointer (some ⟨N.bx, 0, none⟩), .pointer (some ⟨N.br, 0, none⟩)]) hQ sS rfl rfl (by kernel_rfl) (by kernel_rfl) (by kernel_rfl) (by kernel_rfl) (fun w hS => by obtain ⟨h1, h2, h3, h4⟩ := hS; go_simp) ?_
    refine wpAnyH_ready (rs := [14]) (by kernel_rfl) (by simp) ?_
    refine AllReadyH.cons rfl (fun K hK => ?_) AllReadyH.nil
    go_simp
    refine hK.out _ _ (sS.alloc _) (fun _ => ?_)
    clear hK K
    refine wpAnyH_ready (rs := [15]) (by kernel_rfl) (by simp) ?_
    refine AllReadyH.cons rfl (fun K hK => ?_) AllReadyH.nil
    go_simp
    refine hK.out _ _ (by first | exact sS.alloc _ | exact S15.out) (fun _ => ?_)
    clear hK K
    refine wpAnyH_done (by kernel_rfl) ?_ _
    clear hQ
    go_simp
    go_wp2_with (go_at_call 63; refine (asked_trace B j yb n v bv ρ N u a b c _ NI.out NW.out (Nat.le_trans HB.out D1.out.size) (YW.out.below D1.out) HI.out.py (YB.out.of (fun k _ hk => D1.out.block k hk)) HN24.out).mono ?_; rintro e w2 ⟨rfl, ρ', bv', q1, q2, q3, q4, q5⟩)
    go_ret
    obtain ⟨i2, d2, s2⟩ := (HI.out.below D1.out).listed (YW.out.below D1.out) q1 q2 q3 q4 q5
    exact ⟨rfl, ρ', ns, n + 1, i2, (D1.out.mono HB.out).trans d2, Nat.le_refl _, Nat.le_succ _, Nat.le_refl _, (Stays.below D1.out).trans s2⟩
  · go_simp
    refine hK.out _ _ (sS.alloc _) (fun _ => ?_)
    clear hK K
    refine wpAnyH_ready (rs := [11]) (by kernel_rfl) (by simp) ?_
    refine AllReadyH.cons rfl (fun K hK => ?_) AllReadyH.nil
    go_simp
    go_wp2_with (go_at_call 62; refine (HP.out _).mono ?_; rintro e w' ⟨rfl, rfl⟩)
    refine hK.out _ _ (sS.alloc _) (fun _ => ?_)
    clear hK K
    refine held_to 12 (some 41) (.pointer (some ⟨g, j * 2, none⟩)) hQ (sS.alloc _) rfl rfl (by kernel_rfl) (by kernel_rfl) (by kernel_rfl) (by kernel_rfl) (fun w _ => by go_simp) ?_
    refine held_to 13 (some 42) (.agg #[.pointer (some ⟨N.bx, 0, none⟩), .pointer (some ⟨N.br, 0, none⟩)]) hQ (sS.alloc _) rfl rfl (by kernel_rfl) (by kernel_rfl) (by kernel_rfl) (by kernel_rfl) (fun w hS => by obtain ⟨h1, h2, h3, h4⟩ := hS; go_simp) ?_
    refine wpAnyH_ready (rs := [15]) (by kernel_rfl) (by simp) ?_
    refine AllReadyH.cons rfl (fun K hK => ?_) AllReadyH.nil
    go_simp
    refine hK.out _ _ (by first | exact sS.alloc _ | exact S15.out) (fun _ => ?_)
    clear hK K
    refine wpAnyH_done (by kernel_rfl) ?_ _
    clear hQ
    go_simp
    go_wp2_with (go_at_call 63; refine (asked_trace B j yb n v bv ρ N u a b c _ NI.out NW.out (Nat.le_trans HB.out D1.out.size) (YW.out.below D1.out) HI.out.py (YB.out.of (fun k _ hk => D1.out.block k hk)) HN24.out).mono ?_; rintro e w2 ⟨rfl, ρ', bv', q1, q2, q3, q4, q5⟩)
    go_ret
    obtain ⟨i2, d2, s2⟩ := (HI.out.below D1.out).listed (YW.out.below D1.out) q1 q2 q3 q4 q5
    exact ⟨rfl, ρ', ns, n + 1, i2, (D1.out.mono HB.out).trans d2, Nat.le_refl _, Nat.le_succ _, Nat.le_refl _, (Stays.below D1.out).trans s2⟩
set_option maxHeartbeats 2000000 in
set_option maxRecDepth 100000 in
theorem step_link (yb B n : Nat) (u a b c : Int) (ρ : Nat → Part) (ns : List NetD) (w : World) (hI : Inv w B ρ yb ns n) (hne : ns ≠ []) (hu0 : -9223372036854775808 ≤ u) (hu1 : u ≤ 9223372036854775807) :
    Calls Try.prog 36 #[.pointer (some ⟨yb, 0, none⟩), opV 2 u a b c] w fun e w' => e = .returned (.bool true) ∧ ∃ ρ' ns' n', Inv w' B ρ' yb ns' n' ∧ Below B w w' ∧ ns.length ≤ ns'.length ∧ ns'.length ≤ ns.length + 1 ∧ n' ≤ n + 1 ∧ Stays ρ ρ' w w' := by
  have b0 := allocO w 2 u a b c
  have I0 := hI.below b0
  obtain ⟨g, cap, c0, hlen, hat⟩ := I0.at hne
  have hpos : 0 < ns.length := List.length_pos_iff.2 hne
  obtain ⟨j, hj, PK⟩ := pick_any u ns.length hu0 hu1 hpos hlen
  obtain ⟨N, hN⟩ : ∃ N, ns[j]? = some N := ⟨ns[j], by simp [hj]⟩
  have hj' : (j : Int) < (ns.length : Int) := by omega
  have hj0 : (0 : Int) ≤ (j : Int) := by omega
  have hl0 : ((ns.length : Int) == 0) = false := by rw [beq_eq_false_iff_ne]; omega
  have hx := hat j N hN
  have sS : S5 yb g ns.length cap w.heap.size j N.bx N.br u (w.alloc (.cells #[.int .i64 2, .int .i64 u, .int .i64 a, .int .i64 b, .int .i64 c] 78)).drew := ⟨c0, (Whole.new w 78 #[.int .i64 2, .int .i64 u, .int .i64 a, .int .i64 b, .int .i64 c]).cell 1, hx.1, hx.2⟩
  have HP : Hid (∀ w : World, Calls Try.prog 62 #[.int .i64 u, .int .i64 ns.length] w fun e w' => e = .returned (.int .i64 j) ∧ w = w') := PK; clear PK
  have HI : Hid (Inv w B ρ yb ns n) := hI
  have NI0 := I0.nets j N hN
  have HNI0 : Hid (NetI (w.alloc (.cells #[.int .i64 2, .int .i64 u, .int .i64 a, .int .i64 b, .int .i64 c] 78)) B ρ j N) := NI0; clear NI0
  have B0 : Hid (Below w.heap.size w (w.alloc (.cells #[.int .i64 2, .int .i64 u, .int .i64 a, .int .i64 b, .int .i64 c] 78))) := b0; clear b0
  have HB : Hid (B ≤ w.heap.size) := hI.hB
  have Hj : Hid (ns[j]? = some N) := hN; clear hN
  clear hat I0 hx hI hu0 hu1
  unfold maxLen at hlen
  have D1 : Hid (Below w.heap.size w (((w.alloc (.cells #[.int .i64 2, .int .i64 u, .int .i64 a, .int .i64 b, .int .i64 c] 78)).alloc (.cells #[.pointer (some ⟨N.bx, 0, none⟩), .pointer (some ⟨N.br, 0, none⟩)] 112)).drew)) := (B0.out.alloc B0.out.size _).drew
  have NI : Hid (NetI (((w.alloc (.cells #[.int .i64 2, .int .i64 u, .int .i64 a, .int .i64 b, .int .i64 c] 78)).alloc (.cells #[.pointer (some ⟨N.bx, 0, none⟩), .pointer (some ⟨N.br, 0, none⟩)] 112)).drew) B ρ j N) := HNI0.out.below ((Below.refl _ _).alloc (Nat.le_refl _) _).drew
  have NW : Hid (∀ k, (((w.alloc (.cells #[.int .i64 2, .int .i64 u, .int .i64 a, .int .i64 b, .int .i64 c] 78)).alloc (.cells #[.pointer (some ⟨N.bx, 0, none⟩), .pointer (some ⟨N.br, 0, none⟩)] 112)).drew).heap.size ≤ k → ρ k = (0, 0)) := fun k hk => HI.out.new k (Nat.le_trans D1.out.size hk)
  have S15 : Hid (S5 yb g ns.length cap w.heap.size j N.bx N.br u (((w.alloc (.cells #[.int .i64 2, .int .i64 u, .int .i64 a, .int .i64 b, .int .i64 c] 78)).alloc (.cells #[.pointer (some ⟨N.bx, 0, none⟩), .pointer (some ⟨N.br, 0, none⟩)] 112)).drew)) := (show S5 yb g ns.length cap w.heap.size j N.bx N.br u (((w.alloc (.cells #[.int .i64 2, .int .i64 u, .int .i64 a, .int .i64 b, .int .i64 c] 78)).alloc (.cells #[.pointer (some ⟨N.bx, 0, none⟩), .pointer (some ⟨N.br, 0, none⟩)] 112)).drew) from sS.alloc _)
  go_enter Try.func36, Try.ntmps36
  go_wp2_with fail
  refine wp_region_held_drew (S := (S5 yb g ns.length cap w.heap.size j N.bx N.br u)) (by kernel_rfl) sS (fun _ => ?_)
  change wpAnyH _ _ _ _ _ _ _ _ (World.drew _)
  refine held_hq (fun _ _ x _ _ h => by cases x <;> exact h) ?_
  intro hQ
  refine held_to 0 (some 29) (.pointer (some ⟨yb, 0, none⟩)) hQ sS rfl rfl (by kernel_rfl) (by kernel_rfl) (by kernel_rfl) (by kernel_rfl) (fun w _ => by go_simp) ?_
  refine held_to 1 (some 30) (.pointer (some ⟨yb, 0, none⟩)) hQ sS rfl rfl (by kernel_rfl) (by kernel_rfl) (by kernel_rfl) (by kernel_rfl) (fun w _ => by go_simp) ?_
  refine held_to 2 (some 31) (.pointer (some ⟨yb, 0, none⟩)) hQ sS rfl rfl (by kernel_rfl) (by kernel_rfl) (by kernel_rfl) (by kernel_rfl) (fun w _ => by go_simp) ?_
  refine held_to 3 (some 32) (.slice (some ⟨g, 0, none⟩) ns.length cap) hQ sS rfl rfl (by kernel_rfl) (by kernel_rfl) (by kernel_rfl) (by kernel_rfl) (fun w hS => by obtain ⟨h1, h2, h3, h4⟩ := hS; go_simp) ?_
  refine held_to 4 (some 33) (.pointer (some ⟨w.heap.size, 1, none⟩)) hQ sS rfl rfl (by kernel_rfl) (by kernel_rfl) (by kernel_rfl) (by kernel_rfl) (fun w _ => by go_simp) ?_
  refine held_to 5 (some 34) (.int .i64 u) hQ sS rfl rfl (by kernel_rfl) (by kernel_rfl) (by kernel_rfl) (by kernel_rfl) (fun w hS => by obtain ⟨h1, h2, h3, h4⟩ := hS; go_simp) ?_
  refine held_to 6 (some 35) (.pointer (some ⟨yb, 0, none⟩)) hQ sS rfl rfl (by kernel_rfl) (by kernel_rfl) (by kernel_rfl) (by kernel_rfl) (fun w _ => by go_simp) ?_
  refine held_to 7 (some 36) (.pointer (some ⟨yb, 0, none⟩)) hQ sS rfl rfl (by kernel_rfl) (by kernel_rfl) (by kernel_rfl) (by kernel_rfl) (fun w _ => by go_simp) ?_
  refine held_to 8 (some 37) (.pointer (some ⟨yb, 0, none⟩)) hQ sS rfl rfl (by kernel_rfl) (by kernel_rfl) (by kernel_rfl) (by kernel_rfl) (fun w _ => by go_simp) ?_
  refine held_to 9 (some 38) (.slice (some ⟨g, 0, none⟩) ns.length cap) hQ sS rfl rfl (by kernel_rfl) (by kernel_rfl) (by kernel_rfl) (by kernel_rfl) (fun w hS => by obtain ⟨h1, h2, h3, h4⟩ := hS; go_simp) ?_
  refine held_to 10 (some 39) (.int .i64 ns.length) hQ sS rfl rfl (by kernel_rfl) (by kernel_rfl) (by kernel_rfl) (by kernel_rfl) (fun w _ => by go_simp) ?_
  refine wpAnyH_ready (rs := [11, 14]) (by kernel_rfl) (by simp) ?_
  refine AllReadyH.cons rfl (fun K hK => ?_) (AllReadyH.cons rfl (fun K hK => ?_) AllReadyH.nil)
  · go_simp
    go_wp2_with (go_at_call 62; refine (HP.out _).mono ?_; rintro e w' ⟨rfl, rfl⟩)
    refine hK.out _ _ sS (fun _ => ?_)
    clear hK K
    refine held_to 12 (some 41) (.pointer (some ⟨g, j * 2, none⟩)) hQ sS rfl rfl (by kernel_rfl) (by kernel_rfl) (by kernel_rfl) (by kernel_rfl) (fun w _ => by go_simp) ?_
    refine held_to 13 (some 42) (.agg #[.pointer (some ⟨N.bx, 0, none⟩), .pointer (some ⟨N.br, 0, none⟩)]) hQ sS rfl rfl (by kernel_rfl) (by kernel_rfl) (by kernel_rfl) (by kernel_rfl) (fun w hS => by obtain ⟨h1, h2, h3, h4⟩ := hS; go_simp) ?_
    refine wpAnyH_ready (rs := [14]) (by kernel_rfl) (by simp) ?_
    refine AllReadyH.cons rfl (fun K hK => ?_) AllReadyH.nil
    go_simp
    refine hK.out _ _ (sS.alloc _) (fun _ => ?_)
    clear hK K
    refine wpAnyH_ready (rs := [15]) (by kernel_rfl) (by simp) ?_
    refine AllReadyH.cons rfl (fun K hK => ?_) AllReadyH.nil
    go_simp
    refine hK.out _ _ (by first | exact sS.alloc _ | exact S15.out) (fun _ => ?_)
    clear hK K
    refine wpAnyH_done (by kernel_rfl) ?_ _
    clear hQ
    go_simp
    go_wp2_with (go_at_call 64; refine (happens_link B j ρ N u a b c _ NI.out NW.out (Nat.le_trans HB.out D1.out.size)).mono ?_; rintro e w2 ⟨rfl, ρ', N', q1, q2, q3, q4⟩)
    go_ret
    obtain ⟨i2, d2⟩ := (HI.out.below D1.out).step Hj.out q3 q1 q2 q4
    exact ⟨rfl, ρ', _, n, i2, (D1.out.mono HB.out).trans d2, by simp, by simp, Nat.le_succ _, (Stays.below D1.out).trans (Stays.aft q4)⟩
  · go_simp
    refine hK.out _ _ (sS.alloc _) (fun _ => ?_)
    clear hK K
    refine wpAnyH_ready (rs := [11]) (by kernel_rfl) (by simp) ?_
    refine AllReadyH.cons rfl (fun K hK => ?_) AllReadyH.nil
    go_simp
    go_wp2_with (go_at_call 62; refine (HP.out _).mono ?_; rintro e w' ⟨rfl, rfl⟩)
    refine hK.out _ _ (sS.alloc _) (fun _ => ?_)
    clear hK K
    refine held_to 12 (some 41) (.pointer (some ⟨g, j * 2, none⟩)) hQ (sS.alloc _) rfl rfl (by kernel_rfl) (by kernel_rfl) (by kernel_rfl) (by kernel_rfl) (fun w _ => by go_simp) ?_
    refine held_to 13 (some 42) (.agg #[.pointer (some ⟨N.bx, 0, none⟩), .pointer (some ⟨N.br, 0, none⟩)]) hQ (sS.alloc _) rfl rfl (by kernel_rfl) (by kernel_rfl) (by kernel_rfl) (by kernel_rfl) (fun w hS => by obtain ⟨h1, h2, h3, h4⟩ := hS; go_simp) ?_
    refine wpAnyH_ready (rs := [15]) (by kernel_rfl) (by simp) ?_
    refine AllReadyH.cons rfl (fun K hK => ?_) AllReadyH.nil
    go_simp
    refine hK.out _ _ (by first | exact sS.alloc _ | exact S15.out) (fun _ => ?_)
    clear hK K
    refine wpAnyH_done (by kernel_rfl) ?_ _
    clear hQ
    go_simp
    go_wp2_with (go_at_call 64; refine (happens_link B j ρ N u a b c _ NI.out NW.out (Nat.le_trans HB.out D1.out.size)).mono ?_; rintro e w2 ⟨rfl, ρ', N', q1, q2, q3, q4⟩)
    go_ret
    obtain ⟨i2, d2⟩ := (HI.out.below D1.out).step Hj.out q3 q1 q2 q4
    exact ⟨rfl, ρ', _, n, i2, (D1.out.mono HB.out).trans d2, by simp, by simp, Nat.le_succ _, (Stays.below D1.out).trans (Stays.aft q4)⟩
set_option maxHeartbeats 2000000 in
set_option maxRecDepth 100000 in
theorem step_deliver (yb B n : Nat) (u a b c : Int) (ρ : Nat → Part) (ns : List NetD) (w : World) (hI : Inv w B ρ yb ns n) (hne : ns ≠ []) (hu0 : -9223372036854775808 ≤ u) (hu1 : u ≤ 9223372036854775807) :
    Calls Try.prog 36 #[.pointer (some ⟨yb, 0, none⟩), opV 5 u a b c] w fun e w' => e = .returned (.bool true) ∧ ∃ ρ' ns' n', Inv w' B ρ' yb ns' n' ∧ Below B w w' ∧ ns.length ≤ ns'.length ∧ ns'.length ≤ ns.length + 1 ∧ n' ≤ n + 1 ∧ Stays ρ ρ' w w' := by
  have b0 := allocO w 5 u a b c
  have I0 := hI.below b0
  obtain ⟨g, cap, c0, hlen, hat⟩ := I0.at hne
  have hpos : 0 < ns.length := List.length_pos_iff.2 hne
  obtain ⟨j, hj, PK⟩ := pick_any u ns.length hu0 hu1 hpos hlen
  obtain ⟨N, hN⟩ : ∃ N, ns[j]? = some N := ⟨ns[j], by simp [hj]⟩
  have hj' : (j : Int) < (ns.length : Int) := by omega
  have hj0 : (0 : Int) ≤ (j : Int) := by omega
  have hl0 : ((ns.length : Int) == 0) = false := by rw [beq_eq_false_iff_ne]; omega
  have hx := hat j N hN
  have sS : S5 yb g ns.length cap w.heap.size j N.bx N.br u (w.alloc (.cells #[.int .i64 5, .int .i64 u, .int .i64 a, .int .i64 b, .int .i64 c] 78)).drew := ⟨c0, (Whole.new w 78 #[.int .i64 5, .int .i64 u, .int .i64 a, .int .i64 b, .int .i64 c]).cell 1, hx.1, hx.2⟩
  have HP : Hid (∀ w : World, Calls Try.prog 62 #[.int .i64 u, .int .i64 ns.length] w fun e w' => e = .returned (.int .i64 j) ∧ w = w') := PK; clear PK
  have HI : Hid (Inv w B ρ yb ns n) := hI
  have NI0 := I0.nets j N hN
  have HNI0 : Hid (NetI (w.alloc (.cells #[.int .i64 5, .int .i64 u, .int .i64 a, .int .i64 b, .int .i64 c] 78)) B ρ j N) := NI0; clear NI0
  have B0 : Hid (Below w.heap.size w (w.alloc (.cells #[.int .i64 5, .int .i64 u, .int .i64 a, .int .i64 b, .int .i64 c] 78))) := b0; clear b0
  have HB : Hid (B ≤ w.heap.size) := hI.hB
  have Hj : Hid (ns[j]? = some N) := hN; clear hN
  clear hat I0 hx hI hu0 hu1
  unfold maxLen at hlen
  have D1 : Hid (Below w.heap.size w (((w.alloc (.cells #[.int .i64 5, .int .i64 u, .int .i64 a, .int .i64 b, .int .i64 c] 78)).alloc (.cells #[.pointer (some ⟨N.bx, 0, none⟩), .pointer (some ⟨N.br, 0, none⟩)] 112)).drew)) := (B0.out.alloc B0.out.size _).drew
  have NI : Hid (NetI (((w.alloc (.cells #[.int .i64 5, .int .i64 u, .int .i64 a, .int .i64 b, .int .i64 c] 78)).alloc (.cells #[.pointer (some ⟨N.bx, 0, none⟩), .pointer (some ⟨N.br, 0, none⟩)] 112)).drew) B ρ j N) := HNI0.out.below ((Below.refl _ _).alloc (Nat.le_refl _) _).drew
  have NW : Hid (∀ k, (((w.alloc (.cells #[.int .i64 5, .int .i64 u, .int .i64 a, .int .i64 b, .int .i64 c] 78)).alloc (.cells #[.pointer (some ⟨N.bx, 0, none⟩), .pointer (some ⟨N.br, 0, none⟩)] 112)).drew).heap.size ≤ k → ρ k = (0, 0)) := fun k hk => HI.out.new k (Nat.le_trans D1.out.size hk)
  have S15 : Hid (S5 yb g ns.length cap w.heap.size j N.bx N.br u (((w.alloc (.cells #[.int .i64 5, .int .i64 u, .int .i64 a, .int .i64 b, .int .i64 c] 78)).alloc (.cells #[.pointer (some ⟨N.bx, 0, none⟩), .pointer (some ⟨N.br, 0, none⟩)] 112)).drew)) := (show S5 yb g ns.length cap w.heap.size j N.bx N.br u (((w.alloc (.cells #[.int .i64 5, .int .i64 u, .int .i64 a, .int .i64 b, .int .i64 c] 78)).alloc (.cells #[.pointer (some ⟨N.bx, 0, none⟩), .pointer (some ⟨N.br, 0, none⟩)] 112)).drew) from sS.alloc _)
  go_enter Try.func36, Try.ntmps36
  go_wp2_with fail
  refine wp_region_held_drew (S := (S5 yb g ns.length cap w.heap.size j N.bx N.br u)) (by kernel_rfl) sS (fun _ => ?_)
  change wpAnyH _ _ _ _ _ _ _ _ (World.drew _)
  refine held_hq (fun _ _ x _ _ h => by cases x <;> exact h) ?_
  intro hQ
  refine held_to 0 (some 29) (.pointer (some ⟨yb, 0, none⟩)) hQ sS rfl rfl (by kernel_rfl) (by kernel_rfl) (by kernel_rfl) (by kernel_rfl) (fun w _ => by go_simp) ?_
  refine held_to 1 (some 30) (.pointer (some ⟨yb, 0, none⟩)) hQ sS rfl rfl (by kernel_rfl) (by kernel_rfl) (by kernel_rfl) (by kernel_rfl) (fun w _ => by go_simp) ?_
  refine held_to 2 (some 31) (.pointer (some ⟨yb, 0, none⟩)) hQ sS rfl rfl (by kernel_rfl) (by kernel_rfl) (by kernel_rfl) (by kernel_rfl) (fun w _ => by go_simp) ?_
  refine held_to 3 (some 32) (.slice (some ⟨g, 0, none⟩) ns.length cap) hQ sS rfl rfl (by kernel_rfl) (by kernel_rfl) (by kernel_rfl) (by kernel_rfl) (fun w hS => by obtain ⟨h1, h2, h3, h4⟩ := hS; go_simp) ?_
  refine held_to 4 (some 33) (.pointer (some ⟨w.heap.size, 1, none⟩)) hQ sS rfl rfl (by kernel_rfl) (by kernel_rfl) (by kernel_rfl) (by kernel_rfl) (fun w _ => by go_simp) ?_
  refine held_to 5 (some 34) (.int .i64 u) hQ sS rfl rfl (by kernel_rfl) (by kernel_rfl) (by kernel_rfl) (by kernel_rfl) (fun w hS => by obtain ⟨h1, h2, h3, h4⟩ := hS; go_simp) ?_
  refine held_to 6 (some 35) (.pointer (some ⟨yb, 0, none⟩)) hQ sS rfl rfl (by kernel_rfl) (by kernel_rfl) (by kernel_rfl) (by kernel_rfl) (fun w _ => by go_simp) ?_
  refine held_to 7 (some 36) (.pointer (some ⟨yb, 0, none⟩)) hQ sS rfl rfl (by kernel_rfl) (by kernel_rfl) (by kernel_rfl) (by kernel_rfl) (fun w _ => by go_simp) ?_
  refine held_to 8 (some 37) (.pointer (some ⟨yb, 0, none⟩)) hQ sS rfl rfl (by kernel_rfl) (by kernel_rfl) (by kernel_rfl) (by kernel_rfl) (fun w _ => by go_simp) ?_
  refine held_to 9 (some 38) (.slice (some ⟨g, 0, none⟩) ns.length cap) hQ sS rfl rfl (by kernel_rfl) (by kernel_rfl) (by kernel_rfl) (by kernel_rfl) (fun w hS => by obtain ⟨h1, h2, h3, h4⟩ := hS; go_simp) ?_
  refine held_to 10 (some 39) (.int .i64 ns.length) hQ sS rfl rfl (by kernel_rfl) (by kernel_rfl) (by kernel_rfl) (by kernel_rfl) (fun w _ => by go_simp) ?_
  refine wpAnyH_ready (rs := [11, 14]) (by kernel_rfl) (by simp) ?_
  refine AllReadyH.cons rfl (fun K hK => ?_) (AllReadyH.cons rfl (fun K hK => ?_) AllReadyH.nil)
  · go_simp
    go_wp2_with (go_at_call 62; refine (HP.out _).mono ?_; rintro e w' ⟨rfl, rfl⟩)
    refine hK.out _ _ sS (fun _ => ?_)
    clear hK K
    refine held_to 12 (some 41) (.pointer (some ⟨g, j * 2, none⟩)) hQ sS rfl rfl (by kernel_rfl) (by kernel_rfl) (by kernel_rfl) (by kernel_rfl) (fun w _ => by go_simp) ?_
    refine held_to 13 (some 42) (.agg #[.pointer (some ⟨N.bx, 0, none⟩), .pointer (some ⟨N.br, 0, none⟩)]) hQ sS rfl rfl (by kernel_rfl) (by kernel_rfl) (by kernel_rfl) (by kernel_rfl) (fun w hS => by obtain ⟨h1, h2, h3, h4⟩ := hS; go_simp) ?_
    refine wpAnyH_ready (rs := [14]) (by kernel_rfl) (by simp) ?_
    refine AllReadyH.cons rfl (fun K hK => ?_) AllReadyH.nil
    go_simp
    refine hK.out _ _ (sS.alloc _) (fun _ => ?_)
    clear hK K
    refine wpAnyH_ready (rs := [15]) (by kernel_rfl) (by simp) ?_
    refine AllReadyH.cons rfl (fun K hK => ?_) AllReadyH.nil
    go_simp
    refine hK.out _ _ (by first | exact sS.alloc _ | exact S15.out) (fun _ => ?_)
    clear hK K
    refine wpAnyH_done (by kernel_rfl) ?_ _
    clear hQ
    go_simp
    go_wp2_with (go_at_call 64; refine (happens_deliver B j ρ N u a b c _ NI.out NW.out (Nat.le_trans HB.out D1.out.size)).mono ?_; rintro e w2 ⟨rfl, ρ', N', q1, q2, q3, q4⟩)
    go_ret
    obtain ⟨i2, d2⟩ := (HI.out.below D1.out).step Hj.out q3 q1 q2 q4
    exact ⟨rfl, ρ', _, n, i2, (D1.out.mono HB.out).trans d2, by simp, by simp, Nat.le_succ _, (Stays.below D1.out).trans (Stays.aft q4)⟩
  · go_simp
    refine hK.out _ _ (sS.alloc _) (fun _ => ?_)
    clear hK K
    refine wpAnyH_ready (rs := [11]) (by kernel_rfl) (by simp) ?_
    refine AllReadyH.cons rfl (fun K hK => ?_) AllReadyH.nil
    go_simp
    go_wp2_with (go_at_call 62; refine (HP.out _).mono ?_; rintro e w' ⟨rfl, rfl⟩)
    refine hK.out _ _ (sS.alloc _) (fun _ => ?_)
    clear hK K
    refine held_to 12 (some 41) (.pointer (some ⟨g, j * 2, none⟩)) hQ (sS.alloc _) rfl rfl (by kernel_rfl) (by kernel_rfl) (by kernel_rfl) (by kernel_rfl) (fun w _ => by go_simp) ?_
    refine held_to 13 (some 42) (.agg #[.pointer (some ⟨N.bx, 0, none⟩), .pointer (some ⟨N.br, 0, none⟩)]) hQ (sS.alloc _) rfl rfl (by kernel_rfl) (by kernel_rfl) (by kernel_rfl) (by kernel_rfl) (fun w hS => by obtain ⟨h1, h2, h3, h4⟩ := hS; go_simp) ?_
    refine wpAnyH_ready (rs := [15]) (by kernel_rfl) (by simp) ?_
    refine AllReadyH.cons rfl (fun K hK => ?_) AllReadyH.nil
    go_simp
    refine hK.out _ _ (by first | exact sS.alloc _ | exact S15.out) (fun _ => ?_)
    clear hK K
    refine wpAnyH_done (by kernel_rfl) ?_ _
    clear hQ
    go_simp
    go_wp2_with (go_at_call 64; refine (happens_deliver B j ρ N u a b c _ NI.out NW.out (Nat.le_trans HB.out D1.out.size)).mono ?_; rintro e w2 ⟨rfl, ρ', N', q1, q2, q3, q4⟩)
    go_ret
    obtain ⟨i2, d2⟩ := (HI.out.below D1.out).step Hj.out q3 q1 q2 q4
    exact ⟨rfl, ρ', _, n, i2, (D1.out.mono HB.out).trans d2, by simp, by simp, Nat.le_succ _, (Stays.below D1.out).trans (Stays.aft q4)⟩
set_option maxHeartbeats 2000000 in
set_option maxRecDepth 100000 in
theorem step_lose (yb B n : Nat) (u a b c : Int) (ρ : Nat → Part) (ns : List NetD) (w : World) (hI : Inv w B ρ yb ns n) (hne : ns ≠ []) (hu0 : -9223372036854775808 ≤ u) (hu1 : u ≤ 9223372036854775807) :
    Calls Try.prog 36 #[.pointer (some ⟨yb, 0, none⟩), opV 9 u a b c] w fun e w' => e = .returned (.bool true) ∧ ∃ ρ' ns' n', Inv w' B ρ' yb ns' n' ∧ Below B w w' ∧ ns.length ≤ ns'.length ∧ ns'.length ≤ ns.length + 1 ∧ n' ≤ n + 1 ∧ Stays ρ ρ' w w' := by
  have b0 := allocO w 9 u a b c
  have I0 := hI.below b0
  obtain ⟨g, cap, c0, hlen, hat⟩ := I0.at hne
  have hpos : 0 < ns.length := List.length_pos_iff.2 hne
  obtain ⟨j, hj, PK⟩ := pick_any u ns.length hu0 hu1 hpos hlen
  obtain ⟨N, hN⟩ : ∃ N, ns[j]? = some N := ⟨ns[j], by simp [hj]⟩
  have hj' : (j : Int) < (ns.length : Int) := by omega
  have hj0 : (0 : Int) ≤ (j : Int) := by omega
  have hl0 : ((ns.length : Int) == 0) = false := by rw [beq_eq_false_iff_ne]; omega
  have hx := hat j N hN
  have sS : S5 yb g ns.length cap w.heap.size j N.bx N.br u (w.alloc (.cells #[.int .i64 9, .int .i64 u, .int .i64 a, .int .i64 b, .int .i64 c] 78)).drew := ⟨c0, (Whole.new w 78 #[.int .i64 9, .int .i64 u, .int .i64 a, .int .i64 b, .int .i64 c]).cell 1, hx.1, hx.2⟩
  have HP : Hid (∀ w : World, Calls Try.prog 62 #[.int .i64 u, .int .i64 ns.length] w fun e w' => e = .returned (.int .i64 j) ∧ w = w') := PK; clear PK
  have HI : Hid (Inv w B ρ yb ns n) := hI
  have NI0 := I0.nets j N hN
  have HNI0 : Hid (NetI (w.alloc (.cells #[.int .i64 9, .int .i64 u, .int .i64 a, .int .i64 b, .int .i64 c] 78)) B ρ j N) := NI0; clear NI0
  have B0 : Hid (Below w.heap.size w (w.alloc (.cells #[.int .i64 9, .int .i64 u, .int .i64 a, .int .i64 b, .int .i64 c] 78))) := b0; clear b0
  have HB : Hid (B ≤ w.heap.size) := hI.hB
  have Hj : Hid (ns[j]? = some N) := hN; clear hN
  clear hat I0 hx hI hu0 hu1
  unfold maxLen at hlen
  have D1 : Hid (Below w.heap.size w (((w.alloc (.cells #[.int .i64 9, .int .i64 u, .int .i64 a, .int .i64 b, .int .i64 c] 78)).alloc (.cells #[.pointer (some ⟨N.bx, 0, none⟩), .pointer (some ⟨N.br, 0, none⟩)] 112)).drew)) := (B0.out.alloc B0.out.size _).drew
  have NI : Hid (NetI (((w.alloc (.cells #[.int .i64 9, .int .i64 u, .int .i64 a, .int .i64 b, .int .i64 c] 78)).alloc (.cells #[.pointer (some ⟨N.bx, 0, none⟩), .pointer (some ⟨N.br, 0, none⟩)] 112)).drew) B ρ j N) := HNI0.out.below ((Below.refl _ _).alloc (Nat.le_refl _) _).drew
  have NW : Hid (∀ k, (((w.alloc (.cells #[.int .i64 9, .int .i64 u, .int .i64 a, .int .i64 b, .int .i64 c] 78)).alloc (.cells #[.pointer (some ⟨N.bx, 0, none⟩), .pointer (some ⟨N.br, 0, none⟩)] 112)).drew).heap.size ≤ k → ρ k = (0, 0)) := fun k hk => HI.out.new k (Nat.le_trans D1.out.size hk)
  have S15 : Hid (S5 yb g ns.length cap w.heap.size j N.bx N.br u (((w.alloc (.cells #[.int .i64 9, .int .i64 u, .int .i64 a, .int .i64 b, .int .i64 c] 78)).alloc (.cells #[.pointer (some ⟨N.bx, 0, none⟩), .pointer (some ⟨N.br, 0, none⟩)] 112)).drew)) := (show S5 yb g ns.length cap w.heap.size j N.bx N.br u (((w.alloc (.cells #[.int .i64 9, .int .i64 u, .int .i64 a, .int .i64 b, .int .i64 c] 78)).alloc (.cells #[.pointer (some ⟨N.bx, 0, none⟩), .pointer (some ⟨N.br, 0, none⟩)] 112)).drew) from sS.alloc _)
  go_enter Try.func36, Try.ntmps36
  go_wp2_with fail
  refine wp_region_held_drew (S := (S5 yb g ns.length cap w.heap.size j N.bx N.br u)) (by kernel_rfl) sS (fun _ => ?_)
  change wpAnyH _ _ _ _ _ _ _ _ (World.drew _)
  refine held_hq (fun _ _ x _ _ h => by cases x <;> exact h) ?_
  intro hQ
  refine held_to 0 (some 29) (.pointer (some ⟨yb, 0, none⟩)) hQ sS rfl rfl (by kernel_rfl) (by kernel_rfl) (by kernel_rfl) (by kernel_rfl) (fun w _ => by go_simp) ?_
  refine held_to 1 (some 30) (.pointer (some ⟨yb, 0, none⟩)) hQ sS rfl rfl (by kernel_rfl) (by kernel_rfl) (by kernel_rfl) (by kernel_rfl) (fun w _ => by go_simp) ?_
  refine held_to 2 (some 31) (.pointer (some ⟨yb, 0, none⟩)) hQ sS rfl rfl (by kernel_rfl) (by kernel_rfl) (by kernel_rfl) (by kernel_rfl) (fun w _ => by go_simp) ?_
  refine held_to 3 (some 32) (.slice (some ⟨g, 0, none⟩) ns.length cap) hQ sS rfl rfl (by kernel_rfl) (by kernel_rfl) (by kernel_rfl) (by kernel_rfl) (fun w hS => by obtain ⟨h1, h2, h3, h4⟩ := hS; go_simp) ?_
  refine held_to 4 (some 33) (.pointer (some ⟨w.heap.size, 1, none⟩)) hQ sS rfl rfl (by kernel_rfl) (by kernel_rfl) (by kernel_rfl) (by kernel_rfl) (fun w _ => by go_simp) ?_
  refine held_to 5 (some 34) (.int .i64 u) hQ sS rfl rfl (by kernel_rfl) (by kernel_rfl) (by kernel_rfl) (by kernel_rfl) (fun w hS => by obtain ⟨h1, h2, h3, h4⟩ := hS; go_simp) ?_
  refine held_to 6 (some 35) (.pointer (some ⟨yb, 0, none⟩)) hQ sS rfl rfl (by kernel_rfl) (by kernel_rfl) (by kernel_rfl) (by kernel_rfl) (fun w _ => by go_simp) ?_
  refine held_to 7 (some 36) (.pointer (some ⟨yb, 0, none⟩)) hQ sS rfl rfl (by kernel_rfl) (by kernel_rfl) (by kernel_rfl) (by kernel_rfl) (fun w _ => by go_simp) ?_
  refine held_to 8 (some 37) (.pointer (some ⟨yb, 0, none⟩)) hQ sS rfl rfl (by kernel_rfl) (by kernel_rfl) (by kernel_rfl) (by kernel_rfl) (fun w _ => by go_simp) ?_
  refine held_to 9 (some 38) (.slice (some ⟨g, 0, none⟩) ns.length cap) hQ sS rfl rfl (by kernel_rfl) (by kernel_rfl) (by kernel_rfl) (by kernel_rfl) (fun w hS => by obtain ⟨h1, h2, h3, h4⟩ := hS; go_simp) ?_
  refine held_to 10 (some 39) (.int .i64 ns.length) hQ sS rfl rfl (by kernel_rfl) (by kernel_rfl) (by kernel_rfl) (by kernel_rfl) (fun w _ => by go_simp) ?_
  refine wpAnyH_ready (rs := [11, 14]) (by kernel_rfl) (by simp) ?_
  refine AllReadyH.cons rfl (fun K hK => ?_) (AllReadyH.cons rfl (fun K hK => ?_) AllReadyH.nil)
  · go_simp
    go_wp2_with (go_at_call 62; refine (HP.out _).mono ?_; rintro e w' ⟨rfl, rfl⟩)
    refine hK.out _ _ sS (fun _ => ?_)
    clear hK K
    refine held_to 12 (some 41) (.pointer (some ⟨g, j * 2, none⟩)) hQ sS rfl rfl (by kernel_rfl) (by kernel_rfl) (by kernel_rfl) (by kernel_rfl) (fun w _ => by go_simp) ?_
    refine held_to 13 (some 42) (.agg #[.pointer (some ⟨N.bx, 0, none⟩), .pointer (some ⟨N.br, 0, none⟩)]) hQ sS rfl rfl (by kernel_rfl) (by kernel_rfl) (by kernel_rfl) (by kernel_rfl) (fun w hS => by obtain ⟨h1, h2, h3, h4⟩ := hS; go_simp) ?_
    refine wpAnyH_ready (rs := [14]) (by kernel_rfl) (by simp) ?_
    refine AllReadyH.cons rfl (fun K hK => ?_) AllReadyH.nil
    go_simp
    refine hK.out _ _ (sS.alloc _) (fun _ => ?_)
    clear hK K
    refine wpAnyH_ready (rs := [15]) (by kernel_rfl) (by simp) ?_
    refine AllReadyH.cons rfl (fun K hK => ?_) AllReadyH.nil
    go_simp
    refine hK.out _ _ (by first | exact sS.alloc _ | exact S15.out) (fun _ => ?_)
    clear hK K
    refine wpAnyH_done (by kernel_rfl) ?_ _
    clear hQ
    go_simp
    go_wp2_with (go_at_call 64; refine (happens_lose B j ρ N u a b c _ NI.out NW.out (Nat.le_trans HB.out D1.out.size)).mono ?_; rintro e w2 ⟨rfl, ρ', N', q1, q2, q3, q4⟩)
    go_ret
    obtain ⟨i2, d2⟩ := (HI.out.below D1.out).step Hj.out q3 q1 q2 q4
    exact ⟨rfl, ρ', _, n, i2, (D1.out.mono HB.out).trans d2, by simp, by simp, Nat.le_succ _, (Stays.below D1.out).trans (Stays.aft q4)⟩
  · go_simp
    refine hK.out _ _ (sS.alloc _) (fun _ => ?_)
    clear hK K
    refine wpAnyH_ready (rs := [11]) (by kernel_rfl) (by simp) ?_
    refine AllReadyH.cons rfl (fun K hK => ?_) AllReadyH.nil
    go_simp
    go_wp2_with (go_at_call 62; refine (HP.out _).mono ?_; rintro e w' ⟨rfl, rfl⟩)
    refine hK.out _ _ (sS.alloc _) (fun _ => ?_)
    clear hK K
    refine held_to 12 (some 41) (.pointer (some ⟨g, j * 2, none⟩)) hQ (sS.alloc _) rfl rfl (by kernel_rfl) (by kernel_rfl) (by kernel_rfl) (by kernel_rfl) (fun w _ => by go_simp) ?_
    refine held_to 13 (some 42) (.agg #[.pointer (some ⟨N.bx, 0, none⟩), .pointer (some ⟨N.br, 0, none⟩)]) hQ (sS.alloc _) rfl rfl (by kernel_rfl) (by kernel_rfl) (by kernel_rfl) (by kernel_rfl) (fun w hS => by obtain ⟨h1, h2, h3, h4⟩ := hS; go_simp) ?_
    refine wpAnyH_ready (rs := [15]) (by kernel_rfl) (by simp) ?_
    refine AllReadyH.cons rfl (fun K hK => ?_) AllReadyH.nil
    go_simp
    refine hK.out _ _ (by first | exact sS.alloc _ | exact S15.out) (fun _ => ?_)
    clear hK K
    refine wpAnyH_done (by kernel_rfl) ?_ _
    clear hQ
    go_simp
    go_wp2_with (go_at_call 64; refine (happens_lose B j ρ N u a b c _ NI.out NW.out (Nat.le_trans HB.out D1.out.size)).mono ?_; rintro e w2 ⟨rfl, ρ', N', q1, q2, q3, q4⟩)
    go_ret
    obtain ⟨i2, d2⟩ := (HI.out.below D1.out).step Hj.out q3 q1 q2 q4
    exact ⟨rfl, ρ', _, n, i2, (D1.out.mono HB.out).trans d2, by simp, by simp, Nat.le_succ _, (Stays.below D1.out).trans (Stays.aft q4)⟩
set_option maxHeartbeats 2000000 in
set_option maxRecDepth 100000 in
theorem step_again (yb B n : Nat) (u a b c : Int) (ρ : Nat → Part) (ns : List NetD) (w : World) (hI : Inv w B ρ yb ns n) (hne : ns ≠ []) (hu0 : -9223372036854775808 ≤ u) (hu1 : u ≤ 9223372036854775807) :
    Calls Try.prog 36 #[.pointer (some ⟨yb, 0, none⟩), opV 10 u a b c] w fun e w' => e = .returned (.bool true) ∧ ∃ ρ' ns' n', Inv w' B ρ' yb ns' n' ∧ Below B w w' ∧ ns.length ≤ ns'.length ∧ ns'.length ≤ ns.length + 1 ∧ n' ≤ n + 1 ∧ Stays ρ ρ' w w' := by
  have b0 := allocO w 10 u a b c
  have I0 := hI.below b0
  obtain ⟨g, cap, c0, hlen, hat⟩ := I0.at hne
  have hpos : 0 < ns.length := List.length_pos_iff.2 hne
  obtain ⟨j, hj, PK⟩ := pick_any u ns.length hu0 hu1 hpos hlen
  obtain ⟨N, hN⟩ : ∃ N, ns[j]? = some N := ⟨ns[j], by simp [hj]⟩
  have hj' : (j : Int) < (ns.length : Int) := by omega
  have hj0 : (0 : Int) ≤ (j : Int) := by omega
  have hl0 : ((ns.length : Int) == 0) = false := by rw [beq_eq_false_iff_ne]; omega
  have hx := hat j N hN
  have sS : S5 yb g ns.length cap w.heap.size j N.bx N.br u (w.alloc (.cells #[.int .i64 10, .int .i64 u, .int .i64 a, .int .i64 b, .int .i64 c] 78)).drew := ⟨c0, (Whole.new w 78 #[.int .i64 10, .int .i64 u, .int .i64 a, .int .i64 b, .int .i64 c]).cell 1, hx.1, hx.2⟩
  have HP : Hid (∀ w : World, Calls Try.prog 62 #[.int .i64 u, .int .i64 ns.length] w fun e w' => e = .returned (.int .i64 j) ∧ w = w') := PK; clear PK
  have HI : Hid (Inv w B ρ yb ns n) := hI
  have NI0 := I0.nets j N hN
  have HNI0 : Hid (NetI (w.alloc (.cells #[.int .i64 10, .int .i64 u, .int .i64 a, .int .i64 b, .int .i64 c] 78)) B ρ j N) := NI0; clear NI0
  have B0 : Hid (Below w.heap.size w (w.alloc (.cells #[.int .i64 10, .int .i64 u, .int .i64 a, .int .i64 b, .int .i64 c] 78))) := b0; clear b0
  have HB : Hid (B ≤ w.heap.size) := hI.hB
  have Hj : Hid (ns[j]? = some N) := hN; clear hN
  clear hat I0 hx hI hu0 hu1
  unfold maxLen at hlen
  have D1 : Hid (Below w.heap.size w (((w.alloc (.cells #[.int .i64 10, .int .i64 u, .int .i64 a, .int .i64 b, .int .i64 c] 78)).alloc (.cells #[.pointer (some ⟨N.bx, 0, none⟩), .pointer (some ⟨N.br, 0, none⟩)] 112)).drew)) := (B0.out.alloc B0.out.size _).drew
  have NI : Hid (NetI (((w.alloc (.cells #[.int .i64 10, .int .i64 u, .int .i64 a, .int .i64 b, .int .i64 c] 78)).alloc (.cells #[.pointer (some ⟨N.bx, 0, none⟩), .pointer (some ⟨N.br, 0, none⟩)] 112)).drew) B ρ j N) := HNI0.out.below ((Below.refl _ _).alloc (Nat.le_refl _) _).drew
  have NW : Hid (∀ k, (((w.alloc (.cells #[.int .i64 10, .int .i64 u, .int .i64 a, .int .i64 b, .int .i64 c] 78)).alloc (.cells #[.pointer (some ⟨N.bx, 0, none⟩), .pointer (some ⟨N.br, 0, none⟩)] 112)).drew).heap.size ≤ k → ρ k = (0, 0)) := fun k hk => HI.out.new k (Nat.le_trans D1.out.size hk)
  have S15 : Hid (S5 yb g ns.length cap w.heap.size j N.bx N.br u (((w.alloc (.cells #[.int .i64 10, .int .i64 u, .int .i64 a, .int .i64 b, .int .i64 c] 78)).alloc (.cells #[.pointer (some ⟨N.bx, 0, none⟩), .pointer (some ⟨N.br, 0, none⟩)] 112)).drew)) := (show S5 yb g ns.length cap w.heap.size j N.bx N.br u (((w.alloc (.cells #[.int .i64 10, .int .i64 u, .int .i64 a, .int .i64 b, .int .i64 c] 78)).alloc (.cells #[.pointer (some ⟨N.bx, 0, none⟩), .pointer (some ⟨N.br, 0, none⟩)] 112)).drew) from sS.alloc _)
  go_enter Try.func36, Try.ntmps36
  go_wp2_with fail
  refine wp_region_held_drew (S := (S5 yb g ns.length cap w.heap.size j N.bx N.br u)) (by kernel_rfl) sS (fun _ => ?_)
  change wpAnyH _ _ _ _ _ _ _ _ (World.drew _)
  refine held_hq (fun _ _ x _ _ h => by cases x <;> exact h) ?_
  intro hQ
  refine held_to 0 (some 29) (.pointer (some ⟨yb, 0, none⟩)) hQ sS rfl rfl (by kernel_rfl) (by kernel_rfl) (by kernel_rfl) (by kernel_rfl) (fun w _ => by go_simp) ?_
  refine held_to 1 (some 30) (.pointer (some ⟨yb, 0, none⟩)) hQ sS rfl rfl (by kernel_rfl) (by kernel_rfl) (by kernel_rfl) (by kernel_rfl) (fun w _ => by go_simp) ?_
  refine held_to 2 (some 31) (.pointer (some ⟨yb, 0, none⟩)) hQ sS rfl rfl (by kernel_rfl) (by kernel_rfl) (by kernel_rfl) (by kernel_rfl) (fun w _ => by go_simp) ?_
  refine held_to 3 (some 32) (.slice (some ⟨g, 0, none⟩) ns.length cap) hQ sS rfl rfl (by kernel_rfl) (by kernel_rfl) (by kernel_rfl) (by kernel_rfl) (fun w hS => by obtain ⟨h1, h2, h3, h4⟩ := hS; go_simp) ?_
  refine held_to 4 (some 33) (.pointer (some ⟨w.heap.size, 1, none⟩)) hQ sS rfl rfl (by kernel_rfl) (by kernel_rfl) (by kernel_rfl) (by kernel_rfl) (fun w _ => by go_simp) ?_
  refine held_to 5 (some 34) (.int .i64 u) hQ sS rfl rfl (by kernel_rfl) (by kernel_rfl) (by kernel_rfl) (by kernel_rfl) (fun w hS => by obtain ⟨h1, h2, h3, h4⟩ := hS; go_simp) ?_
  refine held_to 6 (some 35) (.pointer (some ⟨yb, 0, none⟩)) hQ sS rfl rfl (by kernel_rfl) (by kernel_rfl) (by kernel_rfl) (by kernel_rfl) (fun w _ => by go_simp) ?_
  refine held_to 7 (some 36) (.pointer (some ⟨yb, 0, none⟩)) hQ sS rfl rfl (by kernel_rfl) (by kernel_rfl) (by kernel_rfl) (by kernel_rfl) (fun w _ => by go_simp) ?_
  refine held_to 8 (some 37) (.pointer (some ⟨yb, 0, none⟩)) hQ sS rfl rfl (by kernel_rfl) (by kernel_rfl) (by kernel_rfl) (by kernel_rfl) (fun w _ => by go_simp) ?_
  refine held_to 9 (some 38) (.slice (some ⟨g, 0, none⟩) ns.length cap) hQ sS rfl rfl (by kernel_rfl) (by kernel_rfl) (by kernel_rfl) (by kernel_rfl) (fun w hS => by obtain ⟨h1, h2, h3, h4⟩ := hS; go_simp) ?_
  refine held_to 10 (some 39) (.int .i64 ns.length) hQ sS rfl rfl (by kernel_rfl) (by kernel_rfl) (by kernel_rfl) (by kernel_rfl) (fun w _ => by go_simp) ?_
  refine wpAnyH_ready (rs := [11, 14]) (by kernel_rfl) (by simp) ?_
  refine AllReadyH.cons rfl (fun K hK => ?_) (AllReadyH.cons rfl (fun K hK => ?_) AllReadyH.nil)
  · go_simp
    go_wp2_with (go_at_call 62; refine (HP.out _).mono ?_; rintro e w' ⟨rfl, rfl⟩)
    refine hK.out _ _ sS (fun _ => ?_)
    clear hK K
    refine held_to 12 (some 41) (.pointer (some ⟨g, j * 2, none⟩)) hQ sS rfl rfl (by kernel_rfl) (by kernel_rfl) (by kernel_rfl) (by kernel_rfl) (fun w _ => by go_simp) ?_
    refine held_to 13 (some 42) (.agg #[.pointer (some ⟨N.bx, 0, none⟩), .pointer (some ⟨N.br, 0, none⟩)]) hQ sS rfl rfl (by kernel_rfl) (by kernel_rfl) (by kernel_rfl) (by kernel_rfl) (fun w hS => by obtain ⟨h1, h2, h3, h4⟩ := hS; go_simp) ?_
    refine wpAnyH_ready (rs := [14]) (by kernel_rfl) (by simp) ?_
    refine AllReadyH.cons rfl (fun K hK => ?_) AllReadyH.nil
    go_simp
    refine hK.out _ _ (sS.alloc _) (fun _ => ?_)
    clear hK K
    refine wpAnyH_ready (rs := [15]) (by kernel_rfl) (by simp) ?_
    refine AllReadyH.cons rfl (fun K hK => ?_) AllReadyH.nil
    go_simp
    refine hK.out _ _ (by first | exact sS.alloc _ | exact S15.out) (fun _ => ?_)
    clear hK K
    refine wpAnyH_done (by kernel_rfl) ?_ _
    clear hQ
    go_simp
    go_wp2_with (go_at_call 64; refine (happens_again B j ρ N u a b c _ NI.out NW.out (Nat.le_trans HB.out D1.out.size)).mono ?_; rintro e w2 ⟨rfl, ρ', N', q1, q2, q3, q4⟩)
    go_ret
    obtain ⟨i2, d2⟩ := (HI.out.below D1.out).step Hj.out q3 q1 q2 q4
    exact ⟨rfl, ρ', _, n, i2, (D1.out.mono HB.out).trans d2, by simp, by simp, Nat.le_succ _, (Stays.below D1.out).trans (Stays.aft q4)⟩
  · go_simp
    refine hK.out _ _ (sS.alloc _) (fun _ => ?_)
    clear hK K
    refine wpAnyH_ready (rs := [11]) (by kernel_rfl) (by simp) ?_
    refine AllReadyH.cons rfl (fun K hK => ?_) AllReadyH.nil
    go_simp
    go_wp2_with (go_at_call 62; refine (HP.out _).mono ?_; rintro e w' ⟨rfl, rfl⟩)
    refine hK.out _ _ (sS.alloc _) (fun _ => ?_)
    clear hK K
    refine held_to 12 (some 41) (.pointer (some ⟨g, j * 2, none⟩)) hQ (sS.alloc _) rfl rfl (by kernel_rfl) (by kernel_rfl) (by kernel_rfl) (by kernel_rfl) (fun w _ => by go_simp) ?_
    refine held_to 13 (some 42) (.agg #[.pointer (some ⟨N.bx, 0, none⟩), .pointer (some ⟨N.br, 0, none⟩)]) hQ (sS.alloc _) rfl rfl (by kernel_rfl) (by kernel_rfl) (by kernel_rfl) (by kernel_rfl) (fun w hS => by obtain ⟨h1, h2, h3, h4⟩ := hS; go_simp) ?_
    refine wpAnyH_ready (rs := [15]) (by kernel_rfl) (by simp) ?_
    refine AllReadyH.cons rfl (fun K hK => ?_) AllReadyH.nil
    go_simp
    refine hK.out _ _ (by first | exact sS.alloc _ | exact S15.out) (fun _ => ?_)
    clear hK K
    refine wpAnyH_done (by kernel_rfl) ?_ _
    clear hQ
    go_simp
    go_wp2_with (go_at_call 64; refine (happens_again B j ρ N u a b c _ NI.out NW.out (Nat.le_trans HB.out D1.out.size)).mono ?_; rintro e w2 ⟨rfl, ρ', N', q1, q2, q3, q4⟩)
    go_ret
    obtain ⟨i2, d2⟩ := (HI.out.below D1.out).step Hj.out q3 q1 q2 q4
    exact ⟨rfl, ρ', _, n, i2, (D1.out.mono HB.out).trans d2, by simp, by simp, Nat.le_succ _, (Stays.below D1.out).trans (Stays.aft q4)⟩
set_option maxHeartbeats 2000000 in
set_option maxRecDepth 100000 in
theorem step_dump (yb B n : Nat) (u a b c : Int) (ρ : Nat → Part) (ns : List NetD) (w : World) (hI : Inv w B ρ yb ns n) (hne : ns ≠ []) (hu0 : -9223372036854775808 ≤ u) (hu1 : u ≤ 9223372036854775807) :
    Calls Try.prog 36 #[.pointer (some ⟨yb, 0, none⟩), opV 3 u a b c] w fun e w' => e = .returned (.bool true) ∧ ∃ ρ' ns' n', Inv w' B ρ' yb ns' n' ∧ Below B w w' ∧ ns.length ≤ ns'.length ∧ ns'.length ≤ ns.length + 1 ∧ n' ≤ n + 1 ∧ Stays ρ ρ' w w' := by
  have b0 := allocO w 3 u a b c
  have I0 := hI.below b0
  obtain ⟨g, cap, c0, hlen, hat⟩ := I0.at hne
  have hpos : 0 < ns.length := List.length_pos_iff.2 hne
  obtain ⟨j, hj, PK⟩ := pick_any u ns.length hu0 hu1 hpos hlen
  obtain ⟨N, hN⟩ : ∃ N, ns[j]? = some N := ⟨ns[j], by simp [hj]⟩
  have hj' : (j : Int) < (ns.length : Int) := by omega
  have hj0 : (0 : Int) ≤ (j : Int) := by omega
  have hl0 : ((ns.length : Int) == 0) = false := by rw [beq_eq_false_iff_ne]; omega
  have hx := hat j N hN
  have sS : S5 yb g ns.length cap w.heap.size j N.bx N.br u (w.alloc (.cells #[.int .i64 3, .int .i64 u, .int .i64 a, .int .i64 b, .int .i64 c] 78)).drew := ⟨c0, (Whole.new w 78 #[.int .i64 3, .int .i64 u, .int .i64 a, .int .i64 b, .int .i64 c]).cell 1, hx.1, hx.2⟩
  have HP : Hid (∀ w : World, Calls Try.prog 62 #[.int .i64 u, .int .i64 ns.length] w fun e w' => e = .returned (.int .i64 j) ∧ w = w') := PK; clear PK
  have HI : Hid (Inv w B ρ yb ns n) := hI
  have NI0 := I0.nets j N hN
  have HNI0 : Hid (NetI (w.alloc (.cells #[.int .i64 3, .int .i64 u, .int .i64 a, .int .i64 b, .int .i64 c] 78)) B ρ j N) := NI0; clear NI0
  have B0 : Hid (Below w.heap.size w (w.alloc (.cells #[.int .i64 3, .int .i64 u, .int .i64 a, .int .i64 b, .int .i64 c] 78))) := b0; clear b0
  have HB : Hid (B ≤ w.heap.size) := hI.hB
  have Hj : Hid (ns[j]? = some N) := hN; clear hN
  clear hat I0 hx hI hu0 hu1
  unfold maxLen at hlen
  have D1 : Hid (Below w.heap.size w (((w.alloc (.cells #[.int .i64 3, .int .i64 u, .int .i64 a, .int .i64 b, .int .i64 c] 78)).alloc (.cells #[.pointer (some ⟨N.bx, 0, none⟩), .pointer (some ⟨N.br, 0, none⟩)] 112)).drew)) := (B0.out.alloc B0.out.size _).drew
  have NI : Hid (NetI (((w.alloc (.cells #[.int .i64 3, .int .i64 u, .int .i64 a, .int .i64 b, .int .i64 c] 78)).alloc (.cells #[.pointer (some ⟨N.bx, 0, none⟩), .pointer (some ⟨N.br, 0, none⟩)] 112)).drew) B ρ j N) := HNI0.out.below ((Below.refl _ _).alloc (Nat.le_refl _) _).drew
  have NW : Hid (∀ k, (((w.alloc (.cells #[.int .i64 3, .int .i64 u, .int .i64 a, .int .i64 b, .int .i64 c] 78)).alloc (.cells #[.pointer (some ⟨N.bx, 0, none⟩), .pointer (some ⟨N.br, 0, none⟩)] 112)).drew).heap.size ≤ k → ρ k = (0, 0)) := fun k hk => HI.out.new k (Nat.le_trans D1.out.size hk)
  have S15 : Hid (S5 yb g ns.length cap w.heap.size j N.bx N.br u (((w.alloc (.cells #[.int .i64 3, .int .i64 u, .int .i64 a, .int .i64 b, .int .i64 c] 78)).alloc (.cells #[.pointer (some ⟨N.bx, 0, none⟩), .pointer (some ⟨N.br, 0, none⟩)] 112)).drew)) := (show S5 yb g ns.length cap w.heap.size j N.bx N.br u (((w.alloc (.cells #[.int .i64 3, .int .i64 u, .int .i64 a, .int .i64 b, .int .i64 c] 78)).alloc (.cells #[.pointer (some ⟨N.bx, 0, none⟩), .pointer (some ⟨N.br, 0, none⟩)] 112)).drew) from sS.alloc _)
  go_enter Try.func36, Try.ntmps36
  go_wp2_with fail
  refine wp_region_held_drew (S := (S5 yb g ns.length cap w.heap.size j N.bx N.br u)) (by kernel_rfl) sS (fun _ => ?_)
  change wpAnyH _ _ _ _ _ _ _ _ (World.drew _)
  refine held_hq (fun _ _ x _ _ h => by cases x <;> exact h) ?_
  intro hQ
  refine held_to 0 (some 29) (.pointer (some ⟨yb, 0, none⟩)) hQ sS rfl rfl (by kernel_rfl) (by kernel_rfl) (by kernel_rfl) (by kernel_rfl) (fun w _ => by go_simp) ?_
  refine held_to 1 (some 30) (.pointer (some ⟨yb, 0, none⟩)) hQ sS rfl rfl (by kernel_rfl) (by kernel_rfl) (by kernel_rfl) (by kernel_rfl) (fun w _ => by go_simp) ?_
  refine held_to 2 (some 31) (.pointer (some ⟨yb, 0, none⟩)) hQ sS rfl rfl (by kernel_rfl) (by kernel_rfl) (by kernel_rfl) (by kernel_rfl) (fun w _ => by go_simp) ?_
  refine held_to 3 (some 32) (.slice (some ⟨g, 0, none⟩) ns.length cap) hQ sS rfl rfl (by kernel_rfl) (by kernel_rfl) (by kernel_rfl) (by kernel_rfl) (fun w hS => by obtain ⟨h1, h2, h3, h4⟩ := hS; go_simp) ?_
  refine held_to 4 (some 33) (.pointer (some ⟨w.heap.size, 1, none⟩)) hQ sS rfl rfl (by kernel_rfl) (by kernel_rfl) (by kernel_rfl) (by kernel_rfl) (fun w _ => by go_simp) ?_
  refine held_to 5 (some 34) (.int .i64 u) hQ sS rfl rfl (by kernel_rfl) (by kernel_rfl) (by kernel_rfl) (by kernel_rfl) (fun w hS => by obtain ⟨h1, h2, h3, h4⟩ := hS; go_simp) ?_
  refine held_to 6 (some 35) (.pointer (some ⟨yb, 0, none⟩)) hQ sS rfl rfl (by kernel_rfl) (by kernel_rfl) (by kernel_rfl) (by kernel_rfl) (fun w _ => by go_simp) ?_
  refine held_to 7 (some 36) (.pointer (some ⟨yb, 0, none⟩)) hQ sS rfl rfl (by kernel_rfl) (by kernel_rfl) (by kernel_rfl) (by kernel_rfl) (fun w _ => by go_simp) ?_
  refine held_to 8 (some 37) (.pointer (some ⟨yb, 0, none⟩)) hQ sS rfl rfl (by kernel_rfl) (by kernel_rfl) (by kernel_rfl) (by kernel_rfl) (fun w _ => by go_simp) ?_
  refine held_to 9 (some 38) (.slice (some ⟨g, 0, none⟩) ns.length cap) hQ sS rfl rfl (by kernel_rfl) (by kernel_rfl) (by kernel_rfl) (by kernel_rfl) (fun w hS => by obtain ⟨h1, h2, h3, h4⟩ := hS; go_simp) ?_
  refine held_to 10 (some 39) (.int .i64 ns.length) hQ sS rfl rfl (by kernel_rfl) (by kernel_rfl) (by kernel_rfl) (by kernel_rfl) (fun w _ => by go_simp) ?_
  refine wpAnyH_ready (rs := [11, 14]) (by kernel_rfl) (by simp) ?_
  refine AllReadyH.cons rfl (fun K hK => ?_) (AllReadyH.cons rfl (fun K hK => ?_) AllReadyH.nil)
  · go_simp
    go_wp2_with (go_at_call 62; refine (HP.out _).mono ?_; rintro e w' ⟨rfl, rfl⟩)
    refine hK.out _ _ sS (fun _ => ?_)
    clear hK K
    refine held_to 12 (some 41) (.pointer (some ⟨g, j * 2, none⟩)) hQ sS rfl rfl (by kernel_rfl) (by kernel_rfl) (by kernel_rfl) (by kernel_rfl) (fun w _ => by go_simp) ?_
    refine held_to 13 (some 42) (.agg #[.pointer (some ⟨N.bx, 0, none⟩), .pointer (some ⟨N.br, 0, none⟩)]) hQ sS rfl rfl (by kernel_rfl) (by kernel_rfl) (by kernel_rfl) (by kernel_rfl) (fun w hS => by obtain ⟨h1, h2, h3, h4⟩ := hS; go_simp) ?_
    refine wpAnyH_ready (rs := [14]) (by kernel_rfl) (by simp) ?_
    refine AllReadyH.cons rfl (fun K hK => ?_) AllReadyH.nil
    go_simp
    refine hK.out _ _ (sS.alloc _) (fun _ => ?_)
    clear hK K
    refine wpAnyH_ready (rs := [15]) (by kernel_rfl) (by simp) ?_
    refine AllReadyH.cons rfl (fun K hK => ?_) AllReadyH.nil
    go_simp
    refine hK.out _ _ (by first | exact sS.alloc _ | exact S15.out) (fun _ => ?_)
    clear hK K
    refine wpAnyH_done (by kernel_rfl) ?_ _
    clear hQ
    go_simp
    go_wp2_with (go_at_call 65; refine (does_dump B j ρ N u a b c _ NI.out NW.out (Nat.le_trans HB.out D1.out.size)).mono ?_; rintro e w2 ⟨rfl, ρ', N', q1, q2, q3, q4⟩)
    go_ret
    obtain ⟨i2, d2⟩ := (HI.out.below D1.out).step Hj.out q3 q1 q2 q4
    exact ⟨rfl, ρ', _, n, i2, (D1.out.mono HB.out).trans d2, by simp, by simp, Nat.le_succ _, (Stays.below D1.out).trans (Stays.aft q4)⟩
  · go_simp
    refine hK.out _ _ (sS.alloc _) (fun _ => ?_)
    clear hK K
    refine wpAnyH_ready (rs := [11]) (by kernel_rfl) (by simp) ?_
    refine AllReadyH.cons rfl (fun K hK => ?_) AllReadyH.nil
    go_simp
    go_wp2_with (go_at_call 62; refine (HP.out _).mono ?_; rintro e w' ⟨rfl, rfl⟩)
    refine hK.out _ _ (sS.alloc _) (fun _ => ?_)
    clear hK K
    refine held_to 12 (some 41) (.pointer (some ⟨g, j * 2, none⟩)) hQ (sS.alloc _) rfl rfl (by kernel_rfl) (by kernel_rfl) (by kernel_rfl) (by kernel_rfl) (fun w _ => by go_simp) ?_
    refine held_to 13 (some 42) (.agg #[.pointer (some ⟨N.bx, 0, none⟩), .pointer (some ⟨N.br, 0, none⟩)]) hQ (sS.alloc _) rfl rfl (by kernel_rfl) (by kernel_rfl) (by kernel_rfl) (by kernel_rfl) (fun w hS => by obtain ⟨h1, h2, h3, h4⟩ := hS; go_simp) ?_
    refine wpAnyH_ready (rs := [15]) (by kernel_rfl) (by simp) ?_
    refine AllReadyH.cons rfl (fun K hK => ?_) AllReadyH.nil
    go_simp
    refine hK.out _ _ (by first | exact sS.alloc _ | exact S15.out) (fun _ => ?_)
    clear hK K
    refine wpAnyH_done (by kernel_rfl) ?_ _
    clear hQ
    go_simp
    go_wp2_with (go_at_call 65; refine (does_dump B j ρ N u a b c _ NI.out NW.out (Nat.le_trans HB.out D1.out.size)).mono ?_; rintro e w2 ⟨rfl, ρ', N', q1, q2, q3, q4⟩)
    go_ret
    obtain ⟨i2, d2⟩ := (HI.out.below D1.out).step Hj.out q3 q1 q2 q4
    exact ⟨rfl, ρ', _, n, i2, (D1.out.mono HB.out).trans d2, by simp, by simp, Nat.le_succ _, (Stays.below D1.out).trans (Stays.aft q4)⟩
set_option maxHeartbeats 2000000 in
set_option maxRecDepth 100000 in
theorem step_tick (yb B n : Nat) (u a b c : Int) (ρ : Nat → Part) (ns : List NetD) (w : World) (hI : Inv w B ρ yb ns n) (hne : ns ≠ []) (hu0 : -9223372036854775808 ≤ u) (hu1 : u ≤ 9223372036854775807) :
    Calls Try.prog 36 #[.pointer (some ⟨yb, 0, none⟩), opV 11 u a b c] w fun e w' => e = .returned (.bool true) ∧ ∃ ρ' ns' n', Inv w' B ρ' yb ns' n' ∧ Below B w w' ∧ ns.length ≤ ns'.length ∧ ns'.length ≤ ns.length + 1 ∧ n' ≤ n + 1 ∧ Stays ρ ρ' w w' := by
  have b0 := allocO w 11 u a b c
  have I0 := hI.below b0
  obtain ⟨g, cap, c0, hlen, hat⟩ := I0.at hne
  have hpos : 0 < ns.length := List.length_pos_iff.2 hne
  obtain ⟨j, hj, PK⟩ := pick_any u ns.length hu0 hu1 hpos hlen
  obtain ⟨N, hN⟩ : ∃ N, ns[j]? = some N := ⟨ns[j], by simp [hj]⟩
  have hj' : (j : Int) < (ns.length : Int) := by omega
  have hj0 : (0 : Int) ≤ (j : Int) := by omega
  have hl0 : ((ns.length : Int) == 0) = false := by rw [beq_eq_false_iff_ne]; omega
  have hx := hat j N hN
  have sS : S5 yb g ns.length cap w.heap.size j N.bx N.br u (w.alloc (.cells #[.int .i64 11, .int .i64 u, .int .i64 a, .int .i64 b, .int .i64 c] 78)).drew := ⟨c0, (Whole.new w 78 #[.int .i64 11, .int .i64 u, .int .i64 a, .int .i64 b, .int .i64 c]).cell 1, hx.1, hx.2⟩
  have HP : Hid (∀ w : World, Calls Try.prog 62 #[.int .i64 u, .int .i64 ns.length] w fun e w' => e = .returned (.int .i64 j) ∧ w = w') := PK; clear PK
  have HI : Hid (Inv w B ρ yb ns n) := hI
  have NI0 := I0.nets j N hN
  have HNI0 : Hid (NetI (w.alloc (.cells #[.int .i64 11, .int .i64 u, .int .i64 a, .int .i64 b, .int .i64 c] 78)) B ρ j N) := NI0; clear NI0
  have B0 : Hid (Below w.heap.size w (w.alloc (.cells #[.int .i64 11, .int .i64 u, .int .i64 a, .int .i64 b, .int .i64 c] 78))) := b0; clear b0
  have HB : Hid (B ≤ w.heap.size) := hI.hB
  have Hj : Hid (ns[j]? = some N) := hN; clear hN
  clear hat I0 hx hI hu0 hu1
  unfold maxLen at hlen
  have D1 : Hid (Below w.heap.size w (((w.alloc (.cells #[.int .i64 11, .int .i64 u, .int .i64 a, .int .i64 b, .int .i64 c] 78)).alloc (.cells #[.pointer (some ⟨N.bx, 0, none⟩), .pointer (some ⟨N.br, 0, none⟩)] 112)).drew)) := (B0.out.alloc B0.out.size _).drew
  have NI : Hid (NetI (((w.alloc (.cells #[.int .i64 11, .int .i64 u, .int .i64 a, .int .i64 b, .int .i64 c] 78)).alloc (.cells #[.pointer (some ⟨N.bx, 0, none⟩), .pointer (some ⟨N.br, 0, none⟩)] 112)).drew) B ρ j N) := HNI0.out.below ((Below.refl _ _).alloc (Nat.le_refl _) _).drew
  have NW : Hid (∀ k, (((w.alloc (.cells #[.int .i64 11, .int .i64 u, .int .i64 a, .int .i64 b, .int .i64 c] 78)).alloc (.cells #[.pointer (some ⟨N.bx, 0, none⟩), .pointer (some ⟨N.br, 0, none⟩)] 112)).drew).heap.size ≤ k → ρ k = (0, 0)) := fun k hk => HI.out.new k (Nat.le_trans D1.out.size hk)
  have S15 : Hid (S5 yb g ns.length cap w.heap.size j N.bx N.br u (((w.alloc (.cells #[.int .i64 11, .int .i64 u, .int .i64 a, .int .i64 b, .int .i64 c] 78)).alloc (.cells #[.pointer (some ⟨N.bx, 0, none⟩), .pointer (some ⟨N.br, 0, none⟩)] 112)).drew)) := (show S5 yb g ns.length cap w.heap.size j N.bx N.br u (((w.alloc (.cells #[.int .i64 11, .int .i64 u, .int .i64 a, .int .i64 b, .int .i64 c] 78)).alloc (.cells #[.pointer (some ⟨N.bx, 0, none⟩), .pointer (some ⟨N.br, 0, none⟩)] 112)).drew) from sS.alloc _)
  go_enter Try.func36, Try.ntmps36
  go_wp2_with fail
  refine wp_region_held_drew (S := (S5 yb g ns.length cap w.heap.size j N.bx N.br u)) (by kernel_rfl) sS (fun _ => ?_)
  change wpAnyH _ _ _ _ _ _ _ _ (World.drew _)
  refine held_hq (fun _ _ x _ _ h => by cases x <;> exact h) ?_
  intro hQ
  refine held_to 0 (some 29) (.pointer (some ⟨yb, 0, none⟩)) hQ sS rfl rfl (by kernel_rfl) (by kernel_rfl) (by kernel_rfl) (by kernel_rfl) (fun w _ => by go_simp) ?_
  refine held_to 1 (some 30) (.pointer (some ⟨yb, 0, none⟩)) hQ sS rfl rfl (by kernel_rfl) (by kernel_rfl) (by kernel_rfl) (by kernel_rfl) (fun w _ => by go_simp) ?_
  refine held_to 2 (some 31) (.pointer (some ⟨yb, 0, none⟩)) hQ sS rfl rfl (by kernel_rfl) (by kernel_rfl) (by kernel_rfl) (by kernel_rfl) (fun w _ => by go_simp) ?_
  refine held_to 3 (some 32) (.slice (some ⟨g, 0, none⟩) ns.length cap) hQ sS rfl rfl (by kernel_rfl) (by kernel_rfl) (by kernel_rfl) (by kernel_rfl) (fun w hS => by obtain ⟨h1, h2, h3, h4⟩ := hS; go_simp) ?_
  refine held_to 4 (some 33) (.pointer (some ⟨w.heap.size, 1, none⟩)) hQ sS rfl rfl (by kernel_rfl) (by kernel_rfl) (by kernel_rfl) (by kernel_rfl) (fun w _ => by go_simp) ?_
  refine held_to 5 (some 34) (.int .i64 u) hQ sS rfl rfl (by kernel_rfl) (by kernel_rfl) (by kernel_rfl) (by kernel_rfl) (fun w hS => by obtain ⟨h1, h2, h3, h4⟩ := hS; go_simp) ?_
  refine held_to 6 (some 35) (.pointer (some ⟨yb, 0, none⟩)) hQ sS rfl rfl (by kernel_rfl) (by kernel_rfl) (by kernel_rfl) (by kernel_rfl) (fun w _ => by go_simp) ?_
  refine held_to 7 (some 36) (.pointer (some ⟨yb, 0, none⟩)) hQ sS rfl rfl (by kernel_rfl) (by kernel_rfl) (by kernel_rfl) (by kernel_rfl) (fun w _ => by go_simp) ?_
  refine held_to 8 (some 37) (.pointer (some ⟨yb, 0, none⟩)) hQ sS rfl rfl (by kernel_rfl) (by kernel_rfl) (by kernel_rfl) (by kernel_rfl) (fun w _ => by go_simp) ?_
  refine held_to 9 (some 38) (.slice (some ⟨g, 0, none⟩) ns.length cap) hQ sS rfl rfl (by kernel_rfl) (by kernel_rfl) (by kernel_rfl) (by kernel_rfl) (fun w hS => by obtain ⟨h1, h2, h3, h4⟩ := hS; go_simp) ?_
  refine held_to 10 (some 39) (.int .i64 ns.length) hQ sS rfl rfl (by kernel_rfl) (by kernel_rfl) (by kernel_rfl) (by kernel_rfl) (fun w _ => by go_simp) ?_
  refine wpAnyH_ready (rs := [11, 14]) (by kernel_rfl) (by simp) ?_
  refine AllReadyH.cons rfl (fun K hK => ?_) (AllReadyH.cons rfl (fun K hK => ?_) AllReadyH.nil)
  · go_simp
    go_wp2_with (go_at_call 62; refine (HP.out _).mono ?_; rintro e w' ⟨rfl, rfl⟩)
    refine hK.out _ _ sS (fun _ => ?_)
    clear hK K
    refine held_to 12 (some 41) (.pointer (some ⟨g, j * 2, none⟩)) hQ sS rfl rfl (by kernel_rfl) (by kernel_rfl) (by kernel_rfl) (by kernel_rfl) (fun w _ => by go_simp) ?_
    refine held_to 13 (some 42) (.agg #[.pointer (some ⟨N.bx, 0, none⟩), .pointer (some ⟨N.br, 0, none⟩)]) hQ sS rfl rfl (by kernel_rfl) (by kernel_rfl) (by kernel_rfl) (by kernel_rfl) (fun w hS => by obtain ⟨h1, h2, h3, h4⟩ := hS; go_simp) ?_
    refine wpAnyH_ready (rs := [14]) (by kernel_rfl) (by simp) ?_
    refine AllReadyH.cons rfl (fun K hK => ?_) AllReadyH.nil
    go_simp
    refine hK.out _ _ (sS.alloc _) (fun _ => ?_)
    clear hK K
    refine wpAnyH_ready (rs := [15]) (by kernel_rfl) (by simp) ?_
    refine AllReadyH.cons rfl (fun K hK => ?_) AllReadyH.nil
    go_simp
    refine hK.out _ _ (by first | exact sS.alloc _ | exact S15.out) (fun _ => ?_)
    clear hK K
    refine wpAnyH_done (by kernel_rfl) ?_ _
    clear hQ
    go_simp
    go_wp2_with (go_at_call 65; refine (does_tick B j ρ N u a b c _ NI.out NW.out (Nat.le_trans HB.out D1.out.size)).mono ?_; rintro e w2 ⟨rfl, ρ', N', q1, q2, q3, q4⟩)
    go_ret
    obtain ⟨i2, d2⟩ := (HI.out.below D1.out).step Hj.out q3 q1 q2 q4
    exact ⟨rfl, ρ', _, n, i2, (D1.out.mono HB.out).trans d2, by simp, by simp, Nat.le_succ _, (Stays.below D1.out).trans (Stays.aft q4)⟩
  · go_simp
    refine hK.out _ _ (sS.alloc _) (fun _ => ?_)
    clear hK K
    refine wpAnyH_ready (rs := [11]) (by kernel_rfl) (by simp) ?_
    refine AllReadyH.cons rfl (fun K hK => ?_) AllReadyH.nil
    go_simp
    go_wp2_with (go_at_call 62; refine (HP.out _).mono ?_; rintro e w' ⟨rfl, rfl⟩)
    refine hK.out _ _ (sS.alloc _) (fun _ => ?_)
    clear hK K
    refine held_to 12 (some 41) (.pointer (some ⟨g, j * 2, none⟩)) hQ (sS.alloc _) rfl rfl (by kernel_rfl) (by kernel_rfl) (by kernel_rfl) (by kernel_rfl) (fun w _ => by go_simp) ?_
    refine held_to 13 (some 42) (.agg #[.pointer (some ⟨N.bx, 0, none⟩), .pointer (some ⟨N.br, 0, none⟩)]) hQ (sS.alloc _) rfl rfl (by kernel_rfl) (by kernel_rfl) (by kernel_rfl) (by kernel_rfl) (fun w hS => by obtain ⟨h1, h2, h3, h4⟩ := hS; go_simp) ?_
    refine wpAnyH_ready (rs := [15]) (by kernel_rfl) (by simp) ?_
    refine AllReadyH.cons rfl (fun K hK => ?_) AllReadyH.nil
    go_simp
    refine hK.out _ _ (by first | exact sS.alloc _ | exact S15.out) (fun _ => ?_)
    clear hK K
    refine wpAnyH_done (by kernel_rfl) ?_ _
    clear hQ
    go_simp
    go_wp2_with (go_at_call 65; refine (does_tick B j ρ N u a b c _ NI.out NW.out (Nat.le_trans HB.out D1.out.size)).mono ?_; rintro e w2 ⟨rfl, ρ', N', q1, q2, q3, q4⟩)
    go_ret
    obtain ⟨i2, d2⟩ := (HI.out.below D1.out).step Hj.out q3 q1 q2 q4
    exact ⟨rfl, ρ', _, n, i2, (D1.out.mono HB.out).trans d2, by simp, by simp, Nat.le_succ _, (Stays.below D1.out).trans (Stays.aft q4)⟩
set_option maxHeartbeats 2000000 in
set_option maxRecDepth 100000 in
theorem step_bump (yb B n : Nat) (u a b c : Int) (ρ : Nat → Part) (ns : List NetD) (w : World) (hI : Inv w B ρ yb ns n) (hne : ns ≠ []) (hu0 : -9223372036854775808 ≤ u) (hu1 : u ≤ 9223372036854775807) :
    Calls Try.prog 36 #[.pointer (some ⟨yb, 0, none⟩), opV 12 u a b c] w fun e w' => e = .returned (.bool true) ∧ ∃ ρ' ns' n', Inv w' B ρ' yb ns' n' ∧ Below B w w' ∧ ns.length ≤ ns'.length ∧ ns'.length ≤ ns.length + 1 ∧ n' ≤ n + 1 ∧ Stays ρ ρ' w w' := by
  have b0 := allocO w 12 u a b c
  have I0 := hI.below b0
  obtain ⟨g, cap, c0, hlen, hat⟩ := I0.at hne
  have hpos : 0 < ns.length := List.length_pos_iff.2 hne
  obtain ⟨j, hj, PK⟩ := pick_any u ns.length hu0 hu1 hpos hlen
  obtain ⟨N, hN⟩ : ∃ N, ns[j]? = some N := ⟨ns[j], by simp [hj]⟩
  have hj' : (j : Int) < (ns.length : Int) := by omega
  have hj0 : (0 : Int) ≤ (j : Int) := by omega
  have hl0 : ((ns.length : Int) == 0) = false := by rw [beq_eq_false_iff_ne]; omega
  have hx := hat j N hN
  have sS : S5 yb g ns.length cap w.heap.size j N.bx N.br u (w.alloc (.cells #[.int .i64 12, .int .i64 u, .int .i64 a, .int .i64 b, .int .i64 c] 78)).drew := ⟨c0, (Whole.new w 78 #[.int .i64 12, .int .i64 u, .int .i64 a, .int .i64 b, .int .i64 c]).cell 1, hx.1, hx.2⟩
  have HP : Hid (∀ w : World, Calls Try.prog 62 #[.int .i64 u, .int .i64 ns.length] w fun e w' => e = .returned (.int .i64 j) ∧ w = w') := PK; clear PK
  have HI : Hid (Inv w B ρ yb ns n) := hI
  have NI0 := I0.nets j N hN
  have HNI0 : Hid (NetI (w.alloc (.cells #[.int .i64 12, .int .i64 u, .int .i64 a, .int .i64 b, .int .i64 c] 78)) B ρ j N) := NI0; clear NI0
  have B0 : Hid (Below w.heap.size w (w.alloc (.cells #[.int .i64 12, .int .i64 u, .int .i64 a, .int .i64 b, .int .i64 c] 78))) := b0; clear b0
  have HB : Hid (B ≤ w.heap.size) := hI.hB
  have Hj : Hid (ns[j]? = some N) := hN; clear hN
  clear hat I0 hx hI hu0 hu1
  unfold maxLen at hlen
  have D1 : Hid (Below w.heap.size w (((w.alloc (.cells #[.int .i64 12, .int .i64 u, .int .i64 a, .int .i64 b, .int .i64 c] 78)).alloc (.cells #[.pointer (some ⟨N.bx, 0, none⟩), .pointer (some ⟨N.br, 0, none⟩)] 112)).drew)) := (B0.out.alloc B0.out.size _).drew
  have NI : Hid (NetI (((w.alloc (.cells #[.int .i64 12, .int .i64 u, .int .i64 a, .int .i64 b, .int .i64 c] 78)).alloc (.cells #[.pointer (some ⟨N.bx, 0, none⟩), .pointer (some ⟨N.br, 0, none⟩)] 112)).drew) B ρ j N) := HNI0.out.below ((Below.refl _ _).alloc (Nat.le_refl _) _).drew
  have NW : Hid (∀ k, (((w.alloc (.cells #[.int .i64 12, .int .i64 u, .int .i64 a, .int .i64 b, .int .i64 c] 78)).alloc (.cells #[.pointer (some ⟨N.bx, 0, none⟩), .pointer (some ⟨N.br, 0, none⟩)] 112)).drew).heap.size ≤ k → ρ k = (0, 0)) := fun k hk => HI.out.new k (Nat.le_trans D1.out.size hk)
  have S15 : Hid (S5 yb g ns.length cap w.heap.size j N.bx N.br u (((w.alloc (.cells #[.int .i64 12, .int .i64 u, .int .i64 a, .int .i64 b, .int .i64 c] 78)).alloc (.cells #[.pointer (some ⟨N.bx, 0, none⟩), .pointer (some ⟨N.br, 0, none⟩)] 112)).drew)) := (show S5 yb g ns.length cap w.heap.size j N.bx N.br u (((w.alloc (.cells #[.int .i64 12, .int .i64 u, .int .i64 a, .int .i64 b, .int .i64 c] 78)).alloc (.cells #[.pointer (some ⟨N.bx, 0, none⟩), .pointer (some ⟨N.br, 0, none⟩)] 112)).drew) from sS.alloc _)
  go_enter Try.func36, Try.ntmps36
  go_wp2_with fail
  refine wp_region_held_drew (S := (S5 yb g ns.length cap w.heap.size j N.bx N.br u)) (by kernel_rfl) sS (fun _ => ?_)
  change wpAnyH _ _ _ _ _ _ _ _ (World.drew _)
  refine held_hq (fun _ _ x _ _ h => by cases x <;> exact h) ?_
  intro hQ
  refine held_to 0 (some 29) (.pointer (some ⟨yb, 0, none⟩)) hQ sS rfl rfl (by kernel_rfl) (by kernel_rfl) (by kernel_rfl) (by kernel_rfl) (fun w _ => by go_simp) ?_
  refine held_to 1 (some 30) (.pointer (some ⟨yb, 0, none⟩)) hQ sS rfl rfl (by kernel_rfl) (by kernel_rfl) (by kernel_rfl) (by kernel_rfl) (fun w _ => by go_simp) ?_
  refine held_to 2 (some 31) (.pointer (some ⟨yb, 0, none⟩)) hQ sS rfl rfl (by kernel_rfl) (by kernel_rfl) (by kernel_rfl) (by kernel_rfl) (fun w _ => by go_simp) ?_
  refine held_to 3 (some 32) (.slice (some ⟨g, 0, none⟩) ns.length cap) hQ sS rfl rfl (by kernel_rfl) (by kernel_rfl) (by kernel_rfl) (by kernel_rfl) (fun w hS => by obtain ⟨h1, h2, h3, h4⟩ := hS; go_simp) ?_
  refine held_to 4 (some 33) (.pointer (some ⟨w.heap.size, 1, none⟩)) hQ sS rfl rfl (by kernel_rfl) (by kernel_rfl) (by kernel_rfl) (by kernel_rfl) (fun w _ => by go_simp) ?_
  refine held_to 5 (some 34) (.int .i64 u) hQ sS rfl rfl (by kernel_rfl) (by kernel_rfl) (by kernel_rfl) (by kernel_rfl) (fun w hS => by obtain ⟨h1, h2, h3, h4⟩ := hS; go_simp) ?_
  refine held_to 6 (some 35) (.pointer (some ⟨yb, 0, none⟩)) hQ sS rfl rfl (by kernel_rfl) (by kernel_rfl) (by kernel_rfl) (by kernel_rfl) (fun w _ => by go_simp) ?_
  refine held_to 7 (some 36) (.pointer (some ⟨yb, 0, none⟩)) hQ sS rfl rfl (by kernel_rfl) (by kernel_rfl) (by kernel_rfl) (by kernel_rfl) (fun w _ => by go_simp) ?_
  refine held_to 8 (some 37) (.pointer (some ⟨yb, 0, none⟩)) hQ sS rfl rfl (by kernel_rfl) (by kernel_rfl) (by kernel_rfl) (by kernel_rfl) (fun w _ => by go_simp) ?_
  refine held_to 9 (some 38) (.slice (some ⟨g, 0, none⟩) ns.length cap) hQ sS rfl rfl (by kernel_rfl) (by kernel_rfl) (by kernel_rfl) (by kernel_rfl) (fun w hS => by obtain ⟨h1, h2, h3, h4⟩ := hS; go_simp) ?_
  refine held_to 10 (some 39) (.int .i64 ns.length) hQ sS rfl rfl (by kernel_rfl) (by kernel_rfl) (by kernel_rfl) (by kernel_rfl) (fun w _ => by go_simp) ?_
  refine wpAnyH_ready (rs := [11, 14]) (by kernel_rfl) (by simp) ?_
  refine AllReadyH.cons rfl (fun K hK => ?_) (AllReadyH.cons rfl (fun K hK => ?_) AllReadyH.nil)
  · go_simp
    go_wp2_with (go_at_call 62; refine (HP.out _).mono ?_; rintro e w' ⟨rfl, rfl⟩)
    refine hK.out _ _ sS (fun _ => ?_)
    clear hK K
    refine held_to 12 (some 41) (.pointer (some ⟨g, j * 2, none⟩)) hQ sS rfl rfl (by kernel_rfl) (by kernel_rfl) (by kernel_rfl) (by kernel_rfl) (fun w _ => by go_simp) ?_
    refine held_to 13 (some 42) (.agg #[.pointer (some ⟨N.bx, 0, none⟩), .pointer (some ⟨N.br, 0, none⟩)]) hQ sS rfl rfl (by kernel_rfl) (by kernel_rfl) (by kernel_rfl) (by kernel_rfl) (fun w hS => by obtain ⟨h1, h2, h3, h4⟩ := hS; go_simp) ?_
    refine wpAnyH_ready (rs := [14]) (by kernel_rfl) (by simp) ?_
    refine AllReadyH.cons rfl (fun K hK => ?_) AllReadyH.nil
    go_simp
    refine hK.out _ _ (sS.alloc _) (fun _ => ?_)
    clear hK K
    refine wpAnyH_ready (rs := [15]) (by kernel_rfl) (by simp) ?_
    refine AllReadyH.cons rfl (fun K hK => ?_) AllReadyH.nil
    go_simp
    refine hK.out _ _ (by first | exact sS.alloc _ | exact S15.out) (fun _ => ?_)
    clear hK K
    refine wpAnyH_done (by kernel_rfl) ?_ _
    clear hQ
    go_simp
    go_wp2_with (go_at_call 65; refine (does_bump B j ρ N u a b c _ NI.out NW.out (Nat.le_trans HB.out D1.out.size)).mono ?_; rintro e w2 ⟨rfl, ρ', N', q1, q2, q3, q4⟩)
    go_ret
    obtain ⟨i2, d2⟩ := (HI.out.below D1.out).step Hj.out q3 q1 q2 q4
    exact ⟨rfl, ρ', _, n, i2, (D1.out.mono HB.out).trans d2, by simp, by simp, Nat.le_succ _, (Stays.below D1.out).trans (Stays.aft q4)⟩
  · go_simp
    refine hK.out _ _ (sS.alloc _) (fun _ => ?_)
    clear hK K
    refine wpAnyH_ready (rs := [11]) (by kernel_rfl) (by simp) ?_
    refine AllReadyH.cons rfl (fun K hK => ?_) AllReadyH.nil
    go_simp
    go_wp2_with (go_at_call 62; refine (HP.out _).mono ?_; rintro e w' ⟨rfl, rfl⟩)
    refine hK.out _ _ (sS.alloc _) (fun _ => ?_)
    clear hK K
    refine held_to 12 (some 41) (.pointer (some ⟨g, j * 2, none⟩)) hQ (sS.alloc _) rfl rfl (by kernel_rfl) (by kernel_rfl) (by kernel_rfl) (by kernel_rfl) (fun w _ => by go_simp) ?_
    refine held_to 13 (some 42) (.agg #[.pointer (some ⟨N.bx, 0, none⟩), .pointer (some ⟨N.br, 0, none⟩)]) hQ (sS.alloc _) rfl rfl (by kernel_rfl) (by kernel_rfl) (by kernel_rfl) (by kernel_rfl) (fun w hS => by obtain ⟨h1, h2, h3, h4⟩ := hS; go_simp) ?_
    refine wpAnyH_ready (rs := [15]) (by kernel_rfl) (by simp) ?_
    refine AllReadyH.cons rfl (fun K hK => ?_) AllReadyH.nil
    go_simp
    refine hK.out _ _ (by first | exact sS.alloc _ | exact S15.out) (fun _ => ?_)
    clear hK K
    refine wpAnyH_done (by kernel_rfl) ?_ _
    clear hQ
    go_simp
    go_wp2_with (go_at_call 65; refine (does_bump B j ρ N u a b c _ NI.out NW.out (Nat.le_trans HB.out D1.out.size)).mono ?_; rintro e w2 ⟨rfl, ρ', N', q1, q2, q3, q4⟩)
    go_ret
    obtain ⟨i2, d2⟩ := (HI.out.below D1.out).step Hj.out q3 q1 q2 q4
    exact ⟨rfl, ρ', _, n, i2, (D1.out.mono HB.out).trans d2, by simp, by simp, Nat.le_succ _, (Stays.below D1.out).trans (Stays.aft q4)⟩
end Go.Proofs.Ytdoodnbobpijoaa

namespace Go.Proofs.Ytdoodnbobpijoaa
open Go.RowKit
attribute [local go_sem ↓] Go.wp_at_zero Go.wp_at_succ
set_option maxHeartbeats 2000000 in
set_option maxRecDepth 100000 in
theorem step_fail (yb B n : Nat) (u a b c : Int) (ρ : Nat → Part) (ns : List NetD) (w : World) (hI : Inv w B ρ yb ns n) (hne : ns ≠ []) (hu0 : -9223372036854775808 ≤ u) (hu1 : u ≤ 9223372036854775807) :
    Calls Try.prog 36 #[.pointer (some ⟨yb, 0, none⟩), opV 13 u a b c] w fun e w' => e = .returned (.bool true) ∧ ∃ ρ' ns' n', Inv w' B ρ' yb ns' n' ∧ Below B w w' ∧ ns.length ≤ ns'.length ∧ ns'.length ≤ ns.length + 1 ∧ n' ≤ n + 1 ∧ Stays ρ ρ' w w' := by
  have b0 := allocO w 13 u a b c
  have I0 := hI.below b0
  obtain ⟨g, cap, c0, hlen, hat⟩ := I0.at hne
  have hpos : 0 < ns.length := List.length_pos_iff.2 hne
  obtain ⟨j, hj, PK⟩ := pick_any u ns.length hu0 hu1 hpos hlen
  obtain ⟨N, hN⟩ : ∃ N, ns[j]? = some N := ⟨ns[j], by simp [hj]⟩
  have hj' : (j : Int) < (ns.length : Int) := by omega
  have hj0 : (0 : Int) ≤ (j : Int) := by omega
  have hl0 : ((ns.length : Int) == 0) = false := by rw [beq_eq_false_iff_ne]; omega
  have hx := hat j N hN
  have sS : S5 yb g ns.length cap w.heap.size j N.bx N.br u (w.alloc (.cells #[.int .i64 13, .int .i64 u, .int .i64 a, .int .i64 b, .int .i64 c] 78)).drew := ⟨c0, (Whole.new w 78 #[.int .i64 13, .int .i64 u, .int .i64 a, .int .i64 b, .int .i64 c]).cell 1, hx.1, hx.2⟩
  have HP : Hid (∀ w : World, Calls Try.prog 62 #[.int .i64 u, .int .i64 ns.length] w fun e w' => e = .returned (.int .i64 j) ∧ w = w') := PK; clear PK
  have HI : Hid (Inv w B ρ yb ns n) := hI
  have NI0 := I0.nets j N hN
  have HNI0 : Hid (NetI (w.alloc (.cells #[.int .i64 13, .int .i64 u, .int .i64 a, .int .i64 b, .int .i64 c] 78)) B ρ j N) := NI0; clear NI0
  have B0 : Hid (Below w.heap.size w (w.alloc (.cells #[.int .i64 13, .int .i64 u, .int .i64 a, .int .i64 b, .int .i64 c] 78))) := b0; clear b0
  have HB : Hid (B ≤ w.heap.size) := hI.hB
  have Hj : Hid (ns[j]? = some N) := hN; clear hN
  clear hat I0 hx hI hu0 hu1
  unfold maxLen at hlen
  have D1 : Hid (Below w.heap.size w (((w.alloc (.cells #[.int .i64 13, .int .i64 u, .int .i64 a, .int .i64 b, .int .i64 c] 78)).alloc (.cells #[.pointer (some ⟨N.bx, 0, none⟩), .pointer (some ⟨N.br, 0, none⟩)] 112)).drew)) := (B0.out.alloc B0.out.size _).drew
  have NI : Hid (NetI (((w.alloc (.cells #[.int .i64 13, .int .i64 u, .int .i64 a, .int .i64 b, .int .i64 c] 78)).alloc (.cells #[.pointer (some ⟨N.bx, 0, none⟩), .pointer (some ⟨N.br, 0, none⟩)] 112)).drew) B ρ j N) := HNI0.out.below ((Below.refl _ _).alloc (Nat.le_refl _) _).drew
  have NW : Hid (∀ k, (((w.alloc (.cells #[.int .i64 13, .int .i64 u, .int .i64 a, .int .i64 b, .int .i64 c] 78)).alloc (.cells #[.pointer (some ⟨N.bx, 0, none⟩), .pointer (some ⟨N.br, 0, none⟩)] 112)).drew).heap.size ≤ k → ρ k = (0, 0)) := fun k hk => HI.out.new k (Nat.le_trans D1.out.size hk)
  have S15 : Hid (S5 yb g ns.length cap w.heap.size j N.bx N.br u (((w.alloc (.cells #[.int .i64 13, .int .i64 u, .int .i64 a, .int .i64 b, .int .i64 c] 78)).alloc (.cells #[.pointer (some ⟨N.bx, 0, none⟩), .pointer (some ⟨N.br, 0, none⟩)] 112)).drew)) := (show S5 yb g ns.length cap w.heap.size j N.bx N.br u (((w.alloc (.cells #[.int .i64 13, .int .i64 u, .int .i64 a, .int .i64 b, .int .i64 c] 78)).alloc (.cells #[.pointer (some ⟨N.bx, 0, none⟩), .pointer (some ⟨N.br, 0, none⟩)] 112)).drew) from sS.alloc _)
  go_enter Try.func36, Try.ntmps36
  go_wp2_with fail
  refine wp_region_held_drew (S := (S5 yb g ns.length cap w.heap.size j N.bx N.br u)) (by kernel_rfl) sS (fun _ => ?_)
  change wpAnyH _ _ _ _ _ _ _ _ (World.drew _)
  refine held_hq (fun _ _ x _ _ h => by cases x <;> exact h) ?_
  intro hQ
  refine held_to 0 (some 29) (.pointer (some ⟨yb, 0, none⟩)) hQ sS rfl rfl (by kernel_rfl) (by kernel_rfl) (by kernel_rfl) (by kernel_rfl) (fun w _ => by go_simp) ?_
  refine held_to 1 (some 30) (.pointer (some ⟨yb, 0, none⟩)) hQ sS rfl rfl (by kernel_rfl) (by kernel_rfl) (by kernel_rfl) (by kernel_rfl) (fun w _ => by go_simp) ?_
  refine held_to 2 (some 31) (.pointer (some ⟨yb, 0, none⟩)) hQ sS rfl rfl (by kernel_rfl) (by kernel_rfl) (by kernel_rfl) (by kernel_rfl) (fun w _ => by go_simp) ?_
  refine held_to 3 (some 32) (.slice (some ⟨g, 0, none⟩) ns.length cap) hQ sS rfl rfl (by kernel_rfl) (by kernel_rfl) (by kernel_rfl) (by kernel_rfl) (fun w hS => by obtain ⟨h1, h2, h3, h4⟩ := hS; go_simp) ?_
  refine held_to 4 (some 33) (.pointer (some ⟨w.heap.size, 1, none⟩)) hQ sS rfl rfl (by kernel_rfl) (by kernel_rfl) (by kernel_rfl) (by kernel_rfl) (fun w _ => by go_simp) ?_
  refine held_to 5 (some 34) (.int .i64 u) hQ sS rfl rfl (by kernel_rfl) (by kernel_rfl) (by kernel_rfl) (by kernel_rfl) (fun w hS => by obtain ⟨h1, h2, h3, h4⟩ := hS; go_simp) ?_
  refine held_to 6 (some 35) (.pointer (some ⟨yb, 0, none⟩)) hQ sS rfl rfl (by kernel_rfl) (by kernel_rfl) (by kernel_rfl) (by kernel_rfl) (fun w _ => by go_simp) ?_
  refine held_to 7 (some 36) (.pointer (some ⟨yb, 0, none⟩)) hQ sS rfl rfl (by kernel_rfl) (by kernel_rfl) (by kernel_rfl) (by kernel_rfl) (fun w _ => by go_simp) ?_
  refine held_to 8 (some 37) (.pointer (some ⟨yb, 0, none⟩)) hQ sS rfl rfl (by kernel_rfl) (by kernel_rfl) (by kernel_rfl) (by kernel_rfl) (fun w _ => by go_simp) ?_
  refine held_to 9 (some 38) (.slice (some ⟨g, 0, none⟩) ns.length cap) hQ sS rfl rfl (by kernel_rfl) (by kernel_rfl) (by kernel_rfl) (by kernel_rfl) (fun w hS => by obtain ⟨h1, h2, h3, h4⟩ := hS; go_simp) ?_
  refine held_to 10 (some 39) (.int .i64 ns.length) hQ sS rfl rfl (by kernel_rfl) (by kernel_rfl) (by kernel_rfl) (by kernel_rfl) (fun w _ => by go_simp) ?_
  refine wpAnyH_ready (rs := [11, 14]) (by kernel_rfl) (by simp) ?_
  refine AllReadyH.cons rfl (fun K hK => ?_) (AllReadyH.cons rfl (fun K hK => ?_) AllReadyH.nil)
  · go_simp
    go_wp2_with (go_at_call 62; refine (HP.out _).mono ?_; rintro e w' ⟨rfl, rfl⟩)
    refine hK.out _ _ sS (fun _ => ?_)
    clear hK K
    refine held_to 12 (some 41) (.pointer (some ⟨g, j * 2, none⟩)) hQ sS rfl rfl (by kernel_rfl) (by kernel_rfl) (by kernel_rfl) (by kernel_rfl) (fun w _ => by go_simp) ?_
    refine held_to 13 (some 42) (.agg #[.pointer (some ⟨N.bx, 0, none⟩), .pointer (some ⟨N.br, 0, none⟩)]) hQ sS rfl rfl (by kernel_rfl) (by kernel_rfl) (by kernel_rfl) (by kernel_rfl) (fun w hS => by obtain ⟨h1, h2, h3, h4⟩ := hS; go_simp) ?_
    refine wpAnyH_ready (rs := [14]) (by kernel_rfl) (by simp) ?_
    refine AllReadyH.cons rfl (fun K hK => ?_) AllReadyH.nil
    go_simp
    refine hK.out _ _ (sS.alloc _) (fun _ => ?_)
    clear hK K
    refine wpAnyH_ready (rs := [15]) (by kernel_rfl) (by simp) ?_
    refine AllReadyH.cons rfl (fun K hK => ?_) AllReadyH.nil
    go_simp
    refine hK.out _ _ (by first | exact sS.alloc _ | exact S15.out) (fun _ => ?_)
    clear hK K
    refine wpAnyH_done (by kernel_rfl) ?_ _
    clear hQ
    go_simp
    go_wp2_with (go_at_call 65; refine (does_fail B j ρ N u a b c _ NI.out NW.out (Nat.le_trans HB.out D1.out.size)).mono ?_; rintro e w2 ⟨rfl, ρ', N', q1, q2, q3, q4⟩)
    go_ret
    obtain ⟨i2, d2⟩ := (HI.out.below D1.out).step Hj.out q3 q1 q2 q4
    exact ⟨rfl, ρ', _, n, i2, (D1.out.mono HB.out).trans d2, by simp, by simp, Nat.le_succ _, (Stays.below D1.out).trans (Stays.aft q4)⟩
  · go_simp
    refine hK.out _ _ (sS.alloc _) (fun _ => ?_)
    clear hK K
    refine wpAnyH_ready (rs := [11]) (by kernel_rfl) (by simp) ?_
    refine AllReadyH.cons rfl (fun K hK => ?_) AllReadyH.nil
    go_simp
    go_wp2_with (go_at_call 62; refine (HP.out _).mono ?_; rintro e w' ⟨rfl, rfl⟩)
    refine hK.out _ _ (sS.alloc _) (fun _ => ?_)
    clear hK K
    refine held_to 12 (some 41) (.pointer (some ⟨g, j * 2, none⟩)) hQ (sS.alloc _) rfl rfl (by kernel_rfl) (by kernel_rfl) (by kernel_rfl) (by kernel_rfl) (fun w _ => by go_simp) ?_
    refine held_to 13 (some 42) (.agg #[.pointer (some ⟨N.bx, 0, none⟩), .pointer (some ⟨N.br, 0, none⟩)]) hQ (sS.alloc _) rfl rfl (by kernel_rfl) (by kernel_rfl) (by kernel_rfl) (by kernel_rfl) (fun w hS => by obtain ⟨h1, h2, h3, h4⟩ := hS; go_simp) ?_
    refine wpAnyH_ready (rs := [15]) (by kernel_rfl) (by simp) ?_
    refine AllReadyH.cons rfl (fun K hK => ?_) AllReadyH.nil
    go_simp
    refine hK.out _ _ (by first | exact sS.alloc _ | exact S15.out) (fun _ => ?_)
    clear hK K
    refine wpAnyH_done (by kernel_rfl) ?_ _
    clear hQ
    go_simp
    go_wp2_with (go_at_call 65; refine (does_fail B j ρ N u a b c _ NI.out NW.out (Nat.le_trans HB.out D1.out.size)).mono ?_; rintro e w2 ⟨rfl, ρ', N', q1, q2, q3, q4⟩)
    go_ret
    obtain ⟨i2, d2⟩ := (HI.out.below D1.out).step Hj.out q3 q1 q2 q4
    exact ⟨rfl, ρ', _, n, i2, (D1.out.mono HB.out).trans d2, by simp, by simp, Nat.le_succ _, (Stays.below D1.out).trans (Stays.aft q4)⟩
set_option maxHeartbeats 2000000 in
set_option maxRecDepth 100000 in
theorem step_crash (yb B n : Nat) (u a b c : Int) (ρ : Nat → Part) (ns : List NetD) (w : World) (hI : Inv w B ρ yb ns n) (hne : ns ≠ []) (hu0 : -9223372036854775808 ≤ u) (hu1 : u ≤ 9223372036854775807) :
    Calls Try.prog 36 #[.pointer (some ⟨yb, 0, none⟩), opV 14 u a b c] w fun e w' => e = .returned (.bool true) ∧ ∃ ρ' ns' n', Inv w' B ρ' yb ns' n' ∧ Below B w w' ∧ ns.length ≤ ns'.length ∧ ns'.length ≤ ns.length + 1 ∧ n' ≤ n + 1 ∧ Stays ρ ρ' w w' := by
  have b0 := allocO w 14 u a b c
  have I0 := hI.below b0
  obtain ⟨g, cap, c0, hlen, hat⟩ := I0.at hne
  have hpos : 0 < ns.length := List.length_pos_iff.2 hne
  obtain ⟨j, hj, PK⟩ := pick_any u ns.length hu0 hu1 hpos hlen
  obtain ⟨N, hN⟩ : ∃ N, ns[j]? = some N := ⟨ns[j], by simp [hj]⟩
  have hj' : (j : Int) < (ns.length : Int) := by omega
  have hj0 : (0 : Int) ≤ (j : Int) := by omega
  have hl0 : ((ns.length : Int) == 0) = false := by rw [beq_eq_false_iff_ne]; omega
  have hx := hat j N hN
  have sS : S5 yb g ns.length cap w.heap.size j N.bx N.br u (w.alloc (.cells #[.int .i64 14, .int .i64 u, .int .i64 a, .int .i64 b, .int .i64 c] 78)).drew := ⟨c0, (Whole.new w 78 #[.int .i64 14, .int .i64 u, .int .i64 a, .int .i64 b, .int .i64 c]).cell 1, hx.1, hx.2⟩
  have HP : Hid (∀ w : World, Calls Try.prog 62 #[.int .i64 u, .int .i64 ns.length] w fun e w' => e = .returned (.int .i64 j) ∧ w = w') := PK; clear PK
  have HI : Hid (Inv w B ρ yb ns n) := hI
  have NI0 := I0.nets j N hN
  have HNI0 : Hid (NetI (w.alloc (.cells #[.int .i64 14, .int .i64 u, .int .i64 a, .int .i64 b, .int .i64 c] 78)) B ρ j N) := NI0; clear NI0
  have B0 : Hid (Below w.heap.size w (w.alloc (.cells #[.int .i64 14, .int .i64 u, .int .i64 a, .int .i64 b, .int .i64 c] 78))) := b0; clear b0
  have HB : Hid (B ≤ w.heap.size) := hI.hB
  have Hj : Hid (ns[j]? = some N) := hN; clear hN
  clear hat I0 hx hI hu0 hu1
  unfold maxLen at hlen
  have D1 : Hid (Below w.heap.size w (((w.alloc (.cells #[.int .i64 14, .int .i64 u, .int .i64 a, .int .i64 b, .int .i64 c] 78)).alloc (.cells #[.pointer (some ⟨N.bx, 0, none⟩), .pointer (some ⟨N.br, 0, none⟩)] 112)).drew)) := (B0.out.alloc B0.out.size _).drew
  have NI : Hid (NetI (((w.alloc (.cells #[.int .i64 14, .int .i64 u, .int .i64 a, .int .i64 b, .int .i64 c] 78)).alloc (.cells #[.pointer (some ⟨N.bx, 0, none⟩), .pointer (some ⟨N.br, 0, none⟩)] 112)).drew) B ρ j N) := HNI0.out.below ((Below.refl _ _).alloc (Nat.le_refl _) _).drew
  have NW : Hid (∀ k, (((w.alloc (.cells #[.int .i64 14, .int .i64 u, .int .i64 a, .int .i64 b, .int .i64 c] 78)).alloc (.cells #[.pointer (some ⟨N.bx, 0, none⟩), .pointer (some ⟨N.br, 0, none⟩)] 112)).drew).heap.size ≤ k → ρ k = (0, 0)) := fun k hk => HI.out.new k (Nat.le_trans D1.out.size hk)
  have S15 : Hid (S5 yb g ns.length cap w.heap.size j N.bx N.br u (((w.alloc (.cells #[.int .i64 14, .int .i64 u, .int .i64 a, .int .i64 b, .int .i64 c] 78)).alloc (.cells #[.pointer (some ⟨N.bx, 0, none⟩), .pointer (some ⟨N.br, 0, none⟩)] 112)).drew)) := (show S5 yb g ns.length cap w.heap.size j N.bx N.br u (((w.alloc (.cells #[.int .i64 14, .int .i64 u, .int .i64 a, .int .i64 b, .int .i64 c] 78)).alloc (.cells #[.pointer (some ⟨N.bx, 0, none⟩), .pointer (some ⟨N.br, 0, none⟩)] 112)).drew) from sS.alloc _)
  go_enter Try.func36, Try.ntmps36
  go_wp2_with fail
  refine wp_region_held_drew (S := (S5 yb g ns.length cap w.heap.size j N.bx N.br u)) (by kernel_rfl) sS (fun _ => ?_)
  change wpAnyH _ _ _ _ _ _ _ _ (World.drew _)
  refine held_hq (fun _ _ x _ _ h => by cases x <;> exact h) ?_
  intro hQ
  refine held_to 0 (some 29) (.pointer (some ⟨yb, 0, none⟩)) hQ sS rfl rfl (by kernel_rfl) (by kernel_rfl) (by kernel_rfl) (by kernel_rfl) (fun w _ => by go_simp) ?_
  refine held_to 1 (some 30) (.pointer (some ⟨yb, 0, none⟩)) hQ sS rfl rfl (by kernel_rfl) (by kernel_rfl) (by kernel_rfl) (by kernel_rfl) (fun w _ => by go_simp) ?_
  refine held_to 2 (some 31) (.pointer (some ⟨yb, 0, none⟩)) hQ sS rfl rfl (by kernel_rfl) (by kernel_rfl) (by kernel_rfl) (by kernel_rfl) (fun w _ => by go_simp) ?_
  refine held_to 3 (some 32) (.slice (some ⟨g, 0, none⟩) ns.length cap) hQ sS rfl rfl (by kernel_rfl) (by kernel_rfl) (by kernel_rfl) (by kernel_rfl) (fun w hS => by obtain ⟨h1, h2, h3, h4⟩ := hS; go_simp) ?_
  refine held_to 4 (some 33) (.pointer (some ⟨w.heap.size, 1, none⟩)) hQ sS rfl rfl (by kernel_rfl) (by kernel_rfl) (by kernel_rfl) (by kernel_rfl) (fun w _ => by go_simp) ?_
  refine held_to 5 (some 34) (.int .i64 u) hQ sS rfl rfl (by kernel_rfl) (by kernel_rfl) (by kernel_rfl) (by kernel_rfl) (fun w hS => by obtain ⟨h1, h2, h3, h4⟩ := hS; go_simp) ?_
  refine held_to 6 (some 35) (.pointer (some ⟨yb, 0, none⟩)) hQ sS rfl rfl (by kernel_rfl) (by kernel_rfl) (by kernel_rfl) (by kernel_rfl) (fun w _ => by go_simp) ?_
  refine held_to 7 (some 36) (.pointer (some ⟨yb, 0, none⟩)) hQ sS rfl rfl (by kernel_rfl) (by kernel_rfl) (by kernel_rfl) (by kernel_rfl) (fun w _ => by go_simp) ?_
  refine held_to 8 (some 37) (.pointer (some ⟨yb, 0, none⟩)) hQ sS rfl rfl (by kernel_rfl) (by kernel_rfl) (by kernel_rfl) (by kernel_rfl) (fun w _ => by go_simp) ?_
  refine held_to 9 (some 38) (.slice (some ⟨g, 0, none⟩) ns.length cap) hQ sS rfl rfl (by kernel_rfl) (by kernel_rfl) (by kernel_rfl) (by kernel_rfl) (fun w hS => by obtain ⟨h1, h2, h3, h4⟩ := hS; go_simp) ?_
  refine held_to 10 (some 39) (.int .i64 ns.length) hQ sS rfl rfl (by kernel_rfl) (by kernel_rfl) (by kernel_rfl) (by kernel_rfl) (fun w _ => by go_simp) ?_
  refine wpAnyH_ready (rs := [11, 14]) (by kernel_rfl) (by simp) ?_
  refine AllReadyH.cons rfl (fun K hK => ?_) (AllReadyH.cons rfl (fun K hK => ?_) AllReadyH.nil)
  · go_simp
    go_wp2_with (go_at_call 62; refine (HP.out _).mono ?_; rintro e w' ⟨rfl, rfl⟩)
    refine hK.out _ _ sS (fun _ => ?_)
    clear hK K
    refine held_to 12 (some 41) (.pointer (some ⟨g, j * 2, none⟩)) hQ sS rfl rfl (by kernel_rfl) (by kernel_rfl) (by kernel_rfl) (by kernel_rfl) (fun w _ => by go_simp) ?_
    refine held_to 13 (some 42) (.agg #[.pointer (some ⟨N.bx, 0, none⟩), .pointer (some ⟨N.br, 0, none⟩)]) hQ sS rfl rfl (by kernel_rfl) (by kernel_rfl) (by kernel_rfl) (by kernel_rfl) (fun w hS => by obtain ⟨h1, h2, h3, h4⟩ := hS; go_simp) ?_
    refine wpAnyH_ready (rs := [14]) (by kernel_rfl) (by simp) ?_
    refine AllReadyH.cons rfl (fun K hK => ?_) AllReadyH.nil
    go_simp
    refine hK.out _ _ (sS.alloc _) (fun _ => ?_)
    clear hK K
    refine wpAnyH_ready (rs := [15]) (by kernel_rfl) (by simp) ?_
    refine AllReadyH.cons rfl (fun K hK => ?_) AllReadyH.nil
    go_simp
    refine hK.out _ _ (by first | exact sS.alloc _ | exact S15.out) (fun _ => ?_)
    clear hK K
    refine wpAnyH_done (by kernel_rfl) ?_ _
    clear hQ
    go_simp
    go_wp2_with (go_at_call 65; refine (does_crash B j ρ N u a b c _ NI.out NW.out (Nat.le_trans HB.out D1.out.size)).mono ?_; rintro e w2 ⟨rfl, ρ', N', q1, q2, q3, q4⟩)
    go_ret
    obtain ⟨i2, d2⟩ := (HI.out.below D1.out).step Hj.out q3 q1 q2 q4
    exact ⟨rfl, ρ', _, n, i2, (D1.out.mono HB.out).trans d2, by simp, by simp, Nat.le_succ _, (Stays.below D1.out).trans (Stays.aft q4)⟩
  · go_simp
    refine hK.out _ _ (sS.alloc _) (fun _ => ?_)
    clear hK K
    refine wpAnyH_ready (rs := [11]) (by kernel_rfl) (by simp) ?_
    refine AllReadyH.cons rfl (fun K hK => ?_) AllReadyH.nil
    go_simp
    go_wp2_with (go_at_call 62; refine (HP.out _).mono ?_; rintro e w' ⟨rfl, rfl⟩)
    refine hK.out _ _ (sS.alloc _) (fun _ => ?_)
    clear hK K
    refine held_to 12 (some 41) (.pointer (some ⟨g, j * 2, none⟩)) hQ (sS.alloc _) rfl rfl (by kernel_rfl) (by kernel_rfl) (by kernel_rfl) (by kernel_rfl) (fun w _ => by go_simp) ?_
    refine held_to 13 (some 42) (.agg #[.pointer (some ⟨N.bx, 0, none⟩), .pointer (some ⟨N.br, 0, none⟩)]) hQ (sS.alloc _) rfl rfl (by kernel_rfl) (by kernel_rfl) (by kernel_rfl) (by kernel_rfl) (fun w hS => by obtain ⟨h1, h2, h3, h4⟩ := hS; go_simp) ?_
    refine wpAnyH_ready (rs := [15]) (by kernel_rfl) (by simp) ?_
    refine AllReadyH.cons rfl (fun K hK => ?_) AllReadyH.nil
    go_simp
    refine hK.out _ _ (by first | exact sS.alloc _ | exact S15.out) (fun _ => ?_)
    clear hK K
    refine wpAnyH_done (by kernel_rfl) ?_ _
    clear hQ
    go_simp
    go_wp2_with (go_at_call 65; refine (does_crash B j ρ N u a b c _ NI.out NW.out (Nat.le_trans HB.out D1.out.size)).mono ?_; rintro e w2 ⟨rfl, ρ', N', q1, q2, q3, q4⟩)
    go_ret
    obtain ⟨i2, d2⟩ := (HI.out.below D1.out).step Hj.out q3 q1 q2 q4
    exact ⟨rfl, ρ', _, n, i2, (D1.out.mono HB.out).trans d2, by simp, by simp, Nat.le_succ _, (Stays.below D1.out).trans (Stays.aft q4)⟩
set_option maxHeartbeats 2000000 in
set_option maxRecDepth 100000 in
theorem step_restart (yb B n : Nat) (u a b c : Int) (ρ : Nat → Part) (ns : List NetD) (w : World) (hI : Inv w B ρ yb ns n) (hne : ns ≠ []) (hu0 : -9223372036854775808 ≤ u) (hu1 : u ≤ 9223372036854775807) :
    Calls Try.prog 36 #[.pointer (some ⟨yb, 0, none⟩), opV 15 u a b c] w fun e w' => e = .returned (.bool true) ∧ ∃ ρ' ns' n', Inv w' B ρ' yb ns' n' ∧ Below B w w' ∧ ns.length ≤ ns'.length ∧ ns'.length ≤ ns.length + 1 ∧ n' ≤ n + 1 ∧ Stays ρ ρ' w w' := by
  have b0 := allocO w 15 u a b c
  have I0 := hI.below b0
  obtain ⟨g, cap, c0, hlen, hat⟩ := I0.at hne
  have hpos : 0 < ns.length := List.length_pos_iff.2 hne
  obtain ⟨j, hj, PK⟩ := pick_any u ns.length hu0 hu1 hpos hlen
  obtain ⟨N, hN⟩ : ∃ N, ns[j]? = some N := ⟨ns[j], by simp [hj]⟩
  have hj' : (j : Int) < (ns.length : Int) := by omega
  have hj0 : (0 : Int) ≤ (j : Int) := by omega
  have hl0 : ((ns.length : Int) == 0) = false := by rw [beq_eq_false_iff_ne]; omega
  have hx := hat j N hN
  have sS : S5 yb g ns.length cap w.heap.size j N.bx N.br u (w.alloc (.cells #[.int .i64 15, .int .i64 u, .int .i64 a, .int .i64 b, .int .i64 c] 78)).drew := ⟨c0, (Whole.new w 78 #[.int .i64 15, .int .i64 u, .int .i64 a, .int .i64 b, .int .i64 c]).cell 1, hx.1, hx.2⟩
  have HP : Hid (∀ w : World, Calls Try.prog 62 #[.int .i64 u, .int .i64 ns.length] w fun e w' => e = .returned (.int .i64 j) ∧ w = w') := PK; clear PK
  have HI : Hid (Inv w B ρ yb ns n) := hI
  have NI0 := I0.nets j N hN
  have HNI0 : Hid (NetI (w.alloc (.cells #[.int .i64 15, .int .i64 u, .int .i64 a, .int .i64 b, .int .i64 c] 78)) B ρ j N) := NI0; clear NI0
  have B0 : Hid (Below w.heap.size w (w.alloc (.cells #[.int .i64 15, .int .i64 u, .int .i64 a, .int .i64 b, .int .i64 c] 78))) := b0; clear b0
  have HB : Hid (B ≤ w.heap.size) := hI.hB
  have Hj : Hid (ns[j]? = some N) := hN; clear hN
  clear hat I0 hx hI hu0 hu1
  unfold maxLen at hlen
  have D1 : Hid (Below w.heap.size w (((w.alloc (.cells #[.int .i64 15, .int .i64 u, .int .i64 a, .int .i64 b, .int .i64 c] 78)).alloc (.cells #[.pointer (some ⟨N.bx, 0, none⟩), .pointer (some ⟨N.br, 0, none⟩)] 112)).drew)) := (B0.out.alloc B0.out.size _).drew
  have NI : Hid (NetI (((w.alloc (.cells #[.int .i64 15, .int .i64 u, .int .i64 a, .int .i64 b, .int .i64 c] 78)).alloc (.cells #[.pointer (some ⟨N.bx, 0, none⟩), .pointer (some ⟨N.br, 0, none⟩)] 112)).drew) B ρ j N) := HNI0.out.below ((Below.refl _ _).alloc (Nat.le_refl _) _).drew
  have NW : Hid (∀ k, (((w.alloc (.cells #[.int .i64 15, .int .i64 u, .int .i64 a, .int .i64 b, .int .i64 c] 78)).alloc (.cells #[.pointer (some ⟨N.bx, 0, none⟩), .pointer (some ⟨N.br, 0, none⟩)] 112)).drew).heap.size ≤ k → ρ k = (0, 0)) := fun k hk => HI.out.new k (Nat.le_trans D1.out.size hk)
  have S15 : Hid (S5 yb g ns.length cap w.heap.size j N.bx N.br u (((w.alloc (.cells #[.int .i64 15, .int .i64 u, .int .i64 a, .int .i64 b, .int .i64 c] 78)).alloc (.cells #[.pointer (some ⟨N.bx, 0, none⟩), .pointer (some ⟨N.br, 0, none⟩)] 112)).drew)) := (show S5 yb g ns.length cap w.heap.size j N.bx N.br u (((w.alloc (.cells #[.int .i64 15, .int .i64 u, .int .i64 a, .int .i64 b, .int .i64 c] 78)).alloc (.cells #[.pointer (some ⟨N.bx, 0, none⟩), .pointer (some ⟨N.br, 0, none⟩)] 112)).drew) from sS.alloc _)
  go_enter Try.func36, Try.ntmps36
  go_wp2_with fail
  refine wp_region_held_drew (S := (S5 yb g ns.length cap w.heap.size j N.bx N.br u)) (by kernel_rfl) sS (fun _ => ?_)
  change wpAnyH _ _ _ _ _ _ _ _ (World.drew _)
  refine held_hq (fun _ _ x _ _ h => by cases x <;> exact h) ?_
  intro hQ
  refine held_to 0 (some 29) (.pointer (some ⟨yb, 0, none⟩)) hQ sS rfl rfl (by kernel_rfl) (by kernel_rfl) (by kernel_rfl) (by kernel_rfl) (fun w _ => by go_simp) ?_
  refine held_to 1 (some 30) (.pointer (some ⟨yb, 0, none⟩)) hQ sS rfl rfl (by kernel_rfl) (by kernel_rfl) (by kernel_rfl) (by kernel_rfl) (fun w _ => by go_simp) ?_
  refine held_to 2 (some 31) (.pointer (some ⟨yb, 0, none⟩)) hQ sS rfl rfl (by kernel_rfl) (by kernel_rfl) (by kernel_rfl) (by kernel_rfl) (fun w _ => by go_simp) ?_
  refine held_to 3 (some 32) (.slice (some ⟨g, 0, none⟩) ns.length cap) hQ sS rfl rfl (by kernel_rfl) (by kernel_rfl) (by kernel_rfl) (by kernel_rfl) (fun w hS => by obtain ⟨h1, h2, h3, h4⟩ := hS; go_simp) ?_
  refine held_to 4 (some 33) (.pointer (some ⟨w.heap.size, 1, none⟩)) hQ sS rfl rfl (by kernel_rfl) (by kernel_rfl) (by kernel_rfl) (by kernel_rfl) (fun w _ => by go_simp) ?_
  refine held_to 5 (some 34) (.int .i64 u) hQ sS rfl rfl (by kernel_rfl) (by kernel_rfl) (by kernel_rfl) (by kernel_rfl) (fun w hS => by obtain ⟨h1, h2, h3, h4⟩ := hS; go_simp) ?_
  refine held_to 6 (some 35) (.pointer (some ⟨yb, 0, none⟩)) hQ sS rfl rfl (by kernel_rfl) (by kernel_rfl) (by kernel_rfl) (by kernel_rfl) (fun w _ => by go_simp) ?_
  refine held_to 7 (some 36) (.pointer (some ⟨yb, 0, none⟩)) hQ sS rfl rfl (by kernel_rfl) (by kernel_rfl) (by kernel_rfl) (by kernel_rfl) (fun w _ => by go_simp) ?_
  refine held_to 8 (some 37) (.pointer (some ⟨yb, 0, none⟩)) hQ sS rfl rfl (by kernel_rfl) (by kernel_rfl) (by kernel_rfl) (by kernel_rfl) (fun w _ => by go_simp) ?_
  refine held_to 9 (some 38) (.slice (some ⟨g, 0, none⟩) ns.length cap) hQ sS rfl rfl (by kernel_rfl) (by kernel_rfl) (by kernel_rfl) (by kernel_rfl) (fun w hS => by obtain ⟨h1, h2, h3, h4⟩ := hS; go_simp) ?_
  refine held_to 10 (some 39) (.int .i64 ns.length) hQ sS rfl rfl (by kernel_rfl) (by kernel_rfl) (by kernel_rfl) (by kernel_rfl) (fun w _ => by go_simp) ?_
  refine wpAnyH_ready (rs := [11, 14]) (by kernel_rfl) (by simp) ?_
  refine AllReadyH.cons rfl (fun K hK => ?_) (AllReadyH.cons rfl (fun K hK => ?_) AllReadyH.nil)
  · go_simp
    go_wp2_with (go_at_call 62; refine (HP.out _).mono ?_; rintro e w' ⟨rfl, rfl⟩)
    refine hK.out _ _ sS (fun _ => ?_)
    clear hK K
    refine held_to 12 (some 41) (.pointer (some ⟨g, j * 2, none⟩)) hQ sS rfl rfl (by kernel_rfl) (by kernel_rfl) (by kernel_rfl) (by kernel_rfl) (fun w _ => by go_simp) ?_
    refine held_to 13 (some 42) (.agg #[.pointer (some ⟨N.bx, 0, none⟩), .pointer (some ⟨N.br, 0, none⟩)]) hQ sS rfl rfl (by kernel_rfl) (by kernel_rfl) (by kernel_rfl) (by kernel_rfl) (fun w hS => by obtain ⟨h1, h2, h3, h4⟩ := hS; go_simp) ?_
    refine wpAnyH_ready (rs := [14]) (by kernel_rfl) (by simp) ?_
    refine AllReadyH.cons rfl (fun K hK => ?_) AllReadyH.nil
    go_simp
    refine hK.out _ _ (sS.alloc _) (fun _ => ?_)
    clear hK K
    refine wpAnyH_ready (rs := [15]) (by kernel_rfl) (by simp) ?_
    refine AllReadyH.cons rfl (fun K hK => ?_) AllReadyH.nil
    go_simp
    refine hK.out _ _ (by first | exact sS.alloc _ | exact S15.out) (fun _ => ?_)
    clear hK K
    refine wpAnyH_done (by kernel_rfl) ?_ _
    clear hQ
    go_simp
    go_wp2_with (go_at_call 65; refine (does_restart B j ρ N u a b c _ NI.out NW.out (Nat.le_trans HB.out D1.out.size)).mono ?_; rintro e w2 ⟨rfl, ρ', N', q1, q2, q3, q4⟩)
    go_ret
    obtain ⟨i2, d2⟩ := (HI.out.below D1.out).step Hj.out q3 q1 q2 q4
    exact ⟨rfl, ρ', _, n, i2, (D1.out.mono HB.out).trans d2, by simp, by simp, Nat.le_succ _, (Stays.below D1.out).trans (Stays.aft q4)⟩
  · go_simp
    refine hK.out _ _ (sS.alloc _) (fun _ => ?_)
    clear hK K
    refine wpAnyH_ready (rs := [11]) (by kernel_rfl) (by simp) ?_
    refine AllReadyH.cons rfl (fun K hK => ?_) AllReadyH.nil
    go_simp
    go_wp2_with (go_at_call 62; refine (HP.out _).mono ?_; rintro e w' ⟨rfl, rfl⟩)
    refine hK.out _ _ (sS.alloc _) (fun _ => ?_)
    clear hK K
    refine held_to 12 (some 41) (.pointer (some ⟨g, j * 2, none⟩)) hQ (sS.alloc _) rfl rfl (by kernel_rfl) (by kernel_rfl) (by kernel_rfl) (by kernel_rfl) (fun w _ => by go_simp) ?_
    refine held_to 13 (some 42) (.agg #[.pointer (some ⟨N.bx, 0, none⟩), .pointer (some ⟨N.br, 0, none⟩)]) hQ (sS.alloc _) rfl rfl (by kernel_rfl) (by kernel_rfl) (by kernel_rfl) (by kernel_rfl) (fun w hS => by obtain ⟨h1, h2, h3, h4⟩ := hS; go_simp) ?_
    refine wpAnyH_ready (rs := [15]) (by kernel_rfl) (by simp) ?_
    refine AllReadyH.cons rfl (fun K hK => ?_) AllReadyH.nil
    go_simp
    refine hK.out _ _ (by first | exact sS.alloc _ | exact S15.out) (fun _ => ?_)
    clear hK K
    refine wpAnyH_done (by kernel_rfl) ?_ _
    clear hQ
    go_simp
    go_wp2_with (go_at_call 65; refine (does_restart B j ρ N u a b c _ NI.out NW.out (Nat.le_trans HB.out D1.out.size)).mono ?_; rintro e w2 ⟨rfl, ρ', N', q1, q2, q3, q4⟩)
    go_ret
    obtain ⟨i2, d2⟩ := (HI.out.below D1.out).step Hj.out q3 q1 q2 q4
    exact ⟨rfl, ρ', _, n, i2, (D1.out.mono HB.out).trans d2, by simp, by simp, Nat.le_succ _, (Stays.below D1.out).trans (Stays.aft q4)⟩
end Go.Proofs.Ytdoodnbobpijoaa

namespace Go.Proofs.Ytdoodnbobpijoaa
open Go.RowKit

/-! ### Any step -/
theorem step_all (yb B n : Nat) (k u a b c : Int) (ρ : Nat → Part) (ns : List NetD) (w : World) (hI : Inv w B ρ yb ns n) (hk : 1 ≤ k ∧ k ≤ 15) (hu0 : -9223372036854775808 ≤ u) (hu1 : u ≤ 9223372036854775807) (hL : ns.length + 1 ≤ maxLen) (hY : (ns.length + 1) * 16 ≤ 140737488355328) (hn24 : (n + 1) * 24 ≤ 140737488355328) :
    Calls Try.prog 36 #[.pointer (some ⟨yb, 0, none⟩), opV k u a b c] w fun e w' => e = .returned (.bool true) ∧ ∃ ρ' ns' n', Inv w' B ρ' yb ns' n' ∧ Below B w w' ∧ ns.length ≤ ns'.length ∧ ns'.length ≤ ns.length + 1 ∧ n' ≤ n + 1 ∧ Stays ρ ρ' w w' := by
  by_cases h1 : k = 1
  · subst h1; exact step_new yb B n a u b c ρ ns w hI hL hY
  · by_cases hne : ns = []
    · subst hne
      refine (step_empty yb B n k u a b c ρ w hI (by omega)).mono fun e w' ⟨h2, h3⟩ => ?_
      exact ⟨h2, ρ, [], n, hI.below h3, h3.mono hI.hB, Nat.le_refl _, Nat.le_succ _, Nat.le_succ _, Stays.below h3⟩
    · have : k = 2 ∨ k = 3 ∨ k = 4 ∨ k = 5 ∨ k = 6 ∨ k = 7 ∨ k = 8 ∨ k = 9 ∨ k = 10 ∨ k = 11 ∨ k = 12 ∨ k = 13 ∨ k = 14 ∨ k = 15 := by omega
      rcases this with rfl | rfl | rfl | rfl | rfl | rfl | rfl | rfl | rfl | rfl | rfl | rfl | rfl | rfl
      · exact step_link yb B n u a b c ρ ns w hI hne hu0 hu1
      · exact step_dump yb B n u a b c ρ ns w hI hne hu0 hu1
      · exact step_wait yb B n u a b c ρ ns w hI hne hu0 hu1
      · exact step_deliver yb B n u a b c ρ ns w hI hne hu0 hu1
      · exact step_route yb B n u a b c ρ ns w hI hne hu0 hu1
      · exact step_best yb B n u a b c ρ ns w hI hne hu0 hu1
      · exact step_trace yb B n u a b c ρ ns w hI hne hu0 hu1 hn24
      · exact step_lose yb B n u a b c ρ ns w hI hne hu0 hu1
      · exact step_again yb B n u a b c ρ ns w hI hne hu0 hu1
      · exact step_tick yb B n u a b c ρ ns w hI hne hu0 hu1
      · exact step_bump yb B n u a b c ρ ns w hI hne hu0 hu1
      · exact step_fail yb B n u a b c ρ ns w hI hne hu0 hu1
      · exact step_crash yb B n u a b c ρ ns w hI hne hu0 hu1
      · exact step_restart yb B n u a b c ρ ns w hI hne hu0 hu1
/-! ### The kinds of a law -/
def inB (ks : List Int) (κ : Int) : Nat → Bool
  | 0 => false
  | m + 1 => inB ks κ m || (κ == ks.getD m 0)
theorem inB_mem (ks : List Int) (κ : Int) : ∀ m, m ≤ ks.length → inB ks κ m = true → κ ∈ ks
  | 0, _, h => by simp [inB] at h
  | m + 1, hm, h => by
    simp only [inB, Bool.or_eq_true, beq_iff_eq] at h
    rcases h with h | h
    · exact inB_mem ks κ m (by omega) h
    · rw [h, List.getD_eq_getElem?_getD, List.getElem?_eq_getElem (by omega)]; exact List.getElem_mem _
def kindA (ks : List Int) : Array Value := (ks.map I).toArray
theorem kindA_at (ks : List Int) (m : Nat) (h : m < ks.length) : (kindA ks)[m]? = some (I (ks.getD m 0)) := by
  unfold kindA
  rw [List.getD_eq_getElem?_getD, List.getElem?_eq_getElem h]
  simp [h]
/-- All but the draws is as it was. -/
structure Sim (w w' : World) : Prop where
  heap : w'.heap = w.heap
  os : w'.os = w.os
  tape : w'.tape = w.tape
  output : w'.output = w.output
theorem Sim.below {w w' : World} (h : Sim w w') (B : Nat) : Below B w w' := ⟨h.os, h.tape, h.output, by rw [h.heap]; exact Nat.le_refl _, fun k _ => by rw [h.heap]⟩
/-- The script, as it lies in memory. -/
structure Scr (w : World) (sb so len : Nat) (kf uf af bf cf : Nat → Int) : Prop where
  k : ∀ i, i < len → w.cell? ⟨sb, so + i * 5, none⟩ = some (.int .i64 (kf i))
  u : ∀ i, i < len → w.cell? ⟨sb, so + i * 5 + 1, none⟩ = some (.int .i64 (uf i))
  a : ∀ i, i < len → w.cell? ⟨sb, so + i * 5 + 2, none⟩ = some (.int .i64 (af i))
  b : ∀ i, i < len → w.cell? ⟨sb, so + i * 5 + 3, none⟩ = some (.int .i64 (bf i))
  c : ∀ i, i < len → w.cell? ⟨sb, so + i * 5 + 4, none⟩ = some (.int .i64 (cf i))
  ok : ∀ i, i < len → -9223372036854775808 ≤ uf i ∧ uf i ≤ 9223372036854775807
theorem Scr.of {w w' : World} {sb so len : Nat} {kf uf af bf cf : Nat → Int} (h : Scr w sb so len kf uf af bf cf) (hb : w'.heap[sb]? = w.heap[sb]?) : Scr w' sb so len kf uf af bf cf := by
  have hc : ∀ o, w'.cell? ⟨sb, o, none⟩ = w.cell? ⟨sb, o, none⟩ := fun o => World.cell?_of_block (w := w) hb
  exact ⟨fun i hi => by rw [hc]; exact h.k i hi, fun i hi => by rw [hc]; exact h.u i hi, fun i hi => by rw [hc]; exact h.a i hi, fun i hi => by rw [hc]; exact h.b i hi, fun i hi => by rw [hc]; exact h.c i hi, h.ok⟩
/-- All that the play keeps from step to step. -/
structure Pl (w0 w : World) (B kb yb sb so len : Nat) (ks : List Int) (kf uf af bf cf : Nat → Int) (ρ : Nat → Part) (ns : List NetD) (n : Nat) : Prop where
  inv : Inv w B ρ yb ns n
  low : Below B w0 w
  kinds : Whole w kb 3 (kindA ks)
  pk : ρ kb = (0, 0)
  scr : Scr w sb so len kf uf af bf cf
theorem Pl.step {w0 w w' : World} {B kb yb sb so len n n' : Nat} {ks : List Int} {kf uf af bf cf : Nat → Int} {ρ ρ' : Nat → Part} {ns ns' : List NetD} (h : Pl w0 w B kb yb sb so len ks kf uf af bf cf ρ ns n) (hi : Inv w' B ρ' yb ns' n') (hb : Below B w w') (hs : Stays ρ ρ' w w') (hsb : sb < B) : Pl w0 w' B kb yb sb so len ks kf uf af bf cf ρ' ns' n' :=
  ⟨hi, h.low.trans hb, h.kinds.of (hs.2.1 kb h.kinds.lt h.pk), by rw [hs.1 kb h.kinds.lt]; exact h.pk, h.scr.of (hb.block sb hsb)⟩
theorem Pl.sim {w0 w w' : World} {B kb yb sb so len n : Nat} {ks : List Int} {kf uf af bf cf : Nat → Int} {ρ : Nat → Part} {ns : List NetD} (h : Pl w0 w B kb yb sb so len ks kf uf af bf cf ρ ns n) (hs : Sim w w') : Pl w0 w' B kb yb sb so len ks kf uf af bf cf ρ ns n :=
  ⟨h.inv.of (fun k _ => by rw [hs.heap]) (by rw [hs.heap]; exact Nat.le_refl _), h.low.trans (hs.below B), h.kinds.of (by rw [hs.heap]), h.pk, h.scr.of (by rw [hs.heap])⟩
theorem Inv.start (w : World) (B : Nat) (hB : B ≤ w.heap.size) : Inv (w.alloc (.cells #[.slice none 0 0, .slice none 0 0] 74)) B (fun k => if k = w.heap.size then (0, 1) else (0, 0)) w.heap.size [] 0 :=
  ⟨fun i N h => by simp at h, fun k hk => by simp at hk; rw [if_neg (by omega)], fun k hk => by rw [if_neg (by omega)], by simp; omega, ⟨.slice none 0 0, .slice none 0 0, Whole.new w 74 _, World.ownsRow_nil _ _ _ _, fun g hg => by simp [Value.ownBlock] at hg, Bk.nil _ _ _⟩, by simp, hB⟩
end Go.Proofs.Ytdoodnbobpijoaa

namespace Go.Proofs.Ytdoodnbobpijoaa
open Go.RowKit
set_option maxHeartbeats 4000000 in
theorem plays_some (B kb sb so len cap : Nat) (ks : List Int) (kf uf af bf cf : Nat → Int) (w : World) (hks : ∀ κ, κ ∈ ks → 1 ≤ κ ∧ κ ≤ 15) (hkl : ks.length ≤ 100) (hB : B ≤ w.heap.size) (hsb : sb < B) (hS : Scr w sb so len kf uf af bf cf) (hK : Whole w kb 3 (kindA ks)) (hlen : len ≤ maxLen) (hby : (len + 5) * 24 ≤ 140737488355328) :
    Calls Try.prog 13 #[.slice (some ⟨sb, so, none⟩) len cap, .slice (some ⟨kb, 0, none⟩) ks.length ks.length] w fun e w' => e = .returned (.bool true) ∧ Below B w w' := by
  have lk := hK.lt
  have i0 := Inv.start w B hB
  have b0 : Below w.heap.size w (w.alloc (.cells #[.slice none 0 0, .slice none 0 0] 74)) := (Below.refl _ _).alloc (Nat.le_refl _) _
  have b1 : Below (w.heap.size + 1) (w.alloc (.cells #[.slice none 0 0, .slice none 0 0] 74)) ((w.alloc (.cells #[.slice none 0 0, .slice none 0 0] 74)).alloc (.cells headA 78)) := (Below.refl _ _).alloc (by simp) _
  have n1 := Whole.new (w.alloc (.cells #[.slice none 0 0, .slice none 0 0] 74)) 78 headA
  simp only [World.size_alloc] at n1
  have N1 : Hid (Whole ((w.alloc (.cells #[.slice none 0 0, .slice none 0 0] 74)).alloc (.cells headA 78)) (w.heap.size + 1) 78 headA) := n1
  have hc1 : ∀ o, ((w.alloc (.cells #[.slice none 0 0, .slice none 0 0] 74)).alloc (.cells headA 78)).cell? ⟨w.heap.size + 1, o, none⟩ = (#[.int .i64 1, .int .i64 0, .int .i64 3, .int .i64 0, .int .i64 0, .int .i64 2, .int .i64 0, .int .i64 0, .int .i64 1, .int .i64 2, .int .i64 2, .int .i64 0, .int .i64 1, .int .i64 2, .int .i64 3] : Array Value)[o]? := fun o => n1.cell o
  have I1 : Hid (Inv ((w.alloc (.cells #[.slice none 0 0, .slice none 0 0] 74)).alloc (.cells headA 78)) B (fun k => if k = w.heap.size then (0, 1) else (0, 0)) w.heap.size [] 0) := i0.below (b1.mono (by simp))
  have L1 : Hid (Below B w ((w.alloc (.cells #[.slice none 0 0, .slice none 0 0] 74)).alloc (.cells headA 78))) := (b0.mono hB).trans (b1.mono (by omega))
  have p0 : Pl w (w.alloc (.cells #[.slice none 0 0, .slice none 0 0] 74)) B kb w.heap.size sb so len ks kf uf af bf cf (fun k => if k = w.heap.size then (0, 1) else (0, 0)) [] 0 :=
    ⟨i0, b0.mono hB, hK.below b0, by rw [if_neg (by omega)], hS.of (b0.block sb (by omega))⟩
  have P1 : Hid (Pl w ((w.alloc (.cells #[.slice none 0 0, .slice none 0 0] 74)).alloc (.cells headA 78)) B kb w.heap.size sb so len ks kf uf af bf cf (fun k => if k = w.heap.size then (0, 1) else (0, 0)) [] 0) := p0.step I1.out (b1.mono (by omega)) (Stays.below (b1.mono (by simp))) hsb
  clear n1 i0 b0 b1 p0
  unfold maxLen at hlen
  go_enter Try.func13, Try.ntmps13
  go_wp2_with (go_at_call 35; refine (head_any _).mono ?_; rintro e w' ⟨rfl, rfl⟩)
  refine wp_loop_rounds 4 ?_
  have z1 : Hid ((fun k => if k = w.heap.size then (0, 1) else (0, 0)) (w.heap.size + 1) = ((0, 0) : Part)) := (show (if w.heap.size + 1 = w.heap.size then ((0, 1) : Part) else (0, 0)) = (0, 0) by rw [if_neg (by omega)])
  rw [rounds_succ]
  go_wp2_with fail
  refine (step_all w.heap.size B _ 1 0 3 0 0 _ _ _ I1.out (by omega) (by omega) (by omega) (by simp; unfold maxLen; omega) (by simp) (by omega)).mono ?_
  rintro e w1 ⟨rfl, ρ1, ns1, n1, i1, b1, l1, m1, v1, s1⟩
  have y1 := N1.out.of (s1.2.1 _ N1.out.lt z1.out)
  have z2 : Hid (ρ1 (w.heap.size + 1) = (0, 0)) := (s1.1 _ N1.out.lt).trans z1.out
  have hc2 : ∀ o, w1.cell? ⟨w.heap.size + 1, o, none⟩ = (#[.int .i64 1, .int .i64 0, .int .i64 3, .int .i64 0, .int .i64 0, .int .i64 2, .int .i64 0, .int .i64 0, .int .i64 1, .int .i64 2, .int .i64 2, .int .i64 0, .int .i64 1, .int .i64 2, .int .i64 3] : Array Value)[o]? := fun o => y1.cell o
  have I2 : Hid (Inv w1 B ρ1 w.heap.size ns1 n1) := i1
  have L2 : Hid (Below B w w1) := L1.out.trans b1
  have N2 : Hid (Whole w1 (w.heap.size + 1) 78 headA) := y1
  have P2 : Hid (Pl w w1 B kb w.heap.size sb so len ks kf uf af bf cf ρ1 ns1 n1) := P1.out.step i1 b1 s1 hsb
  clear y1 i1 b1 s1 I1 N1 z1 hc1 L1 P1
  simp only [List.length_nil] at l1 m1
  go_wp2_with fail
  rw [rounds_succ]
  go_wp2_with fail
  refine (step_all w.heap.size B _ 2 0 0 1 2 _ _ _ I2.out (by omega) (by omega) (by omega) (by unfold maxLen; omega) (by omega) (by omega)).mono ?_
  rintro e w2 ⟨rfl, ρ2, ns2, n2, i2, b2, l2, m2, v2, s2⟩
  have y2 := N2.out.of (s2.2.1 _ N2.out.lt z2.out)
  have z3 : Hid (ρ2 (w.heap.size + 1) = (0, 0)) := (s2.1 _ N2.out.lt).trans z2.out
  have hc3 : ∀ o, w2.cell? ⟨w.heap.size + 1, o, none⟩ = (#[.int .i64 1, .int .i64 0, .int .i64 3, .int .i64 0, .int .i64 0, .int .i64 2, .int .i64 0, .int .i64 0, .int .i64 1, .int .i64 2, .int .i64 2, .int .i64 0, .int .i64 1, .int .i64 2, .int .i64 3] : Array Value)[o]? := fun o => y2.cell o
  have I3 : Hid (Inv w2 B ρ2 w.heap.size ns2 n2) := i2
  have L3 : Hid (Below B w w2) := L2.out.trans b2
  have N3 : Hid (Whole w2 (w.heap.size + 1) 78 headA) := y2
  have P3 : Hid (Pl w w2 B kb w.heap.size sb so len ks kf uf af bf cf ρ2 ns2 n2) := P2.out.step i2 b2 s2 hsb
  clear y2 i2 b2 s2 I2 N2 z2 hc2 L2 P2
  go_wp2_with fail
  rw [rounds_succ]
  go_wp2_with fail
  refine (step_all w.heap.size B _ 2 0 1 2 3 _ _ _ I3.out (by omega) (by omega) (by omega) (by unfold maxLen; omega) (by omega) (by omega)).mono ?_
  rintro e w3 ⟨rfl, ρ3, ns3, n3, i3, b3, l3, m3, v3, s3⟩
  have y3 := N3.out.of (s3.2.1 _ N3.out.lt z3.out)
  have z4 : Hid (ρ3 (w.heap.size + 1) = (0, 0)) := (s3.1 _ N3.out.lt).trans z3.out
  have hc4 : ∀ o, w3.cell? ⟨w.heap.size + 1, o, none⟩ = (#[.int .i64 1, .int .i64 0, .int .i64 3, .int .i64 0, .int .i64 0, .int .i64 2, .int .i64 0, .int .i64 0, .int .i64 1, .int .i64 2, .int .i64 2, .int .i64 0, .int .i64 1, .int .i64 2, .int .i64 3] : Array Value)[o]? := fun o => y3.cell o
  have I4 : Hid (Inv w3 B ρ3 w.heap.size ns3 n3) := i3
  have L4 : Hid (Below B w w3) := L3.out.trans b3
  have N4 : Hid (Whole w3 (w.heap.size + 1) 78 headA) := y3
  have P4 : Hid (Pl w w3 B kb w.heap.size sb so len ks kf uf af bf cf ρ3 ns3 n3) := P3.out.step i3 b3 s3 hsb
  clear y3 i3 b3 s3 I3 N3 z3 hc3 L3 P3
  go_wp2_with fail
  rw [rounds_succ]
  go_wp2_with fail
  have hm : ns3.length ≤ 3 := by omega
  have hv : n3 ≤ 3 := by omega
  clear hc4 N4 z4 l1 m1 l2 m2 l3 m3 v1 v2 v3 I4 L4
  go_loopw [6, 9] (fun okv i wr => ∃ (k : Nat) (ρ : Nat → Part) (ns : List NetD) (n : Nat), k ≤ len ∧ i = .int .i64 k ∧ okv = .bool true ∧ ns.length ≤ 3 + k ∧ n ≤ 3 + k ∧ Pl w wr B kb w.heap.size sb so len ks kf uf af bf cf ρ ns n) (fun _ i _ => len - (intOf i).toNat)
  case atStart => exact ⟨0, ρ3, ns3, n3, Nat.zero_le _, rfl, rfl, by omega, by omega, P4.out⟩
  case round =>
    clear P4
    obtain ⟨k, ρ, ns, n, hk, rfl, rfl, hns, hnn, hP⟩ := hrel
    by_cases hkln : k < len
    · have hkl' : (k : Int) < (len : Int) := by omega
      have hk0 : (0 : Int) ≤ (k : Int) := by omega
      have HP : Hid (Pl w wr B kb w.heap.size sb so len ks kf uf af bf cf ρ ns n) := hP; clear hP
      obtain ⟨wo, hwo⟩ : ∃ wo, wo = wr := ⟨_, rfl⟩
      subst hwo
      go_wp2_with fail
      go_loopw [10, 11] (fun inv j wv => ∃ m : Nat, m ≤ ks.length ∧ j = .int .i64 m ∧ inv = .bool (inB ks (kf k) m) ∧ Sim wo wv) (fun _ j _ => ks.length - (intOf j).toNat)
      case atStart => exact ⟨0, by omega, rfl, rfl, ⟨rfl, rfl, rfl, rfl⟩⟩
      case round =>
        obtain ⟨m, hm6, rfl, rfl, hsim⟩ := hrel
        have HQ : Hid (Pl w wr B kb w.heap.size sb so len ks kf uf af bf cf ρ ns n) := HP.out.sim hsim
        by_cases hm : m < ks.length
        · have hm' : (m : Int) < (ks.length : Int) := by omega
          have hm0 : (0 : Int) ≤ (m : Int) := by omega
          have HSim : Hid (Sim wo wr) := hsim; clear hsim
          cases hin : inB ks (kf k) m with
          | true =>
            have HE : Hid (inB ks (kf k) (m + 1) = true) := (show inB ks (kf k) (m + 1) = true by simp [inB, hin])
            clear hin
            go_wp2_with fail
            go_quiet (fail)
            go_wp2
            go_roundw
            case rel => exact ⟨m + 1, by omega, by go_num, by rw [HE.out], ⟨HSim.out.heap, HSim.out.os, HSim.out.tape, HSim.out.output⟩⟩
            case measure => simp [intOf]; omega
          | false =>
            have HE : Hid (inB ks (kf k) (m + 1) = (kf k == ks.getD m 0)) := (show inB ks (kf k) (m + 1) = (kf k == ks.getD m 0) by simp [inB, hin])
            clear hin
            have sk := HQ.out.scr.k k hkln
            have kc : wr.cell? ⟨kb, m, none⟩ = some (.int .i64 (ks.getD m 0)) := by rw [HQ.out.kinds.cell m, kindA_at ks m hm]
            generalize ks.getD m 0 = kx at *
            go_wp2_with fail
            go_quiet (fail)
            go_wp2
            go_roundw
            case rel => exact ⟨m + 1, by omega, by go_num, by rw [HE.out], ⟨HSim.out.heap, HSim.out.os, HSim.out.tape, HSim.out.output⟩⟩
            case measure => simp [intOf]; omega
        · have hm6' : m = ks.length := by omega
          subst hm6'
          cases hin : inB ks (kf k) ks.length with
          | false =>
            go_wp2_with fail
            go_roundw
            case rel => exact ⟨k + 1, ρ, ns, n, by omega, by go_num, rfl, by omega, by omega, HQ.out⟩
            case measure => simp [intOf]; omega
          | true =>
            have HK : Hid (1 ≤ kf k ∧ kf k ≤ 15) := hks (kf k) (inB_mem ks (kf k) ks.length (Nat.le_refl _) hin)
            have sk := HQ.out.scr.k k hkln
            have su := HQ.out.scr.u k hkln
            have sa := HQ.out.scr.a k hkln
            have sbb := HQ.out.scr.b k hkln
            have sc := HQ.out.scr.c k hkln
            have hu := HQ.out.scr.ok k hkln
            have HU : Hid (-9223372036854775808 ≤ uf k ∧ uf k ≤ 9223372036854775807) := hu; clear hu
            go_wp2_with (first | (go_at_call 36; refine (step_all w.heap.size B n (kf k) (uf k) (af k) (bf k) (cf k) ρ ns _ HQ.out.inv HK.out HU.out.1 HU.out.2 (by unfold maxLen; omega) (by omega) (by omega)).mono ?_; rintro e w4 ⟨rfl, ρ4, ns4, n4, i4, b4, l4, m4, v4, s4⟩; obtain ⟨vv, bv, y4, _, _, k4⟩ := i4.y; have yc := (y4.cell 1).trans (show (#[vv, bv] : Array Value)[1]? = some bv from rfl); have K4 : Hid (Bk w4 B (fun k => ρ4 k = (0, 3)) bv n4) := k4; clear y4 k4) |
              (go_at_call 37; refine (whole_any w.heap.size B n4 _ bv _ yc K4.out (by unfold maxLen; omega)).mono ?_; rintro e w5 ⟨rfl, rfl⟩))
            go_roundw
            case rel => exact ⟨k + 1, ρ4, ns4, n4, by omega, by go_num, rfl, by omega, by omega, HQ.out.step i4 b4 s4 hsb⟩
            case measure => simp [intOf]; omega
    · go_wp2
      go_ret
      exact ⟨rfl, hP.low⟩
set_option maxHeartbeats 4000000 in
theorem plays_nil (B cap : Nat) (sa : Option Addr) (kv : Value) (w : World) (hB : B ≤ w.heap.size) :
    Calls Try.prog 13 #[.slice sa 0 cap, kv] w fun e w' => e = .returned (.bool true) ∧ Below B w w' := by
  have i0 := Inv.start w B hB
  have b0 : Below w.heap.size w (w.alloc (.cells #[.slice none 0 0, .slice none 0 0] 74)) := (Below.refl _ _).alloc (Nat.le_refl _) _
  have b1 : Below (w.heap.size + 1) (w.alloc (.cells #[.slice none 0 0, .slice none 0 0] 74)) ((w.alloc (.cells #[.slice none 0 0, .slice none 0 0] 74)).alloc (.cells headA 78)) := (Below.refl _ _).alloc (by simp) _
  have n1 := Whole.new (w.alloc (.cells #[.slice none 0 0, .slice none 0 0] 74)) 78 headA
  simp only [World.size_alloc] at n1
  have N1 : Hid (Whole ((w.alloc (.cells #[.slice none 0 0, .slice none 0 0] 74)).alloc (.cells headA 78)) (w.heap.size + 1) 78 headA) := n1
  have hc1 : ∀ o, ((w.alloc (.cells #[.slice none 0 0, .slice none 0 0] 74)).alloc (.cells headA 78)).cell? ⟨w.heap.size + 1, o, none⟩ = (#[.int .i64 1, .int .i64 0, .int .i64 3, .int .i64 0, .int .i64 0, .int .i64 2, .int .i64 0, .int .i64 0, .int .i64 1, .int .i64 2, .int .i64 2, .int .i64 0, .int .i64 1, .int .i64 2, .int .i64 3] : Array Value)[o]? := fun o => n1.cell o
  have I1 : Hid (Inv ((w.alloc (.cells #[.slice none 0 0, .slice none 0 0] 74)).alloc (.cells headA 78)) B (fun k => if k = w.heap.size then (0, 1) else (0, 0)) w.heap.size [] 0) := i0.below (b1.mono (by simp))
  have L1 : Hid (Below B w ((w.alloc (.cells #[.slice none 0 0, .slice none 0 0] 74)).alloc (.cells headA 78))) := (b0.mono hB).trans (b1.mono (by omega))
  clear n1 i0 b0 b1
  go_enter Try.func13, Try.ntmps13
  go_wp2_with (go_at_call 35; refine (head_any _).mono ?_; rintro e w' ⟨rfl, rfl⟩)
  refine wp_loop_rounds 4 ?_
  have z1 : Hid ((fun k => if k = w.heap.size then (0, 1) else (0, 0)) (w.heap.size + 1) = ((0, 0) : Part)) := (show (if w.heap.size + 1 = w.heap.size then ((0, 1) : Part) else (0, 0)) = (0, 0) by rw [if_neg (by omega)])
  rw [rounds_succ]
  go_wp2_with fail
  refine (step_all w.heap.size B _ 1 0 3 0 0 _ _ _ I1.out (by omega) (by omega) (by omega) (by simp; unfold maxLen; omega) (by simp) (by omega)).mono ?_
  rintro e w1 ⟨rfl, ρ1, ns1, n1, i1, b1, l1, m1, v1, s1⟩
  have y1 := N1.out.of (s1.2.1 _ N1.out.lt z1.out)
  have z2 : Hid (ρ1 (w.heap.size + 1) = (0, 0)) := (s1.1 _ N1.out.lt).trans z1.out
  have hc2 : ∀ o, w1.cell? ⟨w.heap.size + 1, o, none⟩ = (#[.int .i64 1, .int .i64 0, .int .i64 3, .int .i64 0, .int .i64 0, .int .i64 2, .int .i64 0, .int .i64 0, .int .i64 1, .int .i64 2, .int .i64 2, .int .i64 0, .int .i64 1, .int .i64 2, .int .i64 3] : Array Value)[o]? := fun o => y1.cell o
  have I2 : Hid (Inv w1 B ρ1 w.heap.size ns1 n1) := i1
  have L2 : Hid (Below B w w1) := L1.out.trans b1
  have N2 : Hid (Whole w1 (w.heap.size + 1) 78 headA) := y1
  clear y1 i1 b1 s1 I1 N1 z1 hc1 L1
  simp only [List.length_nil] at l1 m1
  go_wp2_with fail
  rw [rounds_succ]
  go_wp2_with fail
  refine (step_all w.heap.size B _ 2 0 0 1 2 _ _ _ I2.out (by omega) (by omega) (by omega) (by unfold maxLen; omega) (by omega) (by omega)).mono ?_
  rintro e w2 ⟨rfl, ρ2, ns2, n2, i2, b2, l2, m2, v2, s2⟩
  have y2 := N2.out.of (s2.2.1 _ N2.out.lt z2.out)
  have z3 : Hid (ρ2 (w.heap.size + 1) = (0, 0)) := (s2.1 _ N2.out.lt).trans z2.out
  have hc3 : ∀ o, w2.cell? ⟨w.heap.size + 1, o, none⟩ = (#[.int .i64 1, .int .i64 0, .int .i64 3, .int .i64 0, .int .i64 0, .int .i64 2, .int .i64 0, .int .i64 0, .int .i64 1, .int .i64 2, .int .i64 2, .int .i64 0, .int .i64 1, .int .i64 2, .int .i64 3] : Array Value)[o]? := fun o => y2.cell o
  have I3 : Hid (Inv w2 B ρ2 w.heap.size ns2 n2) := i2
  have L3 : Hid (Below B w w2) := L2.out.trans b2
  have N3 : Hid (Whole w2 (w.heap.size + 1) 78 headA) := y2
  clear y2 i2 b2 s2 I2 N2 z2 hc2 L2
  go_wp2_with fail
  rw [rounds_succ]
  go_wp2_with fail
  refine (step_all w.heap.size B _ 2 0 1 2 3 _ _ _ I3.out (by omega) (by omega) (by omega) (by unfold maxLen; omega) (by omega) (by omega)).mono ?_
  rintro e w3 ⟨rfl, ρ3, ns3, n3, i3, b3, l3, m3, v3, s3⟩
  have y3 := N3.out.of (s3.2.1 _ N3.out.lt z3.out)
  have z4 : Hid (ρ3 (w.heap.size + 1) = (0, 0)) := (s3.1 _ N3.out.lt).trans z3.out
  have hc4 : ∀ o, w3.cell? ⟨w.heap.size + 1, o, none⟩ = (#[.int .i64 1, .int .i64 0, .int .i64 3, .int .i64 0, .int .i64 0, .int .i64 2, .int .i64 0, .int .i64 0, .int .i64 1, .int .i64 2, .int .i64 2, .int .i64 0, .int .i64 1, .int .i64 2, .int .i64 3] : Array Value)[o]? := fun o => y3.cell o
  have I4 : Hid (Inv w3 B ρ3 w.heap.size ns3 n3) := i3
  have L4 : Hid (Below B w w3) := L3.out.trans b3
  have N4 : Hid (Whole w3 (w.heap.size + 1) 78 headA) := y3
  clear y3 i3 b3 s3 I3 N3 z3 hc3 L3
  go_wp2_with fail
  rw [rounds_succ]
  go_wp2_with fail
  refine wp_loop_rounds 1 ?_
  rw [rounds_succ]
  go_wp2
  go_ret
  exact ⟨rfl, L4.out⟩
end Go.Proofs.Ytdoodnbobpijoaa

namespace Go.Proofs.Ytdoodnbobpijoaa
open Go.ChangeShapes Go.WideShapes Go.ChangeAt Go.RowKit Go.Deep

theorem Try.own : ownKnob Try.prog.godebug = none := by kernel_rfl
theorem Try.laidOut : laidOutB Try.prog = true := by kernel_rfl
theorem Try.cellsOp : Try.prog.cellsOf 78 = 5 := by kernel_rfl
theorem Try.cellsI : Try.prog.cellsOf 3 = 1 := by kernel_rfl
theorem Try.bytesOp : Try.prog.bytesOf 78 = 40 := by kernel_rfl
theorem list_five {α : Type} : ∀ (l : List α), l.length = 5 → ∃ a b c d e, l = [a, b, c, d, e]
  | [a, b, c, d, e], _ => ⟨a, b, c, d, e, rfl⟩
  | [], h => by simp at h
  | [_], h => by simp at h
  | [_, _], h => by simp at h
  | [_, _, _], h => by simp at h
  | [_, _, _, _], h => by simp at h
  | _ :: _ :: _ :: _ :: _ :: _ :: _, h => by simp at h
theorem fieldsOp : ∃ fs : Array Field, Try.prog.underlying 78 = some (.struct fs) ∧ fs.size = 5 ∧ ∀ i, i < 5 → ∃ f, fs[i]? = some f ∧ f.type = 3 ∧ f.offset = i := by
  refine ⟨_, Try.underlying78, rfl, fun i hi => ?_⟩
  rcases i with _ | _ | _ | _ | _ | i
  · exact ⟨_, rfl, rfl, rfl⟩
  · exact ⟨_, rfl, rfl, rfl⟩
  · exact ⟨_, rfl, rfl, rfl⟩
  · exact ⟨_, rfl, rfl, rfl⟩
  · exact ⟨_, rfl, rfl, rfl⟩
  · omega
/-- A step of a script, opened: five numbers. -/
theorem open_op {H : Type} {enc : TypeId × Value → H} {w : World} {base : Nat} {spare : Nat → Bool} {held : Bool} {n : Nat} {cs : List Value} {x : DataW H × List MemPlace}
    (h : DataW.trod enc Try.prog w base spare held n 78 cs = some x) : ∃ k u a b c : Int, cs = [.int .i64 k, .int .i64 u, .int .i64 a, .int .i64 b, .int .i64 c] ∧ (Lit.int .i64 u).wf = true := by
  obtain ⟨fs, hu, hsz, hfs⟩ := fieldsOp
  obtain ⟨xs, m, _, _, hl, hx, hf⟩ := DataW.trod_struct hu h
  rw [Try.cellsOp] at hl
  obtain ⟨c0, c1, c2, c3, c4, rfl⟩ := list_five cs hl
  have g : ∀ i, i < 5 → ∃ v : Int, (([c0, c1, c2, c3, c4] : List Value).drop i).take 1 = [.int .i64 v] ∧ (Lit.int .i64 v).wf = true := fun i hi => by
    obtain ⟨f, h1, h2, h3⟩ := hfs i hi
    have := hf i f h1
    rw [h2, h3, Try.cellsI, List.getElem?_eq_getElem (by omega)] at this
    obtain ⟨v, e, _, wv⟩ := DataW.trod_int Try.underlying3 this
    exact ⟨v, e, wv⟩
  obtain ⟨k, e0, _⟩ := g 0 (by omega)
  obtain ⟨u, e1, wu⟩ := g 1 (by omega)
  obtain ⟨a, e2, _⟩ := g 2 (by omega)
  obtain ⟨b, e3, _⟩ := g 3 (by omega)
  obtain ⟨c, e4, _⟩ := g 4 (by omega)
  simp at e0 e1 e2 e3 e4
  subst e0 e1 e2 e3 e4
  exact ⟨k, u, a, b, c, rfl, wu⟩
/-- A script that was handed in: none, or one that lies in memory. -/
theorem open_script {H : Type} {enc : TypeId × Value → H} {W : World} {spare : Nat → Bool} {held : Bool} {a0 : Option Addr} {len cap : Nat} {d0 : DataW H} {p : List MemPlace} (h0 : ∃ n, DataW.trod enc Try.prog W 0 spare held n 22 (Value.slice a0 len cap).cells.toList = some (d0, p))
    (hsz : ∀ elems sp, d0 = .slice elems sp → elems.length * 40 ≤ reachBytes) :
    len = 0 ∨ ∃ ab ao, a0 = some ⟨ab, ao, none⟩ ∧ ∃ kf uf af bf cf, Scr W ab ao len kf uf af bf cf ∧ len * 40 ≤ reachBytes := by
  obtain ⟨fuel, hf⟩ := h0
  rcases open_slice Try.underlying22 hf with ⟨hcs, _⟩ | ⟨a, l, c, m, n, D, Pq, hcs, _, hl, hm, hmm, hx, hel⟩
  · simp [Value.cells] at hcs
    exact .inl hcs.2.1
  · simp [Value.cells] at hcs
    obtain ⟨rfl, rfl, rfl⟩ := hcs
    by_cases hl0 : len = 0
    · exact .inl hl0
    · refine .inr ?_
      obtain ⟨ab, ao, asp⟩ := a
      rw [Try.cellsOp] at hel
      have hlm : len ≤ m := by
        have hq : m = if spare ab = true then cap else len := by simpa using hmm
        rw [hq]; split <;> omega
      have hops : ∀ i, i < len → ∃ t : Int × Int × Int × Int × Int, (∀ j, j < 5 → W.cell? (((⟨ab, ao, asp⟩ : Addr).add (i * 5)).add j) = ([.int .i64 t.1, .int .i64 t.2.1, .int .i64 t.2.2.1, .int .i64 t.2.2.2.1, .int .i64 t.2.2.2.2] : List Value)[j]?) ∧ -9223372036854775808 ≤ t.2.1 ∧ t.2.1 ≤ 9223372036854775807 := fun i hi => by
        obtain ⟨cs', h1, h2⟩ := hel i (by omega)
        obtain ⟨k, u, aa, bb, cc, rfl, wu⟩ := open_op h2
        have hb := bounds_i64 wu
        exact ⟨(k, u, aa, bb, cc), (World.cells?_some h1).2.2, hb.1, hb.2⟩
      obtain ⟨F, hF⟩ := choose_lt hops
      have hsp : asp = none := by
        have := (hF 0 (by omega)).1 0 (by omega)
        have := World.cell?_spot (this.trans rfl)
        simpa [Addr.add] using this
      subst hsp
      have hc : ∀ i, i < len → ∀ j, j < 5 → W.cell? ⟨ab, ao + i * 5 + j, none⟩ = ([.int .i64 (F i).1, .int .i64 (F i).2.1, .int .i64 (F i).2.2.1, .int .i64 (F i).2.2.2.1, .int .i64 (F i).2.2.2.2] : List Value)[j]? := fun i hi j hj => by
        have := (hF i hi).1 j hj
        rw [Addr.add_mid, Addr.add_mid] at this
        exact this
      refine ⟨ab, ao, rfl, _, _, _, _, _, ⟨fun i hi => (hc i hi 0 (by omega)).trans rfl, fun i hi => (hc i hi 1 (by omega)).trans rfl, fun i hi => (hc i hi 2 (by omega)).trans rfl, fun i hi => (hc i hi 3 (by omega)).trans rfl, fun i hi => (hc i hi 4 (by omega)).trans rfl, fun i hi => (hF i hi).2⟩, ?_⟩
      have hw : d0 = .slice ((List.range len).map D) ((List.range (m - len)).map fun j => D (len + j)) := congrArg Prod.fst hx
      have := hsz _ _ hw
      simpa using this
set_option maxHeartbeats 1000000 in
theorem links_some (sb so len cap : Nat) (kf uf af bf cf : Nat → Int) (w : World) (hsb : sb < w.heap.size) (hS : Scr w sb so len kf uf af bf cf) (hlen : len ≤ maxLen) (hby : (len + 5) * 24 ≤ 140737488355328) :
    Calls Try.prog 3 #[.slice (some ⟨sb, so, none⟩) len cap] w fun e w' => e = .returned (.bool true) ∧ Below w.heap.size w w' := by
  have hbs : ∀ w, (Instr.buildSlice 24 6 #[(0, .int .i64 1), (1, .int .i64 2), (2, .int .i64 3), (3, .int .i64 4), (4, .int .i64 6), (5, .int .i64 7)]).run Try.prog w = .ok (.slice (some ⟨w.heap.size, 0, none⟩) 6 6) (w.alloc (.cells (kindA [1, 2, 3, 4, 6, 7]) 3)) := fun w => by kernel_rfl
  have b0 : Below w.heap.size w (w.alloc (.cells (kindA [1, 2, 3, 4, 6, 7]) 3)) := (Below.refl _ _).alloc (Nat.le_refl _) _
  have HD : Hid (Calls Try.prog 13 #[.slice (some ⟨sb, so, none⟩) len cap, .slice (some ⟨w.heap.size, 0, none⟩) 6 6] (w.alloc (.cells (kindA [1, 2, 3, 4, 6, 7]) 3)) fun e w' => e = .returned (.bool true) ∧ Below w.heap.size (w.alloc (.cells (kindA [1, 2, 3, 4, 6, 7]) 3)) w') := plays_some w.heap.size w.heap.size sb so len cap [1, 2, 3, 4, 6, 7] kf uf af bf cf _ (by decide) (by decide) (by simp) hsb (hS.of (b0.block sb hsb)) (Whole.new w 3 (kindA [1, 2, 3, 4, 6, 7])) hlen hby
  have B0 : Hid (Below w.heap.size w (w.alloc (.cells (kindA [1, 2, 3, 4, 6, 7]) 3))) := b0
  clear b0 hS
  go_enter Try.func3, Try.ntmps3
  go_wp2_with fail
  refine HD.out.mono ?_
  rintro e w1 ⟨rfl, b1⟩
  go_wp2
  go_ret
  exact ⟨rfl, B0.out.trans b1⟩
set_option maxHeartbeats 1000000 in
theorem links_nil (cap : Nat) (sa : Option Addr) (w : World) :
    Calls Try.prog 3 #[.slice sa 0 cap] w fun e w' => e = .returned (.bool true) ∧ Below w.heap.size w w' := by
  have hbs : ∀ w, (Instr.buildSlice 24 6 #[(0, .int .i64 1), (1, .int .i64 2), (2, .int .i64 3), (3, .int .i64 4), (4, .int .i64 6), (5, .int .i64 7)]).run Try.prog w = .ok (.slice (some ⟨w.heap.size, 0, none⟩) 6 6) (w.alloc (.cells (kindA [1, 2, 3, 4, 6, 7]) 3)) := fun w => by kernel_rfl
  have b0 : Below w.heap.size w (w.alloc (.cells (kindA [1, 2, 3, 4, 6, 7]) 3)) := (Below.refl _ _).alloc (Nat.le_refl _) _
  have HD : Hid (Calls Try.prog 13 #[.slice sa 0 cap, .slice (some ⟨w.heap.size, 0, none⟩) 6 6] (w.alloc (.cells (kindA [1, 2, 3, 4, 6, 7]) 3)) fun e w' => e = .returned (.bool true) ∧ Below w.heap.size (w.alloc (.cells (kindA [1, 2, 3, 4, 6, 7]) 3)) w') := plays_nil w.heap.size cap sa (.slice (some ⟨w.heap.size, 0, none⟩) 6 6) _ (by simp)
  have B0 : Hid (Below w.heap.size w (w.alloc (.cells (kindA [1, 2, 3, 4, 6, 7]) 3))) := b0
  clear b0
  go_enter Try.func3, Try.ntmps3
  go_wp2_with fail
  refine HD.out.mono ?_
  rintro e w1 ⟨rfl, b1⟩
  go_wp2
  go_ret
  exact ⟨rfl, B0.out.trans b1⟩
set_option maxHeartbeats 1000000 in
theorem ways_some (sb so len cap : Nat) (kf uf af bf cf : Nat → Int) (w : World) (hsb : sb < w.heap.size) (hS : Scr w sb so len kf uf af bf cf) (hlen : len ≤ maxLen) (hby : (len + 5) * 24 ≤ 140737488355328) :
    Calls Try.prog 4 #[.slice (some ⟨sb, so, none⟩) len cap] w fun e w' => e = .returned (.bool true) ∧ Below w.heap.size w w' := by
  have hbs : ∀ w, (Instr.buildSlice 24 9 #[(0, .int .i64 1), (1, .int .i64 2), (2, .int .i64 3), (3, .int .i64 4), (4, .int .i64 5), (5, .int .i64 6), (6, .int .i64 7), (7, .int .i64 8), (8, .int .i64 12)]).run Try.prog w = .ok (.slice (some ⟨w.heap.size, 0, none⟩) 9 9) (w.alloc (.cells (kindA [1, 2, 3, 4, 5, 6, 7, 8, 12]) 3)) := fun w => by kernel_rfl
  have b0 : Below w.heap.size w (w.alloc (.cells (kindA [1, 2, 3, 4, 5, 6, 7, 8, 12]) 3)) := (Below.refl _ _).alloc (Nat.le_refl _) _
  have HD : Hid (Calls Try.prog 13 #[.slice (some ⟨sb, so, none⟩) len cap, .slice (some ⟨w.heap.size, 0, none⟩) 9 9] (w.alloc (.cells (kindA [1, 2, 3, 4, 5, 6, 7, 8, 12]) 3)) fun e w' => e = .returned (.bool true) ∧ Below w.heap.size (w.alloc (.cells (kindA [1, 2, 3, 4, 5, 6, 7, 8, 12]) 3)) w') := plays_some w.heap.size w.heap.size sb so len cap [1, 2, 3, 4, 5, 6, 7, 8, 12] kf uf af bf cf _ (by decide) (by decide) (by simp) hsb (hS.of (b0.block sb hsb)) (Whole.new w 3 (kindA [1, 2, 3, 4, 5, 6, 7, 8, 12])) hlen hby
  have B0 : Hid (Below w.heap.size w (w.alloc (.cells (kindA [1, 2, 3, 4, 5, 6, 7, 8, 12]) 3))) := b0
  clear b0 hS
  go_enter Try.func4, Try.ntmps4
  go_wp2_with fail
  refine HD.out.mono ?_
  rintro e w1 ⟨rfl, b1⟩
  go_wp2
  go_ret
  exact ⟨rfl, B0.out.trans b1⟩
set_option maxHeartbeats 1000000 in
theorem ways_nil (cap : Nat) (sa : Option Addr) (w : World) :
    Calls Try.prog 4 #[.slice sa 0 cap] w fun e w' => e = .returned (.bool true) ∧ Below w.heap.size w w' := by
  have hbs : ∀ w, (Instr.buildSlice 24 9 #[(0, .int .i64 1), (1, .int .i64 2), (2, .int .i64 3), (3, .int .i64 4), (4, .int .i64 5), (5, .int .i64 6), (6, .int .i64 7), (7, .int .i64 8), (8, .int .i64 12)]).run Try.prog w = .ok (.slice (some ⟨w.heap.size, 0, none⟩) 9 9) (w.alloc (.cells (kindA [1, 2, 3, 4, 5, 6, 7, 8, 12]) 3)) := fun w => by kernel_rfl
  have b0 : Below w.heap.size w (w.alloc (.cells (kindA [1, 2, 3, 4, 5, 6, 7, 8, 12]) 3)) := (Below.refl _ _).alloc (Nat.le_refl _) _
  have HD : Hid (Calls Try.prog 13 #[.slice sa 0 cap, .slice (some ⟨w.heap.size, 0, none⟩) 9 9] (w.alloc (.cells (kindA [1, 2, 3, 4, 5, 6, 7, 8, 12]) 3)) fun e w' => e = .returned (.bool true) ∧ Below w.heap.size (w.alloc (.cells (kindA [1, 2, 3, 4, 5, 6, 7, 8, 12]) 3)) w') := plays_nil w.heap.size cap sa (.slice (some ⟨w.heap.size, 0, none⟩) 9 9) _ (by simp)
  have B0 : Hid (Below w.heap.size w (w.alloc (.cells (kindA [1, 2, 3, 4, 5, 6, 7, 8, 12]) 3))) := b0
  clear b0
  go_enter Try.func4, Try.ntmps4
  go_wp2_with fail
  refine HD.out.mono ?_
  rintro e w1 ⟨rfl, b1⟩
  go_wp2
  go_ret
  exact ⟨rfl, B0.out.trans b1⟩
set_option maxHeartbeats 1000000 in
theorem lossy_some (sb so len cap : Nat) (kf uf af bf cf : Nat → Int) (w : World) (hsb : sb < w.heap.size) (hS : Scr w sb so len kf uf af bf cf) (hlen : len ≤ maxLen) (hby : (len + 5) * 24 ≤ 140737488355328) :
    Calls Try.prog 5 #[.slice (some ⟨sb, so, none⟩) len cap] w fun e w' => e = .returned (.bool true) ∧ Below w.heap.size w w' := by
  have hbs : ∀ w, (Instr.buildSlice 24 12 #[(0, .int .i64 1), (1, .int .i64 2), (2, .int .i64 3), (3, .int .i64 4), (4, .int .i64 5), (5, .int .i64 6), (6, .int .i64 7), (7, .int .i64 8), (8, .int .i64 12), (9, .int .i64 9), (10, .int .i64 10), (11, .int .i64 11)]).run Try.prog w = .ok (.slice (some ⟨w.heap.size, 0, none⟩) 12 12) (w.alloc (.cells (kindA [1, 2, 3, 4, 5, 6, 7, 8, 12, 9, 10, 11]) 3)) := fun w => by kernel_rfl
  have b0 : Below w.heap.size w (w.alloc (.cells (kindA [1, 2, 3, 4, 5, 6, 7, 8, 12, 9, 10, 11]) 3)) := (Below.refl _ _).alloc (Nat.le_refl _) _
  have HD : Hid (Calls Try.prog 13 #[.slice (some ⟨sb, so, none⟩) len cap, .slice (some ⟨w.heap.size, 0, none⟩) 12 12] (w.alloc (.cells (kindA [1, 2, 3, 4, 5, 6, 7, 8, 12, 9, 10, 11]) 3)) fun e w' => e = .returned (.bool true) ∧ Below w.heap.size (w.alloc (.cells (kindA [1, 2, 3, 4, 5, 6, 7, 8, 12, 9, 10, 11]) 3)) w') := plays_some w.heap.size w.heap.size sb so len cap [1, 2, 3, 4, 5, 6, 7, 8, 12, 9, 10, 11] kf uf af bf cf _ (by decide) (by decide) (by simp) hsb (hS.of (b0.block sb hsb)) (Whole.new w 3 (kindA [1, 2, 3, 4, 5, 6, 7, 8, 12, 9, 10, 11])) hlen hby
  have B0 : Hid (Below w.heap.size w (w.alloc (.cells (kindA [1, 2, 3, 4, 5, 6, 7, 8, 12, 9, 10, 11]) 3))) := b0
  clear b0 hS
  go_enter Try.func5, Try.ntmps5
  go_wp2_with fail
  refine HD.out.mono ?_
  rintro e w1 ⟨rfl, b1⟩
  go_wp2
  go_ret
  exact ⟨rfl, B0.out.trans b1⟩
set_option maxHeartbeats 1000000 in
theorem lossy_nil (cap : Nat) (sa : Option Addr) (w : World) :
    Calls Try.prog 5 #[.slice sa 0 cap] w fun e w' => e = .returned (.bool true) ∧ Below w.heap.size w w' := by
  have hbs : ∀ w, (Instr.buildSlice 24 12 #[(0, .int .i64 1), (1, .int .i64 2), (2, .int .i64 3), (3, .int .i64 4), (4, .int .i64 5), (5, .int .i64 6), (6, .int .i64 7), (7, .int .i64 8), (8, .int .i64 12), (9, .int .i64 9), (10, .int .i64 10), (11, .int .i64 11)]).run Try.prog w = .ok (.slice (some ⟨w.heap.size, 0, none⟩) 12 12) (w.alloc (.cells (kindA [1, 2, 3, 4, 5, 6, 7, 8, 12, 9, 10, 11]) 3)) := fun w => by kernel_rfl
  have b0 : Below w.heap.size w (w.alloc (.cells (kindA [1, 2, 3, 4, 5, 6, 7, 8, 12, 9, 10, 11]) 3)) := (Below.refl _ _).alloc (Nat.le_refl _) _
  have HD : Hid (Calls Try.prog 13 #[.slice sa 0 cap, .slice (some ⟨w.heap.size, 0, none⟩) 12 12] (w.alloc (.cells (kindA [1, 2, 3, 4, 5, 6, 7, 8, 12, 9, 10, 11]) 3)) fun e w' => e = .returned (.bool true) ∧ Below w.heap.size (w.alloc (.cells (kindA [1, 2, 3, 4, 5, 6, 7, 8, 12, 9, 10, 11]) 3)) w') := plays_nil w.heap.size cap sa (.slice (some ⟨w.heap.size, 0, none⟩) 12 12) _ (by simp)
  have B0 : Hid (Below w.heap.size w (w.alloc (.cells (kindA [1, 2, 3, 4, 5, 6, 7, 8, 12, 9, 10, 11]) 3))) := b0
  clear b0
  go_enter Try.func5, Try.ntmps5
  go_wp2_with fail
  refine HD.out.mono ?_
  rintro e w1 ⟨rfl, b1⟩
  go_wp2
  go_ret
  exact ⟨rfl, B0.out.trans b1⟩
set_option maxHeartbeats 1000000 in
theorem all_some (sb so len cap : Nat) (kf uf af bf cf : Nat → Int) (w : World) (hsb : sb < w.heap.size) (hS : Scr w sb so len kf uf af bf cf) (hlen : len ≤ maxLen) (hby : (len + 5) * 24 ≤ 140737488355328) :
    Calls Try.prog 12 #[.slice (some ⟨sb, so, none⟩) len cap] w fun e w' => e = .returned (.bool true) ∧ Below w.heap.size w w' := by
  have hbs : ∀ w, (Instr.buildSlice 24 15 #[(0, .int .i64 1), (1, .int .i64 2), (2, .int .i64 3), (3, .int .i64 4), (4, .int .i64 5), (5, .int .i64 6), (6, .int .i64 7), (7, .int .i64 8), (8, .int .i64 12), (9, .int .i64 9), (10, .int .i64 10), (11, .int .i64 11), (12, .int .i64 13), (13, .int .i64 14), (14, .int .i64 15)]).run Try.prog w = .ok (.slice (some ⟨w.heap.size, 0, none⟩) 15 15) (w.alloc (.cells (kindA [1, 2, 3, 4, 5, 6, 7, 8, 12, 9, 10, 11, 13, 14, 15]) 3)) := fun w => by kernel_rfl
  have b0 : Below w.heap.size w (w.alloc (.cells (kindA [1, 2, 3, 4, 5, 6, 7, 8, 12, 9, 10, 11, 13, 14, 15]) 3)) := (Below.refl _ _).alloc (Nat.le_refl _) _
  have HD : Hid (Calls Try.prog 13 #[.slice (some ⟨sb, so, none⟩) len cap, .slice (some ⟨w.heap.size, 0, none⟩) 15 15] (w.alloc (.cells (kindA [1, 2, 3, 4, 5, 6, 7, 8, 12, 9, 10, 11, 13, 14, 15]) 3)) fun e w' => e = .returned (.bool true) ∧ Below w.heap.size (w.alloc (.cells (kindA [1, 2, 3, 4, 5, 6, 7, 8, 12, 9, 10, 11, 13, 14, 15]) 3)) w') := plays_some w.heap.size w.heap.size sb so len cap [1, 2, 3, 4, 5, 6, 7, 8, 12, 9, 10, 11, 13, 14, 15] kf uf af bf cf _ (by decide) (by decide) (by simp) hsb (hS.of (b0.block sb hsb)) (Whole.new w 3 (kindA [1, 2, 3, 4, 5, 6, 7, 8, 12, 9, 10, 11, 13, 14, 15])) hlen hby
  have B0 : Hid (Below w.heap.size w (w.alloc (.cells (kindA [1, 2, 3, 4, 5, 6, 7, 8, 12, 9, 10, 11, 13, 14, 15]) 3))) := b0
  clear b0 hS
  go_enter Try.func12, Try.ntmps12
  go_wp2_with fail
  refine HD.out.mono ?_
  rintro e w1 ⟨rfl, b1⟩
  go_wp2
  go_ret
  exact ⟨rfl, B0.out.trans b1⟩
set_option maxHeartbeats 1000000 in
theorem all_nil (cap : Nat) (sa : Option Addr) (w : World) :
    Calls Try.prog 12 #[.slice sa 0 cap] w fun e w' => e = .returned (.bool true) ∧ Below w.heap.size w w' := by
  have hbs : ∀ w, (Instr.buildSlice 24 15 #[(0, .int .i64 1), (1, .int .i64 2), (2, .int .i64 3), (3, .int .i64 4), (4, .int .i64 5), (5, .int .i64 6), (6, .int .i64 7), (7, .int .i64 8), (8, .int .i64 12), (9, .int .i64 9), (10, .int .i64 10), (11, .int .i64 11), (12, .int .i64 13), (13, .int .i64 14), (14, .int .i64 15)]).run Try.prog w = .ok (.slice (some ⟨w.heap.size, 0, none⟩) 15 15) (w.alloc (.cells (kindA [1, 2, 3, 4, 5, 6, 7, 8, 12, 9, 10, 11, 13, 14, 15]) 3)) := fun w => by kernel_rfl
  have b0 : Below w.heap.size w (w.alloc (.cells (kindA [1, 2, 3, 4, 5, 6, 7, 8, 12, 9, 10, 11, 13, 14, 15]) 3)) := (Below.refl _ _).alloc (Nat.le_refl _) _
  have HD : Hid (Calls Try.prog 13 #[.slice sa 0 cap, .slice (some ⟨w.heap.size, 0, none⟩) 15 15] (w.alloc (.cells (kindA [1, 2, 3, 4, 5, 6, 7, 8, 12, 9, 10, 11, 13, 14, 15]) 3)) fun e w' => e = .returned (.bool true) ∧ Below w.heap.size (w.alloc (.cells (kindA [1, 2, 3, 4, 5, 6, 7, 8, 12, 9, 10, 11, 13, 14, 15]) 3)) w') := plays_nil w.heap.size cap sa (.slice (some ⟨w.heap.size, 0, none⟩) 15 15) _ (by simp)
  have B0 : Hid (Below w.heap.size w (w.alloc (.cells (kindA [1, 2, 3, 4, 5, 6, 7, 8, 12, 9, 10, 11, 13, 14, 15]) 3))) := b0
  clear b0
  go_enter Try.func12, Try.ntmps12
  go_wp2_with fail
  refine HD.out.mono ?_
  rintro e w1 ⟨rfl, b1⟩
  go_wp2
  go_ret
  exact ⟨rfl, B0.out.trans b1⟩
end Go.Proofs.Ytdoodnbobpijoaa

