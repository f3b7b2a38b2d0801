import Derived.Test.YtgimhfbpipgoeaaProM
import Derived.Test.YtgimhfbpipgoeaaProE
import Derived.Test.YtgimhfbpipgoeaaProB
namespace Go.Proofs.Ytgimhfbpipgoeaa
open Go.RowKit

theorem Only.mono {S T : Nat → Prop} {w w' : World} (h : Only S w w') (hT : ∀ k, k < w.heap.size → S k → T k) : Only T w w' := ⟨h.os, h.tape, h.output, h.size, fun k hk hs => h.block k hk (fun hS => hs (hT k hk hS))⟩

/-! ### Each call, at whatever numbers -/
def linkC (n : Nat) (C : Nat → Nat → Int) (x y c : Int) : Nat → Nat → Int := if linkE n x y c = 0 then updC C x.toNat y.toNat c else C
theorem linkE_split (n x y c : Int) : (¬ pairE n x y = 0 ∧ linkE n x y c = pairE n x y) ∨ (pairE n x y = 0 ∧ (c < 0 ∨ 9 < c) ∧ linkE n x y c = 4) ∨ (pairE n x y = 0 ∧ 0 ≤ c ∧ c ≤ 9 ∧ linkE n x y c = 0) := by
  unfold linkE
  by_cases h : pairE n x y = 0
  · by_cases h2 : c < 0 ∨ 9 < c
    · exact .inr (.inl ⟨h, h2, by simp [h, h2]⟩)
    · exact .inr (.inr ⟨h, by omega, by omega, by simp [h, h2]⟩)
  · exact .inl ⟨h, by simp [h]⟩
theorem plink_all (bx bs n : Nat) (x y c : Int) (C : Nat → Nat → Int) (V : Nat → Nat → Value) (w : World) (hn : n ≤ 5) (hR : PN w bx bs n C V) :
    Calls Try.prog 25 #[.pointer (some ⟨bx, 0, none⟩), .int .i64 x, .int .i64 y, .int .i64 c] w fun e w' => e = .returned (.int .i64 (linkE n x y c)) ∧ PN w' bx bs n (linkC n C x y c) V ∧ Only (· = bx) w w' := by
  rcases linkE_split n x y c with ⟨h, e⟩ | ⟨h, h2, e⟩ | ⟨h, h2, h3, e⟩
  · refine (plink_no1 bx bs n x y c C V w hR h).mono fun e' w' ⟨h1, h2⟩ => ?_
    subst h2
    exact ⟨by rw [h1, e], by rw [linkC, e, if_neg h]; exact hR, Only.refl _ _⟩
  · refine (plink_no2 bx bs n x y c C V w hR h h2).mono fun e' w' ⟨h1, h2⟩ => ?_
    subst h2
    exact ⟨by rw [h1, e], by rw [linkC, e, if_neg (by decide)]; exact hR, Only.refl _ _⟩
  · obtain ⟨⟨a1, _⟩, ⟨a2, _⟩, _⟩ := pairE_zero h
    obtain ⟨x, rfl⟩ := Int.eq_ofNat_of_zero_le a1
    obtain ⟨y, rfl⟩ := Int.eq_ofNat_of_zero_le a2
    refine (plink_ok bx bs n x y c C V w hn hR h h2 h3).mono fun e' w' ⟨h1, h2, h3⟩ => ?_
    exact ⟨by rw [h1, e], by rw [linkC, e, if_pos rfl]; exact h2, h3⟩
theorem rlink_all (br n : Nat) (x y c : Int) (C : Nat → Nat → Int) (V : Nat → Nat → Value) (w : World) (hn : n ≤ 5) (hR : RN w br n C V) :
    Calls Try.prog 26 #[.pointer (some ⟨br, 0, none⟩), .int .i64 x, .int .i64 y, .int .i64 c] w fun e w' => e = .returned (.int .i64 (linkE n x y c)) ∧ RN w' br n (linkC n C x y c) V ∧ Only (· = br) w w' := by
  rcases linkE_split n x y c with ⟨h, e⟩ | ⟨h, h2, e⟩ | ⟨h, h2, h3, e⟩
  · refine (rlink_no1 br n x y c C V w hR h).mono fun e' w' ⟨h1, h2⟩ => ?_
    subst h2
    exact ⟨by rw [h1, e], by rw [linkC, e, if_neg h]; exact hR, Only.refl _ _⟩
  · refine (rlink_no2 br n x y c C V w hR h h2).mono fun e' w' ⟨h1, h2⟩ => ?_
    subst h2
    exact ⟨by rw [h1, e], by rw [linkC, e, if_neg (by decide)]; exact hR, Only.refl _ _⟩
  · obtain ⟨⟨a1, _⟩, ⟨a2, _⟩, _⟩ := pairE_zero h
    obtain ⟨x, rfl⟩ := Int.eq_ofNat_of_zero_le a1
    obtain ⟨y, rfl⟩ := Int.eq_ofNat_of_zero_le a2
    by_cases hc : c = 0
    · subst hc
      refine (rlink_cut br n x y C V w hn hR h).mono fun e' w' ⟨h1, h2, h3⟩ => ?_
      exact ⟨by rw [h1, e], by rw [linkC, e, if_pos rfl]; exact h2, h3⟩
    · refine (rlink_set br n x y c C V w hn hR h (by omega) h3).mono fun e' w' ⟨h1, h2, h3⟩ => ?_
      exact ⟨by rw [h1, e], by rw [linkC, e, if_pos rfl]; exact h2, h3⟩

def waitN (n : Nat) (x y : Int) (L : Nat → Nat → Nat) : Int := if pairE n x y = 0 then (L x.toNat y.toNat : Nat) else 0
theorem pwait_all (bx bs n B : Nat) (x y : Int) (ρ : Nat → Part) (tg : Nat → Nat → Part) (C : Nat → Nat → Int) (V : Nat → Nat → Value) (L : Nat → Nat → Nat) (w : World) (hn : n ≤ 5) (hR : PN w bx bs n C V) (hW : WR w B 114 ρ tg V L) :
    Calls Try.prog 15 #[.pointer (some ⟨bx, 0, none⟩), .int .i64 x, .int .i64 y] w fun e w' => e = .returned (.tuple #[.int .i64 (waitN n x y L), .int .i64 (pairE n x y)]) ∧ w = w' := by
  by_cases h : pairE n x y = 0
  · obtain ⟨⟨a1, b1⟩, ⟨a2, b2⟩, _⟩ := pairE_zero h
    obtain ⟨x, rfl⟩ := Int.eq_ofNat_of_zero_le a1
    obtain ⟨y, rfl⟩ := Int.eq_ofNat_of_zero_le a2
    obtain ⟨ad, cap, hv⟩ := hW.form x y (by omega) (by omega)
    refine (pwait_ok bx bs n x y C V w hn hR h ad _ cap hv).mono fun e' w' ⟨h1, h2⟩ => ⟨?_, h2⟩
    rw [h1, waitN, if_pos h, h]; rfl
  · refine (pwait_no bx bs n x y C V w hR h).mono fun e' w' ⟨h1, h2⟩ => ⟨?_, h2⟩
    rw [h1, waitN, if_neg h]
theorem rwait_all (br n B : Nat) (x y : Int) (ρ : Nat → Part) (tg : Nat → Nat → Part) (C : Nat → Nat → Int) (V : Nat → Nat → Value) (L : Nat → Nat → Nat) (w : World) (hn : n ≤ 5) (hR : RN w br n C V) (hW : WR w B 105 ρ tg V L) :
    Calls Try.prog 16 #[.pointer (some ⟨br, 0, none⟩), .int .i64 x, .int .i64 y] w fun e w' => e = .returned (.tuple #[.int .i64 (waitN n x y L), .int .i64 (pairE n x y)]) ∧ w = w' := by
  by_cases h : pairE n x y = 0
  · obtain ⟨⟨a1, b1⟩, ⟨a2, b2⟩, _⟩ := pairE_zero h
    obtain ⟨x, rfl⟩ := Int.eq_ofNat_of_zero_le a1
    obtain ⟨y, rfl⟩ := Int.eq_ofNat_of_zero_le a2
    obtain ⟨ad, cap, hv⟩ := hW.form x y (by omega) (by omega)
    refine (rwait_ok br n x y C V w hn hR h ad _ cap hv).mono fun e' w' ⟨h1, h2⟩ => ⟨?_, h2⟩
    rw [h1, waitN, if_pos h, h]; rfl
  · refine (rwait_no br n x y C V w hR h).mono fun e' w' ⟨h1, h2⟩ => ⟨?_, h2⟩
    rw [h1, waitN, if_neg h]

theorem sentL_five (n : Nat) (C : Nat → Nat → Int) (x : Nat) (L : Nat → Nat → Nat) (_hn : n ≤ 5) (h0 : ∀ c, n ≤ c → C x c = 0) (a c : Nat) (hc : c < 5) : sentL 5 C x L a c = sentL n C x L a c := by
  unfold sentL
  by_cases h : c < n
  · have e : (c < 5 ↔ c < n) := by omega
    simp only [e]
  · rw [if_neg (by rintro ⟨_, _, h1, _⟩; rw [h0 c (by omega)] at h1; omega), if_neg (by rintro ⟨_, h1, _⟩; omega)]
theorem WR.congr {w : World} {B e : Nat} {ρ : Nat → Part} {tg : Nat → Nat → Part} {V : Nat → Nat → Value} {L L' : Nat → Nat → Nat} (h : WR w B e ρ tg V L) (hl : ∀ a c, a < 5 → c < 5 → L a c = L' a c) : WR w B e ρ tg V L' :=
  ⟨fun a c ha hc => by rw [← hl a c ha hc]; exact h.own a c ha hc, h.part, fun a c ha hc => by rw [← hl a c ha hc]; exact h.six a c ha hc⟩

/-! ### One net, on both sides -/
structure NetD where
  bx : Nat
  bs : Nat
  br : Nat
  n : Nat
  C : Nat → Nat → Int
  L : Nat → Nat → Nat
  Vx : Nat → Nat → Value
  Vr : Nat → Nat → Value
def tgx (i : Nat) : Nat → Nat → Part := fun a c => (i + 1, 3 + a * 5 + c)
def tgr (i : Nat) : Nat → Nat → Part := fun a c => (i + 1, 28 + a * 5 + c)
theorem tgx_inj (i a c a' c' : Nat) (_ : a < 5) (hc : c < 5) (_ : a' < 5) (hc' : c' < 5) (h : tgx i a c = tgx i a' c') : a = a' ∧ c = c' := by
  have := congrArg Prod.snd h; simp only [tgx] at this; omega
theorem tgr_inj (i a c a' c' : Nat) (_ : a < 5) (hc : c < 5) (_ : a' < 5) (hc' : c' < 5) (h : tgr i a c = tgr i a' c') : a = a' ∧ c = c' := by
  have := congrArg Prod.snd h; simp only [tgr] at this; omega
structure NetI (w : World) (B : Nat) (ρ : Nat → Part) (i : Nat) (N : NetD) : Prop where
  n2 : 2 ≤ N.n
  n5 : N.n ≤ 5
  p : PN w N.bx N.bs N.n N.C N.Vx
  r : RN w N.br N.n N.C N.Vr
  wx : WR w B 114 ρ (tgx i) N.Vx N.L
  wr : WR w B 105 ρ (tgr i) N.Vr N.L
  px : ρ N.bx = (i + 1, 0)
  ps : ρ N.bs = (i + 1, 1)
  pr : ρ N.br = (i + 1, 2)
  c0 : ∀ a c, N.n ≤ a ∨ N.n ≤ c → N.C a c = 0

/-- What a call on net i leaves. -/
structure Aft (i : Nat) (ρ ρ' : Nat → Part) (w w' : World) : Prop where
  only : Only (fun k => (ρ k).1 = i + 1) w w'
  old : ∀ k, k < w.heap.size → ρ' k = ρ k
  new : ∀ k, w'.heap.size ≤ k → ρ' k = (0, 0)
theorem Aft.trans {i : Nat} {ρ ρ1 ρ2 : Nat → Part} {a b c : World} (h : Aft i ρ ρ1 a b) (k : Aft i ρ1 ρ2 b c) : Aft i ρ ρ2 a c :=
  ⟨h.only.trans k.only (fun j hj hT => by rw [h.old j hj] at hT; exact hT), fun j hj => (k.old j (Nat.lt_of_lt_of_le hj h.only.size)).trans (h.old j hj), k.new⟩
theorem Aft.below {i : Nat} {ρ : Nat → Part} {w w' : World} (h : Below w.heap.size w w') (hnew : ∀ k, w.heap.size ≤ k → ρ k = (0, 0)) : Aft i ρ ρ w w' :=
  ⟨Only.ofBelow h, fun _ _ => rfl, fun k hk => hnew k (Nat.le_trans h.size hk)⟩
/-- A net is as it was if its own blocks are. -/
theorem NetI.of {w w' : World} {B : Nat} {ρ ρ' : Nat → Part} {i : Nat} {N : NetD} (h : NetI w B ρ i N) (hb : ∀ k, k < w.heap.size → (ρ k).1 = i + 1 → w'.heap[k]? = w.heap[k]?) (hρ : ∀ k, k < w.heap.size → ρ' k = ρ k) : NetI w' B ρ' i N := by
  have l1 := h.p.lt
  have l2 := h.p.lts (by have := h.n2; omega)
  have l3 := h.r.lt
  have part : ∀ {e : Nat} {tg : Nat → Nat → Part} {V : Nat → Nat → Value}, WR w B e ρ tg V N.L → ∀ a c g, a < 5 → c < 5 → (V a c).ownBlock = some g → ρ' g = tg a c := fun hW a c g ha hc hg => by
    obtain ⟨xs, hx⟩ := hW.own a c ha hc
    rw [hρ g (hx.lt g hg).2]; exact hW.part a c g ha hc hg
  have ex : WR w' B 114 ρ (tgx i) N.Vx N.L := h.wx.of fun k a c hk _ _ hp => hb k hk (by rw [hp]; rfl)
  have er : WR w' B 105 ρ (tgr i) N.Vr N.L := h.wr.of fun k a c hk _ _ hp => hb k hk (by rw [hp]; rfl)
  exact ⟨h.n2, h.n5, h.p.of (hb _ l1 (by rw [h.px])) (hb _ l2 (by rw [h.ps])), h.r.of (hb _ l3 (by rw [h.pr])), ⟨ex.own, part h.wx, ex.six⟩, ⟨er.own, part h.wr, er.six⟩, by rw [hρ _ l1]; exact h.px, by rw [hρ _ l2]; exact h.ps, by rw [hρ _ l3]; exact h.pr, h.c0⟩
theorem NetI.other {w w' : World} {B : Nat} {ρ ρ' : Nat → Part} {i j : Nat} {N : NetD} (h : NetI w B ρ j N) (hij : j ≠ i) (ha : Aft i ρ ρ' w w') : NetI w' B ρ' j N :=
  h.of (fun k hk hp => ha.only.block k hk (by rw [hp]; omega)) ha.old
theorem NetI.below {w w' : World} {B : Nat} {ρ : Nat → Part} {i : Nat} {N : NetD} (h : NetI w B ρ i N) (hb : Below w.heap.size w w') : NetI w' B ρ i N := h.of (fun k hk _ => hb.block k hk) (fun _ _ => rfl)

/-- The program's Dump of a router, whatever its number. -/
def dumpN (N : NetD) (r : Int) : NetD := { N with L := if isB N.n r = true then sentL N.n N.C r.toNat N.L else N.L }
end Go.Proofs.Ytgimhfbpipgoeaa
