import Derived.Test.YtdoodnbobpijoaaAbsF
import Derived.Test.YtdoodnbobpijoaaBunN
import Derived.Test.YtdoodnbobpijoaaWk
import Derived.ChangeKeysEq
import Derived.Test.YtdoodnbobpijoaaBunH
import Derived.Laws.StructEq
import Derived.BigQuiet
import Derived.Deep.DeepCutAuto
import Derived.Test.YtdoodnbobpijoaaRows
import Derived.Carry
namespace Go.Proofs.Ytdoodnbobpijoaa

/-! ### How far it is, reckoned in place -/
/-- In round k, behind what is ahead of (a, b). -/
def fwIn (C : Nat → Nat → Int) (k a b : Nat) : Nat → Nat → Int := fun x y => if x < a ∨ (x = a ∧ y < b) then fwN C (k + 1) x y else fwN C k x y
theorem fwIn_zero (C : Nat → Nat → Int) (k : Nat) : fwIn C k 0 0 = fwN C k := by
  funext x y
  unfold fwIn
  rw [if_neg (by omega)]
theorem fwN_col (C : Nat → Nat → Int) (k x : Nat) : fwN C (k + 1) x k = fwN C k x k := by
  rw [fwN_succ, fwN_diag]; omega
theorem fwN_row (C : Nat → Nat → Int) (k y : Nat) : fwN C (k + 1) k y = fwN C k k y := by
  rw [fwN_succ, fwN_diag]; omega
theorem fwIn_col (C : Nat → Nat → Int) (k a b x : Nat) : fwIn C k a b x k = fwN C k x k := by
  unfold fwIn; split
  · exact fwN_col C k x
  · rfl
theorem fwIn_row (C : Nat → Nat → Int) (k a b y : Nat) : fwIn C k a b k y = fwN C k k y := by
  unfold fwIn; split
  · exact fwN_row C k y
  · rfl
/-- One place more. -/
theorem fwIn_step (C : Nat → Nat → Int) (k a b : Nat) : (fun x y => if x = a ∧ y = b then min (fwIn C k a b a b) (fwIn C k a b a k + fwIn C k a b k b) else fwIn C k a b x y) = fwIn C k a (b + 1) := by
  funext x y
  by_cases e : x = a ∧ y = b
  · obtain ⟨rfl, rfl⟩ := e
    show (if x = x ∧ y = y then _ else _) = _
    rw [if_pos ⟨rfl, rfl⟩, fwIn_col, fwIn_row]
    unfold fwIn
    rw [if_neg (by omega), if_pos (by omega), fwN_succ]
  · show (if x = a ∧ y = b then _ else _) = _
    rw [if_neg e]
    unfold fwIn
    by_cases h : x < a ∨ (x = a ∧ y < b)
    · rw [if_pos h, if_pos (by omega)]
    · rw [if_neg h, if_neg (by omega)]
/-- A row more, a round more (of those places that there are). -/
theorem fwIn_next (C : Nat → Nat → Int) (k a x y : Nat) (hy : y < 5) : fwIn C k a 5 x y = fwIn C k (a + 1) 0 x y := by
  unfold fwIn
  by_cases h : x < a ∨ (x = a ∧ y < 5)
  · rw [if_pos h, if_pos (by omega)]
  · rw [if_neg h, if_neg (by omega)]
theorem fwIn_round (C : Nat → Nat → Int) (k x y : Nat) (hx : x < 5) : fwIn C k 5 0 x y = fwN C (k + 1) x y := by
  unfold fwIn
  rw [if_pos (by omega)]
end Go.Proofs.Ytdoodnbobpijoaa

namespace Go.Proofs.Ytdoodnbobpijoaa
open Go.RowKit

/-! ### Five by five numbers -/
def matA (M : Nat → Nat → Int) : Array Value := #[I (M 0 0), I (M 0 1), I (M 0 2), I (M 0 3), I (M 0 4), I (M 1 0), I (M 1 1), I (M 1 2), I (M 1 3), I (M 1 4), I (M 2 0), I (M 2 1), I (M 2 2), I (M 2 3), I (M 2 4), I (M 3 0), I (M 3 1), I (M 3 2), I (M 3 3), I (M 3 4), I (M 4 0), I (M 4 1), I (M 4 2), I (M 4 3), I (M 4 4)]
theorem five_cases {p : Nat → Prop} (h0 : p 0) (h1 : p 1) (h2 : p 2) (h3 : p 3) (h4 : p 4) : ∀ a, a < 5 → p a := fun a ha => by
  rcases (by omega : a = 0 ∨ a = 1 ∨ a = 2 ∨ a = 3 ∨ a = 4) with rfl | rfl | rfl | rfl | rfl
  · exact h0
  · exact h1
  · exact h2
  · exact h3
  · exact h4
theorem matA_at (M : Nat → Nat → Int) : ∀ a, a < 5 → ∀ b, b < 5 → (matA M)[a * 5 + b]? = some (I (M a b)) := by
  apply five_cases <;> apply five_cases <;> rfl
theorem matA_set (M : Nat → Nat → Int) (v : Int) : ∀ a, a < 5 → ∀ b, b < 5 → (matA M).setIfInBounds (a * 5 + b) (I v) = matA (fun x y => if x = a ∧ y = b then v else M x y) := by
  apply five_cases <;> apply five_cases <;> rfl
theorem matA_congr {M N : Nat → Nat → Int} (h : ∀ a, a < 5 → ∀ b, b < 5 → M a b = N a b) : matA M = matA N := by
  unfold matA
  rw [h 0 (by omega) 0 (by omega), h 0 (by omega) 1 (by omega), h 0 (by omega) 2 (by omega), h 0 (by omega) 3 (by omega), h 0 (by omega) 4 (by omega), h 1 (by omega) 0 (by omega), h 1 (by omega) 1 (by omega), h 1 (by omega) 2 (by omega), h 1 (by omega) 3 (by omega), h 1 (by omega) 4 (by omega), h 2 (by omega) 0 (by omega), h 2 (by omega) 1 (by omega), h 2 (by omega) 2 (by omega), h 2 (by omega) 3 (by omega), h 2 (by omega) 4 (by omega), h 3 (by omega) 0 (by omega), h 3 (by omega) 1 (by omega), h 3 (by omega) 2 (by omega), h 3 (by omega) 3 (by omega), h 3 (by omega) 4 (by omega), h 4 (by omega) 0 (by omega), h 4 (by omega) 1 (by omega), h 4 (by omega) 2 (by omega), h 4 (by omega) 3 (by omega), h 4 (by omega) 4 (by omega)]
theorem matA_size (M : Nat → Nat → Int) : (matA M).size = 25 := rfl
end Go.Proofs.Ytdoodnbobpijoaa

namespace Go.Proofs.Ytdoodnbobpijoaa
open Go.RowKit

/-! ### How many wait -/
def wsum (A : Nt) (r : Nat) : Nat → Int
  | 0 => 0
  | k + 1 => wsum A r k + waitN A r k
theorem waitN_bd {A : Nt} (g : Good A) (a b : Int) : 0 ≤ waitN A a b ∧ waitN A a b ≤ 6 := by
  unfold waitN
  split
  · have := g.wl a.toNat b.toNat
    omega
  · omega
theorem wsum_bd {A : Nt} (g : Good A) (r : Nat) : ∀ k : Nat, 0 ≤ wsum A r k ∧ wsum A r k ≤ 6 * (k : Int)
  | 0 => ⟨Int.le_refl _, by show (0 : Int) ≤ _; omega⟩
  | k + 1 => by
    have h1 := wsum_bd g r k
    have h2 := waitN_bd g (r : Int) (k : Int)
    show 0 ≤ wsum A r k + waitN A r k ∧ wsum A r k + waitN A r k ≤ _
    omega
section
variable {w : World} {B : Nat} {ρ : Nat → Part} {i bk bx bs : Nat} {A : Nt} {C : Nat → Nat → Int} {V : Nat → Nat → Value}
set_option maxHeartbeats 1000000 in
theorem kwaiting_all (h : KN w B ρ i bk bx bs A C V) (r : Nat) :
    Calls Try.prog 24 #[.pointer (some ⟨bk, 0, none⟩), .int .i64 r] w fun e w' => e = .returned (.int .i64 (wsum A r A.n)) ∧ w = w' := by
  have c0 := h.k0
  have c1 := h.k1
  have n5 := h.g.n5
  have HC : Hid (∀ k : Nat, Calls Try.prog 33 #[.pointer (some ⟨bx, 0, none⟩), .int .i64 r, .int .i64 k] w fun e w' => e = .returned (.tuple #[.int .i64 (waitN A r k), .int .i64 (pairE A.n r k)]) ∧ w = w') := fun k => kwaiting h r k
  have HS : Hid (∀ k, wsum A r (k + 1) = wsum A r k + waitN A r k) := fun _ => rfl
  have hB1 := fun k => wsum_bd h.g r k
  have hB2 := fun k : Nat => waitN_bd h.g r k
  clear h
  go_enter Try.func24, Try.ntmps24
  go_wp2
  go_loopw [5, 6] (fun u v wr => ∃ k : Nat, k ≤ A.n ∧ v = .int .i64 k ∧ u = .int .i64 (wsum A r k) ∧ w = wr) (fun _ v _ => A.n - (intOf v).toNat)
  case atStart => exact ⟨0, by omega, rfl, rfl, rfl⟩
  case round =>
    obtain ⟨k, hk, rfl, rfl, rfl⟩ := hrel
    by_cases hkn : k < A.n
    · have hkn' : (k : Int) < (A.n : Int) := by omega
      have b1 := hB1 k
      have b2 := hB2 k
      have HE := HS.out k
      have CX : Hid (Calls Try.prog 33 #[.pointer (some ⟨bx, 0, none⟩), .int .i64 r, .int .i64 k] w fun e w' => e = .returned (.tuple #[.int .i64 (waitN A r k), .int .i64 (pairE A.n r k)]) ∧ w = w') := HC.out k
      have HE' : Hid (wsum A r (k + 1) = wsum A r k + waitN A r k) := HE
      clear HE hB1 hB2
      generalize waitN A r k = y at *
      generalize wsum A r k = x at *
      obtain ⟨b1, b1'⟩ := b1
      obtain ⟨b2, b2'⟩ := b2
      go_wp2_with (go_at_call 33; refine (CX.out).mono ?_; rintro e w' ⟨rfl, rfl⟩)
      go_roundw
      case rel => exact ⟨k + 1, by omega, by go_num, by rw [HE'.out], by trivial⟩
      case measure => simp [intOf]; omega
    · have hkn' : ¬ (k : Int) < (A.n : Int) := by omega
      have e : k = A.n := by omega
      subst e
      clear hB1 hB2
      go_wp2
      go_ret
      exact ⟨rfl, rfl⟩
end
/-! ### A sheet -/
def sheetA (R : Nat → Rt) (E : Nat → Bs) : Array Value := #[I (R 0).nx, I (R 0).sq, I (R 0).mt, I (R 0).ag, I (R 0).st, I (R 1).nx, I (R 1).sq, I (R 1).mt, I (R 1).ag, I (R 1).st, I (R 2).nx, I (R 2).sq, I (R 2).mt, I (R 2).ag, I (R 2).st, I (R 3).nx, I (R 3).sq, I (R 3).mt, I (R 3).ag, I (R 3).st, I (R 4).nx, I (R 4).sq, I (R 4).mt, I (R 4).ag, I (R 4).st, I (E 0).sq, I (E 0).mt, I (E 1).sq, I (E 1).mt, I (E 2).sq, I (E 2).mt, I (E 3).sq, I (E 3).mt, I (E 4).sq, I (E 4).mt]
abbrev zeR : Rt := ⟨0, 0, 0, 0, 0⟩
abbrev zeB : Bs := ⟨0, 0⟩
def setN {α : Type} (f : Nat → α) (d : Nat) (x : α) : Nat → α := fun j => if j = d then x else f j
theorem sheet_setR (R : Nat → Rt) (E : Nat → Bs) (x : Rt) : ∀ d, d < 5 → (((((sheetA R E).setIfInBounds (d * 5) (I x.nx)).setIfInBounds (d * 5 + 1) (I x.sq)).setIfInBounds (d * 5 + 2) (I x.mt)).setIfInBounds (d * 5 + 3) (I x.ag)).setIfInBounds (d * 5 + 4) (I x.st) = sheetA (setN R d x) E := by
  apply five_cases <;> rfl
theorem sheet_setB (R : Nat → Rt) (E : Nat → Bs) (x : Bs) : ∀ d, d < 5 → ((sheetA R E).setIfInBounds (25 + d * 2) (I x.sq)).setIfInBounds (25 + d * 2 + 1) (I x.mt) = sheetA R (setN E d x) := by
  apply five_cases <;> rfl
theorem sheet_ro (R : Nat → Rt) (E : Nat → Bs) : ∀ d, d < 5 → (sheetA R E)[d * 5]? = some (I (R d).nx) ∧ (sheetA R E)[d * 5 + 1]? = some (I (R d).sq) ∧ (sheetA R E)[d * 5 + 2]? = some (I (R d).mt) ∧ (sheetA R E)[d * 5 + 3]? = some (I (R d).ag) ∧ (sheetA R E)[d * 5 + 4]? = some (I (R d).st) := by
  apply five_cases <;> exact ⟨rfl, rfl, rfl, rfl, rfl⟩
theorem sheet_be (R : Nat → Rt) (E : Nat → Bs) : ∀ d, d < 5 → (sheetA R E)[25 + d * 2]? = some (I (E d).sq) ∧ (sheetA R E)[25 + d * 2 + 1]? = some (I (E d).mt) := by
  apply five_cases <;> exact ⟨rfl, rfl⟩
theorem sheet_size (R : Nat → Rt) (E : Nat → Bs) : (sheetA R E).size = 35 := rfl
theorem sheet_congr {R R' : Nat → Rt} {E E' : Nat → Bs} (h : ∀ d, d < 5 → R d = R' d) (k : ∀ d, d < 5 → E d = E' d) : sheetA R E = sheetA R' E' := by
  unfold sheetA
  rw [h 0 (by omega), h 1 (by omega), h 2 (by omega), h 3 (by omega), h 4 (by omega), k 0 (by omega), k 1 (by omega), k 2 (by omega), k 3 (by omega), k 4 (by omega)]
theorem al35 (w : World) : (Instr.alloc 53 true (.tuple #[])).run Try.prog w = .ok (.pointer (some ⟨w.heap.size, 0, none⟩)) (w.alloc (.cells (sheetA (fun _ => zeR) fun _ => zeB) 53)) := by kernel_rfl
theorem size35 : (Try.prog.info? 53).map (·.size) = some 35 := by kernel_rfl
theorem ld35 (w : World) (ρ : Operand → Value) (x : Operand) (ds : Option Tmp) (ty : TypeId) (ps : String) (af : Array Edge) (g : Option (Nat × Bool))
    (h1 : ρ x = .pointer (some ⟨vb (ρ x), vo (ρ x), none⟩)) (h2 : MidOk w (vb (ρ x)) (vo (ρ x)) 35) :
    (execOp ρ { dst := ds, op := .load 53 x, type := ty, pos := ps, after := af, guard := g }).run Try.prog w = .ok (.value (.agg (midA w (vb (ρ x)) (vo (ρ x)) 35))) w :=
  load_rule Try.underlying53 rfl size35 w ρ x ds ty ps af g h1 h2
theorem st35 (w : World) (ρ : Operand → Value) (x y : Operand) (ds : Option Tmp) (ty : TypeId) (ps : String) (af : Array Edge) (g : Option (Nat × Bool))
    (h1 : ρ x = .pointer (some ⟨vb (ρ x), vo (ρ x), none⟩)) (h3 : AggOk 35 (ρ y)) (h2 : w.there (vb (ρ x)) (vo (ρ x)) 35) :
    (execOp ρ { dst := ds, op := .store 53 x y, type := ty, pos := ps, after := af, guard := g }).run Try.prog w = .ok .skip (w.setCells (vb (ρ x)) (vo (ρ x)) (cellsL (ρ y))) :=
  store_rule size35 w ρ x y ds ty ps af g h1 h3 h2
theorem alc35 (w : World) (ρ : Operand → Value) (ds : Option Tmp) (ty : TypeId) (ps : String) (af : Array Edge) (g : Option (Nat × Bool)) :
    (execOp ρ { dst := ds, op := .alloc 53, type := ty, pos := ps, after := af, guard := g }).run Try.prog w = .ok (.value (.pointer (some ⟨w.heap.size, 0, none⟩))) (w.alloc (.cells (sheetA (fun _ => zeR) fun _ => zeB) 53)) :=
  alloc_rule al35 w ρ ds ty ps af g
theorem aggOk_sheet (R : Nat → Rt) (E : Nat → Bs) : AggOk 35 (.agg (sheetA R E)) := ⟨rfl, rfl, by simp [Value.cells, sheetA, Value.oneCell', I]⟩
theorem Whole.sheetR {w : World} {b : Nat} {t : TypeId} {R : Nat → Rt} {E : Nat → Bs} (h : Whole w b t (sheetA R E)) (d : Nat) (hd : d < 5) (x : Rt) :
    Whole (((((w.setCell ⟨b, d * 5, none⟩ (I x.nx)).setCell ⟨b, d * 5 + 1, none⟩ (I x.sq)).setCell ⟨b, d * 5 + 2, none⟩ (I x.mt)).setCell ⟨b, d * 5 + 3, none⟩ (I x.ag)).setCell ⟨b, d * 5 + 4, none⟩ (I x.st)) b t (sheetA (setN R d x) E) := by
  rw [← sheet_setR R E x d hd]
  exact ((((h.setAt _ _).setAt _ _).setAt _ _).setAt _ _).setAt _ _
theorem Whole.sheetB {w : World} {b : Nat} {t : TypeId} {R : Nat → Rt} {E : Nat → Bs} (h : Whole w b t (sheetA R E)) (d : Nat) (hd : d < 5) (x : Bs) :
    Whole ((w.setCell ⟨b, 25 + d * 2, none⟩ (I x.sq)).setCell ⟨b, 25 + d * 2 + 1, none⟩ (I x.mt)) b t (sheetA R (setN E d x)) := by
  rw [← sheet_setB R E x d hd]
  exact (h.setAt _ _).setAt _ _
/-- What a sheet holds, of the routers below k. -/
def shR (A : Nt) (r k : Nat) : Nat → Rt := fun d => if d < k ∧ d ≠ r then routeN A r d else zeR
def shB (A : Nt) (r k : Nat) : Nat → Bs := fun d => if d < k ∧ d ≠ r then bestN A r d else zeB
theorem shR_step (A : Nt) (r k : Nat) (h : k ≠ r) : setN (shR A r k) k (routeN A r k) = shR A r (k + 1) := by
  funext d
  show (if d = k then _ else if d < k ∧ d ≠ r then _ else _) = if d < k + 1 ∧ d ≠ r then _ else _
  by_cases e : d = k
  · subst e; rw [if_pos rfl, if_pos ⟨by omega, h⟩]
  · rw [if_neg e]
    have : (d < k ∧ d ≠ r) ↔ (d < k + 1 ∧ d ≠ r) := by omega
    simp only [this]
theorem shB_step (A : Nt) (r k : Nat) (h : k ≠ r) : setN (shB A r k) k (bestN A r k) = shB A r (k + 1) := by
  funext d
  show (if d = k then _ else if d < k ∧ d ≠ r then _ else _) = if d < k + 1 ∧ d ≠ r then _ else _
  by_cases e : d = k
  · subst e; rw [if_pos rfl, if_pos ⟨by omega, h⟩]
  · rw [if_neg e]
    have : (d < k ∧ d ≠ r) ↔ (d < k + 1 ∧ d ≠ r) := by omega
    simp only [this]
theorem shR_skip (A : Nt) (r : Nat) : shR A r (r + 1) = shR A r r := by
  funext d
  show (if d < r + 1 ∧ d ≠ r then _ else _) = if d < r ∧ d ≠ r then _ else _
  have : (d < r + 1 ∧ d ≠ r) ↔ (d < r ∧ d ≠ r) := by omega
  simp only [this]
theorem shB_skip (A : Nt) (r : Nat) : shB A r (r + 1) = shB A r r := by
  funext d
  show (if d < r + 1 ∧ d ≠ r then _ else _) = if d < r ∧ d ≠ r then _ else _
  have : (d < r + 1 ∧ d ≠ r) ↔ (d < r ∧ d ≠ r) := by omega
  simp only [this]
theorem sh_zero (A : Nt) (r : Nat) : sheetA (shR A r 0) (shB A r 0) = sheetA (fun _ => zeR) fun _ => zeB := sheet_congr (fun d _ => if_neg (by omega)) (fun d _ => if_neg (by omega))
section
variable {w : World} {B : Nat} {ρ : Nat → Part} {i bk bx bs : Nat} {A : Nt} {C : Nat → Nat → Int} {V : Nat → Nat → Value}
attribute [local go_sem ↓] Go.wp_at_zero Go.wp_at_succ ld35 st35 alc35
attribute [local go_sem] vb_ptr vo_ptr cellsL_agg size_setCells
set_option maxHeartbeats 4000000 in
set_option maxRecDepth 100000 in
theorem ksheet (h : KN w B ρ i bk bx bs A C V) (r : Nat) :
    Calls Try.prog 23 #[.pointer (some ⟨bk, 0, none⟩), .int .i64 r] w fun e w' => e = .returned (.agg (sheetA (shR A r A.n) (shB A r A.n))) ∧ Below w.heap.size w w' := by
  have H : Hid (KN w B ρ i bk bx bs A C V) := h
  have lk := h.lt
  have n5 := h.g.n5
  clear h
  have n0 := (Whole.new w 53 (sheetA (fun _ => zeR) fun _ => zeB)).alloc (.cells (sheetA (fun _ => zeR) fun _ => zeB) 53)
  have n1 := Whole.new (w.alloc (.cells (sheetA (fun _ => zeR) fun _ => zeB) 53)) 53 (sheetA (fun _ => zeR) fun _ => zeB)
  simp only [World.size_alloc] at n1
  have hb : Below w.heap.size w ((w.alloc (.cells (sheetA (fun _ => zeR) fun _ => zeB) 53)).alloc (.cells (sheetA (fun _ => zeR) fun _ => zeB) 53)) := ((Below.refl _ _).alloc (Nat.le_refl _) _).alloc (by simp) _
  have N0 : Hid (Whole ((w.alloc (.cells (sheetA (fun _ => zeR) fun _ => zeB) 53)).alloc (.cells (sheetA (fun _ => zeR) fun _ => zeB) 53)) w.heap.size 53 (sheetA (fun _ => zeR) fun _ => zeB)) := n0
  have N1 : Hid (Whole ((w.alloc (.cells (sheetA (fun _ => zeR) fun _ => zeB) 53)).alloc (.cells (sheetA (fun _ => zeR) fun _ => zeB) 53)) (w.heap.size + 1) 53 (sheetA (fun _ => zeR) fun _ => zeB)) := n1
  have HB : Hid (Below w.heap.size w ((w.alloc (.cells (sheetA (fun _ => zeR) fun _ => zeB) 53)).alloc (.cells (sheetA (fun _ => zeR) fun _ => zeB) 53))) := hb
  clear n0 n1 hb
  have hne : w.heap.size ≠ w.heap.size + 1 := by omega
  have hle : w.heap.size ≤ w.heap.size + 1 := by omega
  go_enter Try.func23, Try.ntmps23
  go_wp2
  go_loopw [6] (fun v wr => ∃ k : Nat, k ≤ A.n ∧ v = .int .i64 k ∧ Whole wr w.heap.size 53 (sheetA (fun _ => zeR) fun _ => zeB) ∧ Whole wr (w.heap.size + 1) 53 (sheetA (shR A r k) (shB A r k)) ∧ Below w.heap.size w wr) (fun v _ => A.n - (intOf v).toNat)
  case atStart => exact ⟨0, by omega, rfl, N0.out, by rw [sh_zero]; exact N1.out, HB.out⟩
  case round =>
    clear N0 N1 HB
    obtain ⟨k, hk, rfl, q0, q1, q2⟩ := hrel
    have hK := H.out.below q2
    have c1 := hK.k1
    by_cases hkn : k < A.n
    · have hkn' : (k : Int) < (A.n : Int) := by omega
      have hk5 : k < 5 := by omega
      have hk5' : (k : Int) < 5 := by omega
      by_cases hkr : k = r
      · subst hkr
        have Q1 : Hid (Whole wr (w.heap.size + 1) 53 (sheetA (shR A k (k + 1)) (shB A k (k + 1)))) := by rw [shR_skip, shB_skip]; exact q1
        have Q0 : Hid (Whole wr w.heap.size 53 (sheetA (fun _ => zeR) fun _ => zeB)) := q0
        have Q2 : Hid (Below w.heap.size w wr) := q2
        clear q0 q1 q2 hK
        go_wp2
        go_roundw
        case rel => exact ⟨k + 1, by omega, by go_num, Q0.out, Q1.out, Q2.out⟩
        case measure => simp [intOf]; omega
      · have hkr' : ((k : Int) == (r : Int)) = false := by rw [beq_eq_false_iff_ne]; omega
        have c0 := hK.k0
        have HSR : Hid (setN (shR A r k) k (routeN A r k) = shR A r (k + 1)) := shR_step A r k hkr
        have HSB : Hid (setN (shB A r k) k (bestN A r k) = shB A r (k + 1)) := shB_step A r k hkr
        have CR : Hid (∀ W : World, KN W B ρ i bk bx bs A C V → Calls Try.prog 28 #[.pointer (some ⟨bx, 0, none⟩), .int .i64 r, .int .i64 k] W fun e w' => e = .returned (.tuple #[.agg #[.int .i64 (routeN A r k).nx, .int .i64 (routeN A r k).sq, .int .i64 (routeN A r k).mt, .int .i64 (routeN A r k).ag, .int .i64 (routeN A r k).st], .int .i64 (asksE A r k)]) ∧ Below W.heap.size W w') := fun W hW => kroute hW r k
        have CB : Hid (∀ W : World, KN W B ρ i bk bx bs A C V → Calls Try.prog 29 #[.pointer (some ⟨bx, 0, none⟩), .int .i64 r, .int .i64 k] W fun e w' => e = .returned (.tuple #[.agg #[.int .i64 (bestN A r k).sq, .int .i64 (bestN A r k).mt], .int .i64 (asksE A r k)]) ∧ Below W.heap.size W w') := fun W hW => kbest hW r k
        have Q0 : Hid (Whole wr w.heap.size 53 (sheetA (fun _ => zeR) fun _ => zeB)) := q0
        have Q1 : Hid (Whole wr (w.heap.size + 1) 53 (sheetA (shR A r k) (shB A r k))) := q1
        have Q2 : Hid (Below w.heap.size w wr) := q2
        have HK : Hid (KN wr B ρ i bk bx bs A C V) := hK
        clear q0 q1 q2 hK
        generalize routeN A r k = X at *
        generalize bestN A r k = Y at *
        generalize asksE A r k = Z at *
        generalize shR A r k = R0 at *
        generalize shB A r k = E0 at *
        obtain ⟨x1, x2, x3, x4, x5⟩ := X
        obtain ⟨y1, y2⟩ := Y
        go_wp2_with fail
        refine ((CR.out) _ HK.out).mono ?_
        rintro e w1 ⟨rfl, b1⟩
        have p1 := Q1.out.below b1
        have e1 := sheet_ro R0 E0 k hk5
        have c2 := p1.cell
        have f2 := p1.frozen
        have d1 : w1.cell? ⟨w.heap.size + 1, k * 5, none⟩ = some (I (R0 k).nx) := by rw [c2]; exact e1.1
        have d2 : w1.cell? ⟨w.heap.size + 1, k * 5 + 1, none⟩ = some (I (R0 k).sq) := by rw [c2]; exact e1.2.1
        have d3 : w1.cell? ⟨w.heap.size + 1, k * 5 + 2, none⟩ = some (I (R0 k).mt) := by rw [c2]; exact e1.2.2.1
        have d4 : w1.cell? ⟨w.heap.size + 1, k * 5 + 3, none⟩ = some (I (R0 k).ag) := by rw [c2]; exact e1.2.2.2.1
        have d5 : w1.cell? ⟨w.heap.size + 1, k * 5 + 4, none⟩ = some (I (R0 k).st) := by rw [c2]; exact e1.2.2.2.2
        have p2 := p1.sheetR k hk5 ⟨x1, x2, x3, x4, x5⟩
        have B1 := Q2.out.trans (b1.mono Q2.out.size)
        have B2 := ((((B1.setCell (p := ⟨w.heap.size + 1, k * 5, none⟩) hle (I x1)).setCell (p := ⟨w.heap.size + 1, k * 5 + 1, none⟩) hle (I x2)).setCell (p := ⟨w.heap.size + 1, k * 5 + 2, none⟩) hle (I x3)).setCell (p := ⟨w.heap.size + 1, k * 5 + 3, none⟩) hle (I x4)).setCell (p := ⟨w.heap.size + 1, k * 5 + 4, none⟩) hle (I x5)
        have O2 := (((((Q0.out.below b1).setCell (p := ⟨w.heap.size + 1, k * 5, none⟩) hne (I x1)).setCell (p := ⟨w.heap.size + 1, k * 5 + 1, none⟩) hne (I x2)).setCell (p := ⟨w.heap.size + 1, k * 5 + 2, none⟩) hne (I x3)).setCell (p := ⟨w.heap.size + 1, k * 5 + 3, none⟩) hne (I x4)).setCell (p := ⟨w.heap.size + 1, k * 5 + 4, none⟩) hne (I x5)
        have hK2 := H.out.below B2
        have g0 := hK2.k0
        have P2 : Hid (Whole (((((w1.setCell ⟨w.heap.size + 1, k * 5, none⟩ (I x1)).setCell ⟨w.heap.size + 1, k * 5 + 1, none⟩ (I x2)).setCell ⟨w.heap.size + 1, k * 5 + 2, none⟩ (I x3)).setCell ⟨w.heap.size + 1, k * 5 + 3, none⟩ (I x4)).setCell ⟨w.heap.size + 1, k * 5 + 4, none⟩ (I x5)) (w.heap.size + 1) 53 (sheetA (setN R0 k ⟨x1, x2, x3, x4, x5⟩) E0)) := p2
        have HB2 : Hid (Below w.heap.size w (((((w1.setCell ⟨w.heap.size + 1, k * 5, none⟩ (I x1)).setCell ⟨w.heap.size + 1, k * 5 + 1, none⟩ (I x2)).setCell ⟨w.heap.size + 1, k * 5 + 2, none⟩ (I x3)).setCell ⟨w.heap.size + 1, k * 5 + 3, none⟩ (I x4)).setCell ⟨w.heap.size + 1, k * 5 + 4, none⟩ (I x5))) := B2
        have HO2 : Hid (Whole (((((w1.setCell ⟨w.heap.size + 1, k * 5, none⟩ (I x1)).setCell ⟨w.heap.size + 1, k * 5 + 1, none⟩ (I x2)).setCell ⟨w.heap.size + 1, k * 5 + 2, none⟩ (I x3)).setCell ⟨w.heap.size + 1, k * 5 + 3, none⟩ (I x4)).setCell ⟨w.heap.size + 1, k * 5 + 4, none⟩ (I x5)) w.heap.size 53 (sheetA (fun _ => zeR) fun _ => zeB)) := O2
        have HK2 : Hid (KN (((((w1.setCell ⟨w.heap.size + 1, k * 5, none⟩ (I x1)).setCell ⟨w.heap.size + 1, k * 5 + 1, none⟩ (I x2)).setCell ⟨w.heap.size + 1, k * 5 + 2, none⟩ (I x3)).setCell ⟨w.heap.size + 1, k * 5 + 3, none⟩ (I x4)).setCell ⟨w.heap.size + 1, k * 5 + 4, none⟩ (I x5)) B ρ i bk bx bs A C V) := hK2
        clear p1 e1 c2 p2 B1 B2 O2 hK2 b1
        go_wp2_with fail
        refine ((CB.out) _ HK2.out).mono ?_
        rintro e w2 ⟨rfl, b2⟩
        have p3 := P2.out.below b2
        have e3 := sheet_be (setN R0 k ⟨x1, x2, x3, x4, x5⟩) E0 k hk5
        have f3 := p3.frozen
        have d6 : w2.cell? ⟨w.heap.size + 1, 25 + k * 2, none⟩ = some (I (E0 k).sq) := by rw [p3.cell]; exact e3.1
        have d7 : w2.cell? ⟨w.heap.size + 1, 25 + k * 2 + 1, none⟩ = some (I (E0 k).mt) := by rw [p3.cell]; exact e3.2
        have p4 := p3.sheetB k hk5 ⟨y1, y2⟩
        have B3 := HB2.out.trans (b2.mono HB2.out.size)
        have B4 := (B3.setCell (p := ⟨w.heap.size + 1, 25 + k * 2, none⟩) hle (I y1)).setCell (p := ⟨w.heap.size + 1, 25 + k * 2 + 1, none⟩) hle (I y2)
        have O4 := ((HO2.out.below b2).setCell (p := ⟨w.heap.size + 1, 25 + k * 2, none⟩) hne (I y1)).setCell (p := ⟨w.heap.size + 1, 25 + k * 2 + 1, none⟩) hne (I y2)
        have P4 : Hid (Whole ((w2.setCell ⟨w.heap.size + 1, 25 + k * 2, none⟩ (I y1)).setCell ⟨w.heap.size + 1, 25 + k * 2 + 1, none⟩ (I y2)) (w.heap.size + 1) 53 (sheetA (setN R0 k ⟨x1, x2, x3, x4, x5⟩) (setN E0 k ⟨y1, y2⟩))) := p4
        have HB4 : Hid (Below w.heap.size w ((w2.setCell ⟨w.heap.size + 1, 25 + k * 2, none⟩ (I y1)).setCell ⟨w.heap.size + 1, 25 + k * 2 + 1, none⟩ (I y2))) := B4
        have HO4 : Hid (Whole ((w2.setCell ⟨w.heap.size + 1, 25 + k * 2, none⟩ (I y1)).setCell ⟨w.heap.size + 1, 25 + k * 2 + 1, none⟩ (I y2)) w.heap.size 53 (sheetA (fun _ => zeR) fun _ => zeB)) := O4
        clear p3 e3 p4 B3 B4 O4 b2 P2 HB2 HO2 HK2 d1 d2 d3 d4 d5
        go_wp2
        go_roundw
        case rel => exact ⟨k + 1, by omega, by go_num, HO4.out, by rw [← HSR.out, ← HSB.out]; exact P4.out, HB4.out⟩
        case measure => simp [intOf]; omega
    · have hkn' : ¬ (k : Int) < (A.n : Int) := by omega
      have e : k = A.n := by omega
      subst e
      obtain ⟨j1, j2⟩ := q1.mid (sheet_size _ _)
      have j3 := q0.there (sheet_size _ _)
      have ag := aggOk_sheet (shR A r A.n) (shB A r A.n)
      have Q0 : Hid (Whole wr w.heap.size 53 (sheetA (fun _ => zeR) fun _ => zeB)) := q0
      have Q2 : Hid (Below w.heap.size w wr) := q2
      clear q0 q1 q2 hK
      go_wp2
      refine bodyPost_ret (v := .agg (sheetA (shR A r A.n) (shB A r A.n))) (results_cell0 (t := 53) rfl _ _ w.heap.size (sheetA (shR A r A.n) (shB A r A.n)) rfl (Q0.out.over (sheetA (shR A r A.n) (shB A r A.n)) rfl) _ Try.underlying53 rfl (by rw [size35]; rfl)) rfl ⟨rfl, Below.setCells Q2.out (Nat.le_refl _) _ _⟩
end
end Go.Proofs.Ytdoodnbobpijoaa

namespace Go.Proofs.Ytdoodnbobpijoaa
open Go.RowKit

/-- A number of Go. -/
def Fits (k : Int) : Prop := -9223372036854775808 ≤ k ∧ k ≤ 9223372036854775807
/-- What the walk of a step wants. -/
theorem does_head {w : World} {B : Nat} {ρ : Nat → Part} {i bk bx bs : Nat} {A : Nt} {V : Nat → Nat → Value} (h : KI w B ρ i bk bx bs A V) (hn : ∀ k, w.heap.size ≤ k → ρ k = (0, 0)) (hB : B ≤ w.heap.size) (k a b c : Int) (fk : Fits k) (fa : Fits a) (fb : Fits b) (fc : Fits c) :
    ∃ kk x y, DoH w B ρ i bk bx bs A V k a b c kk x y ∧ (0 ≤ kk ∧ kk < 20) ∧ doesN A ⟨k, a, b, c⟩ = stepN A kk (x : Nat) (y : Nat) c := by
  have b0 := WS_below w k a b c
  have n0 : (0 : Int) < (A.n : Int) := by have := h.g.n2; omega
  have pa := pickI_ok a A.n n0
  have pb := pickI_ok b A.n n0
  have ea : pickI a A.n = ((pickI a A.n).toNat : Int) := by omega
  have eb : pickI b A.n = ((pickI b A.n).toNat : Int) := by omega
  refine ⟨pickI k 20, (pickI a A.n).toNat, (pickI b A.n).toNat, ⟨h.below b0, fun j hj => hn j (Nat.le_trans b0.size hj), hn, Nat.le_trans hB b0.size, rfl, ea, eb, by omega, by omega, fk, fa, fb, fc⟩, pickI_ok k 20 (by omega), ?_⟩
  unfold doesN
  rw [← ea, ← eb]
end Go.Proofs.Ytdoodnbobpijoaa

namespace Go.Proofs.Ytdoodnbobpijoaa
open Go.ChangeShapes Go.WideShapes Go.ChangeAt Go.RowKit Go.Deep

theorem Try.cellsStep : Try.prog.cellsOf 31 = 4 := by kernel_rfl
theorem list_four {α : Type} : ∀ (l : List α), l.length = 4 → ∃ a b c d, l = [a, b, c, d]
  | [a, b, c, d], _ => ⟨a, b, c, d, rfl⟩
  | [], h => by simp at h
  | [_], h => by simp at h
  | [_, _], h => by simp at h
  | [_, _, _], h => by simp at h
  | _ :: _ :: _ :: _ :: _ :: _, h => by simp at h
theorem fieldsStep : ∃ fs : Array Field, Try.prog.underlying 31 = some (.struct fs) ∧ fs.size = 4 ∧ ∀ i, i < 4 → ∃ f, fs[i]? = some f ∧ f.type = 3 ∧ f.offset = i := by
  refine ⟨_, Try.underlying31, rfl, fun i hi => ?_⟩
  rcases i with _ | _ | _ | _ | i
  · exact ⟨_, rfl, rfl, rfl⟩
  · exact ⟨_, rfl, rfl, rfl⟩
  · exact ⟨_, rfl, rfl, rfl⟩
  · exact ⟨_, rfl, rfl, rfl⟩
  · omega
/-- A raw step, opened: four numbers. -/
theorem open_step {H : Type} {enc : TypeId × Value → H} {w : World} {base : Nat} {spare : Nat → Bool} {held : Bool} {n : Nat} {cs : List Value} {x : DataW H × List MemPlace}
    (h : DataW.trod enc Try.prog w base spare held n 31 cs = some x) : ∃ s : St, cs = [.int .i64 s.k, .int .i64 s.a, .int .i64 s.b, .int .i64 s.c] ∧ Fits s.k ∧ Fits s.a ∧ Fits s.b ∧ Fits s.c := by
  obtain ⟨fs, hu, hsz, hfs⟩ := fieldsStep
  obtain ⟨xs, m, _, _, hl, hx, hf⟩ := DataW.trod_struct hu h
  rw [Try.cellsStep] at hl
  obtain ⟨c0, c1, c2, c3, rfl⟩ := list_four cs hl
  have g : ∀ i, i < 4 → ∃ v : Int, (([c0, c1, c2, c3] : List Value).drop i).take 1 = [.int .i64 v] ∧ Fits v := fun i hi => by
    obtain ⟨f, h1, h2, h3⟩ := hfs i hi
    have := hf i f h1
    rw [h2, h3, Try.cellsI, List.getElem?_eq_getElem (by omega)] at this
    obtain ⟨v, e, _, wv⟩ := DataW.trod_int Try.underlying3 this
    exact ⟨v, e, bounds_i64 wv⟩
  obtain ⟨k, e0, w0⟩ := g 0 (by omega)
  obtain ⟨a, e1, w1⟩ := g 1 (by omega)
  obtain ⟨b, e2, w2⟩ := g 2 (by omega)
  obtain ⟨c, e3, w3⟩ := g 3 (by omega)
  simp at e0 e1 e2 e3
  subst e0 e1 e2 e3
  exact ⟨⟨k, a, b, c⟩, rfl, w0, w1, w2, w3⟩
/-- Raw steps, as they lie in memory. -/
structure Ste (w : World) (sb so len : Nat) (f : Nat → St) : Prop where
  at_ : ∀ i, i < len → w.cell? ⟨sb, so + i * 4, none⟩ = some (.int .i64 (f i).k) ∧ w.cell? ⟨sb, so + i * 4 + 1, none⟩ = some (.int .i64 (f i).a) ∧ w.cell? ⟨sb, so + i * 4 + 2, none⟩ = some (.int .i64 (f i).b) ∧ w.cell? ⟨sb, so + i * 4 + 3, none⟩ = some (.int .i64 (f i).c)
  fits : ∀ i, i < len → Fits (f i).k ∧ Fits (f i).a ∧ Fits (f i).b ∧ Fits (f i).c
theorem Ste.of {w w' : World} {sb so len : Nat} {f : Nat → St} (h : Ste w sb so len f) (hb : w'.heap[sb]? = w.heap[sb]?) : Ste w' sb so len f :=
  ⟨fun i hi => by
    have hc : ∀ o, w'.cell? ⟨sb, o, none⟩ = w.cell? ⟨sb, o, none⟩ := fun o => World.cell?_of_block (w := w) hb
    rw [hc, hc, hc, hc]; exact h.at_ i hi, h.fits⟩
theorem open_steps {H : Type} {enc : TypeId × Value → H} {W : World} {spare : Nat → Bool} {held : Bool} {a0 : Option Addr} {len cap : Nat} {d0 : DataW H} {p : List MemPlace} (h0 : ∃ n, DataW.trod enc Try.prog W 0 spare held n 26 (Value.slice a0 len cap).cells.toList = some (d0, p)) :
    len = 0 ∨ ∃ ab ao, a0 = some ⟨ab, ao, none⟩ ∧ ∃ f, Ste W ab ao len f := by
  obtain ⟨fuel, hf⟩ := h0
  rcases open_slice Try.underlying26 hf with ⟨hcs, _⟩ | ⟨a, l, c, m, n, D, Pq, hcs, _, hl, hm, hmm, hx, hel⟩
  · simp [Value.cells] at hcs
    exact .inl hcs.2.1
  · simp [Value.cells] at hcs
    obtain ⟨rfl, rfl, rfl⟩ := hcs
    by_cases hl0 : len = 0
    · exact .inl hl0
    · refine .inr ?_
      obtain ⟨ab, ao, asp⟩ := a
      rw [Try.cellsStep] at hel
      have hlm : len ≤ m := by
        have hq : m = if spare ab = true then cap else len := by simpa using hmm
        rw [hq]; split <;> omega
      have hops : ∀ i, i < len → ∃ t : St, (∀ j, j < 4 → W.cell? (((⟨ab, ao, asp⟩ : Addr).add (i * 4)).add j) = ([.int .i64 t.k, .int .i64 t.a, .int .i64 t.b, .int .i64 t.c] : List Value)[j]?) ∧ Fits t.k ∧ Fits t.a ∧ Fits t.b ∧ Fits t.c := fun i hi => by
        obtain ⟨cs', h1, h2⟩ := hel i (by omega)
        obtain ⟨s, rfl, ws⟩ := open_step h2
        exact ⟨s, (World.cells?_some h1).2.2, ws⟩
      have hin : Inhabited St := ⟨⟨0, 0, 0, 0⟩⟩
      obtain ⟨F, hF⟩ := choose_lt hops
      have hsp : asp = none := by
        have := (hF 0 (by omega)).1 0 (by omega)
        have := World.cell?_spot (this.trans rfl)
        simpa [Addr.add] using this
      subst hsp
      have hc : ∀ i, i < len → ∀ j, j < 4 → W.cell? ⟨ab, ao + i * 4 + j, none⟩ = ([.int .i64 (F i).k, .int .i64 (F i).a, .int .i64 (F i).b, .int .i64 (F i).c] : List Value)[j]? := fun i hi j hj => by
        have := (hF i hi).1 j hj
        rw [Addr.add_mid, Addr.add_mid] at this
        exact this
      exact ⟨ab, ao, rfl, F, fun i hi => ⟨(hc i hi 0 (by omega)).trans rfl, (hc i hi 1 (by omega)).trans rfl, (hc i hi 2 (by omega)).trans rfl, (hc i hi 3 (by omega)).trans rfl⟩, fun i hi => (hF i hi).2⟩
end Go.Proofs.Ytdoodnbobpijoaa

namespace Go.Proofs.Ytdoodnbobpijoaa
open Go.ChangeShapes Go.WideShapes Go.ChangeAt Go.RowKit Go.Deep

/-! ### A script of raw steps, played -/
def playF (A : Nt) (f : Nat → St) : Nat → Nt
  | 0 => A
  | k + 1 => doesN (playF A f k) (f k)
theorem playF_tame {A : Nt} {s : Int} (h : Tame A s) (f : Nat → St) : ∀ k : Nat, Tame (playF A f k) (s + k)
  | 0 => by simpa [playF] using h
  | k + 1 => by
    have := (playF_tame h f k).does (f k)
    rw [show s + ((k + 1 : Nat) : Int) = s + (k : Int) + 1 by omega]
    exact this
theorem playF_n {A : Nt} (g : Good A) (f : Nat → St) : ∀ k, Good (playF A f k) ∧ (playF A f k).n = A.n
  | 0 => ⟨g, rfl⟩
  | k + 1 => by
    have ih := playF_n g f k
    have s := Steps.does ih.1 (f k)
    exact ⟨s.good, s.n.trans ih.2⟩
section
variable {w : World} {B : Nat} {ρ : Nat → Part} {i bk bx bs : Nat} {A : Nt} {V : Nat → Nat → Value}
theorem kdoes (h : KI w B ρ i bk bx bs A V) (hn : ∀ k, w.heap.size ≤ k → ρ k = (0, 0)) (hB : B ≤ w.heap.size) (s : St) (fs : Fits s.k ∧ Fits s.a ∧ Fits s.b ∧ Fits s.c) :
    Calls Try.prog 15 #[.pointer (some ⟨bk, 0, none⟩), .agg #[.int .i64 s.k, .int .i64 s.a, .int .i64 s.b, .int .i64 s.c]] w fun e w' => e = .returned (.tuple #[]) ∧ PostK B i ρ bk bx bs (doesN A s) w w' := by
  obtain ⟨kk, x, y, h1, h2, h3⟩ := does_head h hn hB s.k s.a s.b s.c fs.1 fs.2.1 fs.2.2.1 fs.2.2.2
  have e : doesN A s = stepN A kk (x : Nat) (y : Nat) s.c := h3
  rw [e]
  exact does_some h1 h2.2
end
/-- No block is a net's: what was there stays. -/
theorem Aft.all {i : Nat} {ρ' : Nat → Part} {w w' : World} (h : Aft i (fun _ => (0, 0)) ρ' w w') : Below w.heap.size w w' :=
  ⟨h.only.os, h.only.tape, h.only.output, h.only.size, fun k hk => h.only.block k hk (by simp)⟩
/-- The net at the head of a script, with its number of routers. -/
theorem size_pick (size : Int) : ∃ n : Nat, 2 + pickI size 4 = (n : Int) ∧ 2 ≤ n ∧ n ≤ 5 := by
  have hp := pickI_ok size 4 (by omega)
  exact ⟨(2 + pickI size 4).toNat, by omega, by omega, by omega⟩
theorem who_pick (who : Int) (n : Nat) (h : 0 < n) : ∃ r : Nat, pickI who n = (r : Int) ∧ r < n := by
  have hp := pickI_ok who n (by omega)
  exact ⟨(pickI who n).toNat, by omega, by omega⟩
/-- The script: nothing, or raw steps that lie in memory. -/
def Scp (w : World) (sa : Option Addr) (len : Nat) (f : Nat → St) : Prop := len = 0 ∨ ∃ sb so, sa = some ⟨sb, so, none⟩ ∧ sb < w.heap.size ∧ Ste w sb so len f
theorem Scp.at {w w' : World} {sa : Option Addr} {len k : Nat} {f : Nat → St} (h : Scp w sa len f) (hb : Below w.heap.size w w') (hk : k < len) : ∃ sb so, sa = some ⟨sb, so, none⟩ ∧ (w'.cell? ⟨sb, so + k * 4, none⟩ = some (.int .i64 (f k).k) ∧ w'.cell? ⟨sb, so + k * 4 + 1, none⟩ = some (.int .i64 (f k).a) ∧ w'.cell? ⟨sb, so + k * 4 + 2, none⟩ = some (.int .i64 (f k).b) ∧ w'.cell? ⟨sb, so + k * 4 + 3, none⟩ = some (.int .i64 (f k).c)) ∧ (Fits (f k).k ∧ Fits (f k).a ∧ Fits (f k).b ∧ Fits (f k).c) := by
  rcases h with h | ⟨sb, so, e, hsb, h⟩
  · omega
  · exact ⟨sb, so, e, (h.of (hb.block sb hsb)).at_ k hk, h.fits k hk⟩
theorem open_int {H : Type} {enc : TypeId × Value → H} {W : World} {spare : Nat → Bool} {held : Bool} {n : Int} {d : DataW H} {p : List MemPlace} (h : DataW.Trod enc Try.prog W 0 spare held 3 (.int .i64 n) d p) : Fits n := by
  obtain ⟨m, hm⟩ := h
  obtain ⟨x, e, _, wf⟩ := DataW.trod_int Try.underlying3 hm
  have hx : n = x := by simpa [Value.cells] using e
  rw [hx]; exact bounds_i64 wf
theorem open_scp {H : Type} {enc : TypeId × Value → H} {W : World} {spare : Nat → Bool} {held : Bool} {a0 : Option Addr} {len cap : Nat} {d0 : DataW H} {p : List MemPlace} (h0 : ∃ n, DataW.trod enc Try.prog W 0 spare held n 26 (Value.slice a0 len cap).cells.toList = some (d0, p)) : ∃ f, Scp W a0 len f := by
  by_cases hl : len = 0
  · exact ⟨fun _ => ⟨0, 0, 0, 0⟩, .inl hl⟩
  · rcases open_steps h0 with h | ⟨ab, ao, e, f, hf⟩
    · exact absurd h hl
    · exact ⟨f, .inr ⟨ab, ao, e, lt_of_cell (hf.at_ 0 (by omega)).1, hf⟩⟩
end Go.Proofs.Ytdoodnbobpijoaa

namespace Go.Proofs.Ytdoodnbobpijoaa
open Go.RowKit

/-! ### What the rows' loops want of the pure half -/
theorem Tame.restart {A : Nt} {s : Int} (h : Tame A s) (r : Nat) : Tame (restartC A r) (s + 1) := by
  have := h.step 18 r 0 0
  simpa [stepN] using this
theorem tick_goes {A : Nt} {r : Nat} (h : Good A ∧ r < A.n ∧ (A.rs r).dn = false) (j : Nat) : upE (tickTo A r j) r = 0 ∧ tickC (tickTo A r j) r = tickTo A r (j + 1) := by
  obtain ⟨g, hr, hd⟩ := h
  obtain ⟨t1, t2, t3, t4, t5⟩ := tickTo_ok g r j
  have hu : upE (tickTo A r j) r = 0 := upE_nat (by rw [t2]; exact hr) (by rw [t5]; exact hd)
  refine ⟨hu, ?_⟩
  unfold tickC
  rw [if_pos hu, Int.toNat_natCast]; rfl
theorem tickTo_sq (A : Nt) (r j : Nat) : ∀ k, ((tickTo A r k).rs j).t.sq = (A.rs j).t.sq
  | 0 => rfl
  | k + 1 => by
    show ((tickN (tickTo A r k) r).rs j).t.sq = _
    by_cases e : j = r
    · subst e; rw [tickN_same]; exact tickTo_sq A j j k
    · rw [tickN_other _ _ _ e]; exact tickTo_sq A r j k
theorem tickTo_tame {A : Nt} {s : Int} (h : Tame A s) (r k : Nat) : Tame (tickTo A r k) s := by
  obtain ⟨t1, t2, t3, t4, t5⟩ := tickTo_ok h.good r k
  exact ⟨t1, fun j hj => by rw [tickTo_sq]; exact h.sq j (by rw [← t2]; exact hj), fun a b => by rw [t3]; exact h.c5 a b⟩
theorem aged_eq {A : Nt} {r n : Nat} (hA : A.n = n) (h3 : (tickTo A r 3).n = n) : agedN A r = lastTo (dumpTill (tickTo (allN (restTo (tickTo A r 3) n)) r 3) r) r n := by
  unfold agedN wokenN
  rw [hA, h3]
theorem aged_facts {A : Nt} {s : Int} {r n : Nat} (h : Tame A s) (hA : A.n = n) (hr : r < n) : (∀ j, j < n → ((agedN A r).rs j).dn = false) ∧ (∀ d, (((agedN A r).rs r).t.ro d).nx < 0) ∧ (∀ y d, y < n → y ≠ r → d ≠ r → (((agedN A r).rs y).t.ro d).nx ≠ r) ∧ (agedN A r).n = n ∧ Good (agedN A r) := by
  subst hA
  obtain ⟨a1, a2, a3, a4, a5⟩ := aged h r hr
  exact ⟨a3, a4, a5, a2, a1⟩
theorem woken_at {M : Nt} {s : Int} {n : Nat} (h : Tame M s) (hn : M.n = n) : Calm (allN (restTo M n)) ∧ (allN (restTo M n)).n = n := by
  subst hn
  obtain ⟨w1, w2, _⟩ := woken_ok h
  exact ⟨w1, w2⟩
theorem last_ok {D : Nt} {r n : Nat} (g : Good D) (hn : D.n = n) : ∀ b, Good (lastTo D r b) ∧ (lastTo D r b).n = n
  | 0 => ⟨g, hn⟩
  | b + 1 => by
    obtain ⟨i1, i2⟩ := last_ok (r := r) g hn b
    have s := Steps.deliver i1 (r : Int) (b : Int) (((lastTo D r b).wa r b).length - 1 : Int)
    exact ⟨s.good, s.n.trans i2⟩
theorem last_zero (D : Nt) (r b : Nat) (h : waitN (lastTo D r b) r b = 0) : lastTo D r (b + 1) = lastTo D r b := by
  show deliverC (lastTo D r b) r (b : Nat) (((lastTo D r b).wa r b).length - 1 : Int) = _
  generalize lastTo D r b = M at *
  unfold deliverC
  rw [if_neg]
  unfold msgE
  unfold waitN at h
  by_cases hp : pairE M.n r b = 0
  · rw [if_pos hp, Int.toNat_natCast, Int.toNat_natCast] at h
    rw [if_neg (by simpa using hp), if_pos (.inl (by omega))]
    omega
  · rw [if_pos hp]; exact hp
theorem last_some (D : Nt) (r b : Nat) (h : waitN (lastTo D r b) r b ≠ 0) : deliverC (lastTo D r b) r b (waitN (lastTo D r b) r b - 1) = lastTo D r (b + 1) := by
  show _ = deliverC (lastTo D r b) r (b : Nat) (((lastTo D r b).wa r b).length - 1 : Int)
  generalize lastTo D r b = M at *
  have e : waitN M r b = ((M.wa r b).length : Nat) := by
    unfold waitN at h ⊢
    by_cases hp : pairE M.n r b = 0
    · rw [if_pos hp, Int.toNat_natCast, Int.toNat_natCast]
    · rw [if_neg hp] at h; exact absurd rfl h
  rw [e]
section
variable {w : World} {B : Nat} {ρ : Nat → Part} {i bk bx bs : Nat} {A : Nt} {C : Nat → Nat → Int} {V : Nat → Nat → Value}
/-- Any trace of routers that there are. -/
theorem some_trace (h : KN w B ρ i bk bx bs A C V) (r d : Nat) (hr : r < A.n) (hd : d < A.n) :
    Calls Try.prog 19 #[.pointer (some ⟨bx, 0, none⟩), .int .i64 r, .int .i64 d] w fun e w' => ∃ nv, e = .returned (.tuple #[nv, .int .i64 0]) ∧ w'.ownsRow w.heap.size 3 1 nv (trace A r d).length (ints (trace A r d)) ∧ Below w.heap.size w w' := by
  have hb : isB A.n (r : Int) = true ∧ isB A.n (d : Int) = true := ⟨isB_nat hr, isB_nat hd⟩
  have := ktrace h r d
  have hE : traceE A r d = 0 := by unfold traceE; rw [if_pos hb]
  have hT : traceL A r d = trace A r d := by unfold traceL; rw [if_pos hb]; rfl
  rw [hE, hT] at this
  exact this
theorem lone_trace (h : KN w B ρ i bk bx bs A C V) (r d : Nat) (hr : r < A.n) (hd : d < A.n) (hx : ((A.rs r).t.ro d).nx < 0) :
    Calls Try.prog 19 #[.pointer (some ⟨bx, 0, none⟩), .int .i64 r, .int .i64 d] w fun e w' => ∃ ad cap, e = .returned (.tuple #[.slice ad 1 cap, .int .i64 0]) ∧ Below w.heap.size w w' := by
  refine (some_trace h r d hr hd).mono ?_
  rintro e w' ⟨nv, h1, h2, h3⟩
  have hT : trace A r d = [r] := trF_end (.inr (.inr hx)) _
  rw [hT] at h2
  obtain ⟨ad, cap, hv⟩ := row_form h2
  exact ⟨ad, cap, by rw [h1, hv]; rfl, h3⟩
theorem asks_up {A : Nt} {y d : Nat} (hy : y < A.n) (hd : d < A.n) (hyd : y ≠ d) (hu : (A.rs y).dn = false) : asksE A y d = 0 := by
  unfold asksE
  rw [if_neg (by rw [pairE_nat hy hd hyd]; simp), Int.toNat_natCast, hu]; rfl
theorem route_by (h : KN w B ρ i bk bx bs A C V) (y d r : Nat) (hy : y < A.n) (hd : d < A.n) (hyd : y ≠ d) (hu : (A.rs y).dn = false) (hx : ((A.rs y).t.ro d).nx ≠ r) :
    Calls Try.prog 28 #[.pointer (some ⟨bx, 0, none⟩), .int .i64 y, .int .i64 d] w fun e w' => ∃ x1 x2 x3 x4 x5, e = .returned (.tuple #[.agg #[.int .i64 x1, .int .i64 x2, .int .i64 x3, .int .i64 x4, .int .i64 x5], .int .i64 0]) ∧ x1 ≠ (r : Int) ∧ Below w.heap.size w w' := by
  refine (kroute h y d).mono ?_
  rintro e w' ⟨h1, h2⟩
  have ha := asks_up hy hd hyd hu
  have hR : routeN A y d = (A.rs y).t.ro d := by unfold routeN; rw [if_pos ha]; rfl
  rw [ha, hR] at h1
  exact ⟨_, _, _, _, _, h1, hx, h2⟩
end
end Go.Proofs.Ytdoodnbobpijoaa

namespace Go.Proofs.Ytdoodnbobpijoaa
open Go.RowKit

/-! ### Sheets compared -/
def bestsA (E : Nat → Bs) : Array Value := #[I (E 0).sq, I (E 0).mt, I (E 1).sq, I (E 1).mt, I (E 2).sq, I (E 2).mt, I (E 3).sq, I (E 3).mt, I (E 4).sq, I (E 4).mt]
def routesA (R : Nat → Rt) : Array Value := #[I (R 0).nx, I (R 0).sq, I (R 0).mt, I (R 0).ag, I (R 0).st, I (R 1).nx, I (R 1).sq, I (R 1).mt, I (R 1).ag, I (R 1).st, I (R 2).nx, I (R 2).sq, I (R 2).mt, I (R 2).ag, I (R 2).st, I (R 3).nx, I (R 3).sq, I (R 3).mt, I (R 3).ag, I (R 3).st, I (R 4).nx, I (R 4).sq, I (R 4).mt, I (R 4).ag, I (R 4).st]
section
variable (w : World)
theorem eq_int (d : Nat) (a : Int) : (Op.equalIn (d + 1) 3 (I a) (I a)).run Try.prog w = .ok true w := by
  rw [run_equalIn_int w d 3 .i64 .i64 a a Try.underlying3]
  simp
theorem eq_best (d : Nat) (a b : Int) : (Op.equalIn (d + 2) 50 (.agg #[I a, I b]) (.agg #[I a, I b])).run Try.prog w = .ok true w := by
  rw [run_equalIn_struct w (d + 1) 50 _ _ (by kernel_rfl) (by kernel_rfl)]
  have p1 : (part 3 #[I a, I b] 0).run Try.prog w = .ok (I a) w := by kernel_rfl
  have p2 : (part 3 #[I a, I b] 1).run Try.prog w = .ok (I b) w := by kernel_rfl
  simp [Program.fieldsOf, Try.underlying50, Op.eqFields, p1, p2, eq_int]
theorem eq_route (k : Nat) (a b c d e : Int) : (Op.equalIn (k + 2) 47 (.agg #[I a, I b, I c, I d, I e]) (.agg #[I a, I b, I c, I d, I e])).run Try.prog w = .ok true w := by
  rw [run_equalIn_struct w (k + 1) 47 _ _ (by kernel_rfl) (by kernel_rfl)]
  have p0 : (part 3 #[I a, I b, I c, I d, I e] 0).run Try.prog w = .ok (I a) w := by kernel_rfl
  have p1 : (part 3 #[I a, I b, I c, I d, I e] 1).run Try.prog w = .ok (I b) w := by kernel_rfl
  have p2 : (part 3 #[I a, I b, I c, I d, I e] 2).run Try.prog w = .ok (I c) w := by kernel_rfl
  have p3 : (part 3 #[I a, I b, I c, I d, I e] 3).run Try.prog w = .ok (I d) w := by kernel_rfl
  have p4 : (part 3 #[I a, I b, I c, I d, I e] 4).run Try.prog w = .ok (I e) w := by kernel_rfl
  simp [Program.fieldsOf, Try.underlying47, Op.eqFields, p0, p1, p2, p3, p4, eq_int]
theorem range5 : List.range 5 = [0, 1, 2, 3, 4] := by decide
theorem eq_bests (k : Nat) (E : Nat → Bs) : (Op.equalIn (k + 3) 51 (.agg (bestsA E)) (.agg (bestsA E))).run Try.prog w = .ok true w := by
  obtain ⟨i, hi⟩ := Option.isSome_iff_exists.1 (show (Try.prog.info? 50).isSome = true by kernel_rfl)
  rw [run_equalIn_array w (k + 2) _ _ Try.underlying51 hi, range5, show Try.prog.cellsOf 50 = 2 by kernel_rfl]
  have p0 : (part 50 (bestsA E) (0 * 2)).run Try.prog w = .ok (.agg #[I (E 0).sq, I (E 0).mt]) w := by kernel_rfl
  have p1 : (part 50 (bestsA E) (1 * 2)).run Try.prog w = .ok (.agg #[I (E 1).sq, I (E 1).mt]) w := by kernel_rfl
  have p2 : (part 50 (bestsA E) (2 * 2)).run Try.prog w = .ok (.agg #[I (E 2).sq, I (E 2).mt]) w := by kernel_rfl
  have p3 : (part 50 (bestsA E) (3 * 2)).run Try.prog w = .ok (.agg #[I (E 3).sq, I (E 3).mt]) w := by kernel_rfl
  have p4 : (part 50 (bestsA E) (4 * 2)).run Try.prog w = .ok (.agg #[I (E 4).sq, I (E 4).mt]) w := by kernel_rfl
  simp only [Op.eqItems, Sem.run_bind, p0, p1, p2, p3, p4, Result.andThen_ok, eq_best, Bool.not_true, Bool.false_eq_true, if_false, Sem.run_pure]
theorem eq_routes (k : Nat) (R : Nat → Rt) : (Op.equalIn (k + 3) 48 (.agg (routesA R)) (.agg (routesA R))).run Try.prog w = .ok true w := by
  obtain ⟨i, hi⟩ := Option.isSome_iff_exists.1 (show (Try.prog.info? 47).isSome = true by kernel_rfl)
  rw [run_equalIn_array w (k + 2) _ _ Try.underlying48 hi, range5, show Try.prog.cellsOf 47 = 5 by kernel_rfl]
  have p0 : (part 47 (routesA R) (0 * 5)).run Try.prog w = .ok (.agg #[I (R 0).nx, I (R 0).sq, I (R 0).mt, I (R 0).ag, I (R 0).st]) w := by kernel_rfl
  have p1 : (part 47 (routesA R) (1 * 5)).run Try.prog w = .ok (.agg #[I (R 1).nx, I (R 1).sq, I (R 1).mt, I (R 1).ag, I (R 1).st]) w := by kernel_rfl
  have p2 : (part 47 (routesA R) (2 * 5)).run Try.prog w = .ok (.agg #[I (R 2).nx, I (R 2).sq, I (R 2).mt, I (R 2).ag, I (R 2).st]) w := by kernel_rfl
  have p3 : (part 47 (routesA R) (3 * 5)).run Try.prog w = .ok (.agg #[I (R 3).nx, I (R 3).sq, I (R 3).mt, I (R 3).ag, I (R 3).st]) w := by kernel_rfl
  have p4 : (part 47 (routesA R) (4 * 5)).run Try.prog w = .ok (.agg #[I (R 4).nx, I (R 4).sq, I (R 4).mt, I (R 4).ag, I (R 4).st]) w := by kernel_rfl
  simp only [Op.eqItems, Sem.run_bind, p0, p1, p2, p3, p4, Result.andThen_ok, eq_route, Bool.not_true, Bool.false_eq_true, if_false, Sem.run_pure]
theorem eq_sheet (k : Nat) (R : Nat → Rt) (E : Nat → Bs) : (Op.equalIn (k + 4) 53 (.agg (sheetA R E)) (.agg (sheetA R E))).run Try.prog w = .ok true w := by
  rw [run_equalIn_struct w (k + 3) 53 _ _ (by kernel_rfl) (by kernel_rfl)]
  have p0 : (part 48 (sheetA R E) 0).run Try.prog w = .ok (.agg (routesA R)) w := by kernel_rfl
  have p1 : (part 51 (sheetA R E) 25).run Try.prog w = .ok (.agg (bestsA E)) w := by kernel_rfl
  simp [Program.fieldsOf, Try.underlying53, Op.eqFields, p0, p1, eq_routes, eq_bests]
/-! The rules of a walk -/
structure TwinS (u v : Value) : Prop where
  ex : ∃ R E, u = .agg (sheetA R E) ∧ v = .agg (sheetA R E)
structure TwinB (u v : Value) : Prop where
  ex : ∃ E, u = .agg (bestsA E) ∧ v = .agg (bestsA E)
variable (ρ : Operand → Value) (x y : Operand) (ds : Option Tmp) (ty t' : TypeId) (ps : String) (af : Array Edge) (g : Option (Nat × Bool))
theorem neSheet (h : TwinS (ρ x) (ρ y)) : (execOp ρ { dst := ds, op := .binOp .neq 53 x y t', type := ty, pos := ps, after := af, guard := g }).run Try.prog w = .ok (.value (.bool false)) w := by
  obtain ⟨R, E, h1, h2⟩ := h.ex
  have hg : (eqGuard .neq 53 x y (.agg (sheetA R E)) (.agg (sheetA R E))).run Try.prog w = .ok () w := by kernel_rfl
  have he : (Op.equal 53 (.agg (sheetA R E)) (.agg (sheetA R E))).run Try.prog w = .ok true w := eq_sheet w _ R E
  have hb : (binOp .neq 53 (.agg (sheetA R E)) (.agg (sheetA R E))).run Try.prog w = .ok (.bool false) w := by
    show (Op.equal 53 (.agg (sheetA R E)) (.agg (sheetA R E)) >>= fun b => pure (Value.bool (!b)) : Sem Value).run Try.prog w = _
    rw [Sem.run_bind, he]; rfl
  simp only [execOp, h1, h2, Sem.run_bind, hg, Result.andThen_ok, hb, Sem.run_pure]
theorem eqSheet (h : TwinS (ρ x) (ρ y)) : (execOp ρ { dst := ds, op := .binOp .eql 53 x y t', type := ty, pos := ps, after := af, guard := g }).run Try.prog w = .ok (.value (.bool true)) w := by
  obtain ⟨R, E, h1, h2⟩ := h.ex
  have hg : (eqGuard .eql 53 x y (.agg (sheetA R E)) (.agg (sheetA R E))).run Try.prog w = .ok () w := by kernel_rfl
  have he : (Op.equal 53 (.agg (sheetA R E)) (.agg (sheetA R E))).run Try.prog w = .ok true w := eq_sheet w _ R E
  have hb : (binOp .eql 53 (.agg (sheetA R E)) (.agg (sheetA R E))).run Try.prog w = .ok (.bool true) w := by
    show (Op.equal 53 (.agg (sheetA R E)) (.agg (sheetA R E)) >>= fun b => pure (Value.bool b) : Sem Value).run Try.prog w = _
    rw [Sem.run_bind, he]; rfl
  simp only [execOp, h1, h2, Sem.run_bind, hg, Result.andThen_ok, hb, Sem.run_pure]
theorem neBests (h : TwinB (ρ x) (ρ y)) : (execOp ρ { dst := ds, op := .binOp .neq 51 x y t', type := ty, pos := ps, after := af, guard := g }).run Try.prog w = .ok (.value (.bool false)) w := by
  obtain ⟨E, h1, h2⟩ := h.ex
  have hg : (eqGuard .neq 51 x y (.agg (bestsA E)) (.agg (bestsA E))).run Try.prog w = .ok () w := by kernel_rfl
  have he : (Op.equal 51 (.agg (bestsA E)) (.agg (bestsA E))).run Try.prog w = .ok true w := eq_bests w _ E
  have hb : (binOp .neq 51 (.agg (bestsA E)) (.agg (bestsA E))).run Try.prog w = .ok (.bool false) w := by
    show (Op.equal 51 (.agg (bestsA E)) (.agg (bestsA E)) >>= fun b => pure (Value.bool (!b)) : Sem Value).run Try.prog w = _
    rw [Sem.run_bind, he]; rfl
  simp only [execOp, h1, h2, Sem.run_bind, hg, Result.andThen_ok, hb, Sem.run_pure]
end
end Go.Proofs.Ytdoodnbobpijoaa

namespace Go.Proofs.Ytdoodnbobpijoaa
open Go.RowKit

/-! ### Two nets beside one another, and what else is kept -/
structure Kb where
  b : Nat
  t : TypeId
  C : Array Value
/-- Which blocks the two nets are. -/
structure Ids where
  k1 : Nat
  x1 : Nat
  s1 : Nat
  k2 : Nat
  x2 : Nat
  s2 : Nat
def TwoN (w0 w : World) (d : Ids) (A1 A2 : Nt) (L : List Kb) : Prop :=
  ∃ ρ V1 V2, KI w w0.heap.size ρ 0 d.k1 d.x1 d.s1 A1 V1 ∧ KI w w0.heap.size ρ 1 d.k2 d.x2 d.s2 A2 V2 ∧ (∀ k, w.heap.size ≤ k → ρ k = (0, 0)) ∧ (∀ k, k < w0.heap.size → ρ k = (0, 0)) ∧ Below w0.heap.size w0 w ∧ ∀ x ∈ L, Whole w x.b x.t x.C ∧ ρ x.b = (0, 0)
section
variable {w0 w : World} {d : Ids} {A1 A2 : Nt} {L : List Kb}
theorem TwoN.low (h : TwoN w0 w d A1 A2 L) : Below w0.heap.size w0 w := let ⟨_, _, _, _, _, _, _, b, _⟩ := h; b
theorem TwoN.kept (h : TwoN w0 w d A1 A2 L) (x : Kb) (hx : x ∈ L) : Whole w x.b x.t x.C := let ⟨_, _, _, _, _, _, _, _, l⟩ := h; (l x hx).1
theorem TwoN.cx (h : TwoN w0 w d A1 A2 L) : w.cell? ⟨d.k1, 0, none⟩ = some (.pointer (some ⟨d.x1, 0, none⟩)) ∧ w.cell? ⟨d.k1, 1, none⟩ = some (.int .i64 A1.n) := let ⟨_, _, _, k, _⟩ := h; ⟨k.k0, k.k1⟩
theorem TwoN.cy (h : TwoN w0 w d A1 A2 L) : w.cell? ⟨d.k2, 0, none⟩ = some (.pointer (some ⟨d.x2, 0, none⟩)) ∧ w.cell? ⟨d.k2, 1, none⟩ = some (.int .i64 A2.n) := let ⟨_, _, _, _, k, _⟩ := h; ⟨k.k0, k.k1⟩
theorem TwoN.low_aft {ρ ρ' : Nat → Part} {i : Nat} {w' : World} (hb : Below w0.heap.size w0 w) (hl : ∀ k, k < w0.heap.size → ρ k = (0, 0)) (a : Aft i ρ ρ' w w') : Below w0.heap.size w0 w' :=
  ⟨a.only.os.trans hb.os, a.only.tape.trans hb.tape, a.only.output.trans hb.output, Nat.le_trans hb.size a.only.size, fun k hk => (a.only.block k (Nat.lt_of_lt_of_le hk hb.size) (by rw [hl k hk]; simp)).trans (hb.block k hk)⟩
theorem TwoN.kept_aft {ρ ρ' : Nat → Part} {i : Nat} {w' : World} (l : ∀ x ∈ L, Whole w x.b x.t x.C ∧ ρ x.b = (0, 0)) (a : Aft i ρ ρ' w w') : ∀ x ∈ L, Whole w' x.b x.t x.C ∧ ρ' x.b = (0, 0) := fun x hx =>
  ⟨(l x hx).1.of (a.only.block _ (l x hx).1.lt (by rw [(l x hx).2]; simp)), (a.old _ (l x hx).1.lt).trans (l x hx).2⟩
/-- A call on the first net. -/
theorem TwoN.x (h : TwoN w0 w d A1 A2 L) {A' : Nt} {F : FuncId} {args : Array Value} {E : Ending} (hc : ∀ ρ V, KI w w0.heap.size ρ 0 d.k1 d.x1 d.s1 A1 V → (∀ k, w.heap.size ≤ k → ρ k = (0, 0)) → w0.heap.size ≤ w.heap.size → Calls Try.prog F args w fun e w' => e = E ∧ PostK w0.heap.size 0 ρ d.k1 d.x1 d.s1 A' w w') :
    Calls Try.prog F args w fun e w' => e = E ∧ TwoN w0 w' d A' A2 L := by
  obtain ⟨ρ, V1, V2, hx, hy, hn, hl, hb, l⟩ := h
  refine (hc ρ V1 hx hn hb.size).mono fun e w' ⟨he, ρ', V', k, a⟩ => ⟨he, ρ', V', V2, k, hy.aft a (by omega), a.new, fun j hj => (a.old j (Nat.lt_of_lt_of_le hj hb.size)).trans (hl j hj), TwoN.low_aft hb hl a, TwoN.kept_aft l a⟩
/-- A call on the second net. -/
theorem TwoN.y (h : TwoN w0 w d A1 A2 L) {A' : Nt} {F : FuncId} {args : Array Value} {E : Ending} (hc : ∀ ρ V, KI w w0.heap.size ρ 1 d.k2 d.x2 d.s2 A2 V → (∀ k, w.heap.size ≤ k → ρ k = (0, 0)) → w0.heap.size ≤ w.heap.size → Calls Try.prog F args w fun e w' => e = E ∧ PostK w0.heap.size 1 ρ d.k2 d.x2 d.s2 A' w w') :
    Calls Try.prog F args w fun e w' => e = E ∧ TwoN w0 w' d A1 A' L := by
  obtain ⟨ρ, V1, V2, hx, hy, hn, hl, hb, l⟩ := h
  refine (hc ρ V2 hy hn hb.size).mono fun e w' ⟨he, ρ', V', k, a⟩ => ⟨he, ρ', V1, V', hx.aft a (by omega), k, a.new, fun j hj => (a.old j (Nat.lt_of_lt_of_le hj hb.size)).trans (hl j hj), TwoN.low_aft hb hl a, TwoN.kept_aft l a⟩
theorem TwoN.below {w' : World} (h : TwoN w0 w d A1 A2 L) (b : Below w.heap.size w w') : TwoN w0 w' d A1 A2 L := by
  obtain ⟨ρ, V1, V2, hx, hy, hn, hl, hb, l⟩ := h
  exact ⟨ρ, V1, V2, hx.below b, hy.below b, fun k hk => hn k (Nat.le_trans b.size hk), hl, hb.trans (b.mono hb.size), fun x hx => ⟨(l x hx).1.below b, (l x hx).2⟩⟩
/-- A block more. -/
theorem TwoN.more {w' : World} {t : TypeId} {C : Array Value} (h : TwoN w0 w d A1 A2 L) (b : Below w.heap.size w w') (n : Whole w' w.heap.size t C) : TwoN w0 w' d A1 A2 (⟨w.heap.size, t, C⟩ :: L) := by
  obtain ⟨ρ, V1, V2, hx, hy, hn, hl, hb, l⟩ := h
  refine ⟨ρ, V1, V2, hx.below b, hy.below b, fun k hk => hn k (Nat.le_trans b.size hk), hl, hb.trans (b.mono hb.size), fun x hx => ?_⟩
  rcases List.mem_cons.1 hx with e | e
  · subst e; exact ⟨n, hn _ (Nat.le_refl _)⟩
  · exact ⟨(l x e).1.below b, (l x e).2⟩
theorem TwoN.rx (h : TwoN w0 w d A1 A2 L) : ∃ ρ V, KI w w0.heap.size ρ 0 d.k1 d.x1 d.s1 A1 V := let ⟨ρ, V1, _, k, _⟩ := h; ⟨ρ, V1, k⟩
theorem TwoN.ry (h : TwoN w0 w d A1 A2 L) : ∃ ρ V, KI w w0.heap.size ρ 1 d.k2 d.x2 d.s2 A2 V := let ⟨ρ, _, V2, _, k, _⟩ := h; ⟨ρ, V2, k⟩
theorem TwoN.sheetx (h : TwoN w0 w d A1 A2 L) (r : Nat) : Calls Try.prog 23 #[.pointer (some ⟨d.k1, 0, none⟩), .int .i64 r] w fun e w' => e = .returned (.agg (sheetA (shR A1 r A1.n) (shB A1 r A1.n))) ∧ TwoN w0 w' d A1 A2 L := by
  obtain ⟨ρ, V, k⟩ := h.rx
  exact (ksheet k r).mono fun e w' ⟨he, b⟩ => ⟨he, h.below b⟩
theorem TwoN.sheety (h : TwoN w0 w d A1 A2 L) (r : Nat) : Calls Try.prog 23 #[.pointer (some ⟨d.k2, 0, none⟩), .int .i64 r] w fun e w' => e = .returned (.agg (sheetA (shR A2 r A2.n) (shB A2 r A2.n))) ∧ TwoN w0 w' d A1 A2 L := by
  obtain ⟨ρ, V, k⟩ := h.ry
  exact (ksheet k r).mono fun e w' ⟨he, b⟩ => ⟨he, h.below b⟩
theorem TwoN.waitx (h : TwoN w0 w d A1 A2 L) (r : Nat) : Calls Try.prog 24 #[.pointer (some ⟨d.k1, 0, none⟩), .int .i64 r] w fun e w' => e = .returned (.int .i64 (wsum A1 r A1.n)) ∧ w = w' := by
  obtain ⟨ρ, V, k⟩ := h.rx
  exact kwaiting_all k r
theorem TwoN.waity (h : TwoN w0 w d A1 A2 L) (r : Nat) : Calls Try.prog 24 #[.pointer (some ⟨d.k2, 0, none⟩), .int .i64 r] w fun e w' => e = .returned (.int .i64 (wsum A2 r A2.n)) ∧ w = w' := by
  obtain ⟨ρ, V, k⟩ := h.ry
  exact kwaiting_all k r
end
/-! ### What a failing disk does not turn -/
theorem asksE_fail (A : Nt) (r : Nat) (k a b : Int) : asksE (failN A r k) a b = asksE A a b := by
  unfold asksE; rw [(failN_t A r k a.toNat).2.2]; rfl
theorem shR_fail (A : Nt) (r : Nat) (k : Int) (q n : Nat) : shR (failN A r k) q n = shR A q n := by
  funext d
  unfold shR routeN
  rw [asksE_fail, (failN_t A r k _).1]
theorem shB_fail (A : Nt) (r : Nat) (k : Int) (q n : Nat) : shB (failN A r k) q n = shB A q n := by
  funext d
  unfold shB bestN
  rw [asksE_fail, (failN_t A r k _).1]
theorem wsum_fail (A : Nt) (r : Nat) (k : Int) (q : Nat) : ∀ n, wsum (failN A r k) q n = wsum A q n
  | 0 => rfl
  | n + 1 => by
    show wsum (failN A r k) q n + waitN (failN A r k) q n = wsum A q n + waitN A q n
    rw [wsum_fail A r k q n]; rfl
theorem fail_goes {A : Nt} {r : Nat} (hr : r < A.n) (k : Int) (h0 : 0 ≤ k) (h3 : k ≤ 3) : failE A r k = 0 ∧ failC A r k = failN A r k := by
  have hE : failE A r k = 0 := by unfold failE; rw [if_pos (isB_nat hr), if_neg (by omega)]
  refine ⟨hE, ?_⟩
  unfold failC
  rw [if_pos hE, Int.toNat_natCast]
end Go.Proofs.Ytdoodnbobpijoaa

namespace Go.Proofs.Ytdoodnbobpijoaa
open Go.RowKit

/-! ### One net, and what else is kept -/
def OneN (w0 w : World) (bk bx bs : Nat) (A : Nt) (L : List Kb) : Prop :=
  ∃ ρ V, KI w w0.heap.size ρ 0 bk bx bs A V ∧ Aft 0 (fun _ => (0, 0)) ρ w0 w ∧ ∀ x ∈ L, Whole w x.b x.t x.C ∧ ρ x.b = (0, 0)
section
variable {w0 w : World} {bk bx bs : Nat} {A : Nt} {L : List Kb}
theorem OneN.low (h : OneN w0 w bk bx bs A L) : Below w0.heap.size w0 w := let ⟨_, _, _, a, _⟩ := h; a.all
theorem OneN.good (h : OneN w0 w bk bx bs A L) : Good A := let ⟨_, _, k, _, _⟩ := h; k.g
theorem OneN.kept (h : OneN w0 w bk bx bs A L) (x : Kb) (hx : x ∈ L) : Whole w x.b x.t x.C := let ⟨_, _, _, _, l⟩ := h; (l x hx).1
theorem OneN.c (h : OneN w0 w bk bx bs A L) : w.cell? ⟨bk, 0, none⟩ = some (.pointer (some ⟨bx, 0, none⟩)) ∧ w.cell? ⟨bk, 1, none⟩ = some (.int .i64 A.n) := let ⟨_, _, k, _⟩ := h; ⟨k.k0, k.k1⟩
theorem OneN.rd (h : OneN w0 w bk bx bs A L) : ∃ ρ V, KI w w0.heap.size ρ 0 bk bx bs A V := let ⟨ρ, V, k, _⟩ := h; ⟨ρ, V, k⟩
theorem OneN.call (h : OneN w0 w bk bx bs A L) {A' : Nt} {F : FuncId} {args : Array Value} {E : Ending} (hc : ∀ ρ V, KI w w0.heap.size ρ 0 bk bx bs A V → (∀ k, w.heap.size ≤ k → ρ k = (0, 0)) → w0.heap.size ≤ w.heap.size → Calls Try.prog F args w fun e w' => e = E ∧ PostK w0.heap.size 0 ρ bk bx bs A' w w') :
    Calls Try.prog F args w fun e w' => e = E ∧ OneN w0 w' bk bx bs A' L := by
  obtain ⟨ρ, V, hx, ha, l⟩ := h
  exact (hc ρ V hx ha.new ha.only.size).mono fun e w' ⟨he, ρ', V', k, a⟩ => ⟨he, ρ', V', k, ha.trans a, TwoN.kept_aft l a⟩
theorem OneN.below {w' : World} (h : OneN w0 w bk bx bs A L) (b : Below w.heap.size w w') : OneN w0 w' bk bx bs A L := by
  obtain ⟨ρ, V, hx, ha, l⟩ := h
  exact ⟨ρ, V, hx.below b, ha.trans (Aft.below b ha.new), fun x hx => ⟨(l x hx).1.below b, (l x hx).2⟩⟩
theorem OneN.more {w' : World} {t : TypeId} {C : Array Value} (h : OneN w0 w bk bx bs A L) (b : Below w.heap.size w w') (n : Whole w' w.heap.size t C) : OneN w0 w' bk bx bs A (⟨w.heap.size, t, C⟩ :: L) := by
  obtain ⟨ρ, V, hx, ha, l⟩ := h
  refine ⟨ρ, V, hx.below b, ha.trans (Aft.below b ha.new), fun x hx => ?_⟩
  rcases List.mem_cons.1 hx with e | e
  · subst e; exact ⟨n, ha.new _ (Nat.le_refl _)⟩
  · exact ⟨(l x e).1.below b, (l x e).2⟩
theorem OneN.sheet (h : OneN w0 w bk bx bs A L) (r : Nat) : Calls Try.prog 23 #[.pointer (some ⟨bk, 0, none⟩), .int .i64 r] w fun e w' => e = .returned (.agg (sheetA (shR A r A.n) (shB A r A.n))) ∧ OneN w0 w' bk bx bs A L := by
  obtain ⟨ρ, V, k⟩ := h.rd
  exact (ksheet k r).mono fun e w' ⟨he, b⟩ => ⟨he, h.below b⟩
end
/-! ### What was saved -/
theorem step_held {D B : Nt} {r n : Nat} (h : Held D B r) (hn : B.n = n) (s : St) (hc : (6 < pickI s.k 20 ∧ pickI s.k 20 < 17) ∨ (1 < pickI s.k 20 ∧ pickI s.k 20 < 7 ∧ pickI s.a n ≠ r)) : Held D (doesN B s) r := by
  refine h.trans ?_
  unfold doesN
  rw [hn]
  exact Held.step h.good r _ _ _ _ hc
/-- The rows of the sheets, ahead and behind. -/
structure SavR (n r : Nat) (RW RI : Nat → Rt) : Prop where
  hot : ∀ d, d < 5 → d ≠ r → d < n → 0 ≤ (RW d).nx → RI d = ⟨(RW d).nx, (RW d).sq, (RW d).mt, 0, 1⟩
  cold : ∀ d, d < 5 → (d = r ∨ n ≤ d ∨ (RW d).nx < 0) → RI d = RW d
theorem saved_rows {A B : Nt} {r n : Nat} (g : Good A) (hn : A.n = n) (hr : r < n) (hdn : (A.rs r).dn = false) (h : Held (dumpTill A r) B r) :
    SavR n r (shR (dumpTill A r) r n) (shR (restartN (crashN B r) r) r n) ∧ shB (restartN (crashN B r) r) r n = shB (dumpTill A r) r n := by
  subst hn
  have key := fun d => saved_route g r hr hdn h d
  have hD : ((dumpTill A r).rs r).dn = false := by rw [(dumpTill_same A r).2.2]; exact hdn
  have hX : ((restartN (crashN B r) r).rs r).dn = false := by unfold restartN; rw [upR_same]
  have hXn : (restartN (crashN B r) r).n = A.n := h.n
  have aD : ∀ d, d < A.n → d ≠ r → asksE (dumpTill A r) r d = 0 := fun d hd hdr => asks_up (A := dumpTill A r) hr hd (fun e => hdr e.symm) hD
  have aX : ∀ d, d < A.n → d ≠ r → asksE (restartN (crashN B r) r) r d = 0 := fun d hd hdr => asks_up (by rw [hXn]; exact hr) (by rw [hXn]; exact hd) (fun e => hdr e.symm) hX
  have rD : ∀ d, d < A.n → d ≠ r → shR (dumpTill A r) r A.n d = ((dumpTill A r).rs r).t.ro d := fun d hd hdr => by
    unfold shR; rw [if_pos ⟨hd, hdr⟩]; unfold routeN; rw [if_pos (aD d hd hdr)]; rfl
  have rX : ∀ d, d < A.n → d ≠ r → shR (restartN (crashN B r) r) r A.n d = ((restartN (crashN B r) r).rs r).t.ro d := fun d hd hdr => by
    unfold shR; rw [if_pos ⟨hd, hdr⟩]; unfold routeN; rw [if_pos (aX d hd hdr)]; rfl
  refine ⟨⟨fun d _ hdr hd h0 => ?_, fun d _ hc => ?_⟩, ?_⟩
  · rw [rD d hd hdr] at h0 ⊢
    rw [rX d hd hdr, (key d).2, if_pos h0]
  · by_cases hd : d < A.n ∧ d ≠ r
    · have h0 : (shR (dumpTill A r) r A.n d).nx < 0 := by omega
      rw [rD d hd.1 hd.2] at h0 ⊢
      rw [rX d hd.1 hd.2, (key d).2, if_neg (by omega)]
    · show (if d < A.n ∧ d ≠ r then _ else _) = if d < A.n ∧ d ≠ r then _ else _
      rw [if_neg hd, if_neg hd]
  · funext d
    show (if d < A.n ∧ d ≠ r then _ else _) = if d < A.n ∧ d ≠ r then _ else _
    by_cases hd : d < A.n ∧ d ≠ r
    · rw [if_pos hd, if_pos hd]
      unfold bestN
      rw [if_pos (aX d hd.1 hd.2), if_pos (aD d hd.1 hd.2), Int.toNat_natCast, Int.toNat_natCast]
      exact (key d).1
    · rw [if_neg hd, if_neg hd]
theorem crash_goes {B : Nt} {r n : Nat} (hn : B.n = n) (hr : r < n) (hdn : (B.rs r).dn = false) : upE B r = 0 ∧ crashC B r = crashN B r := by
  have hu : upE B r = 0 := upE_nat (by rw [hn]; exact hr) hdn
  refine ⟨hu, ?_⟩
  unfold crashC
  rw [if_pos hu, Int.toNat_natCast]
theorem crashed_restart (B : Nt) (r : Nat) {n : Nat} (hn : B.n = n) (hr : r < n) : restartE (crashN B r) r = 0 ∧ restartC (crashN B r) r = restartN (crashN B r) r := by
  have hE : restartE (crashN B r) r = 0 := by
    unfold restartE
    rw [if_pos (isB_nat (by show r < B.n; omega)), Int.toNat_natCast, if_pos (by unfold crashN; rw [upR_same])]
  refine ⟨hE, ?_⟩
  unfold restartC
  rw [if_pos hE, Int.toNat_natCast]
theorem next_pick {r n : Nat} (n2 : 2 ≤ n) (hr : r < n) : ∃ q : Nat, pickI ((r : Int) + 1) n = (q : Int) ∧ q < n ∧ r ≠ q := by
  have e : pickI ((r : Int) + 1) n = ((r + 1) % n : Nat) := by
    unfold pickI
    rw [if_neg (by omega)]
    simp
  refine ⟨(r + 1) % n, e, Nat.mod_lt _ (by omega), ?_⟩
  by_cases h : r + 1 = n
  · rw [h, Nat.mod_self]; omega
  · rw [Nat.mod_eq_of_lt (by omega)]; omega
theorem down_route {w : World} {B0 : Nat} {ρ : Nat → Part} {i bk bx bs : Nat} {B : Nt} {C : Nat → Nat → Int} {V : Nat → Nat → Value} {r q n : Nat} (h : KN w B0 ρ i bk bx bs (crashN B r) C V) (hn : B.n = n) (hr : r < n) (hq : q < n) (hrq : r ≠ q) :
    Calls Try.prog 28 #[.pointer (some ⟨bx, 0, none⟩), .int .i64 r, .int .i64 q] w fun e w' => e = .returned (.tuple #[.agg #[.int .i64 0, .int .i64 0, .int .i64 0, .int .i64 0, .int .i64 0], .int .i64 5]) ∧ Below w.heap.size w w' := by
  have ha : asksE (crashN B r) r q = 5 := by
    unfold asksE
    rw [if_neg (by rw [show (crashN B r).n = n from hn, pairE_nat hr hq hrq]; simp), Int.toNat_natCast, if_pos (by unfold crashN; rw [upR_same])]
  have hR : routeN (crashN B r) r q = ⟨0, 0, 0, 0, 0⟩ := by unfold routeN; rw [if_neg (by rw [ha]; decide)]
  have := kroute h r q
  rw [ha, hR] at this
  exact this
theorem size10 : (Try.prog.info? 51).map (·.size) = some 10 := by kernel_rfl
theorem ld10 (w : World) (ρ : Operand → Value) (x : Operand) (ds : Option Tmp) (ty : TypeId) (ps : String) (af : Array Edge) (g : Option (Nat × Bool))
    (h1 : ρ x = .pointer (some ⟨vb (ρ x), vo (ρ x), none⟩)) (h2 : MidOk w (vb (ρ x)) (vo (ρ x)) 10) :
    (execOp ρ { dst := ds, op := .load 51 x, type := ty, pos := ps, after := af, guard := g }).run Try.prog w = .ok (.value (.agg (midA w (vb (ρ x)) (vo (ρ x)) 10))) w :=
  load_rule Try.underlying51 rfl size10 w ρ x ds ty ps af g h1 h2
theorem bests_at (R : Nat → Rt) (E : Nat → Bs) : ∀ j, j < 10 → (sheetA R E)[25 + j]? = (bestsA E)[j]? := by
  intro j hj
  rcases (by omega : j = 0 ∨ j = 1 ∨ j = 2 ∨ j = 3 ∨ j = 4 ∨ j = 5 ∨ j = 6 ∨ j = 7 ∨ j = 8 ∨ j = 9) with rfl | rfl | rfl | rfl | rfl | rfl | rfl | rfl | rfl | rfl <;> rfl
theorem Whole.bests {w : World} {b : Nat} {t : TypeId} {R : Nat → Rt} {E : Nat → Bs} (h : Whole w b t (sheetA R E)) : midA w b 25 10 = bestsA E ∧ MidOk w b 25 10 := midA_eq rfl fun j v hv => by
  have hj : j < 10 := by
    rcases Nat.lt_or_ge j 10 with h | hge
    · exact h
    · have : (bestsA E).toList[j]? = none := List.getElem?_eq_none (by rw [Array.length_toList]; exact hge)
      rw [this] at hv; cases hv
  rw [h.cell, bests_at R E j hj, ← Array.getElem?_toList]; exact hv
end Go.Proofs.Ytdoodnbobpijoaa

namespace Go.Proofs.Ytdoodnbobpijoaa
open Go.RowKit

/-! ### Saved -/
theorem Below.drewQ {n : Nat} {a b : World} (h : Below n a b) (q : Nat) : Below n a (b.drewN q) := ⟨h.os, h.tape, h.output, h.size, h.block⟩
attribute [local go_sem ↓] Go.wp_at_zero Go.wp_at_succ ld35 st35 alc35 ld10 neBests
attribute [local go_sem] vb_ptr vo_ptr cellsL_agg size_setCells
set_option maxHeartbeats 16000000 in
set_option maxRecDepth 100000 in
theorem saved_any (w : World) (size : Int) (fs : Fits size) (sa : Option Addr) (len cap : Nat) (f : Nat → St) (hS : Scp w sa len f) (who : Int) (fw : Fits who) (sa2 : Option Addr) (len2 cap2 : Nat) (f2 : Nat → St) (hS2 : Scp w sa2 len2 f2) :
    Calls Try.prog 9 #[.int .i64 size, .slice sa len cap, .int .i64 who, .slice sa2 len2 cap2] w fun e w' => e = .returned (.bool true) ∧ Below w.heap.size w w' := by
  obtain ⟨n, hn, n2, n5⟩ := size_pick size
  have KL : Hid (Calls Try.prog 14 #[.int .i64 size] w fun e w' => ∃ bk bx bs, e = .returned (.pointer (some ⟨bk, 0, none⟩)) ∧ PostK w.heap.size 0 (fun _ => (0, 0)) bk bx bs (laidN n) w w') := klaid size n fs.1 fs.2 hn (fun _ _ => rfl) (Nat.le_refl _)
  have HG : Hid (Tame (laidN n) 0 ∧ (laidN n).n = n) := ⟨laid_tame n n2 n5, (laid_good n n2 n5).2⟩
  have HS : Hid (Scp w sa len f) := hS
  obtain ⟨r, hr0, hrn⟩ := who_pick who n (by omega)
  have PW : Hid (∀ W, Calls Try.prog 20 #[.int .i64 who, .int .i64 n] W fun e w' => e = .returned (.int .i64 r) ∧ W = w') := fun W => by
    have := kpick who n W fw.1 fw.2 (by omega) (by omega)
    rw [hr0] at this; exact this
  clear hr0
  have HS2 : Hid (Scp w sa2 len2 f2) := hS2
  clear hS hn fs fw hS2
  go_enter Try.func9, Try.ntmps9
  go_wp2_with fail
  refine (KL.out).mono ?_
  rintro e w1 ⟨bk, bx, bs, rfl, ρ1, V1, q1, q2⟩
  clear KL
  have Q1 : Hid (KI w1 w.heap.size ρ1 0 bk bx bs (laidN n) V1) := q1
  have Q2 : Hid (Aft 0 (fun _ => (0, 0)) ρ1 w w1) := q2
  clear q1 q2
  go_wp2_with fail
  go_loopw [10] (fun v wr => ∃ k : Nat, k ≤ len ∧ k ≤ 100 ∧ v = .int .i64 k ∧ ∃ ρ' V', KI wr w.heap.size ρ' 0 bk bx bs (playF (laidN n) f k) V' ∧ Aft 0 (fun _ => (0, 0)) ρ' w wr) (fun v _ => 100 - (intOf v).toNat)
  case atStart => exact ⟨0, by omega, by omega, rfl, ρ1, V1, Q1.out, Q2.out⟩
  case round =>
    clear Q1 Q2
    obtain ⟨k, hk, hkm, rfl, ρ2, V2, q1, q2⟩ := hrel
    by_cases hgo : k < len ∧ k < 100
    · obtain ⟨hkl, hk1⟩ := hgo
      have hkl' : (k : Int) < (len : Int) := by omega
      have hk1' : (k : Int) < 100 := by omega
      have hk0 : (0 : Int) ≤ (k : Int) := by omega
      obtain ⟨sb, so, rfl, ⟨s0, s1, s2, s3⟩, ft⟩ := HS.out.at q2.all hkl
      have CX : Hid (Calls Try.prog 15 #[.pointer (some ⟨bk, 0, none⟩), .agg #[.int .i64 (f k).k, .int .i64 (f k).a, .int .i64 (f k).b, .int .i64 (f k).c]] wr fun e w' => e = .returned (.tuple #[]) ∧ PostK w.heap.size 0 ρ2 bk bx bs (playF (laidN n) f (k + 1)) wr w') := kdoes q1 q2.new q2.only.size (f k) ft
      have Q2 : Hid (Aft 0 (fun _ => (0, 0)) ρ2 w wr) := q2
      clear q1 q2 ft
      go_wp2_with (go_at_call 15; refine (CX.out).mono ?_; rintro e w2 ⟨rfl, ρ3, V3, t1, t2⟩)
      go_roundw
      case rel => exact ⟨k + 1, by omega, by omega, by go_num, ρ3, V3, t1, Q2.out.trans t2⟩
      case measure => simp [intOf]; omega
    · have hex : ¬ (k : Int) < (len : Int) ∨ ((k : Int) < (len : Int) ∧ ¬ (k : Int) < 100) := by omega
      have HTm : Hid (Tame (playF (laidN n) f k) (0 + (k : Int)) ∧ (playF (laidN n) f k).n = n) := ⟨playF_tame HG.out.1 f k, (playF_n HG.out.1.good f k).2.trans HG.out.2⟩
      have hk9 : (0 : Int) + (k : Int) < 900 := by omega
      have Q1 : Hid (KI wr w.heap.size ρ2 0 bk bx bs (playF (laidN n) f k) V2) := q1
      have Q2 : Hid (Aft 0 (fun _ => (0, 0)) ρ2 w wr) := q2
      clear q1 q2 hgo hkm hk
      generalize (playF (laidN n) f k) = P at *
      obtain ⟨wo, rfl⟩ : ∃ wo : World, wo = wr := ⟨_, rfl⟩
      go_upto_region 5 with fail
      go_cut [34] (fun s wx => s = .bool false ∧ wx = wo)
      case first =>
        rcases hex with hex | ⟨hex1, hex⟩
        · go_wp2_with fail
          go_meet
          case rel => exact ⟨rfl, rfl⟩
        · go_wp2_with fail
          go_meet
          case rel => exact ⟨rfl, rfl⟩
      case rest =>
        obtain ⟨rfl, rfl⟩ := hcut
        obtain ⟨wo, rfl⟩ : ∃ wo : World, wo = wc := ⟨_, rfl⟩
        clear hex
        have HA : Hid (Good (restartC P r) ∧ (restartC P r).n = n ∧ ((restartC P r).rs r).dn = false) := ⟨(Risen.restart HTm.out.1.good r (by rw [HTm.out.2]; exact hrn)).1.good, (Risen.restart HTm.out.1.good r (by rw [HTm.out.2]; exact hrn)).1.n.trans HTm.out.2, (Risen.restart HTm.out.1.good r (by rw [HTm.out.2]; exact hrn)).2⟩
        have U1 : Hid (OneN w wo bk bx bs P []) := ⟨ρ2, V2, Q1.out, Q2.out, fun x hx => by cases hx⟩
        have CR1 : Hid (Calls Try.prog 21 #[.pointer (some ⟨bx, 0, none⟩), .int .i64 r] wo fun e w' => e = .returned (.int .i64 (restartE P r)) ∧ OneN w w' bk bx bs (restartC P r) []) := U1.out.call fun ρ V h1 h2 _ => krestart h1 h2 r
        have c0 := Q1.out.k0
        have c1 := Q1.out.k1
        rw [HTm.out.2] at c1
        clear Q1 Q2
        generalize restartC P r = A at *
        have CD1 : Hid (∀ u, OneN w u bk bx bs A [] → Calls Try.prog 26 #[.pointer (some ⟨bk, 0, none⟩), .int .i64 r] u fun e w' => e = .returned (.bool true) ∧ OneN w w' bk bx bs (dumpTill A r) []) := fun u hu => hu.call fun ρ V h1 h2 h3 => kdumps h1 h2 h3 r (by rw [HA.out.2.1]; exact hrn) HA.out.2.2
        have HDn : Hid (Good (dumpTill A r) ∧ (dumpTill A r).n = n ∧ ((dumpTill A r).rs r).dn = false) := ⟨HA.out.1.dumpTill r (by rw [HA.out.2.1]; exact hrn) HA.out.2.2, HA.out.2.1, by rw [(dumpTill_same A r).2.2]; exact HA.out.2.2⟩
        have HSV : Hid (∀ B, Held (dumpTill A r) B r → SavR n r (shR (dumpTill A r) r n) (shR (restartN (crashN B r) r) r n) ∧ shB (restartN (crashN B r) r) r n = shB (dumpTill A r) r n) := fun B h => saved_rows HA.out.1 HA.out.2.1 hrn HA.out.2.2 h
        generalize dumpTill A r = D at *
        have CS1 : Hid (∀ u, OneN w u bk bx bs D [] → Calls Try.prog 23 #[.pointer (some ⟨bk, 0, none⟩), .int .i64 r] u fun e w' => e = .returned (.agg (sheetA (shR D r n) (shB D r n))) ∧ OneN w w' bk bx bs D []) := fun u hu => by
          have := hu.sheet r
          rw [HDn.out.2.1] at this
          exact this
        generalize shR D r n = RW at *
        generalize shB D r n = EW at *
        go_wp2_with (go_at_call 20; refine ((PW.out) _).mono ?_; rintro e w' ⟨rfl, rfl⟩)
        refine (CR1.out).mono ?_
        rintro e w5 ⟨rfl, u5⟩
        have U5 : Hid (OneN w w5 bk bx bs A []) := u5
        clear u5 CR1 U1 c0 c1
        go_wp2_with fail
        refine (CD1.out _ U5.out).mono ?_
        rintro e w6 ⟨rfl, u6⟩
        have U6 : Hid (OneN w w6 bk bx bs D []) := u6
        clear u6 CD1 U5
        go_wp2_with fail
        refine (CS1.out _ U6.out).mono ?_
        rintro e w7 ⟨rfl, u⟩
        have ag := aggOk_sheet RW EW
        have n0 := Whole.new w7 53 (sheetA (fun _ => zeR) fun _ => zeB)
        have th := n0.there (sheet_size _ _)
        have b4 : Below w7.heap.size w7 ((w7.alloc (.cells (sheetA (fun _ => zeR) fun _ => zeB) 53)).setCells w7.heap.size 0 (sheetA RW EW).toList) := Below.setCells ((Below.refl _ _).alloc (Nat.le_refl _) _) (Nat.le_refl _) _ _
        have V : Hid (OneN w ((w7.alloc (.cells (sheetA (fun _ => zeR) fun _ => zeB) 53)).setCells w7.heap.size 0 (sheetA RW EW).toList) bk bx bs D [⟨w7.heap.size, 53, sheetA RW EW⟩]) := u.more b4 (n0.over (sheetA RW EW) rfl)
        clear u n0 b4 U6 CS1
        go_wp2_with fail
        generalize hWN : ((w7.alloc (.cells (sheetA (fun _ => zeR) fun _ => zeB) 53)).setCells w7.heap.size 0 (sheetA RW EW).toList) = w8 at *
        obtain ⟨wS, hwS⟩ : ∃ wS, wS = w7.heap.size := ⟨_, rfl⟩
        rw [← hwS] at V ⊢
        clear hWN hwS ag th
        have U8 : Hid (OneN w w8 bk bx bs D [⟨wS, 53, sheetA RW EW⟩]) := V
        clear V
        go_loopw [14] (fun v wr => ∃ m : Nat, m ≤ len2 ∧ m ≤ 40 ∧ v = .int .i64 m ∧ ∃ B, OneN w wr bk bx bs B [⟨wS, 53, sheetA RW EW⟩] ∧ Held D B r) (fun v _ => 40 - (intOf v).toNat)
        case atStart => exact ⟨0, by omega, by omega, rfl, D, U8.out, Held.refl HDn.out.1 r⟩
        case round =>
          clear U8
          obtain ⟨m, hm, hmm, rfl, B, u1, hH⟩ := hrel
          have HBn : Hid (B.n = n) := hH.n.trans HDn.out.2.1
          by_cases hgo2 : m < len2 ∧ m < 40
          · obtain ⟨hml, hm1⟩ := hgo2
            have hml' : (m : Int) < (len2 : Int) := by omega
            have hm1' : (m : Int) < 40 := by omega
            have hm0 : (0 : Int) ≤ (m : Int) := by omega
            obtain ⟨sb, so, rfl, ⟨s0, s1, s2, s3⟩, ft⟩ := HS2.out.at u1.low hml
            have c1 := u1.c.2
            rw [HBn.out] at c1
            have hkk := pickI_ok (f2 m).k 20 (by omega)
            have PKK : Hid (∀ W, Calls Try.prog 20 #[.int .i64 (f2 m).k, .int .i64 20] W fun e w' => e = .returned (.int .i64 (pickI (f2 m).k 20)) ∧ W = w') := fun W => kpick (f2 m).k 20 W ft.1.1 ft.1.2 (by omega) (by omega)
            have PAA : Hid (∀ W, Calls Try.prog 20 #[.int .i64 (f2 m).a, .int .i64 n] W fun e w' => e = .returned (.int .i64 (pickI (f2 m).a n)) ∧ w' = W) := fun W => (kpick (f2 m).a n W ft.2.1.1 ft.2.1.2 (by omega) (by omega)).mono fun _ _ ⟨h1, h2⟩ => ⟨h1, h2.symm⟩
            have HST : Hid (((6 < pickI (f2 m).k 20 ∧ pickI (f2 m).k 20 < 17) ∨ (1 < pickI (f2 m).k 20 ∧ pickI (f2 m).k 20 < 7 ∧ pickI (f2 m).a n ≠ r)) → Held D (doesN B (f2 m)) r) := fun hc => step_held hH HBn.out (f2 m) hc
            have CX : Hid (∀ u, OneN w u bk bx bs B [⟨wS, 53, sheetA RW EW⟩] → Calls Try.prog 15 #[.pointer (some ⟨bk, 0, none⟩), .agg #[.int .i64 (f2 m).k, .int .i64 (f2 m).a, .int .i64 (f2 m).b, .int .i64 (f2 m).c]] u fun e w' => e = .returned (.tuple #[]) ∧ OneN w w' bk bx bs (doesN B (f2 m)) [⟨wS, 53, sheetA RW EW⟩]) := fun u hu => hu.call fun ρ V h1 h2 h3 => kdoes h1 h2 h3 (f2 m) ft
            have U1 : Hid (OneN w wr bk bx bs B [⟨wS, 53, sheetA RW EW⟩]) := u1
            have UD : Hid (∀ nq, OneN w (wr.drewN nq) bk bx bs B [⟨wS, 53, sheetA RW EW⟩]) := fun nq => u1.below ⟨rfl, rfl, rfl, Nat.le_refl _, fun _ _ => rfl⟩
            have HH : Hid (Held D B r) := hH
            clear u1 hH ft
            generalize hdo : doesN B (f2 m) = B2 at *
            clear hdo
            generalize pickI (f2 m).k 20 = kk at *
            generalize pickI (f2 m).a n = aa at *
            obtain ⟨hkk0, hkk1⟩ := hkk
            go_wp2_with fail
            refine ((PKK.out) _).mono ?_
            rintro e w' ⟨rfl, rfl⟩
            by_cases h6 : 6 < kk
            · have d6 : decide (6 < kk) = true := decide_eq_true h6
              by_cases h17 : kk < 17
              · have d17 : decide (kk < 17) = true := decide_eq_true h17
                go_wp2_with fail
                go_quiet (first | (go_at_call 20; refine Calls.quiet_of_same (PAA.out _)))
                go_wp2_with fail
                refine (CX.out _ (UD.out _)).mono ?_
                rintro e w9 ⟨rfl, u9⟩
                go_wp2
                go_roundw
                case rel => exact ⟨m + 1, by omega, by omega, by go_num, B2, u9, HST.out (.inl ⟨by omega, by omega⟩)⟩
                case measure => simp [intOf]; omega
              · have d17 : decide (kk < 17) = false := decide_eq_false h17
                have d1 : decide (1 < kk) = true := decide_eq_true (by omega)
                have h1 : 1 < kk := by omega
                have d7 : decide (kk < 7) = false := decide_eq_false (by omega)
                have h7 : ¬ kk < 7 := by omega
                go_wp2_with fail
                go_quiet (first | (go_at_call 20; refine Calls.quiet_of_same (PAA.out _)))
                go_wp2
                go_roundw
                case rel => exact ⟨m + 1, by omega, by omega, by go_num, B, UD.out _, HH.out⟩
                case measure => simp [intOf]; omega
            · have d6 : decide (6 < kk) = false := decide_eq_false h6
              by_cases h1 : 1 < kk
              · have d1 : decide (1 < kk) = true := decide_eq_true h1
                have d7 : decide (kk < 7) = true := decide_eq_true (by omega)
                have h7 : kk < 7 := by omega
                by_cases har : aa = (r : Int)
                · have har' : (aa != (r : Int)) = false := by simp [har]
                  have har2 : (aa == (r : Int)) = true := by simp [har]
                  go_wp2_with fail
                  go_quiet (first | (go_at_call 20; refine Calls.quiet_of_same (PAA.out _)))
                  go_wp2
                  go_roundw
                  case rel => exact ⟨m + 1, by omega, by omega, by go_num, B, UD.out _, HH.out⟩
                  case measure => simp [intOf]; omega
                · have har' : (aa != (r : Int)) = true := by simp [har]
                  have har2 : (aa == (r : Int)) = false := by simp [har]
                  go_wp2_with fail
                  go_quiet (first | (go_at_call 20; refine Calls.quiet_of_same (PAA.out _)))
                  go_wp2_with fail
                  refine (CX.out _ (UD.out _)).mono ?_
                  rintro e w9 ⟨rfl, u9⟩
                  go_wp2
                  go_roundw
                  case rel => exact ⟨m + 1, by omega, by omega, by go_num, B2, u9, HST.out (.inr ⟨by omega, by omega, har⟩)⟩
                  case measure => simp [intOf]; omega
              · have d1 : decide (1 < kk) = false := decide_eq_false h1
                go_wp2_with fail
                go_quiet (first | (go_at_call 20; refine Calls.quiet_of_same (PAA.out _)))
                go_wp2
                go_roundw
                case rel => exact ⟨m + 1, by omega, by omega, by go_num, B, UD.out _, HH.out⟩
                case measure => simp [intOf]; omega
          · have hex2 : ¬ (m : Int) < (len2 : Int) ∨ ((m : Int) < (len2 : Int) ∧ ¬ (m : Int) < 40) := by omega
            obtain ⟨q, hq0, hqn, hrq⟩ := next_pick (r := r) n2 hrn
            have PQ : Hid (∀ W, Calls Try.prog 20 #[.int .i64 ((r : Int) + 1), .int .i64 n] W fun e w' => e = .returned (.int .i64 q) ∧ W = w') := fun W => by
              have := kpick ((r : Int) + 1) n W (by omega) (by omega) (by omega) (by omega)
              rw [hq0] at this; exact this
            have hBd : (B.rs r).dn = false := by rw [hH.dn]; exact HDn.out.2.2
            obtain ⟨g1, g2⟩ := crash_goes HBn.out hrn hBd
            obtain ⟨g3, g4⟩ := crashed_restart B r HBn.out hrn
            have CC : Hid (Calls Try.prog 27 #[.pointer (some ⟨bx, 0, none⟩), .int .i64 r] wr fun e w' => e = .returned (.int .i64 0) ∧ OneN w w' bk bx bs (crashN B r) [⟨wS, 53, sheetA RW EW⟩]) := u1.call fun ρ V h1 h2 _ => by
              have := kcrash h1 h2 r
              rw [g1, g2] at this
              exact this
            have CRt : Hid (∀ u, OneN w u bk bx bs (crashN B r) [⟨wS, 53, sheetA RW EW⟩] → Calls Try.prog 28 #[.pointer (some ⟨bx, 0, none⟩), .int .i64 r, .int .i64 q] u fun e w' => e = .returned (.tuple #[.agg #[.int .i64 0, .int .i64 0, .int .i64 0, .int .i64 0, .int .i64 0], .int .i64 5]) ∧ Below u.heap.size u w') := fun u hu => by
              obtain ⟨ρ, V, k⟩ := hu.rd
              exact down_route k HBn.out hrn hqn hrq
            have CR2 : Hid (∀ u, OneN w u bk bx bs (crashN B r) [⟨wS, 53, sheetA RW EW⟩] → Calls Try.prog 21 #[.pointer (some ⟨bx, 0, none⟩), .int .i64 r] u fun e w' => e = .returned (.int .i64 0) ∧ OneN w w' bk bx bs (restartN (crashN B r) r) [⟨wS, 53, sheetA RW EW⟩]) := fun u hu => hu.call fun ρ V h1 h2 _ => by
              have := krestart h1 h2 r
              rw [g3, g4] at this
              exact this
            have HSR : Hid (SavR n r RW (shR (restartN (crashN B r) r) r n)) := (HSV.out B hH).1
            have HXn : Hid ((restartN (crashN B r) r).n = n) := HBn.out
            have CSX : Hid (∀ u, OneN w u bk bx bs (restartN (crashN B r) r) [⟨wS, 53, sheetA RW EW⟩] → Calls Try.prog 23 #[.pointer (some ⟨bk, 0, none⟩), .int .i64 r] u fun e w' => e = .returned (.agg (sheetA (shR (restartN (crashN B r) r) r n) EW)) ∧ OneN w w' bk bx bs (restartN (crashN B r) r) [⟨wS, 53, sheetA RW EW⟩]) := fun u hu => by
              have := hu.sheet r
              rw [HXn.out, (HSV.out B hH).2] at this
              exact this
            have c0 := u1.c.1
            clear g1 g2 g3 g4 hBd hq0 u1 hH hgo2 hmm hm HSV
            generalize shR (restartN (crashN B r) r) r n = RI at *
            generalize restartN (crashN B r) r = X at *
            have HB1n : Hid ((crashN B r).n = n) := HBn.out
            generalize crashN B r = B1 at *
            obtain ⟨wp, rfl⟩ : ∃ wp : World, wp = wr := ⟨_, rfl⟩
            go_upto_region 13 with fail
            go_cut [68] (fun s wx => s = .bool false ∧ wx = wp)
            case first =>
              rcases hex2 with hex2 | ⟨hex3, hex2⟩
              · go_wp2_with fail
                go_meet
                case rel => exact ⟨rfl, rfl⟩
              · go_wp2_with fail
                go_meet
                case rel => exact ⟨rfl, rfl⟩
            case rest =>
              obtain ⟨rfl, rfl⟩ := hcut
              obtain ⟨wp, rfl⟩ : ∃ wp : World, wp = wc := ⟨_, rfl⟩
              clear hex2
              go_wp2_with fail
              refine (CC.out).mono ?_
              rintro e w4 ⟨rfl, u4⟩
              have SK : Hid (∀ v, OneN w v bk bx bs B1 [⟨wS, 53, sheetA RW EW⟩] → (fun v => v.cell? ⟨bk, 0, none⟩ = some (.pointer (some ⟨bx, 0, none⟩)) ∧ v.cell? ⟨bk, 1, none⟩ = some (.int .i64 n)) v) := fun v hv => ⟨hv.c.1, by have := hv.c.2; rw [HB1n.out] at this; exact this⟩
              have U4 : Hid (OneN w w4 bk bx bs B1 [⟨wS, 53, sheetA RW EW⟩]) := u4
              have U4d : Hid (OneN w w4.drew bk bx bs B1 [⟨wS, 53, sheetA RW EW⟩]) := u4.below ((Below.refl _ _).drew)
              have sS : (fun v => v.cell? ⟨bk, 0, none⟩ = some (.pointer (some ⟨bx, 0, none⟩)) ∧ v.cell? ⟨bk, 1, none⟩ = some (.int .i64 n)) w4.drew := SK.out _ U4d.out
              clear u4 CC c0
              have hr1 : IntKind.i64.wrap ((r : Int) + 1) = (r : Int) + 1 := IntWalk.i64_in _ (by omega)
              go_upto_region 19 with fail
              go_cut [17, 18] (fun p s wx => s = .int .i64 5 ∧ OneN w wx bk bx bs B1 [⟨wS, 53, sheetA RW EW⟩])
              case first =>
                refine wp_region_held_drew (S := (fun v => v.cell? ⟨bk, 0, none⟩ = some (.pointer (some ⟨bx, 0, none⟩)) ∧ v.cell? ⟨bk, 1, none⟩ = some (.int .i64 n))) (by kernel_rfl) sS (fun _ => ?_)
                change wpAnyH _ _ _ _ _ _ _ _ (World.drew _)
                refine held_hq (fun _ _ x _ _ h => by cases x <;> exact h) ?_
                intro hQ
                refine held_to 0 (some 118) (.pointer (some ⟨bk, 0, none⟩)) hQ sS rfl rfl (by kernel_rfl) (by kernel_rfl) (by kernel_rfl) (by kernel_rfl) (fun w _ => by go_simp) ?_
                refine held_to 1 (some 119) (.pointer (some ⟨bk, 0, none⟩)) hQ sS rfl rfl (by kernel_rfl) (by kernel_rfl) (by kernel_rfl) (by kernel_rfl) (fun w _ => by go_simp) ?_
                refine held_to 2 (some 120) (.pointer (some ⟨bk, 0, none⟩)) hQ sS rfl rfl (by kernel_rfl) (by kernel_rfl) (by kernel_rfl) (by kernel_rfl) (fun w _ => by go_simp) ?_
                refine held_to 3 (some 121) (.pointer (some ⟨bx, 0, none⟩)) hQ sS rfl rfl (by kernel_rfl) (by kernel_rfl) (by kernel_rfl) (by kernel_rfl) (fun w hS => by obtain ⟨e1, e2⟩ := hS; go_simp) ?_
                refine held_to 4 (some 122) (.int .i64 r) hQ sS rfl rfl (by kernel_rfl) (by kernel_rfl) (by kernel_rfl) (by kernel_rfl) (fun w _ => by go_simp) ?_
                refine held_to 5 (some 123) (.int .i64 r) hQ sS rfl rfl (by kernel_rfl) (by kernel_rfl) (by kernel_rfl) (by kernel_rfl) (fun w _ => by go_simp) ?_
                refine held_to 6 (some 124) (.int .i64 ((r : Int) + 1)) hQ sS rfl rfl (by kernel_rfl) (by kernel_rfl) (by kernel_rfl) (by kernel_rfl) (fun w _ => by go_simp) ?_
                refine held_to 7 (some 125) (.pointer (some ⟨bk, 0, none⟩)) hQ sS rfl rfl (by kernel_rfl) (by kernel_rfl) (by kernel_rfl) (by kernel_rfl) (fun w _ => by go_simp) ?_
                refine held_to 8 (some 126) (.pointer (some ⟨bk, 0, none⟩)) hQ sS rfl rfl (by kernel_rfl) (by kernel_rfl) (by kernel_rfl) (by kernel_rfl) (fun w _ => by go_simp) ?_
                refine held_to 9 (some 127) (.pointer (some ⟨bk, 1, none⟩)) hQ sS rfl rfl (by kernel_rfl) (by kernel_rfl) (by kernel_rfl) (by kernel_rfl) (fun w _ => by go_simp) ?_
                refine held_to 10 (some 128) (.int .i64 n) hQ sS rfl rfl (by kernel_rfl) (by kernel_rfl) (by kernel_rfl) (by kernel_rfl) (fun w hS => by obtain ⟨e1, e2⟩ := hS; go_simp) ?_
                refine wpAnyH_ready (rs := [11, 16]) (by kernel_rfl) (by simp) ?_
                refine AllReadyH.cons rfl (fun K hK => ?_) (AllReadyH.cons rfl (fun K hK => ?_) AllReadyH.nil)
                · go_simp
                  go_wp2_with (go_at_call 20; refine ((PQ.out) _).mono ?_; rintro e w' ⟨rfl, rfl⟩)
                  refine hK.out _ _ sS (fun _ => ?_)
                  clear hK K
                  refine wpAnyH_ready (rs := [12, 16]) (by kernel_rfl) (by simp) ?_
                  refine AllReadyH.cons rfl (fun K hK => ?_) (AllReadyH.cons rfl (fun K hK => ?_) AllReadyH.nil)
                  · go_simp
                    go_wp2_with (go_at_call 28; refine (CRt.out _ U4d.out).mono ?_; rintro e w5 ⟨rfl, b5⟩)
                    have U5 : Hid (OneN w w5 bk bx bs B1 [⟨wS, 53, sheetA RW EW⟩]) := U4d.out.below b5
                    have s5 := SK.out _ U5.out
                    refine hK.out _ _ s5 (fun _ => ?_)
                    clear hK K
                    have Z8 : Hid (OneN w (w5.alloc (.cells #[.int .i64 0, .int .i64 0, .int .i64 0, .int .i64 0, .int .i64 0] 47)) bk bx bs B1 [⟨wS, 53, sheetA RW EW⟩]) := U5.out.below ((Below.refl _ _).alloc (Nat.le_refl _) _)
                    refine held_to 13 (some 117) (.tuple #[.agg #[.int .i64 0, .int .i64 0, .int .i64 0, .int .i64 0, .int .i64 0], .int .i64 5]) hQ s5 rfl rfl (by kernel_rfl) (by kernel_rfl) (by kernel_rfl) (by kernel_rfl) (fun w _ => by go_simp) ?_
                    refine held_to 14 (some 131) (.agg #[.int .i64 0, .int .i64 0, .int .i64 0, .int .i64 0, .int .i64 0]) hQ s5 rfl rfl (by kernel_rfl) (by kernel_rfl) (by kernel_rfl) (by kernel_rfl) (fun w _ => by go_simp) ?_
                    refine held_to 15 (some 132) (.int .i64 5) hQ s5 rfl rfl (by kernel_rfl) (by kernel_rfl) (by kernel_rfl) (by kernel_rfl) (fun w _ => by go_simp) ?_
                    refine wpAnyH_ready (rs := [16]) (by kernel_rfl) (by simp) ?_
                    refine AllReadyH.cons rfl (fun K hK => ?_) AllReadyH.nil
                    go_simp
                    refine hK.out _ _ (SK.out _ Z8.out) (fun _ => ?_)
                    clear hK K
                    refine wpAnyH_ready (rs := [17]) (by kernel_rfl) (by simp) ?_
                    refine AllReadyH.cons rfl (fun K hK => ?_) AllReadyH.nil
                    go_simp
                    refine hK.out _ _ (SK.out _ Z8.out) (fun _ => ?_)
                    clear hK K
                    refine held_to 18 (some 18) (.int .i64 5) hQ (SK.out _ Z8.out) rfl rfl (by kernel_rfl) (by kernel_rfl) (by kernel_rfl) (by kernel_rfl) (fun w _ => by go_simp) ?_
                    refine wpAnyH_done (by kernel_rfl) ?_ _
                    clear hQ
                    go_simp
                    go_wp2
                    go_meet
                    case rel => exact ⟨rfl, Z8.out⟩
                  · go_simp
                    have z5 : Below w4.heap.size w4 (w4.alloc (.cells #[.int .i64 0, .int .i64 0, .int .i64 0, .int .i64 0, .int .i64 0] 47)).drew := ((Below.refl _ _).alloc (Nat.le_refl _) _).drew
                    have T5 : Whole (w4.alloc (.cells #[.int .i64 0, .int .i64 0, .int .i64 0, .int .i64 0, .int .i64 0] 47)).drew w4.heap.size 47 #[.int .i64 0, .int .i64 0, .int .i64 0, .int .i64 0, .int .i64 0] := (Whole.new w4 _ _).drew
                    have U5 : Hid (OneN w (w4.alloc (.cells #[.int .i64 0, .int .i64 0, .int .i64 0, .int .i64 0, .int .i64 0] 47)).drew bk bx bs B1 [⟨wS, 53, sheetA RW EW⟩]) := U4.out.below z5
                    refine hK.out _ _ (SK.out _ U5.out) (fun _ => ?_)
                    clear hK K
                    refine wpAnyH_ready (rs := [12]) (by kernel_rfl) (by simp) ?_
                    refine AllReadyH.cons rfl (fun K hK => ?_) AllReadyH.nil
                    go_simp
                    go_wp2_with (go_at_call 28; refine (CRt.out _ U5.out).mono ?_; rintro e w5 ⟨rfl, b5⟩)
                    have U6 : Hid (OneN w w5 bk bx bs B1 [⟨wS, 53, sheetA RW EW⟩]) := U5.out.below b5
                    have s5 := SK.out _ U6.out
                    refine hK.out _ _ s5 (fun _ => ?_)
                    clear hK K
                    have T6 := T5.below b5
                    have t0 := T6.cell 0
                    have t1 := T6.cell 1
                    have t2 := T6.cell 2
                    have t3 := T6.cell 3
                    have t4 := T6.cell 4
                    have tf := T6.frozen
                    simp only [List.getElem?_toArray, List.getElem?_cons_zero, List.getElem?_cons_succ] at t0 t1 t2 t3 t4
                    have b7 : Below w4.heap.size w4 (((((w5.setCell ⟨w4.heap.size, 0, none⟩ (.int .i64 0)).setCell ⟨w4.heap.size, 1, none⟩ (.int .i64 0)).setCell ⟨w4.heap.size, 2, none⟩ (.int .i64 0)).setCell ⟨w4.heap.size, 3, none⟩ (.int .i64 0)).setCell ⟨w4.heap.size, 4, none⟩ (.int .i64 0)) := ((((((z5.trans (b5.mono z5.size)).setCell (p := ⟨w4.heap.size, 0, none⟩) (Nat.le_refl _) _).setCell (p := ⟨w4.heap.size, 1, none⟩) (Nat.le_refl _) _).setCell (p := ⟨w4.heap.size, 2, none⟩) (Nat.le_refl _) _).setCell (p := ⟨w4.heap.size, 3, none⟩) (Nat.le_refl _) _).setCell (p := ⟨w4.heap.size, 4, none⟩) (Nat.le_refl _) _)
                    have Z8 : Hid (OneN w (((((w5.setCell ⟨w4.heap.size, 0, none⟩ (.int .i64 0)).setCell ⟨w4.heap.size, 1, none⟩ (.int .i64 0)).setCell ⟨w4.heap.size, 2, none⟩ (.int .i64 0)).setCell ⟨w4.heap.size, 3, none⟩ (.int .i64 0)).setCell ⟨w4.heap.size, 4, none⟩ (.int .i64 0)) bk bx bs B1 [⟨wS, 53, sheetA RW EW⟩]) := U4.out.below b7
                    refine held_to 13 (some 117) (.tuple #[.agg #[.int .i64 0, .int .i64 0, .int .i64 0, .int .i64 0, .int .i64 0], .int .i64 5]) hQ s5 rfl rfl (by kernel_rfl) (by kernel_rfl) (by kernel_rfl) (by kernel_rfl) (fun w _ => by go_simp) ?_
                    refine held_to 14 (some 131) (.agg #[.int .i64 0, .int .i64 0, .int .i64 0, .int .i64 0, .int .i64 0]) hQ s5 rfl rfl (by kernel_rfl) (by kernel_rfl) (by kernel_rfl) (by kernel_rfl) (fun w _ => by go_simp) ?_
                    refine held_to 15 (some 132) (.int .i64 5) hQ s5 rfl rfl (by kernel_rfl) (by kernel_rfl) (by kernel_rfl) (by kernel_rfl) (fun w _ => by go_simp) ?_
                    refine wpAnyH_ready (rs := [17]) (by kernel_rfl) (by simp) ?_
                    refine AllReadyH.cons rfl (fun K hK => ?_) AllReadyH.nil
                    go_simp
                    refine hK.out _ _ (SK.out _ Z8.out) (fun _ => ?_)
                    clear hK K
                    refine held_to 18 (some 18) (.int .i64 5) hQ (SK.out _ Z8.out) rfl rfl (by kernel_rfl) (by kernel_rfl) (by kernel_rfl) (by kernel_rfl) (fun w _ => by go_simp) ?_
                    refine wpAnyH_done (by kernel_rfl) ?_ _
                    clear hQ
                    go_simp
                    go_wp2
                    go_meet
                    case rel => exact ⟨rfl, Z8.out⟩
                · go_simp
                  have z5 : Below w4.heap.size w4 (w4.alloc (.cells #[.int .i64 0, .int .i64 0, .int .i64 0, .int .i64 0, .int .i64 0] 47)).drew := ((Below.refl _ _).alloc (Nat.le_refl _) _).drew
                  have T5 : Whole (w4.alloc (.cells #[.int .i64 0, .int .i64 0, .int .i64 0, .int .i64 0, .int .i64 0] 47)).drew w4.heap.size 47 #[.int .i64 0, .int .i64 0, .int .i64 0, .int .i64 0, .int .i64 0] := (Whole.new w4 _ _).drew
                  have U5 : Hid (OneN w (w4.alloc (.cells #[.int .i64 0, .int .i64 0, .int .i64 0, .int .i64 0, .int .i64 0] 47)).drew bk bx bs B1 [⟨wS, 53, sheetA RW EW⟩]) := U4.out.below z5
                  refine hK.out _ _ (SK.out _ U5.out) (fun _ => ?_)
                  clear hK K
                  refine wpAnyH_ready (rs := [11]) (by kernel_rfl) (by simp) ?_
                  refine AllReadyH.cons rfl (fun K hK => ?_) AllReadyH.nil
                  go_simp
                  go_wp2_with (go_at_call 20; refine ((PQ.out) _).mono ?_; rintro e w' ⟨rfl, rfl⟩)
                  refine hK.out _ _ (SK.out _ U5.out) (fun _ => ?_)
                  clear hK K
                  refine wpAnyH_ready (rs := [12]) (by kernel_rfl) (by simp) ?_
                  refine AllReadyH.cons rfl (fun K hK => ?_) AllReadyH.nil
                  go_simp
                  go_wp2_with (go_at_call 28; refine (CRt.out _ U5.out).mono ?_; rintro e w5 ⟨rfl, b5⟩)
                  have U6 : Hid (OneN w w5 bk bx bs B1 [⟨wS, 53, sheetA RW EW⟩]) := U5.out.below b5
                  have s5 := SK.out _ U6.out
                  refine hK.out _ _ s5 (fun _ => ?_)
                  clear hK K
                  have T6 := T5.below b5
                  have t0 := T6.cell 0
                  have t1 := T6.cell 1
                  have t2 := T6.cell 2
                  have t3 := T6.cell 3
                  have t4 := T6.cell 4
                  have tf := T6.frozen
                  simp only [List.getElem?_toArray, List.getElem?_cons_zero, List.getElem?_cons_succ] at t0 t1 t2 t3 t4
                  have b7 : Below w4.heap.size w4 (((((w5.setCell ⟨w4.heap.size, 0, none⟩ (.int .i64 0)).setCell ⟨w4.heap.size, 1, none⟩ (.int .i64 0)).setCell ⟨w4.heap.size, 2, none⟩ (.int .i64 0)).setCell ⟨w4.heap.size, 3, none⟩ (.int .i64 0)).setCell ⟨w4.heap.size, 4, none⟩ (.int .i64 0)) := ((((((z5.trans (b5.mono z5.size)).setCell (p := ⟨w4.heap.size, 0, none⟩) (Nat.le_refl _) _).setCell (p := ⟨w4.heap.size, 1, none⟩) (Nat.le_refl _) _).setCell (p := ⟨w4.heap.size, 2, none⟩) (Nat.le_refl _) _).setCell (p := ⟨w4.heap.size, 3, none⟩) (Nat.le_refl _) _).setCell (p := ⟨w4.heap.size, 4, none⟩) (Nat.le_refl _) _)
                  have Z8 : Hid (OneN w (((((w5.setCell ⟨w4.heap.size, 0, none⟩ (.int .i64 0)).setCell ⟨w4.heap.size, 1, none⟩ (.int .i64 0)).setCell ⟨w4.heap.size, 2, none⟩ (.int .i64 0)).setCell ⟨w4.heap.size, 3, none⟩ (.int .i64 0)).setCell ⟨w4.heap.size, 4, none⟩ (.int .i64 0)) bk bx bs B1 [⟨wS, 53, sheetA RW EW⟩]) := U4.out.below b7
                  refine held_to 13 (some 117) (.tuple #[.agg #[.int .i64 0, .int .i64 0, .int .i64 0, .int .i64 0, .int .i64 0], .int .i64 5]) hQ s5 rfl rfl (by kernel_rfl) (by kernel_rfl) (by kernel_rfl) (by kernel_rfl) (fun w _ => by go_simp) ?_
                  refine held_to 14 (some 131) (.agg #[.int .i64 0, .int .i64 0, .int .i64 0, .int .i64 0, .int .i64 0]) hQ s5 rfl rfl (by kernel_rfl) (by kernel_rfl) (by kernel_rfl) (by kernel_rfl) (fun w _ => by go_simp) ?_
                  refine held_to 15 (some 132) (.int .i64 5) hQ s5 rfl rfl (by kernel_rfl) (by kernel_rfl) (by kernel_rfl) (by kernel_rfl) (fun w _ => by go_simp) ?_
                  refine wpAnyH_ready (rs := [17]) (by kernel_rfl) (by simp) ?_
                  refine AllReadyH.cons rfl (fun K hK => ?_) AllReadyH.nil
                  go_simp
                  refine hK.out _ _ (SK.out _ Z8.out) (fun _ => ?_)
                  clear hK K
                  refine held_to 18 (some 18) (.int .i64 5) hQ (SK.out _ Z8.out) rfl rfl (by kernel_rfl) (by kernel_rfl) (by kernel_rfl) (by kernel_rfl) (fun w _ => by go_simp) ?_
                  refine wpAnyH_done (by kernel_rfl) ?_ _
                  clear hQ
                  go_simp
                  go_wp2
                  go_meet
                  case rel => exact ⟨rfl, Z8.out⟩
              case rest =>
                obtain ⟨rfl, z8⟩ := hcut
                obtain ⟨wz, rfl⟩ : ∃ wz : World, wz = wc := ⟨_, rfl⟩
                have Z8 : Hid (OneN w wz bk bx bs B1 [⟨wS, 53, sheetA RW EW⟩]) := z8
                have z0 := z8.c.1
                clear z8 sS U4 U4d SK CRt PQ hr1
                go_wp2_with fail
                refine (CR2.out _ Z8.out).mono ?_
                rintro e w20 ⟨rfl, u20⟩
                have U20 : Hid (OneN w w20 bk bx bs X [⟨wS, 53, sheetA RW EW⟩]) := u20
                clear u20 Z8 CR2
                go_wp2_with fail
                refine (CSX.out _ U20.out).mono ?_
                rintro e w21 ⟨rfl, u⟩
                have ag := aggOk_sheet RI EW
                have n0 := Whole.new w21 53 (sheetA (fun _ => zeR) fun _ => zeB)
                have th := n0.there (sheet_size _ _)
                have b4 : Below w21.heap.size w21 ((w21.alloc (.cells (sheetA (fun _ => zeR) fun _ => zeB) 53)).setCells w21.heap.size 0 (sheetA RI EW).toList) := Below.setCells ((Below.refl _ _).alloc (Nat.le_refl _) _) (Nat.le_refl _) _ _
                have V8 : Hid (OneN w ((w21.alloc (.cells (sheetA (fun _ => zeR) fun _ => zeB) 53)).setCells w21.heap.size 0 (sheetA RI EW).toList) bk bx bs X (⟨w21.heap.size, 53, sheetA RI EW⟩ :: [⟨wS, 53, sheetA RW EW⟩])) := u.more b4 (n0.over (sheetA RI EW) rfl)
                clear u n0 b4 U20 CSX
                have tw : TwinB (.agg (bestsA EW)) (.agg (bestsA EW)) := ⟨_, rfl, rfl⟩
                obtain ⟨j1, j2⟩ := (V8.out.kept ⟨wS, 53, sheetA RW EW⟩ (by simp)).bests
                obtain ⟨j3, j4⟩ := (V8.out.kept ⟨w21.heap.size, 53, sheetA RI EW⟩ (by simp)).bests
                simp only at j1 j2 j3 j4
                go_wp2_with fail
                generalize hWN : ((w21.alloc (.cells (sheetA (fun _ => zeR) fun _ => zeB) 53)).setCells w21.heap.size 0 (sheetA RI EW).toList) = w22 at *
                obtain ⟨iS, hiS⟩ : ∃ iS, iS = w21.heap.size := ⟨_, rfl⟩
                rw [← hiS] at V8 ⊢
                clear hWN hiS ag th tw j1 j2 j3 j4
                have V9 : Hid (OneN w w22 bk bx bs X [⟨iS, 53, sheetA RI EW⟩, ⟨wS, 53, sheetA RW EW⟩]) := V8.out
                clear V8
                go_loopw [21] (fun v wr => ∃ j : Nat, j ≤ 5 ∧ v = .int .i64 j ∧ OneN w wr bk bx bs X [⟨iS, 53, sheetA RI EW⟩, ⟨wS, 53, sheetA RW EW⟩]) (fun v _ => 5 - (intOf v).toNat)
                case atStart => exact ⟨0, by omega, rfl, V9.out⟩
                case round =>
                  clear V9
                  obtain ⟨j, hj, rfl, u⟩ := hrel
                  by_cases hj5 : j < 5
                  · have hj5' : (j : Int) < 5 := by omega
                    have c1 := u.c.2
                    rw [HXn.out] at c1
                    have k1 := u.kept ⟨wS, 53, sheetA RW EW⟩ (by simp)
                    have k2 := u.kept ⟨iS, 53, sheetA RI EW⟩ (by simp)
                    simp only at k1 k2
                    obtain ⟨p0, p1, p2, p3, p4⟩ := sheet_ro RW EW j hj5
                    obtain ⟨q0, q1, q2, q3, q4⟩ := sheet_ro RI EW j hj5
                    have x0 : wr.cell? ⟨wS, j * 5, none⟩ = some (I (RW j).nx) := (k1.cell _).trans p0
                    have y0 : wr.cell? ⟨iS, j * 5, none⟩ = some (I (RI j).nx) := (k2.cell _).trans q0
                    have x1 : wr.cell? ⟨wS, j * 5 + 1, none⟩ = some (I (RW j).sq) := (k1.cell _).trans p1
                    have y1 : wr.cell? ⟨iS, j * 5 + 1, none⟩ = some (I (RI j).sq) := (k2.cell _).trans q1
                    have x2 : wr.cell? ⟨wS, j * 5 + 2, none⟩ = some (I (RW j).mt) := (k1.cell _).trans p2
                    have y2 : wr.cell? ⟨iS, j * 5 + 2, none⟩ = some (I (RI j).mt) := (k2.cell _).trans q2
                    have x3 : wr.cell? ⟨wS, j * 5 + 3, none⟩ = some (I (RW j).ag) := (k1.cell _).trans p3
                    have y3 : wr.cell? ⟨iS, j * 5 + 3, none⟩ = some (I (RI j).ag) := (k2.cell _).trans q3
                    have x4 : wr.cell? ⟨wS, j * 5 + 4, none⟩ = some (I (RW j).st) := (k1.cell _).trans p4
                    have y4 : wr.cell? ⟨iS, j * 5 + 4, none⟩ = some (I (RI j).st) := (k2.cell _).trans q4
                    have hSR := HSR.out
                    have l1 := k1.lt
                    have l2 := k2.lt
                    have lk := lt_of_cell c1
                    have V9 : Hid (OneN w wr bk bx bs X [⟨iS, 53, sheetA RI EW⟩, ⟨wS, 53, sheetA RW EW⟩]) := u
                    clear u k1 k2 p0 p1 p2 p3 p4 q0 q1 q2 q3 q4
                    by_cases hjr : j = r
                    · have hjr' : ((j : Int) == (r : Int)) = true := by simp [hjr]
                      have hjr2 : ((j : Int) != (r : Int)) = false := by simp [hjr]
                      have hcold := hSR.cold j hj5 (.inl hjr)
                      clear hjr
                      rw [hcold] at y0 y1 y2 y3 y4
                      clear hcold hSR
                      generalize RW j = rw at *
                      obtain ⟨m0, m1, m2, m3, m4⟩ := rw
                      simp only at x0 x1 x2 x3 x4 y0 y1 y2 y3 y4
                      go_wp2_with fail
                      go_quiet (fail)
                      go_wp2
                      go_roundw
                      case rel => exact ⟨j + 1, by omega, by go_num, V9.out.below (Below.drewQ ((Below.refl _ _).alloc (Nat.le_refl _) _) _)⟩
                      case measure => simp [intOf]; omega
                    · have hjr' : ((j : Int) == (r : Int)) = false := by rw [beq_eq_false_iff_ne]; omega
                      have hjr2 : ((j : Int) != (r : Int)) = true := by simp; omega
                      by_cases hjn : j < n
                      · have hjn' : (j : Int) < (n : Int) := by omega
                        by_cases hnx : 0 ≤ (RW j).nx
                        · have hhot := hSR.hot j hj5 hjr hjn hnx
                          rw [hhot] at y0 y1 y2 y3 y4
                          clear hhot hSR
                          generalize RW j = rw at *
                          obtain ⟨m0, m1, m2, m3, m4⟩ := rw
                          simp only at x0 x1 x2 x3 x4 y0 y1 y2 y3 y4 hnx
                          have hnx' : decide (0 ≤ m0) = true := decide_eq_true hnx
                          go_wp2_with fail
                          go_quiet (fail)
                          go_wp2
                          go_roundw
                          case rel => exact ⟨j + 1, by omega, by go_num, V9.out.below (Below.drewQ ((Below.refl _ _).alloc (Nat.le_refl _) _) _)⟩
                          case measure => simp [intOf]; omega
                        · have hcold := hSR.cold j hj5 (.inr (.inr (by omega)))
                          have hnx2 : ¬ 0 ≤ (RW j).nx := hnx
                          clear hnx
                          rw [hcold] at y0 y1 y2 y3 y4
                          clear hcold hSR
                          generalize RW j = rw at *
                          obtain ⟨m0, m1, m2, m3, m4⟩ := rw
                          simp only at x0 x1 x2 x3 x4 y0 y1 y2 y3 y4 hnx2
                          have hnx' : decide (0 ≤ m0) = false := decide_eq_false hnx2
                          go_wp2_with fail
                          go_quiet (fail)
                          go_wp2
                          go_roundw
                          case rel => exact ⟨j + 1, by omega, by go_num, V9.out.below (Below.drewQ ((Below.refl _ _).alloc (Nat.le_refl _) _) _)⟩
                          case measure => simp [intOf]; omega
                      · have hjn' : ¬ (j : Int) < (n : Int) := by omega
                        have hcold := hSR.cold j hj5 (.inr (.inl (by omega)))
                        rw [hcold] at y0 y1 y2 y3 y4
                        clear hcold hSR
                        generalize RW j = rw at *
                        obtain ⟨m0, m1, m2, m3, m4⟩ := rw
                        simp only at x0 x1 x2 x3 x4 y0 y1 y2 y3 y4
                        go_wp2_with fail
                        go_quiet (fail)
                        go_wp2
                        go_roundw
                        case rel => exact ⟨j + 1, by omega, by go_num, V9.out.below (Below.drewQ ((Below.refl _ _).alloc (Nat.le_refl _) _) _)⟩
                        case measure => simp [intOf]; omega
                  · have hj5' : ¬ (j : Int) < 5 := by omega
                    have B9 : Hid (Below w.heap.size w wr) := u.low
                    clear u
                    go_wp2
                    go_ret
                    exact ⟨rfl, B9.out⟩
end Go.Proofs.Ytdoodnbobpijoaa

namespace Go.Proofs.Ytdoodnbobpijoaa
open Go.ChangeShapes Go.WideShapes Go.ChangeAt Go.RowKit Go.Deep

set_option maxRecDepth 100000 in
theorem saved_lifted (os : Os) (started : os.Started) (H : Type) (enc : TypeId × Value → H) :
    ReturnsInHanded {} Try.checked os 9 .any (Rows.savedSpec.pre6 enc Try.prog Try.f9 Rows.savedRow.domain false) (Rows.savedSpec.post enc Try.prog Try.f9 false true false false) := by
  refine returnsInHanded_of_change_sized (C := Try.checked) Try.own started (by kernel_rfl) Try.func9
    (ChangeSpec.witness6 (enc := enc) (C := Try.checked) false ⟨#[], #[.int .i64 0, .slice none 0 0, .int .i64 0, .slice none 0 0], []⟩ 8 (by kernel_rfl) (by kernel_rfl) (by kernel_rfl) (by kernel_rfl)) ?_
  intro W base args ds gs before hval0 hW hcnd hsz0 _
  have hval : ∀ (j : Nat) t v, Try.f9.params[j]? = some t → args[j]? = some v → Value.okWide Try.prog W .any base t v := hval0
  have hW' := hW
  obtain ⟨p, q, hA0, hV, rfl, hfz, hnd⟩ := hW
  have hA : DataW.TrodAll enc Try.prog W 0 (fun _ => true) true Try.f9.params.toList args.toList ds p := hA0
  rw [Try.params9] at hA hval
  obtain ⟨v0, v1, v2, v3, d0, d1, d2, d3, p0, p1, p2, p3, rfl, rfl, rfl, h0, h1, h2, h3⟩ := trodAll_four hA
  obtain ⟨rfl, rfl⟩ := trodVars_none hV
  obtain ⟨x0, rfl⟩ := okWide_int Try.underlying3 (hval 0 3 v0 rfl rfl)
  have fit0 := open_int h0
  have lt0 : ∀ x ∈ p0, x.block < W.heap.size := by obtain ⟨m, hm⟩ := h0; exact DataW.trod_lt m _ _ _ hm
  obtain ⟨a1, len1, cap1, rfl⟩ := okWide_slice Try.underlying26 (hval 1 26 v1 rfl rfl)
  obtain ⟨f1, hS1⟩ := open_scp h1
  have lt1 : ∀ x ∈ p1, x.block < W.heap.size := by obtain ⟨m, hm⟩ := h1; exact DataW.trod_lt m _ _ _ hm
  obtain ⟨x2, rfl⟩ := okWide_int Try.underlying3 (hval 2 3 v2 rfl rfl)
  have fit2 := open_int h2
  have lt2 : ∀ x ∈ p2, x.block < W.heap.size := by obtain ⟨m, hm⟩ := h2; exact DataW.trod_lt m _ _ _ hm
  obtain ⟨a3, len3, cap3, rfl⟩ := okWide_slice Try.underlying26 (hval 3 26 v3 rfl rfl)
  obtain ⟨f3, hS3⟩ := open_scp h3
  have lt3 : ∀ x ∈ p3, x.block < W.heap.size := by obtain ⟨m, hm⟩ := h3; exact DataW.trod_lt m _ _ _ hm
  clear hA0 hval0 hsz0
  have fin : Calls Try.prog 9 #[.int .i64 x0, .slice a1 len1 cap1, .int .i64 x2, .slice a3 len3 cap3] W fun e W' => e = .returned (.bool true) ∧ Below W.heap.size W W' := saved_any W x0 fit0 a1 len1 cap1 f1 hS1 x2 fit2 a3 len3 cap3 f3 hS3
  refine fin.mono fun e W' ⟨he, bel⟩ => ?_
  subst he
  exact ⟨_, rfl, _, _, _, [], _, [], hW', trodAll_mk1 (shut_bool Try.underlying4 _), trodAll_mk4 (Below.trod Try.laidOut (by kernel_rfl) (of_decide_eq_true (by kernel_rfl)) h0 bel lt0) (Below.trod Try.laidOut (by kernel_rfl) (of_decide_eq_true (by kernel_rfl)) h1 bel lt1) (Below.trod Try.laidOut (by kernel_rfl) (of_decide_eq_true (by kernel_rfl)) h2 bel lt2) (Below.trod Try.laidOut (by kernel_rfl) (of_decide_eq_true (by kernel_rfl)) h3 bel lt3), rfl, bel.frame _, fun h => by cases h⟩
theorem saved_holds : Rows.SavedSaid :=
  OpenClaim.holds_of_wide 9 Try.f9 rfl rfl rfl rfl rfl rfl rfl ⟨rfl, rfl, rfl, rfl, rfl⟩ rfl rfl rfl rfl rfl (by kernel_rfl) Try.func9 (by kernel_rfl)
    (of_decide_eq_true (by kernel_rfl)) (by unfold Func.isWrapper; first | (rw [if_pos (by decide +kernel)]; kernel_rfl) | (rw [if_neg (by decide +kernel)]; exact ⟨rfl, rfl⟩))
    (fun os started H enc _ => saved_lifted os started H enc)
#print axioms saved_holds
end Go.Proofs.Ytdoodnbobpijoaa

