import Derived.Test.YtgimhfbpipgoeaaHarG
import Derived.Test.YtgimhfbpipgoeaaHarD
import Derived.Deep.DrawnRows
namespace Go.Proofs.Ytgimhfbpipgoeaa
open Go.RowKit

/-- What stays in a step: what is not the play's own. -/
def Stays (ρ ρ' : Nat → Part) (w w' : World) : Prop := (∀ k, k < w.heap.size → ρ' k = ρ k) ∧ (∀ k, k < w.heap.size → (ρ k).1 = 0 → ρ k ≠ (0, 1) → ρ k ≠ (0, 2) → w'.heap[k]? = w.heap[k]?) ∧ w.heap.size ≤ w'.heap.size
theorem Stays.below {ρ : Nat → Part} {w w' : World} (h : Below w.heap.size w w') : Stays ρ ρ w w' := ⟨fun _ _ => rfl, fun k hk _ _ _ => h.block k hk, h.size⟩
theorem Stays.aft {i : Nat} {ρ ρ' : Nat → Part} {w w' : World} (h : Aft i ρ ρ' w w') : Stays ρ ρ' w w' := ⟨h.old, fun k hk h0 _ _ => h.only.block k hk (by rw [h0]; omega), h.only.size⟩
theorem Stays.trans {ρ ρ1 ρ2 : Nat → Part} {a b c : World} (h : Stays ρ ρ1 a b) (k : Stays ρ1 ρ2 b c) : Stays ρ ρ2 a c := by
  obtain ⟨h1, h2, h3⟩ := h
  obtain ⟨k1, k2, k3⟩ := k
  refine ⟨fun j hj => (k1 j (by omega)).trans (h1 j hj), fun j hj e0 e1 e2 => ?_, by omega⟩
  rw [k2 j (by omega) (by rw [h1 j hj]; exact e0) (by rw [h1 j hj]; exact e1) (by rw [h1 j hj]; exact e2), h2 j hj e0 e1 e2]

abbrev opV (k u a b c : Int) : Value := .agg #[.int .i64 k, .int .i64 u, .int .i64 a, .int .i64 b, .int .i64 c]

theorem alloc36 (w : World) (k u a b c : Int) : Below w.heap.size w (w.alloc (.cells #[.int .i64 k, .int .i64 u, .int .i64 a, .int .i64 b, .int .i64 c] 36)) := (Below.refl _ _).alloc (Nat.le_refl _) _

set_option maxHeartbeats 1000000 in
theorem step_new (yb B : Nat) (n u b c : Int) (ρ : Nat → Part) (ns : List NetD) (w : World) (hI : Inv w B ρ yb ns) (hL : ns.length + 1 ≤ maxLen) (hY : (ns.length + 1) * 16 ≤ 140737488355328) :
    Calls Try.prog 6 #[.pointer (some ⟨yb, 0, none⟩), opV 1 u n b c] w fun e w' => e = .returned (.bool true) ∧ ∃ ρ' ns', Inv w' B ρ' yb ns' ∧ Below B w w' ∧ ns.length ≤ ns'.length ∧ ns'.length ≤ ns.length + 1 ∧ Stays ρ ρ' w w' := by
  have b0 := alloc36 w 1 u n b c
  have I0 := hI.below b0
  have HI0 : Hid (Inv (w.alloc (.cells #[.int .i64 1, .int .i64 u, .int .i64 n, .int .i64 b, .int .i64 c] 36)) B ρ yb ns) := I0; clear I0
  have HB : Hid (B ≤ w.heap.size) := hI.hB
  have B0 : Hid (Below w.heap.size w (w.alloc (.cells #[.int .i64 1, .int .i64 u, .int .i64 n, .int .i64 b, .int .i64 c] 36))) := b0; clear b0
  clear hI
  by_cases hn : n < 2 ∨ 5 < n
  · go_enter Try.func6, Try.ntmps6
    go_wp2_with (go_at_call 8; refine (opened_no yb n _ hn).mono ?_; rintro e w1 ⟨rfl, rfl⟩)
    go_ret
    exact ⟨rfl, ρ, ns, HI0.out, B0.out.mono HB.out, Nat.le_refl _, Nat.le_succ _, Stays.below B0.out⟩
  · have hn2 : 2 ≤ n := by omega
    have hn5 : n ≤ 5 := by omega
    obtain ⟨m, rfl⟩ := Int.eq_ofNat_of_zero_le (by omega : 0 ≤ n)
    clear hn
    have h2 : 2 ≤ m := by omega
    have h5 : m ≤ 5 := by omega
    clear hn2 hn5
    have HL : Hid (ns.length + 1 ≤ maxLen) := hL; clear hL
    have HY : Hid ((ns.length + 1) * 16 ≤ 140737488355328) := hY; clear hY
    go_enter Try.func6, Try.ntmps6
    go_wp2_with (go_at_call 8; refine (opened_ok yb B m ρ ns _ h2 h5 HI0.out HL.out HY.out).mono ?_; rintro e w1 ⟨rfl, ρ', N, i1, b1, s1, s2⟩)
    go_ret
    exact ⟨rfl, ρ', _, i1, (B0.out.mono HB.out).trans b1, by simp, by simp, (Stays.below B0.out).trans ⟨s1, s2, b1.size⟩⟩

set_option maxHeartbeats 1000000 in
theorem step_empty (yb B : Nat) (k u a b c : Int) (ρ : Nat → Part) (w : World) (hI : Inv w B ρ yb []) (hk : 2 ≤ k) :
    Calls Try.prog 6 #[.pointer (some ⟨yb, 0, none⟩), opV k u a b c] w fun e w' => e = .returned (.bool true) ∧ Below w.heap.size w w' := by
  have b0 := alloc36 w k u a b c
  obtain ⟨v, y1, y2, _⟩ := (hI.below b0).y
  have hv : v = .slice none 0 0 ∨ ∃ ad cap, v = .slice (some ad) 0 cap := by
    rcases y2.2 with ⟨e, _⟩ | ⟨g, cap, cur, e, _⟩
    · exact .inl e
    · exact .inr ⟨_, cap, e⟩
  have c0 := (y1.cell 0).trans (show (#[v, Value.slice none 0 0] : Array Value)[0]? = some v from rfl)
  have hk1 : (k == 1) = false := by rw [beq_eq_false_iff_ne]; omega
  have B0 : Hid (Below w.heap.size w (w.alloc (.cells #[.int .i64 k, .int .i64 u, .int .i64 a, .int .i64 b, .int .i64 c] 36))) := b0; clear b0
  clear hI y1 y2
  rcases hv with rfl | ⟨ad, cap, rfl⟩
  · go_enter Try.func6, Try.ntmps6
    go_wp2
    go_ret
    exact ⟨rfl, B0.out⟩
  · go_enter Try.func6, Try.ntmps6
    go_wp2
    go_ret
    exact ⟨rfl, B0.out⟩
end Go.Proofs.Ytgimhfbpipgoeaa
