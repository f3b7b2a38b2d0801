import Derived.Test.YtgimhfbpipgoeaaHarC
namespace Go.Proofs.Ytgimhfbpipgoeaa
open Go.RowKit

/-! ### The play -/
def ptrs (ns : List NetD) : List Value := ns.flatMap fun N => [.pointer (some ⟨N.bx, 0, none⟩), .pointer (some ⟨N.br, 0, none⟩)]
theorem ptrs_length (ns : List NetD) : (ptrs ns).length = ns.length * 2 := by
  induction ns with
  | nil => rfl
  | cons N r ih => simp only [ptrs, List.flatMap_cons, List.length_append, List.length_cons] at *; simp at *; omega
theorem ptrs_append (ns : List NetD) (N : NetD) : ptrs (ns ++ [N]) = ptrs ns ++ [.pointer (some ⟨N.bx, 0, none⟩), .pointer (some ⟨N.br, 0, none⟩)] := by simp [ptrs]
theorem ptrs_at : ∀ (ns : List NetD) (j : Nat) (N : NetD), ns[j]? = some N → (ptrs ns)[j * 2]? = some (.pointer (some ⟨N.bx, 0, none⟩)) ∧ (ptrs ns)[j * 2 + 1]? = some (.pointer (some ⟨N.br, 0, none⟩))
  | [], j, N, h => by simp at h
  | M :: r, 0, N, h => by
    have : M = N := by simpa using h
    subst this
    exact ⟨rfl, rfl⟩
  | M :: r, j + 1, N, h => by
    have := ptrs_at r j N (by simpa using h)
    have e1 : (j + 1) * 2 = j * 2 + 1 + 1 := by omega
    have e2 : (j + 1) * 2 + 1 = j * 2 + 1 + 1 + 1 := by omega
    rw [e1]
    simp only [ptrs, List.flatMap_cons, List.cons_append, List.nil_append, List.getElem?_cons_succ]
    exact this
theorem ptrs_set : ∀ (ns : List NetD) (i : Nat) (N N' : NetD), ns[i]? = some N → N'.bx = N.bx → N'.br = N.br → ptrs (ns.set i N') = ptrs ns
  | [], _, _, _, h, _, _ => by simp at h
  | M :: r, 0, N, N', h, h1, h2 => by
    have : M = N := by simpa using h
    subst this
    simp [ptrs, h1, h2]
  | M :: r, i + 1, N, N', h, h1, h2 => by
    have := ptrs_set r i N N' (by simpa using h) h1 h2
    simp only [ptrs, List.set_cons_succ, List.flatMap_cons] at *
    rw [this]

structure Inv (w : World) (B : Nat) (ρ : Nat → Part) (yb : Nat) (ns : List NetD) : Prop where
  nets : ∀ i N, ns[i]? = some N → NetI w B ρ i N
  new : ∀ k, w.heap.size ≤ k → ρ k = (0, 0)
  low : ∀ k, k < B → ρ k = (0, 0)
  hB : B ≤ w.heap.size
  y : ∃ v, Whole w yb 32 #[v, .slice none 0 0] ∧ w.ownsRow B 42 2 v ns.length (ptrs ns) ∧ (∀ g, v.ownBlock = some g → ρ g = (0, 2))
  py : ρ yb = (0, 1)
  yB : B ≤ yb

theorem Inv.step {w w' : World} {B : Nat} {ρ ρ' : Nat → Part} {yb i : Nat} {ns : List NetD} {N N' : NetD} (h : Inv w B ρ yb ns) (hi : ns[i]? = some N) (hN : NetI w' B ρ' i N') (h1 : N'.bx = N.bx) (h2 : N'.br = N.br) (ha : Aft i ρ ρ' w w') :
    Inv w' B ρ' yb (ns.set i N') ∧ Below B w w' := by
  obtain ⟨v, y1, y2, y3⟩ := h.y
  have hsz := ha.only.size
  have hil : i < ns.length := (List.getElem?_eq_some_iff.1 hi).1
  refine ⟨⟨fun j M hj => ?_, ha.new, fun k hk => ?_, Nat.le_trans h.hB hsz, ⟨v, ?_, ?_, fun g hg => ?_⟩, ?_, h.yB⟩, ha.only.os, ha.only.tape, ha.only.output, hsz, fun k hk => ?_⟩
  · by_cases hji : j = i
    · subst hji
      rw [List.getElem?_set_self hil] at hj
      have : N' = M := by simpa using hj
      rw [← this]; exact hN
    · rw [List.getElem?_set_ne (Ne.symm hji)] at hj
      exact (h.nets j M hj).other hji ha
  · rw [ha.old k (Nat.lt_of_lt_of_le hk h.hB)]; exact h.low k hk
  · exact y1.of (ha.only.block yb y1.lt (by rw [h.py]; simp))
  · rw [ptrs_set ns i N N' hi h1 h2, List.length_set]
    exact ownsRow_of y2 fun g hg => ha.only.block g (y2.lt g hg).2 (by rw [y3 g hg]; simp)
  · rw [ha.old g (y2.lt g hg).2]; exact y3 g hg
  · rw [ha.old yb y1.lt]; exact h.py
  · exact ha.only.block k (Nat.lt_of_lt_of_le hk h.hB) (by rw [h.low k hk]; simp)
theorem Inv.below {w w' : World} {B : Nat} {ρ : Nat → Part} {yb : Nat} {ns : List NetD} (h : Inv w B ρ yb ns) (hb : Below w.heap.size w w') : Inv w' B ρ yb ns := by
  obtain ⟨v, y1, y2, y3⟩ := h.y
  exact ⟨fun i N hi => (h.nets i N hi).below hb, fun k hk => h.new k (Nat.le_trans hb.size hk), h.low, Nat.le_trans h.hB hb.size, ⟨v, y1.below hb, ownsRow_of y2 fun g hg => hb.block g (y2.lt g hg).2, y3⟩, h.py, h.yB⟩
theorem Inv.same {w w' : World} {B : Nat} {ρ : Nat → Part} {yb : Nat} {ns : List NetD} (h : Inv w B ρ yb ns) (hh : w'.heap = w.heap) : Inv w' B ρ yb ns := by
  obtain ⟨v, y1, y2, y3⟩ := h.y
  exact ⟨fun i N hi => (h.nets i N hi).of (fun k _ _ => by rw [hh]) (fun _ _ => rfl), fun k hk => h.new k (by rw [← hh]; exact hk), h.low, by rw [hh]; exact h.hB, ⟨v, y1.of (by rw [hh]), ownsRow_of y2 fun g hg => (by rw [hh]), y3⟩, h.py, h.yB⟩

/-! ### Small functions of the play -/
theorem ret_int {k : IntKind} {a b : Int} (h : a = b) : Ending.returned (.int k a) = .returned (.int k b) := by rw [h]
set_option maxHeartbeats 400000 in
theorem pick_any (c : Int) (n : Nat) (hc0 : -9223372036854775808 ≤ c) (hc1 : c ≤ 9223372036854775807) (hn : 0 < n) (hn' : n ≤ maxLen) :
    ∃ j : Nat, j < n ∧ ∀ w : World, Calls Try.prog 9 #[.int .i64 c, .int .i64 n] w fun e w' => e = .returned (.int .i64 j) ∧ w = w' := by
  unfold maxLen at hn'
  have hn1 : (0 : Int) < (n : Int) := by omega
  have hn2 : (n : Int) ≤ 9223372036854775807 := by omega
  have hn3 : ((n : Int) == 0) = false := by rw [beq_eq_false_iff_ne]; omega
  by_cases h1 : c < 0
  · have h2 : (-(c + 1)).tmod n = (-(c + 1)) % n := Int.tmod_eq_emod_of_nonneg (by omega)
    have h3 := Int.emod_nonneg (-(c + 1)) (by omega : (n : Int) ≠ 0)
    have h4 := Int.emod_lt_of_pos (-(c + 1)) hn1
    refine ⟨((-(c + 1)) % n).toNat, by omega, fun w => ?_⟩
    have HE : Hid (-((c + 1).tmod n) = (((-(c + 1)) % (n : Int)).toNat : Nat)) := by show -((c + 1).tmod n) = (((-(c + 1)) % (n : Int)).toNat : Nat); rw [← Int.neg_tmod]; omega
    clear h2 h3 h4
    go_enter Try.func9, Try.ntmps9
    go_wp2
    go_ret
    exact ⟨ret_int HE.out, rfl⟩
  · have h2 : c.tmod n = c % n := Int.tmod_eq_emod_of_nonneg (by omega)
    have h3 := Int.emod_nonneg c (by omega : (n : Int) ≠ 0)
    have h4 := Int.emod_lt_of_pos c hn1
    obtain ⟨j, hj⟩ := Int.eq_ofNat_of_zero_le h3
    refine ⟨j, by omega, fun w => ?_⟩
    have HE : Hid (c % (n : Int) = (j : Int)) := hj; clear hj
    clear h2 h3 h4
    go_enter Try.func9, Try.ntmps9
    go_wp2
    go_ret
    exact ⟨ret_int HE.out, rfl⟩

set_option maxHeartbeats 400000 in
theorem whole_any (yb : Nat) (w : World) (hy : w.cell? ⟨yb, 1, none⟩ = some (.slice none 0 0)) :
    Calls Try.prog 7 #[.pointer (some ⟨yb, 1, none⟩)] w fun e w' => e = .returned (.bool true) ∧ w = w' := by
  go_enter Try.func7, Try.ntmps7
  go_wp2
  refine wp_loop_rounds 1 ?_
  rw [rounds_succ]; go_wp2
  go_ret
  exact ⟨rfl, rfl⟩

def headA : Array Value := #[I 1, I 0, I 3, I 0, I 0, I 2, I 0, I 0, I 1, I 2, I 2, I 0, I 1, I 2, I 3]
set_option maxHeartbeats 400000 in
theorem head_any (w : World) : Calls Try.prog 5 #[] w fun e w' => e = .returned (.slice (some ⟨w.heap.size, 0, none⟩) 3 3) ∧ w.alloc (.cells headA 36) = w' := by
  have hbs : ∀ w, (Instr.buildSlice 22 3 #[(0, .agg #[.int .i64 1, .int .i64 0, .int .i64 3, .int .i64 0, .int .i64 0]), (1, .agg #[.int .i64 2, .int .i64 0, .int .i64 0, .int .i64 1, .int .i64 2]), (2, .agg #[.int .i64 2, .int .i64 0, .int .i64 1, .int .i64 2, .int .i64 3])]).run Try.prog w = .ok (.slice (some ⟨w.heap.size, 0, none⟩) 3 3) (w.alloc (.cells headA 36)) := fun w => by kernel_rfl
  go_enter Try.func5, Try.ntmps5
  go_wp2
  go_ret
  exact ⟨rfl, rfl⟩
end Go.Proofs.Ytgimhfbpipgoeaa
