import Derived.Test.YtgimhfbpipgoeaaProC
namespace Go.Proofs.Ytgimhfbpipgoeaa
open Go.RowKit

theorem size114 : (Try.prog.info? 114).map (·.size) = some 10 := by kernel_rfl
theorem size72 : (Try.prog.info? 72).map (·.size) = some 5 := by kernel_rfl
theorem al114 (w : World) : (Instr.alloc 114 true (.tuple #[])).run Try.prog w = .ok (.pointer (some ⟨w.heap.size, 0, none⟩)) (w.alloc (.cells Zm 114)) := by rw [Zm_eq]; kernel_rfl
/-- What a router tells that learned nothing, behind k rounds; and whole. -/
def mk10 (k x o : Nat) : Value := if o / 2 < k then (if o / 2 = x then I 0 else if o % 2 = 0 then I (-1) else I 0) else I 0
def mkW (k x n : Nat) : List Value := if n = 0 then (List.range 10).map (mk10 k x) else mkW k x (n - 1)
def mkA (k x : Nat) : Array Value := (mkW k x 0).toArray
theorem mkA_eq (k x : Nat) : mkA k x = ((List.range 10).map (mk10 k x)).toArray := by unfold mkA; rw [mkW]; rfl
theorem mkA_size (k x : Nat) : (mkA k x).size = 10 := by rw [mkA_eq]; simp
theorem mkA_one (k x : Nat) : (mkA k x).all (·.oneCell') = true := by
  rw [mkA_eq, Array.all_eq_true_iff_forall_mem]
  intro v hv
  simp only [List.mem_toArray, List.mem_map] at hv
  obtain ⟨o, _, rfl⟩ := hv
  unfold mk10
  split
  · split
    · rfl
    · split <;> rfl
  · rfl
theorem mkA_zero (x : Nat) : mkA 0 x = Zm := by
  rw [mkA_eq, Zm_eq]
  kernel_rfl
theorem mkA_self (k : Nat) (hk : k < 5) : ((mkA k k).setIfInBounds (k * 2) (I 0)).setIfInBounds (k * 2 + 1) (I 0) = mkA (k + 1) k := by
  rw [mkA_eq, mkA_eq]
  rcases k with _ | _ | _ | _ | _ | k
  · kernel_rfl
  · kernel_rfl
  · kernel_rfl
  · kernel_rfl
  · kernel_rfl
  · omega
theorem mkA_other (k x : Nat) (hne : k ≠ x) : ((mkA k x).setIfInBounds (k * 2) (I (-1))).setIfInBounds (k * 2 + 1) (I 0) = mkA (k + 1) x := by
  rw [mkA_eq, mkA_eq]
  apply Array.ext
  · simp
  · intro i h1 h2
    have hi : i < 10 := by simpa using h2
    have hv : ∀ v, (mk10 (k + 1) x (k * 2) = I (-1)) ∧ (mk10 (k + 1) x (k * 2 + 1) = v ∨ mk10 (k + 1) x (k * 2 + 1) = I 0) := fun v => by
      have e1 : k * 2 / 2 = k := by omega
      have e2 : (k * 2 + 1) / 2 = k := by omega
      have e3 : k * 2 % 2 = 0 := by omega
      have e4 : (k * 2 + 1) % 2 = 1 := by omega
      unfold mk10
      rw [e1, e2, e3, e4]
      simp [hne]
    by_cases c2 : i = k * 2 + 1
    · subst c2
      have := (hv (I 0)).2
      have h0 : mk10 (k + 1) x (k * 2 + 1) = I 0 := by rcases this with h | h <;> exact h
      simp [h0]
    · by_cases c1 : i = k * 2
      · subst c1
        simp [(hv (I 0)).1]
      · have hd : i / 2 < k + 1 ↔ i / 2 < k := by omega
        simp [Ne.symm c1, Ne.symm c2, mk10, hd]
theorem aggOk_mk (k x : Nat) : AggOk 10 (.agg (mkA k x)) := ⟨rfl, mkA_size k x, mkA_one k x⟩
theorem ld114 (w : World) (ρ : Operand → Value) (x : Operand) (ds : Option Tmp) (ty : TypeId) (ps : String) (af : Array Edge) (g : Option (Nat × Bool))
    (h1 : ρ x = .pointer (some ⟨vb (ρ x), vo (ρ x), none⟩)) (h2 : MidOk w (vb (ρ x)) (vo (ρ x)) 10) :
    (execOp ρ { dst := ds, op := .load 114 x, type := ty, pos := ps, after := af, guard := g }).run Try.prog w = .ok (.value (.agg (midA w (vb (ρ x)) (vo (ρ x)) 10))) w :=
  load_rule Try.underlying114 rfl size114 w ρ x ds ty ps af g h1 h2
theorem st114 (w : World) (ρ : Operand → Value) (x y : Operand) (ds : Option Tmp) (ty : TypeId) (ps : String) (af : Array Edge) (g : Option (Nat × Bool))
    (h1 : ρ x = .pointer (some ⟨vb (ρ x), vo (ρ x), none⟩)) (h3 : AggOk 10 (ρ y)) (h2 : w.there (vb (ρ x)) (vo (ρ x)) 10) :
    (execOp ρ { dst := ds, op := .store 114 x y, type := ty, pos := ps, after := af, guard := g }).run Try.prog w = .ok .skip (w.setCells (vb (ρ x)) (vo (ρ x)) (cellsL (ρ y))) :=
  store_rule size114 w ρ x y ds ty ps af g h1 h3 h2
theorem alc114 (w : World) (ρ : Operand → Value) (ds : Option Tmp) (ty : TypeId) (ps : String) (af : Array Edge) (g : Option (Nat × Bool)) :
    (execOp ρ { dst := ds, op := .alloc 114, type := ty, pos := ps, after := af, guard := g }).run Try.prog w = .ok (.value (.pointer (some ⟨w.heap.size, 0, none⟩))) (w.alloc (.cells Zm 114)) :=
  alloc_rule al114 w ρ ds ty ps af g
theorem ld72 (w : World) (ρ : Operand → Value) (x : Operand) (ds : Option Tmp) (ty : TypeId) (ps : String) (af : Array Edge) (g : Option (Nat × Bool))
    (h1 : ρ x = .pointer (some ⟨vb (ρ x), vo (ρ x), none⟩)) (h2 : MidOk w (vb (ρ x)) (vo (ρ x)) 5) :
    (execOp ρ { dst := ds, op := .load 72 x, type := ty, pos := ps, after := af, guard := g }).run Try.prog w = .ok (.value (.agg (midA w (vb (ρ x)) (vo (ρ x)) 5))) w :=
  load_rule Try.underlying72 rfl size72 w ρ x ds ty ps af g h1 h2

set_option maxHeartbeats 400000 in
theorem hasRoute_any (bs o d : Nat) (w : World) (hd : d < 5) (hc : w.cell? ⟨bs, o + (1 + d * 5), none⟩ = some (I (-1))) :
    Calls Try.prog 77 #[.pointer (some ⟨bs, o, none⟩), .int .i64 d] w fun e w' => e = .returned (.bool false) ∧ w = w' := by
  have hd' : (d : Int) < 5 := by omega
  simp only [← Nat.add_assoc] at hc
  go_enter Try.func77, Try.ntmps77
  go_wp2
  go_ret
  exact ⟨rfl, rfl⟩
set_option maxHeartbeats 400000 in
theorem better_any (w : World) :
    Calls Try.prog 80 #[.agg #[.int .i64 (-1), .int .i64 0], .agg #[.int .i64 (-1), .int .i64 0]] w fun e w' => e = .returned (.bool false) ∧ Below w.heap.size w w' := by
  go_enter Try.func80, Try.ntmps80
  go_wp2
  go_ret
  exact ⟨rfl, ((Below.refl _ _).alloc (Nat.le_refl _) _).alloc (by simp) _⟩
set_option maxHeartbeats 1000000 in
theorem dropFar_any (bs o : Nat) (T : Array Value) (lg : Value) (w : World) (hlt : bs < w.heap.size) (hc : ∀ d, d < 5 → w.cell? ⟨bs, o + (1 + d * 5), none⟩ = some (I (-1))) :
    Calls Try.prog 72 #[.pointer (some ⟨bs, o, none⟩), .agg T, lg] w fun e w' => e = .returned (.tuple #[]) ∧ Below w.heap.size w w' := by
  have hc' : ∀ d, d < 5 → (w.alloc (.cells T 72)).cell? ⟨bs, o + (1 + d * 5), none⟩ = some (I (-1)) := fun d hd => by
    rw [World.cell?_of_block (w := w) (a := ⟨bs, _, none⟩) (Below.heap_alloc w _ bs hlt)]; exact hc d hd
  have HC : Hid (∀ d, d < 5 → (w.alloc (.cells T 72)).cell? ⟨bs, o + (1 + d * 5), none⟩ = some (I (-1))) := hc'
  clear hc hc'
  go_enter Try.func72, Try.ntmps72
  go_wp2
  go_loop [7] (fun i => ∃ k : Nat, k ≤ 5 ∧ i = .int .i64 k) (fun i => 5 - (intOf i).toNat)
  case atStart => exact ⟨0, by omega, rfl⟩
  case round =>
    obtain ⟨k, hk, rfl⟩ := hrel
    by_cases hk5 : k < 5
    · have hk' : (k : Int) < 5 := by omega
      go_wp2_with (go_at_call 77; refine (hasRoute_any bs o k _ hk5 (HC.out k hk5)).mono ?_; rintro e w' ⟨rfl, rfl⟩)
      go_round
      case rel => exact ⟨k + 1, by omega, by go_num⟩
      case measure => simp [intOf]; omega
    · go_wp2
      go_end0
      exact ⟨rfl, (Below.refl _ _).alloc (Nat.le_refl _) _⟩
end Go.Proofs.Ytgimhfbpipgoeaa
