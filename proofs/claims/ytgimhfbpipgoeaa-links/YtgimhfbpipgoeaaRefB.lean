import Derived.Test.YtgimhfbpipgoeaaRefA
namespace Go.Proofs.Ytgimhfbpipgoeaa
open Go.RowKit

theorem pairE_zero {n x y : Int} (h : pairE n x y = 0) : (0 ≤ x ∧ x < n) ∧ (0 ≤ y ∧ y < n) ∧ x ≠ y := by
  by_cases h' : isB n x = true ∧ isB n y = true
  · refine ⟨isB_true h'.1, isB_true h'.2, ?_⟩
    rintro rfl
    simp [pairE, h'.1] at h
  · simp [pairE, h'] at h

/-- The slice value's length. -/
def lenV : Value → Int
  | .slice _ n _ => n
  | _ => 0

set_option maxHeartbeats 400000 in
theorem rwait_ok (b n : Nat) (x y : Nat) (C : Nat → Nat → Int) (V : Nat → Nat → Value) (w : World) (hn : n ≤ 5) (hR : RN w b n C V) (h0 : pairE n x y = 0) (ad : Option Addr) (l c : Nat) (hv : V x y = .slice ad l c) :
    Calls Try.prog 16 #[.pointer (some ⟨b, 0, none⟩), .int .i64 x, .int .i64 y] w fun e w' => e = .returned (.tuple #[.int .i64 l, .int .i64 0]) ∧ w = w' := by
  have hN := hR.n
  obtain ⟨⟨_, h1⟩, ⟨_, h2⟩, _⟩ := pairE_zero h0
  have hx : x < 5 := by omega
  have hy : y < 5 := by omega
  have hd := hR.v x y hx hy
  rw [hv] at hd
  have hx' : (x : Int) < 5 := by omega
  have hy' : (y : Int) < 5 := by omega
  clear hR hv
  go_enter Try.func16, Try.ntmps16
  go_wp2_with (go_at_call 49; refine (pair_any b n _ _ _ hN).mono ?_; rintro e w' ⟨rfl, rfl⟩)
  go_ret2
  exact ⟨rfl, rfl⟩
set_option maxHeartbeats 400000 in
theorem rwait_no (b n : Nat) (x y : Int) (C : Nat → Nat → Int) (V : Nat → Nat → Value) (w : World) (hR : RN w b n C V) (h0 : ¬ pairE n x y = 0) :
    Calls Try.prog 16 #[.pointer (some ⟨b, 0, none⟩), .int .i64 x, .int .i64 y] w fun e w' => e = .returned (.tuple #[.int .i64 0, .int .i64 (pairE n x y)]) ∧ w = w' := by
  have hN := hR.n
  have h0' : (pairE n x y != 0) = true := by simp [h0]
  clear hR
  go_enter Try.func16, Try.ntmps16
  go_wp2_with (go_at_call 49; refine (pair_any b n _ _ _ hN).mono ?_; rintro e w' ⟨rfl, rfl⟩)
  go_ret2
  exact ⟨rfl, rfl⟩

set_option maxHeartbeats 400000 in
theorem rroute_ok (b n : Nat) (x y : Nat) (C : Nat → Nat → Int) (V : Nat → Nat → Value) (w : World) (hn : n ≤ 5) (hR : RN w b n C V) (h0 : pairE n x y = 0) :
    Calls Try.prog 18 #[.pointer (some ⟨b, 0, none⟩), .int .i64 x, .int .i64 y] w fun e w' => e = .returned (.tuple #[.agg noneV, .int .i64 0]) ∧ Below w.heap.size w w' := by
  have hlt := hR.lt
  obtain ⟨⟨_, h1⟩, ⟨_, h2⟩, _⟩ := pairE_zero h0
  have hx : x < 5 := by omega
  have hy : y < 5 := by omega
  have d0 := hR.r x (1 + y * 5) hx (by omega)
  have d1 := hR.r x (1 + y * 5 + 1) hx (by omega)
  have d2 := hR.r x (1 + y * 5 + 2) hx (by omega)
  have d3 := hR.r x (1 + y * 5 + 3) hx (by omega)
  have d4 := hR.r x (1 + y * 5 + 4) hx (by omega)
  rw [bk_next y hy] at d0
  rw [bk_route y _ hy (by omega) (by omega)] at d1 d2 d3 d4
  simp only [← Nat.add_assoc] at d0 d1 d2 d3 d4
  have hx' : (x : Int) < 5 := by omega
  have hy' : (y : Int) < 5 := by omega
  go_enter Try.func18, Try.ntmps18
  go_wp2_with (go_at_call 51; refine (asks_any b n _ _ C V _ hn (hR.of ?_)).mono ?_; (simp [heap_alloc_old, hlt]); rintro e w' ⟨rfl, rfl⟩)
  exact bodyPost_ret (v := .tuple #[.agg noneV, .int .i64 0]) (by simp [results, Try.results18, go_sem, noneV]) rfl ⟨rfl, (Below.refl _ _).alloc (Nat.le_refl _) _⟩
def zRoute : Array Value := #[I 0, I 0, I 0, I 0, I 0]
def zBest : Array Value := #[I 0, I 0]
set_option maxHeartbeats 400000 in
theorem rroute_no (b n : Nat) (x y : Int) (C : Nat → Nat → Int) (V : Nat → Nat → Value) (w : World) (hn : n ≤ 5) (hR : RN w b n C V) (h0 : ¬ pairE n x y = 0) :
    Calls Try.prog 18 #[.pointer (some ⟨b, 0, none⟩), .int .i64 x, .int .i64 y] w fun e w' => e = .returned (.tuple #[.agg zRoute, .int .i64 (pairE n x y)]) ∧ Below w.heap.size w w' := by
  have hlt := hR.lt
  have h0' : (pairE n x y != 0) = true := by simp [h0]
  go_enter Try.func18, Try.ntmps18
  go_wp2_with (go_at_call 51; refine (asks_any b n _ _ C V _ hn (hR.of ?_)).mono ?_; (simp [heap_alloc_old, hlt]); rintro e w' ⟨rfl, rfl⟩)
  exact bodyPost_ret (v := .tuple #[.agg zRoute, .int .i64 (pairE n x y)]) (by simp [results, Try.results18, go_sem, zRoute]) rfl ⟨rfl, (Below.refl _ _).alloc (Nat.le_refl _) _⟩
set_option maxHeartbeats 400000 in
theorem rbest_ok (b n : Nat) (x y : Nat) (C : Nat → Nat → Int) (V : Nat → Nat → Value) (w : World) (hn : n ≤ 5) (hR : RN w b n C V) (h0 : pairE n x y = 0) :
    Calls Try.prog 20 #[.pointer (some ⟨b, 0, none⟩), .int .i64 x, .int .i64 y] w fun e w' => e = .returned (.tuple #[.agg nothingV, .int .i64 0]) ∧ Below w.heap.size w w' := by
  have hlt := hR.lt
  obtain ⟨⟨_, h1⟩, ⟨_, h2⟩, _⟩ := pairE_zero h0
  have hx : x < 5 := by omega
  have hy : y < 5 := by omega
  have d0 := hR.r x (26 + y * 2) hx (by omega)
  have d1 := hR.r x (26 + y * 2 + 1) hx (by omega)
  rw [(bk_best y hy).1] at d0
  rw [(bk_best y hy).2] at d1
  simp only [← Nat.add_assoc] at d0 d1
  have hx' : (x : Int) < 5 := by omega
  have hy' : (y : Int) < 5 := by omega
  go_enter Try.func20, Try.ntmps20
  go_wp2_with (go_at_call 51; refine (asks_any b n _ _ C V _ hn (hR.of ?_)).mono ?_; (simp [heap_alloc_old, hlt]); rintro e w' ⟨rfl, rfl⟩)
  exact bodyPost_ret (v := .tuple #[.agg nothingV, .int .i64 0]) (by simp [results, Try.results20, go_sem, nothingV]) rfl ⟨rfl, (Below.refl _ _).alloc (Nat.le_refl _) _⟩
set_option maxHeartbeats 400000 in
theorem rbest_no (b n : Nat) (x y : Int) (C : Nat → Nat → Int) (V : Nat → Nat → Value) (w : World) (hn : n ≤ 5) (hR : RN w b n C V) (h0 : ¬ pairE n x y = 0) :
    Calls Try.prog 20 #[.pointer (some ⟨b, 0, none⟩), .int .i64 x, .int .i64 y] w fun e w' => e = .returned (.tuple #[.agg zBest, .int .i64 (pairE n x y)]) ∧ Below w.heap.size w w' := by
  have hlt := hR.lt
  have h0' : (pairE n x y != 0) = true := by simp [h0]
  go_enter Try.func20, Try.ntmps20
  go_wp2_with (go_at_call 51; refine (asks_any b n _ _ C V _ hn (hR.of ?_)).mono ?_; (simp [heap_alloc_old, hlt]); rintro e w' ⟨rfl, rfl⟩)
  exact bodyPost_ret (v := .tuple #[.agg zBest, .int .i64 (pairE n x y)]) (by simp [results, Try.results20, go_sem, zBest]) rfl ⟨rfl, (Below.refl _ _).alloc (Nat.le_refl _) _⟩

theorem size91 : (Try.prog.info? 91).map (·.size) = some 36 := by kernel_rfl
def Z36 : Array Value := Array.replicate 36 (I 0)
theorem alloc91 (w : World) : (Instr.alloc 91 true (.tuple #[])).run Try.prog w = .ok (.pointer (some ⟨w.heap.size, 0, none⟩)) (w.alloc (.cells Z36 91)) := by kernel_rfl

set_option maxHeartbeats 400000 in
/-- 'without', at a table with no route. -/
theorem without_gen (T : Array Value) (hT : T.size = 36) (h1 : T[1]? = some (I (-1))) (h2 : T[6]? = some (I (-1))) (h3 : T[11]? = some (I (-1))) (h4 : T[16]? = some (I (-1))) (h5 : T[21]? = some (I (-1)))  (x : Int) (w : World) (hx : 0 ≤ x) (ho : T.all (·.oneCell') = true) :
    Calls Try.prog 54 #[.agg T, .int .i64 x] w fun e w' => e = .returned (.agg T) ∧ Below w.heap.size w w' := by
  have hx' : ((-1 : Int) == x) = false := by simp; omega
  have HT : Hid (T.size = 36) := hT; clear hT
  have HO : Hid (T.all (·.oneCell') = true) := ho; clear ho
  go_enter Try.func54, Try.ntmps54
  go_wp2_with (refine wpList_alloc_z (by rfl) 91 (by rfl) Z36 alloc91 ?_)
  have hb0 : ((w.alloc (.cells T 91)).alloc (.cells Z36 91)).heap[w.heap.size]? = some (.cells T 91 (0, 0)) := heap_alloc2_old _ _ _
  have hb1 : ((w.alloc (.cells T 91)).alloc (.cells Z36 91)).heap[w.heap.size + 1]? = some (.cells Z36 91 (0, 0)) := heap_alloc2_new _ _ _
  refine wp_loop_rounds 6 ?_
  rw [rounds_succ]; go_wp2
  rw [rounds_succ]; go_wp2
  rw [rounds_succ]; go_wp2
  rw [rounds_succ]; go_wp2
  rw [rounds_succ]; go_wp2
  rw [rounds_succ]; go_wp2_with (first | (refine wpList_load_mid (by rfl) 91 _ (by rfl) _ _ (by rfl) T.toList _ (rangeAt_head hb0) Try.underlying91 rfl (by rw [size91]; simp [HT.out]) ?_) | (refine wpList_store_row (by rfl) 91 _ _ (by rfl) _ T Z36 91 (by rfl) (by rfl) hb1 (by rw [HT.out]; rfl) (by rw [size91]; simp [HT.out]) HO.out ?_; intro w1 g1 g2 g3 g4 g5 g6))
  refine bodyPost_ret (v := .agg T) (results_cell_row rfl _ _ _ _ _ _ _ rfl g1 Try.underlying91 rfl (by rw [size91, HT.out])) rfl ⟨rfl, ?_⟩
  exact below_row (((Below.refl _ _).alloc (Nat.le_refl _) _).alloc (by simp) _) (by omega) g2 g3 g4 g5 g6
theorem without_any (x : Int) (w : World) (hx : 0 ≤ x) : Calls Try.prog 54 #[.agg blankA, .int .i64 x] w fun e w' => e = .returned (.agg blankA) ∧ Below w.heap.size w w' :=
  without_gen blankA blankA_size (blankA_at 1 (by omega)) (blankA_at 6 (by omega)) (blankA_at 11 (by omega)) (blankA_at 16 (by omega)) (blankA_at 21 (by omega)) x w hx blankA_one
end Go.Proofs.Ytgimhfbpipgoeaa
