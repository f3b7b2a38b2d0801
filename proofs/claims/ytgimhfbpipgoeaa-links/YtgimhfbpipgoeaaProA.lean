import Derived.Test.YtgimhfbpipgoeaaRule
namespace Go.Proofs.Ytgimhfbpipgoeaa
open Go.RowKit

/-- The program's net, as it lies in memory. -/
structure PN (w : World) (bx bs n : Nat) (C : Nat → Nat → Int) (V : Nat → Nat → Value) : Prop where
  rs : w.cell? ⟨bx, 0, none⟩ = some (.slice (some ⟨bs, 0, none⟩) n n)
  c : ∀ a b, a < 5 → b < 5 → w.cell? ⟨bx, 1 + a * 5 + b, none⟩ = some (I (C a b))
  v : ∀ a b, a < 5 → b < 5 → w.cell? ⟨bx, 26 + a * 5 + b, none⟩ = some (V a b)
  fz : ∀ o, w.frozen? ⟨bx, o, none⟩ = false
  r : ∀ i j, i < n → j < 74 → w.cell? ⟨bs, i * 74 + j, none⟩ = some (bk j)
  rfz : ∀ o, w.frozen? ⟨bs, o, none⟩ = false
  ne : bx ≠ bs
theorem PN.lt {w : World} {bx bs n : Nat} {C : Nat → Nat → Int} {V : Nat → Nat → Value} (h : PN w bx bs n C V) : bx < w.heap.size := lt_of_cell h.rs
theorem PN.lts {w : World} {bx bs n : Nat} {C : Nat → Nat → Int} {V : Nat → Nat → Value} (h : PN w bx bs n C V) (hn : 0 < n) : bs < w.heap.size := lt_of_cell (h.r 0 0 hn (by omega))
theorem PN.of {w w' : World} {bx bs n : Nat} {C : Nat → Nat → Int} {V : Nat → Nat → Value} (h : PN w bx bs n C V) (hb : w'.heap[bx]? = w.heap[bx]?) (hs : w'.heap[bs]? = w.heap[bs]?) : PN w' bx bs n C V := by
  have hc : ∀ o, w'.cell? ⟨bx, o, none⟩ = w.cell? ⟨bx, o, none⟩ := fun o => World.cell?_of_block (w := w) hb
  have hf : ∀ o, w'.frozen? ⟨bx, o, none⟩ = w.frozen? ⟨bx, o, none⟩ := fun o => World.frozen?_of_block (w := w) hb
  have hc' : ∀ o, w'.cell? ⟨bs, o, none⟩ = w.cell? ⟨bs, o, none⟩ := fun o => World.cell?_of_block (w := w) hs
  have hf' : ∀ o, w'.frozen? ⟨bs, o, none⟩ = w.frozen? ⟨bs, o, none⟩ := fun o => World.frozen?_of_block (w := w) hs
  exact ⟨by rw [hc]; exact h.rs, fun a b ha hb => by rw [hc]; exact h.c a b ha hb, fun a b ha hb => by rw [hc]; exact h.v a b ha hb, fun o => by rw [hf]; exact h.fz o, fun i j hi hj => by rw [hc']; exact h.r i j hi hj, fun o => by rw [hf']; exact h.rfz o, h.ne⟩
theorem PN.below {w w' : World} {bx bs n : Nat} {C : Nat → Nat → Int} {V : Nat → Nat → Value} (h : PN w bx bs n C V) (hn : 0 < n) (hb : Below w.heap.size w w') : PN w' bx bs n C V := h.of (hb.block _ h.lt) (hb.block _ (h.lts hn))

set_option maxHeartbeats 400000 in
theorem has_any (bx n bs : Nat) (r : Int) (w : World) (hN : w.cell? ⟨bx, 0, none⟩ = some (.slice (some ⟨bs, 0, none⟩) n n)) :
    Calls Try.prog 66 #[.pointer (some ⟨bx, 0, none⟩), .int .i64 r] w fun e w' => e = .returned (.bool (isB n r)) ∧ w = w' := by
  by_cases h1 : 0 ≤ r
  · go_enter Try.func66, Try.ntmps66
    go_wp2
    go_ret
    exact ⟨by simp [isB, h1], rfl⟩
  · have hb : isB n r = false := by simp [isB, h1]
    go_enter Try.func66, Try.ntmps66
    go_wp2
    go_ret
    exact ⟨rfl, rfl⟩

set_option maxHeartbeats 400000 in
theorem cpair_any (bx n bs : Nat) (x y : Int) (w : World) (hN : w.cell? ⟨bx, 0, none⟩ = some (.slice (some ⟨bs, 0, none⟩) n n)) :
    Calls Try.prog 48 #[.pointer (some ⟨bx, 0, none⟩), .int .i64 x, .int .i64 y] w fun e w' => e = .returned (.int .i64 (pairE n x y)) ∧ w = w' := by
  by_cases h1 : isB n x = true
  · by_cases h2 : isB n y = true
    · by_cases h3 : x = y
      · subst h3
        have hE : pairE n x x = 3 := by simp [pairE, h1]
        go_enter Try.func48, Try.ntmps48
        go_wp2_with (go_at_call 66; refine (has_any bx n bs _ _ hN).mono ?_; rintro e w' ⟨rfl, rfl⟩)
        go_ret
        exact ⟨by rw [hE]; rfl, rfl⟩
      · have hE : pairE n x y = 0 := by simp [pairE, h1, h2, h3]
        have h3' : (x == y) = false := by simp [h3]
        go_enter Try.func48, Try.ntmps48
        go_wp2_with (go_at_call 66; refine (has_any bx n bs _ _ hN).mono ?_; rintro e w' ⟨rfl, rfl⟩)
        go_ret
        exact ⟨by rw [hE]; rfl, rfl⟩
    · have h2 : isB n y = false := by simpa using h2
      have hE : pairE n x y = 2 := by simp [pairE, h2]
      go_enter Try.func48, Try.ntmps48
      go_wp2_with (go_at_call 66; refine (has_any bx n bs _ _ hN).mono ?_; rintro e w' ⟨rfl, rfl⟩)
      go_ret
      exact ⟨by rw [hE]; rfl, rfl⟩
  · have h1 : isB n x = false := by simpa using h1
    have hE : pairE n x y = 2 := by simp [pairE, h1]
    go_enter Try.func48, Try.ntmps48
    go_wp2_with (go_at_call 66; refine (has_any bx n bs _ _ hN).mono ?_; rintro e w' ⟨rfl, rfl⟩)
    go_ret
    exact ⟨by rw [hE]; rfl, rfl⟩

set_option maxHeartbeats 400000 in
theorem cup_any (bx bs n : Nat) (r : Int) (C : Nat → Nat → Int) (V : Nat → Nat → Value) (w : World) (hR : PN w bx bs n C V) :
    Calls Try.prog 58 #[.pointer (some ⟨bx, 0, none⟩), .int .i64 r] w fun e w' => e = .returned (.int .i64 (upE n r)) ∧ w = w' := by
  have hN := hR.rs
  by_cases h1 : isB n r = true
  · have hE : upE n r = 0 := by simp [upE, h1]
    obtain ⟨i, rfl⟩ := Int.eq_ofNat_of_zero_le (isB_true h1).1
    have hi : i < n := by have := (isB_true h1).2; omega
    have hd := hR.r i 73 hi (by omega)
    have hb : bk 73 = .bool false := rfl
    rw [hb] at hd
    clear hb
    have hi' : (i : Int) < (n : Int) := by omega
    clear hR
    go_enter Try.func58, Try.ntmps58
    go_wp2_with (go_at_call 66; refine (has_any bx n bs _ _ hN).mono ?_; rintro e w' ⟨rfl, rfl⟩)
    go_ret
    exact ⟨by rw [hE]; rfl, rfl⟩
  · have h1 : isB n r = false := by simpa using h1
    have hE : upE n r = 2 := by simp [upE, h1]
    clear hR
    go_enter Try.func58, Try.ntmps58
    go_wp2_with (go_at_call 66; refine (has_any bx n bs _ _ hN).mono ?_; rintro e w' ⟨rfl, rfl⟩)
    go_ret
    exact ⟨by rw [hE]; rfl, rfl⟩

set_option maxHeartbeats 400000 in
theorem cask_any (bx bs n : Nat) (x y : Int) (C : Nat → Nat → Int) (V : Nat → Nat → Value) (w : World) (hR : PN w bx bs n C V) :
    Calls Try.prog 50 #[.pointer (some ⟨bx, 0, none⟩), .int .i64 x, .int .i64 y] w fun e w' => e = .returned (.int .i64 (pairE n x y)) ∧ w = w' := by
  have hN := hR.rs
  by_cases h0 : pairE n x y = 0
  · have h1 : isB n x = true := by
      by_cases h : isB n x = true ∧ isB n y = true
      · exact h.1
      · simp [pairE, h] at h0
    have hE : upE n x = 0 := by simp [upE, h1]
    go_enter Try.func50, Try.ntmps50
    go_wp2_with (first | (go_at_call 48; refine (cpair_any bx n bs _ _ _ hN).mono ?_; rintro e w' ⟨rfl, rfl⟩) | (go_at_call 58; refine (cup_any bx bs n _ C V _ hR).mono ?_; rintro e w' ⟨rfl, rfl⟩))
    go_ret
    exact ⟨by rw [h0]; rfl, rfl⟩
  · have h0' : (pairE n x y != 0) = true := by simp [h0]
    go_enter Try.func50, Try.ntmps50
    go_wp2_with (go_at_call 48; refine (cpair_any bx n bs _ _ _ hN).mono ?_; rintro e w' ⟨rfl, rfl⟩)
    go_ret
    exact ⟨rfl, rfl⟩

set_option maxHeartbeats 400000 in
theorem pnone_b (w : World) : Calls Try.prog 67 #[] w fun e w' => e = .returned (.agg #[.int .i64 (-1), .int .i64 0, .int .i64 0, .int .i64 0, .int .i64 0]) ∧ Below w.heap.size w w' := by
  go_enter Try.func67, Try.ntmps67
  go_wp2
  exact bodyPost_ret (v := .agg #[.int .i64 (-1), .int .i64 0, .int .i64 0, .int .i64 0, .int .i64 0]) (by simp [results, Try.results67, go_sem]) rfl ⟨rfl, (Below.refl _ _).alloc (Nat.le_refl _) _⟩
set_option maxHeartbeats 400000 in
theorem pnothing_b (w : World) : Calls Try.prog 76 #[] w fun e w' => e = .returned (.agg #[.int .i64 (-1), .int .i64 0]) ∧ Below w.heap.size w w' := by
  go_enter Try.func76, Try.ntmps76
  go_wp2
  exact bodyPost_ret (v := .agg #[.int .i64 (-1), .int .i64 0]) (by simp [results, Try.results76, go_sem]) rfl ⟨rfl, (Below.refl _ _).alloc (Nat.le_refl _) _⟩

set_option maxHeartbeats 400000 in
theorem pwait_ok (bx bs n x y : Nat) (C : Nat → Nat → Int) (V : Nat → Nat → Value) (w : World) (hn : n ≤ 5) (hR : PN w bx bs n C V) (h0 : pairE n x y = 0) (ad : Option Addr) (l c : Nat) (hv : V x y = .slice ad l c) :
    Calls Try.prog 15 #[.pointer (some ⟨bx, 0, none⟩), .int .i64 x, .int .i64 y] w fun e w' => e = .returned (.tuple #[.int .i64 l, .int .i64 0]) ∧ w = w' := by
  have hN := hR.rs
  obtain ⟨⟨_, h1⟩, ⟨_, h2⟩, _⟩ := pairE_zero h0
  have hx : x < 5 := by omega
  have hy : y < 5 := by omega
  have hd := hR.v x y hx hy
  rw [hv] at hd
  have hx' : (x : Int) < 5 := by omega
  have hy' : (y : Int) < 5 := by omega
  clear hR hv
  go_enter Try.func15, Try.ntmps15
  go_wp2_with (go_at_call 48; refine (cpair_any bx n bs _ _ _ hN).mono ?_; rintro e w' ⟨rfl, rfl⟩)
  go_ret2
  exact ⟨rfl, rfl⟩
set_option maxHeartbeats 400000 in
theorem pwait_no (bx bs n : Nat) (x y : Int) (C : Nat → Nat → Int) (V : Nat → Nat → Value) (w : World) (hR : PN w bx bs n C V) (h0 : ¬ pairE n x y = 0) :
    Calls Try.prog 15 #[.pointer (some ⟨bx, 0, none⟩), .int .i64 x, .int .i64 y] w fun e w' => e = .returned (.tuple #[.int .i64 0, .int .i64 (pairE n x y)]) ∧ w = w' := by
  have hN := hR.rs
  have h0' : (pairE n x y != 0) = true := by simp [h0]
  clear hR
  go_enter Try.func15, Try.ntmps15
  go_wp2_with (go_at_call 48; refine (cpair_any bx n bs _ _ _ hN).mono ?_; rintro e w' ⟨rfl, rfl⟩)
  go_ret2
  exact ⟨rfl, rfl⟩

set_option maxHeartbeats 400000 in
theorem proute_ok (bx bs n x y : Nat) (C : Nat → Nat → Int) (V : Nat → Nat → Value) (w : World) (hn : n ≤ 5) (hR : PN w bx bs n C V) (h0 : pairE n x y = 0) :
    Calls Try.prog 17 #[.pointer (some ⟨bx, 0, none⟩), .int .i64 x, .int .i64 y] w fun e w' => e = .returned (.tuple #[.agg noneV, .int .i64 0]) ∧ Below w.heap.size w w' := by
  obtain ⟨⟨_, h1⟩, ⟨_, h2⟩, _⟩ := pairE_zero h0
  have hlt := hR.lt
  have hlt2 := hR.lts (by omega)
  have hN := hR.rs
  have hx : x < n := by omega
  have hy : y < 5 := by omega
  have d0 := hR.r x (1 + y * 5) hx (by omega)
  have d1 := hR.r x (1 + y * 5 + 1) hx (by omega)
  have d2 := hR.r x (1 + y * 5 + 2) hx (by omega)
  have d3 := hR.r x (1 + y * 5 + 3) hx (by omega)
  have d4 := hR.r x (1 + y * 5 + 4) hx (by omega)
  rw [bk_next y hy] at d0
  rw [bk_route y _ hy (by omega) (by omega)] at d1 d2 d3 d4
  simp only [← Nat.add_assoc] at d0 d1 d2 d3 d4
  have hy' : (y : Int) < 5 := by omega
  go_enter Try.func17, Try.ntmps17
  go_wp2_with (go_at_call 50; refine (cask_any bx bs n _ _ C V _ (hR.below (by omega) ?_)).mono ?_; exact (Below.refl _ _).alloc (Nat.le_refl _) _; rintro e w' ⟨rfl, rfl⟩)
  exact bodyPost_ret (v := .tuple #[.agg noneV, .int .i64 0]) (by simp [results, Try.results17, go_sem, noneV]) rfl ⟨rfl, (Below.refl _ _).alloc (Nat.le_refl _) _⟩
set_option maxHeartbeats 400000 in
theorem proute_no (bx bs n : Nat) (x y : Int) (C : Nat → Nat → Int) (V : Nat → Nat → Value) (w : World) (hn : 0 < n) (hR : PN w bx bs n C V) (h0 : ¬ pairE n x y = 0) :
    Calls Try.prog 17 #[.pointer (some ⟨bx, 0, none⟩), .int .i64 x, .int .i64 y] w fun e w' => e = .returned (.tuple #[.agg zRoute, .int .i64 (pairE n x y)]) ∧ Below w.heap.size w w' := by
  have h0' : (pairE n x y != 0) = true := by simp [h0]
  go_enter Try.func17, Try.ntmps17
  go_wp2_with (go_at_call 50; refine (cask_any bx bs n _ _ C V _ (hR.below hn ?_)).mono ?_; exact (Below.refl _ _).alloc (Nat.le_refl _) _; rintro e w' ⟨rfl, rfl⟩)
  exact bodyPost_ret (v := .tuple #[.agg zRoute, .int .i64 (pairE n x y)]) (by simp [results, Try.results17, go_sem, zRoute]) rfl ⟨rfl, (Below.refl _ _).alloc (Nat.le_refl _) _⟩
set_option maxHeartbeats 400000 in
theorem pbest_ok (bx bs n x y : Nat) (C : Nat → Nat → Int) (V : Nat → Nat → Value) (w : World) (hn : n ≤ 5) (hR : PN w bx bs n C V) (h0 : pairE n x y = 0) :
    Calls Try.prog 19 #[.pointer (some ⟨bx, 0, none⟩), .int .i64 x, .int .i64 y] w fun e w' => e = .returned (.tuple #[.agg nothingV, .int .i64 0]) ∧ Below w.heap.size w w' := by
  obtain ⟨⟨_, h1⟩, ⟨_, h2⟩, _⟩ := pairE_zero h0
  have hlt := hR.lt
  have hlt2 := hR.lts (by omega)
  have hN := hR.rs
  have hx : x < n := by omega
  have hy : y < 5 := by omega
  have d0 := hR.r x (26 + y * 2) hx (by omega)
  have d1 := hR.r x (26 + y * 2 + 1) hx (by omega)
  rw [(bk_best y hy).1] at d0
  rw [(bk_best y hy).2] at d1
  simp only [← Nat.add_assoc] at d0 d1
  have hy' : (y : Int) < 5 := by omega
  go_enter Try.func19, Try.ntmps19
  go_wp2_with (go_at_call 50; refine (cask_any bx bs n _ _ C V _ (hR.below (by omega) ?_)).mono ?_; exact (Below.refl _ _).alloc (Nat.le_refl _) _; rintro e w' ⟨rfl, rfl⟩)
  exact bodyPost_ret (v := .tuple #[.agg nothingV, .int .i64 0]) (by simp [results, Try.results19, go_sem, nothingV]) rfl ⟨rfl, (Below.refl _ _).alloc (Nat.le_refl _) _⟩
set_option maxHeartbeats 400000 in
theorem pbest_no (bx bs n : Nat) (x y : Int) (C : Nat → Nat → Int) (V : Nat → Nat → Value) (w : World) (hn : 0 < n) (hR : PN w bx bs n C V) (h0 : ¬ pairE n x y = 0) :
    Calls Try.prog 19 #[.pointer (some ⟨bx, 0, none⟩), .int .i64 x, .int .i64 y] w fun e w' => e = .returned (.tuple #[.agg zBest, .int .i64 (pairE n x y)]) ∧ Below w.heap.size w w' := by
  have h0' : (pairE n x y != 0) = true := by simp [h0]
  go_enter Try.func19, Try.ntmps19
  go_wp2_with (go_at_call 50; refine (cask_any bx bs n _ _ C V _ (hR.below hn ?_)).mono ?_; exact (Below.refl _ _).alloc (Nat.le_refl _) _; rintro e w' ⟨rfl, rfl⟩)
  exact bodyPost_ret (v := .tuple #[.agg zBest, .int .i64 (pairE n x y)]) (by simp [results, Try.results19, go_sem, zBest]) rfl ⟨rfl, (Below.refl _ _).alloc (Nat.le_refl _) _⟩
end Go.Proofs.Ytgimhfbpipgoeaa
