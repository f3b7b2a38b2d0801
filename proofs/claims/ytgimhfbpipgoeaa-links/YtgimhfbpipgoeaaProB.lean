import Derived.Test.YtgimhfbpipgoeaaProA
namespace Go.Proofs.Ytgimhfbpipgoeaa
open Go.RowKit

set_option maxHeartbeats 1000000 in
theorem dropBy_any (bs o : Nat) (y : Int) (w : World) (hy : 0 ≤ y) (hc : ∀ d, d < 5 → w.cell? ⟨bs, o + (1 + d * 5), none⟩ = some (I (-1))) :
    Calls Try.prog 53 #[.pointer (some ⟨bs, o, none⟩), .int .i64 y] w fun e w' => e = .returned (.tuple #[]) ∧ w = w' := by
  have hy' : ((-1 : Int) == y) = false := by rw [beq_eq_false_iff_ne]; omega
  have c0 := hc 0 (by omega)
  have c1 := hc 1 (by omega)
  have c2 := hc 2 (by omega)
  have c3 := hc 3 (by omega)
  have c4 := hc 4 (by omega)
  simp only [← Nat.add_assoc] at c0 c1 c2 c3 c4
  clear hc
  go_enter Try.func53, Try.ntmps53
  go_wp2
  refine wp_loop_rounds 6 ?_
  rw [rounds_succ]; go_wp2
  rw [rounds_succ]; go_wp2
  rw [rounds_succ]; go_wp2
  rw [rounds_succ]; go_wp2
  rw [rounds_succ]; go_wp2
  rw [rounds_succ]; go_wp2
  go_end0
  exact ⟨rfl, rfl⟩

theorem PN.link {w : World} {bx bs n : Nat} {C : Nat → Nat → Int} {V : Nat → Nat → Value} (hR : PN w bx bs n C V) (x y : Nat) (hx : x < 5) (hy : y < 5) (c : Int) :
    PN ((w.setCell ⟨bx, 1 + x * 5 + y, none⟩ (I c)).setCell ⟨bx, 1 + y * 5 + x, none⟩ (I c)) bx bs n (updC C x y c) V := by
  have ho : ∀ o, o ≠ 1 + x * 5 + y → o ≠ 1 + y * 5 + x → ((w.setCell ⟨bx, 1 + x * 5 + y, none⟩ (I c)).setCell ⟨bx, 1 + y * 5 + x, none⟩ (I c)).cell? ⟨bx, o, none⟩ = w.cell? ⟨bx, o, none⟩ := fun o h1 h2 => by
    rw [World.cell?_setCell_other _ _ _ _ (addr_ne (by omega)), World.cell?_setCell_other _ _ _ _ (addr_ne (by omega))]
  have hs : ((w.setCell ⟨bx, 1 + x * 5 + y, none⟩ (I c)).setCell ⟨bx, 1 + y * 5 + x, none⟩ (I c)).heap[bs]? = w.heap[bs]? := by
    rw [heap_setCell_other _ _ _ _ hR.ne.symm, heap_setCell_other _ _ _ _ hR.ne.symm]
  refine ⟨?_, fun i j hi hj => ?_, fun i j hi hj => ?_, fun o => ?_, fun i j hi hj => ?_, fun o => ?_, hR.ne⟩
  · rw [ho _ (by omega) (by omega)]; exact hR.rs
  · obtain ⟨v1, hv1⟩ := cell?_setCell_some (w := w) (p := ⟨bx, 1 + x * 5 + y, none⟩) (x := I c) (q := ⟨bx, 1 + y * 5 + x, none⟩) (v := I (C y x)) (hR.c y x hy hx)
    by_cases h2 : i = y ∧ j = x
    · obtain ⟨rfl, rfl⟩ := h2
      rw [World.cell?_setCell_same _ _ _ hv1]
      simp [updC]
    · by_cases h1 : i = x ∧ j = y
      · obtain ⟨rfl, rfl⟩ := h1
        rw [World.cell?_setCell_other _ _ _ _ (addr_ne (by omega)), World.cell?_setCell_same _ _ _ (hR.c i j hi hj)]
        simp [updC]
      · rw [ho _ (by omega) (by omega), hR.c i j hi hj]
        simp [updC, h1, h2]
  · rw [ho _ (by omega) (by omega)]; exact hR.v i j hi hj
  · rw [World.frozen?_setCell, World.frozen?_setCell]; exact hR.fz o
  · rw [World.cell?_of_block (w := w) hs]; exact hR.r i j hi hj
  · rw [World.frozen?_of_block (w := w) hs]; exact hR.rfz o

set_option maxHeartbeats 400000 in
theorem plink_no1 (bx bs n : Nat) (x y c : Int) (C : Nat → Nat → Int) (V : Nat → Nat → Value) (w : World) (hR : PN w bx bs n C V) (h0 : ¬ pairE n x y = 0) :
    Calls Try.prog 25 #[.pointer (some ⟨bx, 0, none⟩), .int .i64 x, .int .i64 y, .int .i64 c] w fun e w' => e = .returned (.int .i64 (pairE n x y)) ∧ w = w' := by
  have hN := hR.rs
  have h0' : (pairE n x y != 0) = true := by simp [h0]
  clear hR
  go_enter Try.func25, Try.ntmps25
  go_wp2_with (go_at_call 48; refine (cpair_any bx n bs _ _ _ hN).mono ?_; rintro e w' ⟨rfl, rfl⟩)
  go_ret
  exact ⟨rfl, rfl⟩
set_option maxHeartbeats 400000 in
theorem plink_no2 (bx bs n : Nat) (x y c : Int) (C : Nat → Nat → Int) (V : Nat → Nat → Value) (w : World) (hR : PN w bx bs n C V) (h0 : pairE n x y = 0) (hc : c < 0 ∨ 9 < c) :
    Calls Try.prog 25 #[.pointer (some ⟨bx, 0, none⟩), .int .i64 x, .int .i64 y, .int .i64 c] w fun e w' => e = .returned (.int .i64 4) ∧ w = w' := by
  have hN := hR.rs
  clear hR
  rcases hc with hc | hc
  · go_enter Try.func25, Try.ntmps25
    go_wp2_with (go_at_call 48; refine (cpair_any bx n bs _ _ _ hN).mono ?_; rintro e w' ⟨rfl, rfl⟩)
    go_ret
    exact ⟨rfl, rfl⟩
  · have : ¬ c < 0 := by omega
    go_enter Try.func25, Try.ntmps25
    go_wp2_with (go_at_call 48; refine (cpair_any bx n bs _ _ _ hN).mono ?_; rintro e w' ⟨rfl, rfl⟩)
    go_ret
    exact ⟨rfl, rfl⟩
set_option maxHeartbeats 400000 in
theorem plink_ok (bx bs n x y : Nat) (c : Int) (C : Nat → Nat → Int) (V : Nat → Nat → Value) (w : World) (hn : n ≤ 5) (hR : PN w bx bs n C V) (h0 : pairE n x y = 0) (hc : 0 ≤ c) (hc9 : c ≤ 9) :
    Calls Try.prog 25 #[.pointer (some ⟨bx, 0, none⟩), .int .i64 x, .int .i64 y, .int .i64 c] w fun e w' => e = .returned (.int .i64 0) ∧ PN w' bx bs n (updC C x y c) V ∧ Only (· = bx) w w' := by
  have hN := hR.rs
  obtain ⟨⟨_, h1⟩, ⟨_, h2⟩, h3⟩ := pairE_zero h0
  have hx : x < 5 := by omega
  have hy : y < 5 := by omega
  have hx' : (x : Int) < 5 := by omega
  have hy' : (y : Int) < 5 := by omega
  have c1 := hR.c x y hx hy
  have c2 : (w.setCell ⟨bx, 1 + x * 5 + y, none⟩ (I c)).cell? ⟨bx, 1 + y * 5 + x, none⟩ = some (I (C y x)) := by
    rw [World.cell?_setCell_other _ _ _ _ (addr_ne (by omega))]; exact hR.c y x hy hx
  have f1 := hR.fz
  have hL := hR.link x y hx hy c
  have hN2 := hL.rs
  have HL : Hid (PN ((w.setCell ⟨bx, 1 + x * 5 + y, none⟩ (I c)).setCell ⟨bx, 1 + y * 5 + x, none⟩ (I c)) bx bs n (updC C x y c) V) := hL
  have HO : Hid (Only (· = bx) w ((w.setCell ⟨bx, 1 + x * 5 + y, none⟩ (I c)).setCell ⟨bx, 1 + y * 5 + x, none⟩ (I c))) := ((Only.refl (· = bx) w).setCell (p := ⟨bx, 1 + x * 5 + y, none⟩) (.inl rfl) _).setCell (p := ⟨bx, 1 + y * 5 + x, none⟩) (.inl rfl) _
  have D : ∀ i, i < n → ∀ d, d < 5 → ((w.setCell ⟨bx, 1 + x * 5 + y, none⟩ (I c)).setCell ⟨bx, 1 + y * 5 + x, none⟩ (I c)).cell? ⟨bs, i * 74 + (1 + d * 5), none⟩ = some (I (-1)) := fun i hi d hd => by rw [hL.r i _ hi (by omega), bk_next d hd]
  have HD : Hid (∀ i, i < n → ∀ d, d < 5 → ((w.setCell ⟨bx, 1 + x * 5 + y, none⟩ (I c)).setCell ⟨bx, 1 + y * 5 + x, none⟩ (I c)).cell? ⟨bs, i * 74 + (1 + d * 5), none⟩ = some (I (-1))) := D
  clear hL hR D
  by_cases hz : c = 0
  · subst hz
    go_enter Try.func25, Try.ntmps25
    go_wp2_with (first | (go_at_call 48; refine (cpair_any bx n bs _ _ _ hN).mono ?_; rintro e w' ⟨rfl, rfl⟩))
    refine (dropBy_any bs (x * 74) (y : Int) _ (Int.natCast_nonneg y) (HD.out x (by omega))).mono ?_
    rintro e w' ⟨rfl, rfl⟩
    go_wp2_with fail
    refine (dropBy_any bs (y * 74) (x : Int) _ (Int.natCast_nonneg x) (HD.out y (by omega))).mono ?_
    rintro e w' ⟨rfl, rfl⟩
    go_wp2
    go_ret
    exact ⟨rfl, HL.out, HO.out⟩
  · have hc0 : (c == 0) = false := by rw [beq_eq_false_iff_ne]; omega
    go_enter Try.func25, Try.ntmps25
    go_wp2_with (go_at_call 48; refine (cpair_any bx n bs _ _ _ hN).mono ?_; rintro e w' ⟨rfl, rfl⟩)
    go_ret
    exact ⟨rfl, HL.out, HO.out⟩
end Go.Proofs.Ytgimhfbpipgoeaa
