import Derived.Test.YtgimhfbpipgoeaaBase
namespace Go.Proofs.Ytgimhfbpipgoeaa
open Go.RowKit

set_option maxHeartbeats 400000 in
theorem is_any (b : Nat) (n r : Int) (w : World) (hN : w.cell? ⟨b, 0, none⟩ = some (.int .i64 n)) :
    Calls Try.prog 52 #[.pointer (some ⟨b, 0, none⟩), .int .i64 r] w fun e w' => e = .returned (.bool (isB n r)) ∧ w = w' := by
  by_cases h1 : 0 ≤ r
  · go_enter Try.func52, Try.ntmps52
    go_wp2
    go_ret
    exact ⟨by simp [isB, h1], rfl⟩
  · have hb : isB n r = false := by simp [isB, h1]
    go_enter Try.func52, Try.ntmps52
    go_wp2
    go_ret
    exact ⟨rfl, rfl⟩

set_option maxHeartbeats 400000 in
theorem pair_any (b : Nat) (n x y : Int) (w : World) (hN : w.cell? ⟨b, 0, none⟩ = some (.int .i64 n)) :
    Calls Try.prog 49 #[.pointer (some ⟨b, 0, none⟩), .int .i64 x, .int .i64 y] w fun e w' => e = .returned (.int .i64 (pairE n x y)) ∧ w = w' := by
  by_cases h1 : isB n x = true
  · by_cases h2 : isB n y = true
    · by_cases h3 : x = y
      · subst h3
        have hE : pairE n x x = 3 := by simp [pairE, h1]
        go_enter Try.func49, Try.ntmps49
        go_wp2_with (go_at_call 52; refine (is_any b n _ _ hN).mono ?_; rintro e w' ⟨rfl, rfl⟩)
        go_ret
        exact ⟨by rw [hE]; rfl, rfl⟩
      · have hE : pairE n x y = 0 := by simp [pairE, h1, h2, h3]
        have h3' : (x == y) = false := by simp [h3]
        go_enter Try.func49, Try.ntmps49
        go_wp2_with (go_at_call 52; refine (is_any b n _ _ hN).mono ?_; rintro e w' ⟨rfl, rfl⟩)
        go_ret
        exact ⟨by rw [hE]; rfl, rfl⟩
    · have h2 : isB n y = false := by simpa using h2
      have hE : pairE n x y = 2 := by simp [pairE, h2]
      go_enter Try.func49, Try.ntmps49
      go_wp2_with (go_at_call 52; refine (is_any b n _ _ hN).mono ?_; rintro e w' ⟨rfl, rfl⟩)
      go_ret
      exact ⟨by rw [hE]; rfl, rfl⟩
  · have h1 : isB n x = false := by simpa using h1
    have hE : pairE n x y = 2 := by simp [pairE, h1]
    go_enter Try.func49, Try.ntmps49
    go_wp2_with (go_at_call 52; refine (is_any b n _ _ hN).mono ?_; rintro e w' ⟨rfl, rfl⟩)
    go_ret
    exact ⟨by rw [hE]; rfl, rfl⟩

set_option maxHeartbeats 400000 in
theorem up_any (b n : Nat) (r : Int) (C : Nat → Nat → Int) (V : Nat → Nat → Value) (w : World) (hn : n ≤ 5) (hR : RN w b n C V) :
    Calls Try.prog 63 #[.pointer (some ⟨b, 0, none⟩), .int .i64 r] w fun e w' => e = .returned (.int .i64 (upE n r)) ∧ w = w' := by
  have hN := hR.n
  by_cases h1 : isB n r = true
  · have hE : upE n r = 0 := by simp [upE, h1]
    obtain ⟨i, rfl⟩ := Int.eq_ofNat_of_zero_le (isB_true h1).1
    have hi : i < 5 := by have := (isB_true h1).2; omega
    have hd := hR.r i 73 hi (by omega)
    have hb : bk 73 = .bool false := rfl
    rw [hb] at hd
    clear hb
    have hi' : (i : Int) < 5 := by omega
    clear hR
    go_enter Try.func63, Try.ntmps63
    go_wp2_with (go_at_call 52; refine (is_any b n _ _ hN).mono ?_; rintro e w' ⟨rfl, rfl⟩)
    go_ret
    exact ⟨by rw [hE]; rfl, rfl⟩
  · have h1 : isB n r = false := by simpa using h1
    have hE : upE n r = 2 := by simp [upE, h1]
    clear hR
    go_enter Try.func63, Try.ntmps63
    go_wp2_with (go_at_call 52; refine (is_any b n _ _ hN).mono ?_; rintro e w' ⟨rfl, rfl⟩)
    go_ret
    exact ⟨by rw [hE]; rfl, rfl⟩

def asksE (n a b : Int) : Int := pairE n a b

set_option maxHeartbeats 400000 in
theorem asks_any (b n : Nat) (x y : Int) (C : Nat → Nat → Int) (V : Nat → Nat → Value) (w : World) (hn : n ≤ 5) (hR : RN w b n C V) :
    Calls Try.prog 51 #[.pointer (some ⟨b, 0, none⟩), .int .i64 x, .int .i64 y] w fun e w' => e = .returned (.int .i64 (pairE n x y)) ∧ w = w' := by
  have hN := hR.n
  by_cases h0 : pairE n x y = 0
  · have h1 : isB n x = true := by
      by_cases h : isB n x = true ∧ isB n y = true
      · exact h.1
      · simp [pairE, h] at h0
    obtain ⟨i, rfl⟩ := Int.eq_ofNat_of_zero_le (isB_true h1).1
    have hi : i < 5 := by have := (isB_true h1).2; omega
    have hd := hR.r i 73 hi (by omega)
    have hb : bk 73 = .bool false := rfl
    rw [hb] at hd
    clear hb
    have hi' : (i : Int) < 5 := by omega
    clear hR
    go_enter Try.func51, Try.ntmps51
    go_wp2_with (go_at_call 49; refine (pair_any b n _ _ _ hN).mono ?_; rintro e w' ⟨rfl, rfl⟩)
    go_ret
    exact ⟨by simp [h0], rfl⟩
  · have h0' : (pairE n x y == 0) = false := by simp [h0]
    clear hR
    go_enter Try.func51, Try.ntmps51
    go_wp2_with (go_at_call 49; refine (pair_any b n _ _ _ hN).mono ?_; rintro e w' ⟨rfl, rfl⟩)
    go_ret
    exact ⟨rfl, rfl⟩

set_option maxHeartbeats 400000 in
theorem none_any (w : World) : Calls Try.prog 46 #[] w fun e w' => e = .returned (.agg noneV) ∧ w.alloc (.cells noneV 56) = w' := by
  go_enter Try.func46, Try.ntmps46
  go_wp2
  exact bodyPost_ret (v := .agg noneV) (by simp [results, Try.results46, go_sem, noneV]) rfl ⟨rfl, rfl⟩
set_option maxHeartbeats 400000 in
theorem nothing_any (w : World) : Calls Try.prog 47 #[] w fun e w' => e = .returned (.agg nothingV) ∧ w.alloc (.cells nothingV 60) = w' := by
  go_enter Try.func47, Try.ntmps47
  go_wp2
  exact bodyPost_ret (v := .agg nothingV) (by simp [results, Try.results47, go_sem, nothingV]) rfl ⟨rfl, rfl⟩
end Go.Proofs.Ytgimhfbpipgoeaa
