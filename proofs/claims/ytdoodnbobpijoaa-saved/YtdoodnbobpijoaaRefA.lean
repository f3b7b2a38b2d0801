import Derived.Test.YtdoodnbobpijoaaBase
namespace Go.Proofs.Ytdoodnbobpijoaa
open Go.RowKit

set_option maxHeartbeats 400000 in
theorem is_any (b : Nat) (n r : Int) (w : World) (hN : w.cell? ⟨b, 0, none⟩ = some (.int .i64 n)) :
    Calls Try.prog 113 #[.pointer (some ⟨b, 0, none⟩), .int .i64 r] w fun e w' => e = .returned (.bool (isB n r)) ∧ w = w' := by
  by_cases h1 : 0 ≤ r
  · go_enter Try.func113, Try.ntmps113
    go_wp2
    go_ret
    exact ⟨by simp [isB, h1], rfl⟩
  · have hb : isB n r = false := by simp [isB, h1]
    go_enter Try.func113, Try.ntmps113
    go_wp2
    go_ret
    exact ⟨rfl, rfl⟩

set_option maxHeartbeats 400000 in
theorem pair_any (b : Nat) (n x y : Int) (w : World) (hN : w.cell? ⟨b, 0, none⟩ = some (.int .i64 n)) :
    Calls Try.prog 111 #[.pointer (some ⟨b, 0, none⟩), .int .i64 x, .int .i64 y] w fun e w' => e = .returned (.int .i64 (pairE n x y)) ∧ w = w' := by
  by_cases h1 : isB n x = true
  · by_cases h2 : isB n y = true
    · by_cases h3 : x = y
      · subst h3
        have hE : pairE n x x = 3 := by simp [pairE, h1]
        go_enter Try.func111, Try.ntmps111
        go_wp2_with (go_at_call 113; refine (is_any b n _ _ hN).mono ?_; rintro e w' ⟨rfl, rfl⟩)
        go_ret
        exact ⟨by rw [hE]; rfl, rfl⟩
      · have hE : pairE n x y = 0 := by simp [pairE, h1, h2, h3]
        have h3' : (x == y) = false := by simp [h3]
        go_enter Try.func111, Try.ntmps111
        go_wp2_with (go_at_call 113; refine (is_any b n _ _ hN).mono ?_; rintro e w' ⟨rfl, rfl⟩)
        go_ret
        exact ⟨by rw [hE]; rfl, rfl⟩
    · have h2 : isB n y = false := by simpa using h2
      have hE : pairE n x y = 2 := by simp [pairE, h2]
      go_enter Try.func111, Try.ntmps111
      go_wp2_with (go_at_call 113; refine (is_any b n _ _ hN).mono ?_; rintro e w' ⟨rfl, rfl⟩)
      go_ret
      exact ⟨by rw [hE]; rfl, rfl⟩
  · have h1 : isB n x = false := by simpa using h1
    have hE : pairE n x y = 2 := by simp [pairE, h1]
    go_enter Try.func111, Try.ntmps111
    go_wp2_with (go_at_call 113; refine (is_any b n _ _ hN).mono ?_; rintro e w' ⟨rfl, rfl⟩)
    go_ret
    exact ⟨by rw [hE]; rfl, rfl⟩

set_option maxHeartbeats 400000 in
theorem up_any (b : Nat) (r : Int) (A : Nt) (V : Nat → Nat → Value) (w : World) (hn : A.n ≤ 5) (hR : RN w b A V) :
    Calls Try.prog 118 #[.pointer (some ⟨b, 0, none⟩), .int .i64 r] w fun e w' => e = .returned (.int .i64 (upE A r)) ∧ w = w' := by
  have hN := hR.n
  by_cases h1 : isB A.n r = true
  · obtain ⟨i, rfl⟩ := Int.eq_ofNat_of_zero_le (isB_true h1).1
    have hi : i < 5 := by have := (isB_true h1).2; omega
    have hd := hR.dn i hi
    have hi' : (i : Int) < 5 := by omega
    clear hR
    by_cases hdn : (A.rs i).dn = true
    · have hE : upE A i = 5 := by simp [upE, h1, hdn]
      rw [hdn] at hd
      go_enter Try.func118, Try.ntmps118
      go_wp2_with (go_at_call 113; refine (is_any b A.n _ _ hN).mono ?_; rintro e w' ⟨rfl, rfl⟩)
      go_ret
      exact ⟨by rw [hE]; rfl, rfl⟩
    · have hdn : (A.rs i).dn = false := by simpa using hdn
      have hE : upE A i = 0 := by simp [upE, h1, hdn]
      rw [hdn] at hd
      go_enter Try.func118, Try.ntmps118
      go_wp2_with (go_at_call 113; refine (is_any b A.n _ _ hN).mono ?_; rintro e w' ⟨rfl, rfl⟩)
      go_ret
      exact ⟨by rw [hE]; rfl, rfl⟩
  · have h1 : isB A.n r = false := by simpa using h1
    have hE : upE A r = 2 := by simp [upE, h1]
    clear hR
    go_enter Try.func118, Try.ntmps118
    go_wp2_with (go_at_call 113; refine (is_any b A.n _ _ hN).mono ?_; rintro e w' ⟨rfl, rfl⟩)
    go_ret
    exact ⟨by rw [hE]; rfl, rfl⟩

set_option maxHeartbeats 400000 in
theorem asks_any (b : Nat) (x y : Int) (A : Nt) (V : Nat → Nat → Value) (w : World) (hn : A.n ≤ 5) (hR : RN w b A V) :
    Calls Try.prog 112 #[.pointer (some ⟨b, 0, none⟩), .int .i64 x, .int .i64 y] w fun e w' => e = .returned (.int .i64 (asksE A x y)) ∧ w = w' := by
  have hN := hR.n
  by_cases h0 : pairE A.n x y = 0
  · obtain ⟨⟨h1, h2⟩, _⟩ := pairE_zero h0
    obtain ⟨i, rfl⟩ := Int.eq_ofNat_of_zero_le h1
    have hi : i < 5 := by omega
    have hd := hR.dn i hi
    have hi' : (i : Int) < 5 := by omega
    clear hR
    by_cases hdn : (A.rs i).dn = true
    · have hE : asksE A i y = 5 := by simp [asksE, h0, hdn]
      rw [hdn] at hd
      go_enter Try.func112, Try.ntmps112
      go_wp2_with (go_at_call 111; refine (pair_any b A.n _ _ _ hN).mono ?_; rintro e w' ⟨rfl, rfl⟩)
      go_ret
      exact ⟨by simp [hE], rfl⟩
    · have hdn : (A.rs i).dn = false := by simpa using hdn
      have hE : asksE A i y = 0 := by simp [asksE, h0, hdn]
      rw [hdn] at hd
      go_enter Try.func112, Try.ntmps112
      go_wp2_with (go_at_call 111; refine (pair_any b A.n _ _ _ hN).mono ?_; rintro e w' ⟨rfl, rfl⟩)
      go_ret
      exact ⟨by simp [hE], rfl⟩
  · have h0' : (pairE A.n x y == 0) = false := by simp [h0]
    have hE : asksE A x y = pairE A.n x y := by simp [asksE, h0]
    clear hR
    go_enter Try.func112, Try.ntmps112
    go_wp2_with (go_at_call 111; refine (pair_any b A.n _ _ _ hN).mono ?_; rintro e w' ⟨rfl, rfl⟩)
    go_ret
    exact ⟨by rw [hE]; rfl, rfl⟩

set_option maxHeartbeats 400000 in
theorem none_any (w : World) : Calls Try.prog 109 #[] w fun e w' => e = .returned (.agg (rtA noRt)) ∧ Below w.heap.size w w' := by
  go_enter Try.func109, Try.ntmps109
  go_wp2
  exact bodyPost_ret (v := .agg (rtA noRt)) (by simp [results, Try.results109, go_sem, noRt]) rfl ⟨rfl, (Below.refl _ _).alloc (Nat.le_refl _) _⟩
set_option maxHeartbeats 400000 in
theorem nothing_any (w : World) : Calls Try.prog 110 #[] w fun e w' => e = .returned (.agg (bsA noBs)) ∧ Below w.heap.size w w' := by
  go_enter Try.func110, Try.ntmps110
  go_wp2
  exact bodyPost_ret (v := .agg (bsA noBs)) (by simp [results, Try.results110, go_sem, noBs]) rfl ⟨rfl, (Below.refl _ _).alloc (Nat.le_refl _) _⟩
set_option maxHeartbeats 400000 in
theorem better_any (x y : Bs) (w : World) : Calls Try.prog 122 #[.agg (bsA x), .agg (bsA y)] w fun e w' => e = .returned (.bool (decide (bet x y))) ∧ Below w.heap.size w w' := by
  have hO : Below w.heap.size w ((w.alloc (.cells (bsA x) 50)).alloc (.cells (bsA y) 50)) := ((Below.refl _ _).alloc (Nat.le_refl _) _).alloc (by simp) _
  by_cases h1 : y.sq < x.sq
  · have hb : decide (bet x y) = true := by simp [h1]
    rw [hb]
    go_enter Try.func122, Try.ntmps122
    go_wp2
    go_ret
    exact ⟨rfl, hO⟩
  · by_cases h2 : x.sq = y.sq
    · have h2' : (x.sq == y.sq) = true := by simp [h2]
      have hb : decide (bet x y) = decide (x.mt < y.mt) := by simp [h2]
      rw [hb]
      go_enter Try.func122, Try.ntmps122
      go_wp2
      go_ret
      exact ⟨rfl, hO⟩
    · have h2' : (x.sq == y.sq) = false := by simp [h2]
      have hb : decide (bet x y) = false := by simp [h1, h2]
      rw [hb]
      go_enter Try.func122, Try.ntmps122
      go_wp2
      go_ret
      exact ⟨rfl, hO⟩
set_option maxHeartbeats 400000 in
/-- The total of a route that there is. -/
theorem total_any (b r : Nat) (x : Rt) (A : Nt) (V : Nat → Nat → Value) (w : World) (hr : r < 5) (h0 : 0 ≤ x.nx) (h5 : x.nx < 5) (hm0 : 0 ≤ x.mt) (hm1 : x.mt ≤ 30) (g : Good A) (hR : RN w b A V) :
    Calls Try.prog 123 #[.pointer (some ⟨b, 0, none⟩), .int .i64 r, .agg (rtA x)] w fun e w' => e = .returned (.int .i64 (total A r x)) ∧ Below w.heap.size w w' := by
  obtain ⟨xn, xs, xm, xa, xt⟩ := x
  simp only at h0 h5 hm0 hm1
  obtain ⟨k, rfl⟩ := Int.eq_ofNat_of_zero_le h0
  have hk : k < 5 := by omega
  have hc := hR.c r k hr hk
  have hlt := hR.lt
  have hr' : (r : Int) < 5 := by omega
  have c0 := g.c0 r k
  have c9 := g.c9 r k
  have hT : total A r ⟨(k : Int), xs, xm, xa, xt⟩ = xm + A.co r k := rfl
  rw [hT]
  clear hR hT
  go_enter Try.func123, Try.ntmps123
  go_wp2
  go_quiet (fail)
  go_wp2
  go_ret
  exact ⟨rfl, below_drewN ((Below.refl _ _).alloc (Nat.le_refl _) _) _⟩
end Go.Proofs.Ytdoodnbobpijoaa
