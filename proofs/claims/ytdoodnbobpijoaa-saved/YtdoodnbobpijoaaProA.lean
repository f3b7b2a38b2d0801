import Derived.Test.YtdoodnbobpijoaaRefQ
namespace Go.Proofs.Ytdoodnbobpijoaa
open Go.RowKit

/-- The program's net, as it lies in memory. -/
structure PN (w : World) (bx bs : Nat) (A : Nt) (V : Nat → Nat → Value) : Prop where
  rs : w.cell? ⟨bx, 0, none⟩ = some (.slice (some ⟨bs, 0, none⟩) A.n A.n)
  c : ∀ a b, a < 5 → b < 5 → w.cell? ⟨bx, 1 + a * 5 + b, none⟩ = some (I (A.co a b))
  v : ∀ a b, a < 5 → b < 5 → w.cell? ⟨bx, 26 + a * 5 + b, none⟩ = some (V a b)
  fz : ∀ o, w.frozen? ⟨bx, o, none⟩ = false
  r : ∀ i j, i < A.n → j < 74 → w.cell? ⟨bs, i * 74 + j, none⟩ = some (roV (A.rs i) j)
  rfz : ∀ o, w.frozen? ⟨bs, o, none⟩ = false
  ne : bx ≠ bs
theorem PN.lt {w : World} {bx bs : Nat} {A : Nt} {V : Nat → Nat → Value} (h : PN w bx bs A V) : bx < w.heap.size := lt_of_cell h.rs
theorem PN.lts {w : World} {bx bs : Nat} {A : Nt} {V : Nat → Nat → Value} (h : PN w bx bs A V) (hn : 0 < A.n) : bs < w.heap.size := lt_of_cell (h.r 0 0 hn (by omega))
theorem PN.of {w w' : World} {bx bs : Nat} {A : Nt} {V : Nat → Nat → Value} (h : PN w bx bs A V) (hb : w'.heap[bx]? = w.heap[bx]?) (hs : w'.heap[bs]? = w.heap[bs]?) : PN w' bx bs A V := by
  have hc : ∀ o, w'.cell? ⟨bx, o, none⟩ = w.cell? ⟨bx, o, none⟩ := fun o => World.cell?_of_block (w := w) hb
  have hf : ∀ o, w'.frozen? ⟨bx, o, none⟩ = w.frozen? ⟨bx, o, none⟩ := fun o => World.frozen?_of_block (w := w) hb
  have hc' : ∀ o, w'.cell? ⟨bs, o, none⟩ = w.cell? ⟨bs, o, none⟩ := fun o => World.cell?_of_block (w := w) hs
  have hf' : ∀ o, w'.frozen? ⟨bs, o, none⟩ = w.frozen? ⟨bs, o, none⟩ := fun o => World.frozen?_of_block (w := w) hs
  exact ⟨by rw [hc]; exact h.rs, fun a b ha hb => by rw [hc]; exact h.c a b ha hb, fun a b ha hb => by rw [hc]; exact h.v a b ha hb, fun o => by rw [hf]; exact h.fz o, fun i j hi hj => by rw [hc']; exact h.r i j hi hj, fun o => by rw [hf']; exact h.rfz o, h.ne⟩
theorem PN.below {w w' : World} {bx bs : Nat} {A : Nt} {V : Nat → Nat → Value} (h : PN w bx bs A V) (hn : 0 < A.n) (hb : Below w.heap.size w w') : PN w' bx bs A V := h.of (hb.block _ h.lt) (hb.block _ (h.lts hn))
theorem PN.dn {w : World} {bx bs : Nat} {A : Nt} {V : Nat → Nat → Value} (h : PN w bx bs A V) (i : Nat) (hi : i < A.n) : w.cell? ⟨bs, i * 74 + 73, none⟩ = some (.bool (A.rs i).dn) := h.r i 73 hi (by omega)
theorem PN.ro5 {w : World} {bx bs : Nat} {A : Nt} {V : Nat → Nat → Value} (h : PN w bx bs A V) (i d : Nat) (hi : i < A.n) (hd : d < 5) :
    w.cell? ⟨bs, i * 74 + 1 + d * 5, none⟩ = some (I ((A.rs i).t.ro d).nx) ∧ w.cell? ⟨bs, i * 74 + 1 + d * 5 + 1, none⟩ = some (I ((A.rs i).t.ro d).sq) ∧ w.cell? ⟨bs, i * 74 + 1 + d * 5 + 2, none⟩ = some (I ((A.rs i).t.ro d).mt) ∧ w.cell? ⟨bs, i * 74 + 1 + d * 5 + 3, none⟩ = some (I ((A.rs i).t.ro d).ag) ∧ w.cell? ⟨bs, i * 74 + 1 + d * 5 + 4, none⟩ = some (I ((A.rs i).t.ro d).st) := by
  have key : ∀ k, k < 5 → w.cell? ⟨bs, i * 74 + 1 + d * 5 + k, none⟩ = some (rtV ((A.rs i).t.ro d) k) := fun k hk => by
    have := h.r i (1 + d * 5 + k) hi (by omega)
    rw [roV_t _ _ (by omega), tbV_ro _ _ _ hd hk] at this
    rw [← this]
    congr 2
    omega
  exact ⟨key 0 (by omega), key 1 (by omega), key 2 (by omega), key 3 (by omega), key 4 (by omega)⟩
theorem PN.be2 {w : World} {bx bs : Nat} {A : Nt} {V : Nat → Nat → Value} (h : PN w bx bs A V) (i d : Nat) (hi : i < A.n) (hd : d < 5) :
    w.cell? ⟨bs, i * 74 + 26 + d * 2, none⟩ = some (I ((A.rs i).t.be d).sq) ∧ w.cell? ⟨bs, i * 74 + 26 + d * 2 + 1, none⟩ = some (I ((A.rs i).t.be d).mt) := by
  have key : ∀ k, k < 2 → w.cell? ⟨bs, i * 74 + 26 + d * 2 + k, none⟩ = some (bsV ((A.rs i).t.be d) k) := fun k hk => by
    have := h.r i (26 + d * 2 + k) hi (by omega)
    rw [roV_t _ _ (by omega), tbV_be _ _ _ hk] at this
    rw [← this]
    congr 2
    omega
  exact ⟨key 0 (by omega), key 1 (by omega)⟩

set_option maxHeartbeats 400000 in
theorem has_any (bx n bs : Nat) (r : Int) (w : World) (hN : w.cell? ⟨bx, 0, none⟩ = some (.slice (some ⟨bs, 0, none⟩) n n)) :
    Calls Try.prog 44 #[.pointer (some ⟨bx, 0, none⟩), .int .i64 r] w fun e w' => e = .returned (.bool (isB n r)) ∧ w = w' := by
  by_cases h1 : 0 ≤ r
  · go_enter Try.func44, Try.ntmps44
    go_wp2
    go_ret
    exact ⟨by simp [isB, h1], rfl⟩
  · have hb : isB n r = false := by simp [isB, h1]
    go_enter Try.func44, Try.ntmps44
    go_wp2
    go_ret
    exact ⟨rfl, rfl⟩

set_option maxHeartbeats 400000 in
theorem cpair_any (bx n bs : Nat) (x y : Int) (w : World) (hN : w.cell? ⟨bx, 0, none⟩ = some (.slice (some ⟨bs, 0, none⟩) n n)) :
    Calls Try.prog 56 #[.pointer (some ⟨bx, 0, none⟩), .int .i64 x, .int .i64 y] w fun e w' => e = .returned (.int .i64 (pairE n x y)) ∧ w = w' := by
  by_cases h1 : isB n x = true
  · by_cases h2 : isB n y = true
    · by_cases h3 : x = y
      · subst h3
        have hE : pairE n x x = 3 := by simp [pairE, h1]
        go_enter Try.func56, Try.ntmps56
        go_wp2_with (go_at_call 44; refine (has_any bx n bs _ _ hN).mono ?_; rintro e w' ⟨rfl, rfl⟩)
        go_ret
        exact ⟨by rw [hE]; rfl, rfl⟩
      · have hE : pairE n x y = 0 := by simp [pairE, h1, h2, h3]
        have h3' : (x == y) = false := by simp [h3]
        go_enter Try.func56, Try.ntmps56
        go_wp2_with (go_at_call 44; refine (has_any bx n bs _ _ hN).mono ?_; rintro e w' ⟨rfl, rfl⟩)
        go_ret
        exact ⟨by rw [hE]; rfl, rfl⟩
    · have h2 : isB n y = false := by simpa using h2
      have hE : pairE n x y = 2 := by simp [pairE, h2]
      go_enter Try.func56, Try.ntmps56
      go_wp2_with (go_at_call 44; refine (has_any bx n bs _ _ hN).mono ?_; rintro e w' ⟨rfl, rfl⟩)
      go_ret
      exact ⟨by rw [hE]; rfl, rfl⟩
  · have h1 : isB n x = false := by simpa using h1
    have hE : pairE n x y = 2 := by simp [pairE, h1]
    go_enter Try.func56, Try.ntmps56
    go_wp2_with (go_at_call 44; refine (has_any bx n bs _ _ hN).mono ?_; rintro e w' ⟨rfl, rfl⟩)
    go_ret
    exact ⟨by rw [hE]; rfl, rfl⟩

set_option maxHeartbeats 400000 in
theorem cup_any (bx bs : Nat) (r : Int) (A : Nt) (V : Nat → Nat → Value) (w : World) (hR : PN w bx bs A V) :
    Calls Try.prog 47 #[.pointer (some ⟨bx, 0, none⟩), .int .i64 r] w fun e w' => e = .returned (.int .i64 (upE A r)) ∧ w = w' := by
  have hN := hR.rs
  by_cases h1 : isB A.n r = true
  · obtain ⟨i, rfl⟩ := Int.eq_ofNat_of_zero_le (isB_true h1).1
    have hi : i < A.n := by have := (isB_true h1).2; omega
    have hd := hR.dn i hi
    have hi' : (i : Int) < (A.n : Int) := by omega
    clear hR
    by_cases hdn : (A.rs i).dn = true
    · have hE : upE A i = 5 := by simp [upE, h1, hdn]
      rw [hdn] at hd
      go_enter Try.func47, Try.ntmps47
      go_wp2_with (go_at_call 44; refine (has_any bx A.n bs _ _ hN).mono ?_; rintro e w' ⟨rfl, rfl⟩)
      go_ret
      exact ⟨by rw [hE]; rfl, rfl⟩
    · have hdn : (A.rs i).dn = false := by simpa using hdn
      have hE : upE A i = 0 := by simp [upE, h1, hdn]
      rw [hdn] at hd
      go_enter Try.func47, Try.ntmps47
      go_wp2_with (go_at_call 44; refine (has_any bx A.n bs _ _ hN).mono ?_; rintro e w' ⟨rfl, rfl⟩)
      go_ret
      exact ⟨by rw [hE]; rfl, rfl⟩
  · have h1 : isB A.n r = false := by simpa using h1
    have hE : upE A r = 2 := by simp [upE, h1]
    clear hR
    go_enter Try.func47, Try.ntmps47
    go_wp2_with (go_at_call 44; refine (has_any bx A.n bs _ _ hN).mono ?_; rintro e w' ⟨rfl, rfl⟩)
    go_ret
    exact ⟨by rw [hE]; rfl, rfl⟩
set_option maxHeartbeats 400000 in
theorem cask_any (bx bs : Nat) (x y : Int) (A : Nt) (V : Nat → Nat → Value) (w : World) (hR : PN w bx bs A V) :
    Calls Try.prog 53 #[.pointer (some ⟨bx, 0, none⟩), .int .i64 x, .int .i64 y] w fun e w' => e = .returned (.int .i64 (asksE A x y)) ∧ w = w' := by
  have hN := hR.rs
  by_cases h0 : pairE A.n x y = 0
  · obtain ⟨⟨h1, h2⟩, _⟩ := pairE_zero h0
    have hE : asksE A x y = upE A x := by
      have hb : isB A.n x = true := by simp [isB, h1, h2]
      unfold asksE upE
      rw [if_neg (by simpa using h0), if_pos hb]
    rw [hE]
    go_enter Try.func53, Try.ntmps53
    go_wp2_with (first | (go_at_call 56; refine (cpair_any bx A.n bs _ _ _ hN).mono ?_; rintro e w' ⟨rfl, rfl⟩) | (go_at_call 47; refine (cup_any bx bs _ A V _ hR).mono ?_; rintro e w' ⟨rfl, rfl⟩))
    go_ret
    exact ⟨rfl, rfl⟩
  · have h0' : (pairE A.n x y != 0) = true := by simp [h0]
    have hE : asksE A x y = pairE A.n x y := by unfold asksE; rw [if_pos h0]
    rw [hE]
    go_enter Try.func53, Try.ntmps53
    go_wp2_with (go_at_call 56; refine (cpair_any bx A.n bs _ _ _ hN).mono ?_; rintro e w' ⟨rfl, rfl⟩)
    go_ret
    exact ⟨rfl, rfl⟩
set_option maxHeartbeats 400000 in
theorem cmsg_any (bx bs B e : Nat) (x y k : Int) (ρ : Nat → Part) (tg : Nat → Nat → Part) (A : Nt) (V : Nat → Nat → Value) (w : World) (hn : A.n ≤ 5) (hR : PN w bx bs A V) (hW : WR w B e ρ tg V A.wa) :
    Calls Try.prog 57 #[.pointer (some ⟨bx, 0, none⟩), .int .i64 x, .int .i64 y, .int .i64 k] w fun e w' => e = .returned (.int .i64 (msgE A x y k)) ∧ w = w' := by
  have hN := hR.rs
  rcases msgE_split A x y k with ⟨h0, e0⟩ | ⟨h0, h1, e0⟩ | ⟨h0, h1, h2, e0⟩
  · have h0' : (pairE A.n x y != 0) = true := by simp [h0]
    rw [e0]
    go_enter Try.func57, Try.ntmps57
    go_wp2_with (go_at_call 56; refine (cpair_any bx A.n bs _ _ _ hN).mono ?_; rintro e w' ⟨rfl, rfl⟩)
    go_ret
    exact ⟨rfl, rfl⟩
  · obtain ⟨⟨a1, a3⟩, ⟨a2, a4⟩, _⟩ := pairE_zero h0
    obtain ⟨x, rfl⟩ := Int.eq_ofNat_of_zero_le a1
    obtain ⟨y, rfl⟩ := Int.eq_ofNat_of_zero_le a2
    have hx : x < 5 := by omega
    have hy : y < 5 := by omega
    have hx' : (x : Int) < 5 := by omega
    have hy' : (y : Int) < 5 := by omega
    obtain ⟨ad, cap, hv⟩ := hW.form x y hx hy
    have hd := hR.v x y hx hy
    rw [hv] at hd
    simp only [Int.toNat_natCast] at h1
    rw [e0]
    by_cases hk : k < 0
    · go_enter Try.func57, Try.ntmps57
      go_wp2_with (go_at_call 56; refine (cpair_any bx A.n bs _ _ _ hN).mono ?_; rintro e w' ⟨rfl, rfl⟩)
      go_ret
      exact ⟨rfl, rfl⟩
    · have h1 : ((A.wa x y).length : Int) ≤ k := by omega
      go_enter Try.func57, Try.ntmps57
      go_wp2_with (go_at_call 56; refine (cpair_any bx A.n bs _ _ _ hN).mono ?_; rintro e w' ⟨rfl, rfl⟩)
      go_ret
      exact ⟨rfl, rfl⟩
  · obtain ⟨⟨a1, a3⟩, ⟨a2, a4⟩, _⟩ := pairE_zero h0
    obtain ⟨x, rfl⟩ := Int.eq_ofNat_of_zero_le a1
    obtain ⟨y, rfl⟩ := Int.eq_ofNat_of_zero_le a2
    have hx : x < 5 := by omega
    have hy : y < 5 := by omega
    have hx' : (x : Int) < 5 := by omega
    have hy' : (y : Int) < 5 := by omega
    obtain ⟨ad, cap, hv⟩ := hW.form x y hx hy
    have hd := hR.v x y hx hy
    rw [hv] at hd
    simp only [Int.toNat_natCast] at h2
    have hk : ¬ k < 0 := by omega
    rw [e0]
    go_enter Try.func57, Try.ntmps57
    go_wp2_with (go_at_call 56; refine (cpair_any bx A.n bs _ _ _ hN).mono ?_; rintro e w' ⟨rfl, rfl⟩)
    go_ret
    exact ⟨rfl, rfl⟩
set_option maxHeartbeats 400000 in
theorem pwaiting (bx bs B e : Nat) (x y : Int) (ρ : Nat → Part) (tg : Nat → Nat → Part) (A : Nt) (V : Nat → Nat → Value) (w : World) (hn : A.n ≤ 5) (hR : PN w bx bs A V) (hW : WR w B e ρ tg V A.wa) :
    Calls Try.prog 33 #[.pointer (some ⟨bx, 0, none⟩), .int .i64 x, .int .i64 y] w fun e w' => e = .returned (.tuple #[.int .i64 (waitN A x y), .int .i64 (pairE A.n x y)]) ∧ w = w' := by
  have hN := hR.rs
  by_cases h0 : pairE A.n x y = 0
  · obtain ⟨⟨a1, h1⟩, ⟨a2, h2⟩, _⟩ := pairE_zero h0
    obtain ⟨x, rfl⟩ := Int.eq_ofNat_of_zero_le a1
    obtain ⟨y, rfl⟩ := Int.eq_ofNat_of_zero_le a2
    have hx : x < 5 := by omega
    have hy : y < 5 := by omega
    have hd := hR.v x y hx hy
    obtain ⟨ad, cap, hv⟩ := hW.form x y hx hy
    rw [hv] at hd
    have hx' : (x : Int) < 5 := by omega
    have hy' : (y : Int) < 5 := by omega
    have hE : waitN A x y = ((A.wa x y).length : Nat) := by unfold waitN; rw [if_pos h0]; rfl
    rw [hE, h0]
    clear hR hv hW
    go_enter Try.func33, Try.ntmps33
    go_wp2_with (go_at_call 56; refine (cpair_any bx A.n bs _ _ _ hN).mono ?_; rintro e w' ⟨rfl, rfl⟩)
    go_ret2
    exact ⟨rfl, rfl⟩
  · have h0' : (pairE A.n x y != 0) = true := by simp [h0]
    have hE : waitN A x y = 0 := by unfold waitN; rw [if_neg h0]
    rw [hE]
    clear hR hW
    go_enter Try.func33, Try.ntmps33
    go_wp2_with (go_at_call 56; refine (cpair_any bx A.n bs _ _ _ hN).mono ?_; rintro e w' ⟨rfl, rfl⟩)
    go_ret2
    exact ⟨rfl, rfl⟩
set_option maxHeartbeats 400000 in
theorem proute (bx bs : Nat) (x y : Int) (A : Nt) (V : Nat → Nat → Value) (w : World) (hn : A.n ≤ 5) (hn0 : 0 < A.n) (hR : PN w bx bs A V) :
    Calls Try.prog 28 #[.pointer (some ⟨bx, 0, none⟩), .int .i64 x, .int .i64 y] w fun e w' => e = .returned (.tuple #[.agg (rtA (routeN A x y)), .int .i64 (asksE A x y)]) ∧ Below w.heap.size w w' := by
  have hlt := hR.lt
  have hls := hR.lts hn0
  by_cases h0 : asksE A x y = 0
  · obtain ⟨⟨a1, h1⟩, ⟨a2, h2⟩, _⟩ := pairE_zero (asksE_zero h0).1
    obtain ⟨x, rfl⟩ := Int.eq_ofNat_of_zero_le a1
    obtain ⟨y, rfl⟩ := Int.eq_ofNat_of_zero_le a2
    have hx : x < A.n := by omega
    have hy : y < 5 := by omega
    obtain ⟨d0, d1, d2, d3, d4⟩ := hR.ro5 x y hx hy
    have hN := hR.rs
    have hE : routeN A x y = (A.rs x).t.ro y := by unfold routeN; rw [if_pos h0]; rfl
    rw [hE]
    generalize (A.rs x).t.ro y = rt at d0 d1 d2 d3 d4 ⊢
    have hx' : (x : Int) < (A.n : Int) := by omega
    have hy' : (y : Int) < 5 := by omega
    go_enter Try.func28, Try.ntmps28
    go_wp2_with (go_at_call 53; refine (cask_any bx bs _ _ A V _ (hR.of ?_ ?_)).mono ?_; (simp [heap_alloc_old, hlt]); (simp [heap_alloc_old, hls]); rintro e w' ⟨rfl, rfl⟩)
    exact bodyPost_ret (v := .tuple #[.agg (rtA rt), .int .i64 (asksE A x y)]) (by simp [results, Try.results28, go_sem, h0]) rfl ⟨rfl, (Below.refl _ _).alloc (Nat.le_refl _) _⟩
  · have h0' : (asksE A x y != 0) = true := by simp [h0]
    have hE : routeN A x y = ⟨0, 0, 0, 0, 0⟩ := by unfold routeN; rw [if_neg h0]
    rw [hE]
    go_enter Try.func28, Try.ntmps28
    go_wp2_with (go_at_call 53; refine (cask_any bx bs _ _ A V _ (hR.of ?_ ?_)).mono ?_; (simp [heap_alloc_old, hlt]); (simp [heap_alloc_old, hls]); rintro e w' ⟨rfl, rfl⟩)
    exact bodyPost_ret (v := .tuple #[.agg (rtA ⟨0, 0, 0, 0, 0⟩), .int .i64 (asksE A x y)]) (by simp [results, Try.results28, go_sem]) rfl ⟨rfl, (Below.refl _ _).alloc (Nat.le_refl _) _⟩
set_option maxHeartbeats 400000 in
theorem pbest (bx bs : Nat) (x y : Int) (A : Nt) (V : Nat → Nat → Value) (w : World) (hn : A.n ≤ 5) (hn0 : 0 < A.n) (hR : PN w bx bs A V) :
    Calls Try.prog 29 #[.pointer (some ⟨bx, 0, none⟩), .int .i64 x, .int .i64 y] w fun e w' => e = .returned (.tuple #[.agg (bsA (bestN A x y)), .int .i64 (asksE A x y)]) ∧ Below w.heap.size w w' := by
  have hlt := hR.lt
  have hls := hR.lts hn0
  by_cases h0 : asksE A x y = 0
  · obtain ⟨⟨a1, h1⟩, ⟨a2, h2⟩, _⟩ := pairE_zero (asksE_zero h0).1
    obtain ⟨x, rfl⟩ := Int.eq_ofNat_of_zero_le a1
    obtain ⟨y, rfl⟩ := Int.eq_ofNat_of_zero_le a2
    have hx : x < A.n := by omega
    have hy : y < 5 := by omega
    obtain ⟨d0, d1⟩ := hR.be2 x y hx hy
    have hN := hR.rs
    have hE : bestN A x y = (A.rs x).t.be y := by unfold bestN; rw [if_pos h0]; rfl
    rw [hE]
    generalize (A.rs x).t.be y = bt at d0 d1 ⊢
    have hx' : (x : Int) < (A.n : Int) := by omega
    have hy' : (y : Int) < 5 := by omega
    go_enter Try.func29, Try.ntmps29
    go_wp2_with (go_at_call 53; refine (cask_any bx bs _ _ A V _ (hR.of ?_ ?_)).mono ?_; (simp [heap_alloc_old, hlt]); (simp [heap_alloc_old, hls]); rintro e w' ⟨rfl, rfl⟩)
    exact bodyPost_ret (v := .tuple #[.agg (bsA bt), .int .i64 (asksE A x y)]) (by simp [results, Try.results29, go_sem, h0]) rfl ⟨rfl, (Below.refl _ _).alloc (Nat.le_refl _) _⟩
  · have h0' : (asksE A x y != 0) = true := by simp [h0]
    have hE : bestN A x y = ⟨0, 0⟩ := by unfold bestN; rw [if_neg h0]
    rw [hE]
    go_enter Try.func29, Try.ntmps29
    go_wp2_with (go_at_call 53; refine (cask_any bx bs _ _ A V _ (hR.of ?_ ?_)).mono ?_; (simp [heap_alloc_old, hlt]); (simp [heap_alloc_old, hls]); rintro e w' ⟨rfl, rfl⟩)
    exact bodyPost_ret (v := .tuple #[.agg (bsA ⟨0, 0⟩), .int .i64 (asksE A x y)]) (by simp [results, Try.results29, go_sem]) rfl ⟨rfl, (Below.refl _ _).alloc (Nat.le_refl _) _⟩
end Go.Proofs.Ytdoodnbobpijoaa
