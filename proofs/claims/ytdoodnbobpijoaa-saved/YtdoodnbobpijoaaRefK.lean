import Derived.Test.YtdoodnbobpijoaaRefE
namespace Go.Proofs.Ytdoodnbobpijoaa
open Go.RowKit

/-! ### Bump, Fail, Crash -/
theorem roV_seq (R : Ro) (v : Int) (j : Nat) (_hj : j < 74) : roV (withT R { R.t with sq := v }) j = if j = 0 then I v else roV R j := by
  by_cases h0 : j = 0
  · subst h0; rw [if_pos rfl]; rfl
  · rw [if_neg h0]
    unfold roV
    by_cases h1 : j < 36
    · rw [if_pos h1, if_pos h1]
      show tbV { R.t with sq := v } j = tbV R.t j
      unfold tbV
      rw [if_neg h0, if_neg h0]
    · rw [if_neg h1, if_neg h1]; rfl
theorem RN.setSq {w : World} {b : Nat} {A : Nt} {V : Nat → Nat → Value} (h : RN w b A V) (i : Nat) (hi : i < 5) (v : Int) : RN (w.setCell ⟨b, 1 + i * 74, none⟩ (I v)) b (upR A i (withT (A.rs i) { (A.rs i).t with sq := v })) V :=
  h.cell1 i hi 0 (by omega) _ _ fun j hj => roV_seq _ _ j hj
theorem roV_down (R : Ro) (v : Bool) (j : Nat) (hj : j < 74) : roV { R with dn := v } j = if j = 73 then .bool v else roV R j := by
  unfold roV
  by_cases h1 : j < 36
  · rw [if_pos h1, if_pos h1, if_neg (by omega)]
  · rw [if_neg h1, if_neg h1]
    by_cases h2 : j < 72
    · rw [if_pos h2, if_pos h2, if_neg (by omega)]
    · rw [if_neg h2, if_neg h2]
      by_cases h3 : j = 72
      · rw [if_pos h3, if_pos h3, if_neg (by omega)]
      · rw [if_neg h3, if_neg h3, if_pos (by omega)]
theorem RN.setDn {w : World} {b : Nat} {A : Nt} {V : Nat → Nat → Value} (h : RN w b A V) (i : Nat) (hi : i < 5) (v : Bool) : RN (w.setCell ⟨b, 1 + i * 74 + 73, none⟩ (.bool v)) b (upR A i { (A.rs i) with dn := v }) V :=
  h.cell1 i hi 73 (by omega) _ _ fun j hj => roV_down _ _ j hj
attribute [local go_sem ↓] Go.wp_at_zero Go.wp_at_succ ldT stT alcT
attribute [local go_sem] vb_ptr vo_ptr cellsL_agg size_setCells
set_option maxHeartbeats 1000000 in
theorem rbump (b : Nat) (r : Int) (A : Nt) (V : Nat → Nat → Value) (w : World) (g : Good A) (hR : RN w b A V) :
    Calls Try.prog 98 #[.pointer (some ⟨b, 0, none⟩), .int .i64 r] w fun e w' => e = .returned (.int .i64 (bumpE A r)) ∧ RN w' b (bumpC A r) V ∧ Only (· = b) w w' := by
  have hn := g.n5
  by_cases h0 : upE A r = 0
  · obtain ⟨h1, h2, h3⟩ := upE_zero h0
    obtain ⟨x, rfl⟩ := Int.eq_ofNat_of_zero_le h1
    have hx : x < 5 := by omega
    have hx' : (x : Int) < 5 := by omega
    have c1 := hR.sq x hx
    have f1 := hR.fz
    have s0 := (g.t x (by omega)).sq0
    have HR : Hid (RN w b A V) := hR; clear hR
    by_cases hs : 1000 ≤ (A.rs x).t.sq
    · have hE : bumpE A x = 8 := by unfold bumpE; rw [if_neg (by simpa using h0), Int.toNat_natCast, if_pos hs]
      have hC : bumpC A x = A := by unfold bumpC; rw [hE, if_neg (by decide)]
      rw [hE, hC]
      go_enter Try.func98, Try.ntmps98
      go_wp2_with (go_at_call 118; refine (up_any b _ A V _ hn HR.out).mono ?_; rintro e w' ⟨rfl, rfl⟩)
      go_ret
      exact ⟨rfl, HR.out, Only.refl _ _⟩
    · have hE : bumpE A x = 0 := by unfold bumpE; rw [if_neg (by simpa using h0), Int.toNat_natCast, if_neg hs]
      have hC : bumpC A x = bumpN A x := by unfold bumpC; rw [hE, if_pos rfl, Int.toNat_natCast]
      rw [hE, hC]
      go_enter Try.func98, Try.ntmps98
      go_wp2_with (go_at_call 118; refine (up_any b _ A V _ hn HR.out).mono ?_; rintro e w' ⟨rfl, rfl⟩)
      go_region
      go_wp2
      go_ret
      exact ⟨rfl, (HR.out.setSq x hx _).of rfl, ((Only.refl (· = b) w).setCell (p := ⟨b, 1 + x * 74, none⟩) (.inl rfl) _).drew⟩
  · have hE : bumpE A r = upE A r := by unfold bumpE; rw [if_pos h0]
    have hC : bumpC A r = A := by unfold bumpC; rw [hE, if_neg h0]
    have h0' : (upE A r != 0) = true := by simp [h0]
    rw [hE, hC]
    go_enter Try.func98, Try.ntmps98
    go_wp2_with (go_at_call 118; refine (up_any b _ A V _ hn hR).mono ?_; rintro e w' ⟨rfl, rfl⟩)
    go_ret
    exact ⟨rfl, hR, Only.refl _ _⟩
set_option maxHeartbeats 1000000 in
theorem rfail (b : Nat) (r k : Int) (A : Nt) (V : Nat → Nat → Value) (w : World) (g : Good A) (hR : RN w b A V) :
    Calls Try.prog 99 #[.pointer (some ⟨b, 0, none⟩), .int .i64 r, .int .i64 k] w fun e w' => e = .returned (.int .i64 (failE A r k)) ∧ RN w' b (failC A r k) V ∧ Only (· = b) w w' := by
  have hn := g.n5
  have hN := hR.n
  by_cases h0 : isB A.n r = true
  · obtain ⟨h1, h2⟩ := isB_true h0
    obtain ⟨x, rfl⟩ := Int.eq_ofNat_of_zero_le h1
    have hx : x < 5 := by omega
    have hx' : (x : Int) < 5 := by omega
    have c1 := hR.fa x hx
    have f1 := hR.fz
    have HR : Hid (RN w b A V) := hR; clear hR
    by_cases hk : k < 0
    · have hE : failE A x k = 8 := by unfold failE; rw [if_pos h0, if_pos (.inl hk)]
      have hC : failC A x k = A := by unfold failC; rw [hE, if_neg (by decide)]
      rw [hE, hC]
      go_enter Try.func99, Try.ntmps99
      go_wp2_with (go_at_call 113; refine (is_any b A.n _ _ hN).mono ?_; rintro e w' ⟨rfl, rfl⟩)
      go_ret
      exact ⟨rfl, HR.out, Only.refl _ _⟩
    · by_cases hk3 : 3 < k
      · have hE : failE A x k = 8 := by unfold failE; rw [if_pos h0, if_pos (.inr hk3)]
        have hC : failC A x k = A := by unfold failC; rw [hE, if_neg (by decide)]
        rw [hE, hC]
        go_enter Try.func99, Try.ntmps99
        go_wp2_with (go_at_call 113; refine (is_any b A.n _ _ hN).mono ?_; rintro e w' ⟨rfl, rfl⟩)
        go_ret
        exact ⟨rfl, HR.out, Only.refl _ _⟩
      · have hE : failE A x k = 0 := by unfold failE; rw [if_pos h0, if_neg (by omega)]
        have hC : failC A x k = failN A x k := by unfold failC; rw [hE, if_pos rfl, Int.toNat_natCast]
        rw [hE, hC]
        go_enter Try.func99, Try.ntmps99
        go_wp2_with (go_at_call 113; refine (is_any b A.n _ _ hN).mono ?_; rintro e w' ⟨rfl, rfl⟩)
        go_ret
        exact ⟨rfl, HR.out.setF x hx _, (Only.refl (· = b) w).setCell (p := ⟨b, 1 + x * 74 + 72, none⟩) (.inl rfl) _⟩
  · have h0 : isB A.n r = false := by simpa using h0
    have hE : failE A r k = 2 := by unfold failE; rw [if_neg (by simp [h0])]
    have hC : failC A r k = A := by unfold failC; rw [hE, if_neg (by decide)]
    rw [hE, hC]
    go_enter Try.func99, Try.ntmps99
    go_wp2_with (go_at_call 113; refine (is_any b A.n _ _ hN).mono ?_; rintro e w' ⟨rfl, rfl⟩)
    go_ret
    exact ⟨rfl, hR, Only.refl _ _⟩
/-- The disk's cells are as they were when the table is written. -/
theorem midA_apart {w : World} {b o o' n : Nat} {vs : List Value} (h : o' + vs.length ≤ o ∨ o + n ≤ o') : midA (w.setCells b o' vs) b o n = midA w b o n := by
  unfold midA
  congr 1
  apply List.map_congr_left
  intro j hj
  have hj : j < n := List.mem_range.1 hj
  rw [World.cell?_setCells_out b vs o' w ⟨b, o + j, none⟩ (fun _ _ => by show o + j < o' ∨ o' + vs.length ≤ o + j; omega)]
set_option maxHeartbeats 1000000 in
theorem rcrash (b : Nat) (r : Int) (A : Nt) (V : Nat → Nat → Value) (w : World) (g : Good A) (hR : RN w b A V) :
    Calls Try.prog 100 #[.pointer (some ⟨b, 0, none⟩), .int .i64 r] w fun e w' => e = .returned (.int .i64 (upE A r)) ∧ RN w' b (crashC A r) V ∧ Only (· = b) w w' := by
  have hn := g.n5
  by_cases h0 : upE A r = 0
  · obtain ⟨h1, h2, h3⟩ := upE_zero h0
    obtain ⟨x, rfl⟩ := Int.eq_ofNat_of_zero_le h1
    have hx : x < 5 := by omega
    have hx' : (x : Int) < 5 := by omega
    have c1 := hR.dn x hx
    have f1 := hR.fz
    have hC : crashC A x = crashN A x := by unfold crashC; rw [if_pos h0, Int.toNat_natCast]
    have R1 := hR.setDn x hx true
    have m1 := R1.rangeD x hx
    rw [upR_same] at m1
    have t1 := R1.there x 0 hx (by omega)
    simp only [Nat.add_zero] at t1
    have ag := aggOk_tb (A.rs x).dk
    rw [h0, hC]
    have HR : Hid (RN w b A V) := hR; clear hR
    have sS : midA (w.setCell ⟨b, 1 + x * 74 + 73, none⟩ (.bool true)).drew b (1 + x * 74 + 36) 36 = tbA (A.rs x).dk ∧ MidOk (w.setCell ⟨b, 1 + x * 74 + 73, none⟩ (.bool true)).drew b (1 + x * 74 + 36) 36 ∧ (w.setCell ⟨b, 1 + x * 74 + 73, none⟩ (.bool true)).drew.there b (1 + x * 74) 36 := ⟨m1.1, m1.2, t1⟩
    have H1 : Hid (RN (w.setCell ⟨b, 1 + x * 74 + 73, none⟩ (.bool true)) b (upR A x { (A.rs x) with dn := true }) V) := R1
    clear R1 m1 t1
    go_enter Try.func100, Try.ntmps100
    go_wp2_with (go_at_call 118; refine (up_any b _ A V _ hn HR.out).mono ?_; rintro e w' ⟨rfl, rfl⟩)
    go_region_held3 (fun w' => midA w' b (1 + x * 74 + 36) 36 = tbA (A.rs x).dk ∧ MidOk w' b (1 + x * 74 + 36) 36 ∧ w'.there b (1 + x * 74) 36)
      (first | exact sS | (refine ⟨(midA_apart (.inl (by simp [tbA_size]))).trans sS.1, fun j hj => ?_, World.there_setCells sS.2.2 _ _ _⟩; rw [World.cell?_setCells_out b (tbA (A.rs x).dk).toList (1 + x * 74) _ ⟨b, _, none⟩ (fun _ _ => by right; simp [tbA_size])]; exact sS.2.1 j hj)) (fail)
    go_wp2
    go_ret
    refine ⟨rfl, ?_, (((Only.refl (· = b) w).setCell (p := ⟨b, 1 + x * 74 + 73, none⟩) (.inl rfl) _).drew).setCells (.inl rfl) _ _⟩
    have := (H1.out.of (w' := (w.setCell ⟨b, 1 + x * 74 + 73, none⟩ (.bool true)).drew) rfl).setT x hx (A.rs x).dk
    rw [upR_upR, upR_same] at this
    exact this
  · have hC : crashC A r = A := by unfold crashC; rw [if_neg h0]
    have h0' : (upE A r == 0) = false := by simp [h0]
    rw [hC]
    go_enter Try.func100, Try.ntmps100
    go_wp2_with (go_at_call 118; refine (up_any b _ A V _ hn hR).mono ?_; rintro e w' ⟨rfl, rfl⟩)
    go_ret
    exact ⟨rfl, hR, Only.refl _ _⟩
end Go.Proofs.Ytdoodnbobpijoaa
