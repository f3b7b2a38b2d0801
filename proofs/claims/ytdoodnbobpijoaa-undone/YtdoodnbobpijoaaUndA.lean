import Derived.Test.YtdoodnbobpijoaaBunT
namespace Go.Proofs.Ytdoodnbobpijoaa
open Go.RowKit

/-! ### Undone -/
attribute [local go_sem ↓] Go.wp_at_zero Go.wp_at_succ ld35 st35 alc35 neSheet eqSheet
attribute [local go_sem] vb_ptr vo_ptr cellsL_agg size_setCells
set_option maxHeartbeats 8000000 in
set_option maxRecDepth 100000 in
theorem undone_any (w : World) (size : Int) (fs : Fits size) (sa : Option Addr) (len cap : Nat) (f : Nat → St) (hS : Scp w sa len f) (who : Int) (fw : Fits who) :
    Calls Try.prog 8 #[.int .i64 size, .slice sa len cap, .int .i64 who] w fun e w' => e = .returned (.bool true) ∧ Below w.heap.size w w' := by
  obtain ⟨n, hn, n2, n5⟩ := size_pick size
  obtain ⟨r, hr0, hrn⟩ := who_pick who n (by omega)
  have PW : Hid (∀ W, Calls Try.prog 20 #[.int .i64 who, .int .i64 n] W fun e w' => e = .returned (.int .i64 r) ∧ W = w') := fun W => by
    have := kpick who n W fw.1 fw.2 (by omega) (by omega)
    rw [hr0] at this; exact this
  clear hr0
  have KL : Hid (∀ (u : World) (ρ : Nat → Part) (i : Nat), (∀ k, u.heap.size ≤ k → ρ k = (0, 0)) → w.heap.size ≤ u.heap.size → Calls Try.prog 14 #[.int .i64 size] u fun e w' => ∃ bk bx bs, e = .returned (.pointer (some ⟨bk, 0, none⟩)) ∧ PostK w.heap.size i ρ bk bx bs (laidN n) u w') := fun u ρ i h1 h2 => klaid size n fs.1 fs.2 hn h1 h2
  have HG : Hid (Tame (laidN n) 0 ∧ (laidN n).n = n) := ⟨laid_tame n n2 n5, (laid_good n n2 n5).2⟩
  have HS : Hid (Scp w sa len f) := hS
  clear hS hn fs fw
  go_enter Try.func8, Try.ntmps8
  go_wp2_with fail
  refine (KL.out _ (fun _ => (0, 0)) 0 (fun _ _ => rfl) (Nat.le_refl _)).mono ?_
  rintro e w1 ⟨bk1, bx1, bs1, rfl, ρ1, V1, q1, q2⟩
  go_wp2_with fail
  refine (KL.out _ ρ1 1 q2.new q2.only.size).mono ?_
  rintro e w2 ⟨bk2, bx2, bs2, rfl, ρ2, V2, q3, q4⟩
  obtain ⟨d, hd⟩ : ∃ d : Ids, d = ⟨bk1, bx1, bs1, bk2, bx2, bs2⟩ := ⟨_, rfl⟩
  have U0 : Hid (TwoN w w2 d (laidN n) (laidN n) []) := by
    subst hd
    exact ⟨ρ2, V1, V2, q1.aft q4 (by omega), q3, q4.new, fun k hk => (q4.old k (Nat.lt_of_lt_of_le hk q2.only.size)).trans (q2.old k hk), TwoN.low_aft q2.all (fun k hk => q2.old k hk) q4, fun x hx => by cases hx⟩
  have h1 : bk1 = d.k1 := by rw [hd]
  have h2 : bk2 = d.k2 := by rw [hd]
  rw [h1, h2]
  clear q1 q2 q3 q4 KL hd h1 h2
  go_wp2_with fail
  go_loopw [9] (fun v wr => ∃ k : Nat, k ≤ len ∧ k ≤ 100 ∧ v = .int .i64 k ∧ TwoN w wr d (playF (laidN n) f k) (playF (laidN n) f k) []) (fun v _ => 100 - (intOf v).toNat)
  case atStart => exact ⟨0, by omega, by omega, rfl, U0.out⟩
  case round =>
    clear U0
    obtain ⟨k, hk, hkm, rfl, u1⟩ := hrel
    by_cases hgo : k < len ∧ k < 100
    · obtain ⟨hkl, hk1⟩ := hgo
      have hkl' : (k : Int) < (len : Int) := by omega
      have hk1' : (k : Int) < 100 := by omega
      have hk0 : (0 : Int) ≤ (k : Int) := by omega
      have HS1 : Hid (∀ u, Below w.heap.size w u → ∃ sb so, sa = some ⟨sb, so, none⟩ ∧ (u.cell? ⟨sb, so + k * 4, none⟩ = some (.int .i64 (f k).k) ∧ u.cell? ⟨sb, so + k * 4 + 1, none⟩ = some (.int .i64 (f k).a) ∧ u.cell? ⟨sb, so + k * 4 + 2, none⟩ = some (.int .i64 (f k).b) ∧ u.cell? ⟨sb, so + k * 4 + 3, none⟩ = some (.int .i64 (f k).c)) ∧ (Fits (f k).k ∧ Fits (f k).a ∧ Fits (f k).b ∧ Fits (f k).c)) := fun u hu => HS.out.at hu hkl
      obtain ⟨sb, so, hsa, ⟨s0, s1, s2, s3⟩, ft⟩ := HS1.out wr u1.low
      subst hsa
      have CX : Hid (Calls Try.prog 15 #[.pointer (some ⟨d.k1, 0, none⟩), .agg #[.int .i64 (f k).k, .int .i64 (f k).a, .int .i64 (f k).b, .int .i64 (f k).c]] wr fun e w' => e = .returned (.tuple #[]) ∧ TwoN w w' d (playF (laidN n) f (k + 1)) (playF (laidN n) f k) []) := u1.x fun ρ V h1 h2 h3 => kdoes h1 h2 h3 (f k) ft
      have CY : Hid (∀ u, TwoN w u d (playF (laidN n) f (k + 1)) (playF (laidN n) f k) [] → Calls Try.prog 15 #[.pointer (some ⟨d.k2, 0, none⟩), .agg #[.int .i64 (f k).k, .int .i64 (f k).a, .int .i64 (f k).b, .int .i64 (f k).c]] u fun e w' => e = .returned (.tuple #[]) ∧ TwoN w w' d (playF (laidN n) f (k + 1)) (playF (laidN n) f (k + 1)) []) := fun u hu => hu.y fun ρ V h1 h2 h3 => kdoes h1 h2 h3 (f k) ft
      clear u1 ft
      go_wp2_with fail
      refine (CX.out).mono ?_
      rintro e w3 ⟨rfl, u3⟩
      obtain ⟨sb', so', hsa, ⟨p0, p1, p2, p3⟩, _⟩ := HS1.out w3 u3.low
      injection hsa with hsa
      injection hsa with hs1 hs2
      subst hs1 hs2
      have U3 : Hid (TwoN w w3 d (playF (laidN n) f (k + 1)) (playF (laidN n) f k) []) := u3
      clear u3 CX
      go_wp2_with fail
      refine (CY.out _ U3.out).mono ?_
      rintro e w4 ⟨rfl, u4⟩
      go_wp2
      go_roundw
      case rel => exact ⟨k + 1, by omega, by omega, by go_num, u4⟩
      case measure => simp [intOf]; omega
    · have hex : ¬ (k : Int) < (len : Int) ∨ ((k : Int) < (len : Int) ∧ ¬ (k : Int) < 100) := by omega
      have HTm : Hid (Good (playF (laidN n) f k) ∧ (playF (laidN n) f k).n = n) := ⟨(playF_n HG.out.1.good f k).1, (playF_n HG.out.1.good f k).2.trans HG.out.2⟩
      have U1 : Hid (TwoN w wr d (playF (laidN n) f k) (playF (laidN n) f k) []) := u1
      clear u1 hgo hkm hk
      generalize (playF (laidN n) f k) = P at *
      obtain ⟨wo, rfl⟩ : ∃ wo : World, wo = wr := ⟨_, rfl⟩
      rcases hex with hex | ⟨hex1, hex⟩
      all_goals (
        have HA : Hid ((restartC P r).n = n ∧ ((restartC P r).rs r).dn = false) := ⟨(Risen.restart HTm.out.1 r (by rw [HTm.out.2]; exact hrn)).1.n.trans HTm.out.2, (Risen.restart HTm.out.1 r (by rw [HTm.out.2]; exact hrn)).2⟩
        have CR1 : Hid (Calls Try.prog 21 #[.pointer (some ⟨d.x1, 0, none⟩), .int .i64 r] wo fun e w' => e = .returned (.int .i64 (restartE P r)) ∧ TwoN w w' d (restartC P r) P []) := U1.out.x fun ρ V h1 h2 _ => krestart h1 h2 r
        have CR2 : Hid (∀ u, TwoN w u d (restartC P r) P [] → Calls Try.prog 21 #[.pointer (some ⟨d.x2, 0, none⟩), .int .i64 r] u fun e w' => e = .returned (.int .i64 (restartE P r)) ∧ TwoN w w' d (restartC P r) (restartC P r) []) := fun u hu => hu.y fun ρ V h1 h2 _ => krestart h1 h2 r
        generalize restartC P r = A at *
        obtain ⟨hf1, hf2⟩ := fail_goes (A := A) (r := r) (by rw [HA.out.1]; exact hrn) 1 (by omega) (by omega)
        obtain ⟨hf3, hf4⟩ := fail_goes (A := A) (r := r) (by rw [HA.out.1]; exact hrn) 0 (by omega) (by omega)
        have CF1 : Hid (∀ u, TwoN w u d A A [] → Calls Try.prog 22 #[.pointer (some ⟨d.x1, 0, none⟩), .int .i64 r, .int .i64 1] u fun e w' => e = .returned (.int .i64 0) ∧ TwoN w w' d (failN A r 1) A []) := fun u hu => hu.x fun ρ V h1 h2 _ => by
          have := kfail h1 h2 r 1
          rw [hf1, hf2] at this
          exact this
        have CF2 : Hid (∀ u, TwoN w u d (failN A r 1) A [] → Calls Try.prog 22 #[.pointer (some ⟨d.x2, 0, none⟩), .int .i64 r, .int .i64 0] u fun e w' => e = .returned (.int .i64 0) ∧ TwoN w w' d (failN A r 1) (failN A r 0) []) := fun u hu => hu.y fun ρ V h1 h2 _ => by
          have := kfail h1 h2 r 0
          rw [hf3, hf4] at this
          exact this
        clear hf1 hf2 hf3 hf4
        have CS1 : Hid (∀ u Y L, TwoN w u d (failN A r 1) Y L → Calls Try.prog 23 #[.pointer (some ⟨d.k1, 0, none⟩), .int .i64 r] u fun e w' => e = .returned (.agg (sheetA (shR A r n) (shB A r n))) ∧ TwoN w w' d (failN A r 1) Y L) := fun u Y L hu => by
          have := hu.sheetx r
          rw [shR_fail, shB_fail, show (failN A r 1).n = n from HA.out.1] at this
          exact this
        have CW1 : Hid (∀ u Y L, TwoN w u d (failN A r 1) Y L → Calls Try.prog 24 #[.pointer (some ⟨d.k1, 0, none⟩), .int .i64 r] u fun e w' => e = .returned (.int .i64 (wsum A r n)) ∧ u = w') := fun u Y L hu => by
          have := hu.waitx r
          rw [wsum_fail, show (failN A r 1).n = n from HA.out.1] at this
          exact this
        have CS0 : Hid (∀ u Y L, TwoN w u d (failN A r 0) Y L → Calls Try.prog 23 #[.pointer (some ⟨d.k1, 0, none⟩), .int .i64 r] u fun e w' => e = .returned (.agg (sheetA (shR A r n) (shB A r n))) ∧ TwoN w w' d (failN A r 0) Y L) := fun u Y L hu => by
          have := hu.sheetx r
          rw [shR_fail, shB_fail, show (failN A r 0).n = n from HA.out.1] at this
          exact this
        have CW0 : Hid (∀ u Y L, TwoN w u d (failN A r 0) Y L → Calls Try.prog 24 #[.pointer (some ⟨d.k1, 0, none⟩), .int .i64 r] u fun e w' => e = .returned (.int .i64 (wsum A r n)) ∧ u = w') := fun u Y L hu => by
          have := hu.waitx r
          rw [wsum_fail, show (failN A r 0).n = n from HA.out.1] at this
          exact this
        have CD1 : Hid (∀ u Y L, TwoN w u d (failN A r 1) Y L → Calls Try.prog 25 #[.pointer (some ⟨d.x1, 0, none⟩), .int .i64 r] u fun e w' => e = .returned (.int .i64 7) ∧ TwoN w w' d (failN A r 0) Y L) := fun u Y L hu => hu.x fun ρ V h1 h2 h3 => by
          have := kdump h1 h2 h3 r
          rw [(dump_again (A := A) (by rw [HA.out.1]; exact hrn) HA.out.2 1 (by omega)).1, (dump_again (A := A) (by rw [HA.out.1]; exact hrn) HA.out.2 1 (by omega)).2] at this
          exact this
        have CD2 : Hid (∀ u Y L, TwoN w u d (failN A r 0) Y L → Calls Try.prog 25 #[.pointer (some ⟨d.x1, 0, none⟩), .int .i64 r] u fun e w' => e = .returned (.int .i64 0) ∧ TwoN w w' d (dumpTill A r) Y L) := fun u Y L hu => hu.x fun ρ V h1 h2 h3 => by
          have := kdump h1 h2 h3 r
          rw [(dump_last (A := A) (by rw [HA.out.1]; exact hrn) HA.out.2).1, (dump_last (A := A) (by rw [HA.out.1]; exact hrn) HA.out.2).2] at this
          exact this
        have CD3 : Hid (∀ u X L, TwoN w u d X (failN A r 0) L → Calls Try.prog 25 #[.pointer (some ⟨d.x2, 0, none⟩), .int .i64 r] u fun e w' => e = .returned (.int .i64 0) ∧ TwoN w w' d X (dumpTill A r) L) := fun u X L hu => hu.y fun ρ V h1 h2 h3 => by
          have := kdump h1 h2 h3 r
          rw [(dump_last (A := A) (by rw [HA.out.1]; exact hrn) HA.out.2).1, (dump_last (A := A) (by rw [HA.out.1]; exact hrn) HA.out.2).2] at this
          exact this
        have hDn : (dumpTill A r).n = n := HA.out.1
        have HDn : Hid ((dumpTill A r).n = n) := hDn
        clear hDn
        generalize dumpTill A r = D at *
        have cx := U1.out.cx
        have cx0 := cx.1
        have cx1 := cx.2
        rw [HTm.out.2] at cx1
        clear cx
        go_wp2_with (go_at_call 20; refine ((PW.out) _).mono ?_; rintro e w' ⟨rfl, rfl⟩)
        refine (CR1.out).mono ?_
        rintro e w5 ⟨rfl, u5⟩
        have U5 : Hid (TwoN w w5 d A P []) := u5
        have u5c0 := u5.cx.1
        have u5d0 := u5.cy.1
        clear u5
        clear cx0 cx1 CR1 U1
        go_wp2_with fail
        refine (CR2.out _ U5.out).mono ?_
        rintro e w6 ⟨rfl, u6⟩
        have U6 : Hid (TwoN w w6 d A A []) := u6
        have u6c0 := u6.cx.1
        have u6d0 := u6.cy.1
        clear u6
        clear u5c0 u5d0 CR2 U5
        go_wp2_with fail
        refine (CF1.out _ U6.out).mono ?_
        rintro e w7 ⟨rfl, u7⟩
        have U7 : Hid (TwoN w w7 d (failN A r 1) A []) := u7
        have u7c0 := u7.cx.1
        have u7d0 := u7.cy.1
        clear u7
        clear u6c0 u6d0 CF1 U6
        go_wp2_with fail
        refine (CF2.out _ U7.out).mono ?_
        rintro e w8 ⟨rfl, u8⟩
        have U8 : Hid (TwoN w w8 d (failN A r 1) (failN A r 0) []) := u8
        have u8c0 := u8.cx.1
        have u8d0 := u8.cy.1
        clear u8
        clear u7c0 u7d0 CF2 U7
        go_wp2_with fail
        refine (CS1.out _ _ _ U8.out).mono ?_
        rintro e w9 ⟨rfl, u⟩
        have ag := aggOk_sheet (shR A r n) (shB A r n)
        have n0 := Whole.new w9 53 (sheetA (fun _ => zeR) fun _ => zeB)
        have th := n0.there (sheet_size _ _)
        have b4 : Below w9.heap.size w9 ((w9.alloc (.cells (sheetA (fun _ => zeR) fun _ => zeB) 53)).setCells w9.heap.size 0 (sheetA (shR A r n) (shB A r n)).toList) := Below.setCells ((Below.refl _ _).alloc (Nat.le_refl _) _) (Nat.le_refl _) _ _
        have V : Hid (TwoN w ((w9.alloc (.cells (sheetA (fun _ => zeR) fun _ => zeB) 53)).setCells w9.heap.size 0 (sheetA (shR A r n) (shB A r n)).toList) d (failN A r 1) (failN A r 0) (⟨w9.heap.size, 53, sheetA (shR A r n) (shB A r n)⟩ :: [])) := u.more b4 (n0.over (sheetA (shR A r n) (shB A r n)) rfl)
        clear u n0 b4
        go_wp2_with fail
        generalize hWN : ((w9.alloc (.cells (sheetA (fun _ => zeR) fun _ => zeB) 53)).setCells w9.heap.size 0 (sheetA (shR A r n) (shB A r n)).toList) = w9' at *
        obtain ⟨b1, hb1⟩ : ∃ b1, b1 = w9.heap.size := ⟨_, rfl⟩
        rw [← hb1] at V ⊢
        clear hWN hb1 ag th
        have b1U : Hid (TwoN w w9' d (failN A r 1) (failN A r 0) (⟨b1, 53, sheetA (shR A r n) (shB A r n)⟩ :: [])) := V
        clear V
        clear u8c0 u8d0 U8 CS1
        refine (CW1.out _ _ _ b1U.out).mono ?_
        rintro e w' ⟨rfl, rfl⟩
        have e0 := b1U.out.cx.1
        go_wp2_with fail
        refine (CD1.out _ _ _ b1U.out).mono ?_
        rintro e w10 ⟨rfl, u10⟩
        have U10 : Hid (TwoN w w10 d (failN A r 0) (failN A r 0) (⟨b1, 53, sheetA (shR A r n) (shB A r n)⟩ :: [])) := u10
        clear u10 e0 b1U CD1 CW1
        go_wp2_with fail
        refine (CS0.out _ _ _ U10.out).mono ?_
        rintro e w11 ⟨rfl, u⟩
        have ag := aggOk_sheet (shR A r n) (shB A r n)
        have n0 := Whole.new w11 53 (sheetA (fun _ => zeR) fun _ => zeB)
        have th := n0.there (sheet_size _ _)
        have b4 : Below w11.heap.size w11 ((w11.alloc (.cells (sheetA (fun _ => zeR) fun _ => zeB) 53)).setCells w11.heap.size 0 (sheetA (shR A r n) (shB A r n)).toList) := Below.setCells ((Below.refl _ _).alloc (Nat.le_refl _) _) (Nat.le_refl _) _ _
        have V : Hid (TwoN w ((w11.alloc (.cells (sheetA (fun _ => zeR) fun _ => zeB) 53)).setCells w11.heap.size 0 (sheetA (shR A r n) (shB A r n)).toList) d (failN A r 0) (failN A r 0) (⟨w11.heap.size, 53, sheetA (shR A r n) (shB A r n)⟩ :: (⟨b1, 53, sheetA (shR A r n) (shB A r n)⟩ :: []))) := u.more b4 (n0.over (sheetA (shR A r n) (shB A r n)) rfl)
        clear u n0 b4
        go_wp2_with fail
        generalize hWN : ((w11.alloc (.cells (sheetA (fun _ => zeR) fun _ => zeB) 53)).setCells w11.heap.size 0 (sheetA (shR A r n) (shB A r n)).toList) = w11' at *
        obtain ⟨b2, hb2⟩ : ∃ b2, b2 = w11.heap.size := ⟨_, rfl⟩
        rw [← hb2] at V ⊢
        clear hWN hb2 ag th
        have b2U : Hid (TwoN w w11' d (failN A r 0) (failN A r 0) (⟨b2, 53, sheetA (shR A r n) (shB A r n)⟩ :: (⟨b1, 53, sheetA (shR A r n) (shB A r n)⟩ :: []))) := V
        clear V
        clear U10 CS0
        refine (CW0.out _ _ _ b2U.out).mono ?_
        rintro e w' ⟨rfl, rfl⟩
        have tw : TwinS (.agg (sheetA (shR A r n) (shB A r n))) (.agg (sheetA (shR A r n) (shB A r n))) := ⟨_, _, rfl, rfl⟩
        obtain ⟨j1, j2⟩ := (b2U.out.kept ⟨b1, 53, sheetA (shR A r n) (shB A r n)⟩ (by simp)).mid (sheet_size _ _)
        obtain ⟨j3, j4⟩ := (b2U.out.kept ⟨b2, 53, sheetA (shR A r n) (shB A r n)⟩ (by simp)).mid (sheet_size _ _)
        simp only at j1 j2 j3 j4
        have e0 := b2U.out.cx.1
        generalize wsum A r n = ws at *
        go_wp2_with fail
        refine (CD2.out _ _ _ b2U.out).mono ?_
        rintro e w12 ⟨rfl, u12⟩
        have U12 : Hid (TwoN w w12 d D (failN A r 0) (⟨b2, 53, sheetA (shR A r n) (shB A r n)⟩ :: (⟨b1, 53, sheetA (shR A r n) (shB A r n)⟩ :: []))) := u12
        have u12d0 := u12.cy.1
        clear u12 e0 j1 j2 j3 j4 b2U CD2 CW0
        go_wp2_with fail
        refine (CD3.out _ _ _ U12.out).mono ?_
        rintro e w13 ⟨rfl, u13⟩
        have U13 : Hid (TwoN w w13 d D D (⟨b2, 53, sheetA (shR A r n) (shB A r n)⟩ :: (⟨b1, 53, sheetA (shR A r n) (shB A r n)⟩ :: []))) := u13
        clear u13 u12d0 U12 CD3 tw
        have CSx : Hid (∀ u L, TwoN w u d D D L → Calls Try.prog 23 #[.pointer (some ⟨d.k1, 0, none⟩), .int .i64 r] u fun e w' => e = .returned (.agg (sheetA (shR D r n) (shB D r n))) ∧ TwoN w w' d D D L) := fun u L hu => by
          have := hu.sheetx r
          rw [HDn.out] at this
          exact this
        have CSy : Hid (∀ u L, TwoN w u d D D L → Calls Try.prog 23 #[.pointer (some ⟨d.k2, 0, none⟩), .int .i64 r] u fun e w' => e = .returned (.agg (sheetA (shR D r n) (shB D r n))) ∧ TwoN w w' d D D L) := fun u L hu => by
          have := hu.sheety r
          rw [HDn.out] at this
          exact this
        have CWx : Hid (∀ u L, TwoN w u d D D L → Calls Try.prog 24 #[.pointer (some ⟨d.k1, 0, none⟩), .int .i64 r] u fun e w' => e = .returned (.int .i64 (wsum D r n)) ∧ u = w') := fun u L hu => by
          have := hu.waitx r
          rw [HDn.out] at this
          exact this
        have CWy : Hid (∀ u L, TwoN w u d D D L → Calls Try.prog 24 #[.pointer (some ⟨d.k2, 0, none⟩), .int .i64 r] u fun e w' => e = .returned (.int .i64 (wsum D r n)) ∧ u = w') := fun u L hu => by
          have := hu.waity r
          rw [HDn.out] at this
          exact this
        generalize shR D r n = RD at *
        generalize shB D r n = ED at *
        generalize wsum D r n = wd at *
        go_wp2_with fail
        refine (CSx.out _ _ U13.out).mono ?_
        rintro e w14 ⟨rfl, u⟩
        have ag := aggOk_sheet RD ED
        have n0 := Whole.new w14 53 (sheetA (fun _ => zeR) fun _ => zeB)
        have th := n0.there (sheet_size _ _)
        have b4 : Below w14.heap.size w14 ((w14.alloc (.cells (sheetA (fun _ => zeR) fun _ => zeB) 53)).setCells w14.heap.size 0 (sheetA RD ED).toList) := Below.setCells ((Below.refl _ _).alloc (Nat.le_refl _) _) (Nat.le_refl _) _ _
        have V : Hid (TwoN w ((w14.alloc (.cells (sheetA (fun _ => zeR) fun _ => zeB) 53)).setCells w14.heap.size 0 (sheetA RD ED).toList) d D D (⟨w14.heap.size, 53, sheetA RD ED⟩ :: (⟨b2, 53, sheetA (shR A r n) (shB A r n)⟩ :: (⟨b1, 53, sheetA (shR A r n) (shB A r n)⟩ :: [])))) := u.more b4 (n0.over (sheetA RD ED) rfl)
        clear u n0 b4
        go_wp2_with fail
        generalize hWN : ((w14.alloc (.cells (sheetA (fun _ => zeR) fun _ => zeB) 53)).setCells w14.heap.size 0 (sheetA RD ED).toList) = w14' at *
        obtain ⟨b3, hb3⟩ : ∃ b3, b3 = w14.heap.size := ⟨_, rfl⟩
        rw [← hb3] at V ⊢
        clear hWN hb3 ag th
        have b3U : Hid (TwoN w w14' d D D (⟨b3, 53, sheetA RD ED⟩ :: (⟨b2, 53, sheetA (shR A r n) (shB A r n)⟩ :: (⟨b1, 53, sheetA (shR A r n) (shB A r n)⟩ :: [])))) := V
        clear V
        clear U13 CSx
        refine (CSy.out _ _ b3U.out).mono ?_
        rintro e w15 ⟨rfl, u⟩
        have ag := aggOk_sheet RD ED
        have n0 := Whole.new w15 53 (sheetA (fun _ => zeR) fun _ => zeB)
        have th := n0.there (sheet_size _ _)
        have b4 : Below w15.heap.size w15 ((w15.alloc (.cells (sheetA (fun _ => zeR) fun _ => zeB) 53)).setCells w15.heap.size 0 (sheetA RD ED).toList) := Below.setCells ((Below.refl _ _).alloc (Nat.le_refl _) _) (Nat.le_refl _) _ _
        have V : Hid (TwoN w ((w15.alloc (.cells (sheetA (fun _ => zeR) fun _ => zeB) 53)).setCells w15.heap.size 0 (sheetA RD ED).toList) d D D (⟨w15.heap.size, 53, sheetA RD ED⟩ :: (⟨b3, 53, sheetA RD ED⟩ :: (⟨b2, 53, sheetA (shR A r n) (shB A r n)⟩ :: (⟨b1, 53, sheetA (shR A r n) (shB A r n)⟩ :: []))))) := u.more b4 (n0.over (sheetA RD ED) rfl)
        clear u n0 b4 b3U CSy
        have tw : TwinS (.agg (sheetA RD ED)) (.agg (sheetA RD ED)) := ⟨_, _, rfl, rfl⟩
        obtain ⟨j1, j2⟩ := (V.out.kept ⟨b3, 53, sheetA RD ED⟩ (by simp)).mid (sheet_size _ _)
        obtain ⟨j3, j4⟩ := (V.out.kept ⟨w15.heap.size, 53, sheetA RD ED⟩ (by simp)).mid (sheet_size _ _)
        simp only at j1 j2 j3 j4
        go_wp2_with fail
        refine (CWx.out _ _ V.out).mono ?_
        rintro e w' ⟨rfl, rfl⟩
        go_wp2_with fail
        refine (CWy.out _ _ V.out).mono ?_
        rintro e w' ⟨rfl, rfl⟩
        go_wp2
        go_ret
        exact ⟨by simp, V.out.low⟩)
end Go.Proofs.Ytdoodnbobpijoaa
