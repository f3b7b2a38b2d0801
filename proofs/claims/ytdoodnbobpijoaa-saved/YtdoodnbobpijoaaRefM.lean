import Derived.Test.YtdoodnbobpijoaaRefL
namespace Go.Proofs.Ytdoodnbobpijoaa
open Go.RowKit

/-! ### Restart -/
theorem tbV_setRo (T : Tb) (d : Nat) (hd : d < 5) (x : Rt) (j : Nat) : tbV (setRo T d x) j = if 1 + d * 5 ≤ j ∧ j < 1 + d * 5 + 5 then rtV x (j - (1 + d * 5)) else tbV T j := by
  by_cases h : 1 + d * 5 ≤ j ∧ j < 1 + d * 5 + 5
  · rw [if_pos h]
    have e : j = 1 + d * 5 + (j - (1 + d * 5)) := by omega
    rw [e, tbV_ro _ _ _ hd (by omega), ← e]
    have : (setRo T d x).ro d = x := by show (if d = d then x else _) = x; rw [if_pos rfl]
    rw [this]
  · rw [if_neg h]
    unfold tbV
    by_cases h0 : j = 0
    · rw [if_pos h0, if_pos h0]; rfl
    · rw [if_neg h0, if_neg h0]
      by_cases h26 : j < 26
      · rw [if_pos h26, if_pos h26]
        have : (setRo T d x).ro ((j - 1) / 5) = T.ro ((j - 1) / 5) := by show (if (j - 1) / 5 = d then x else _) = _; rw [if_neg (by omega)]
        rw [this]
      · rw [if_neg h26, if_neg h26]; rfl
/-- A route's staleness and age are written. -/
theorem tbA_stale (T : Tb) (d : Nat) (hd : d < 5) (s a : Int) : (((tbA T).setIfInBounds (1 + d * 5 + 4) (I s)).setIfInBounds (1 + d * 5 + 3) (I a)) = tbA (setRo T d ⟨(T.ro d).nx, (T.ro d).sq, (T.ro d).mt, a, s⟩) := by
  refine tbA_eq _ _ (by simp [tbA_size]) fun j hj => ?_
  rw [tbV_setRo _ _ hd]
  simp only [Array.getElem?_setIfInBounds, Array.size_setIfInBounds, tbA_size]
  by_cases h : 1 + d * 5 ≤ j ∧ j < 1 + d * 5 + 5
  · rw [if_pos h]
    have e : j = 1 + d * 5 + (j - (1 + d * 5)) := by omega
    have ht : (tbA T)[j]? = some (rtV (T.ro d) (j - (1 + d * 5))) := by rw [tbA_at _ _ hj, e, tbV_ro _ _ _ hd (by omega), ← e]
    rw [ht]
    generalize hk : j - (1 + d * 5) = k
    have : k < 5 := by omega
    rcases k with _ | _ | _ | _ | _ | k
    · rw [if_neg (by omega), if_neg (by omega)]; rfl
    · rw [if_neg (by omega), if_neg (by omega)]; rfl
    · rw [if_neg (by omega), if_neg (by omega)]; rfl
    · rw [if_pos (by omega), if_pos (by omega)]; rfl
    · rw [if_neg (by omega), if_pos (by omega), if_pos (by omega)]; rfl
    · omega
  · rw [if_neg h, if_neg (by omega), if_neg (by omega), tbA_at _ _ hj]
theorem Whole.stale {w : World} {b : Nat} {t : TypeId} {T : Tb} (h : Whole w b t (tbA T)) (d : Nat) (hd : d < 5) (s a : Int) :
    Whole ((w.setCell ⟨b, 1 + d * 5 + 4, none⟩ (I s)).setCell ⟨b, 1 + d * 5 + 3, none⟩ (I a)) b t (tbA (Go.Proofs.Ytdoodnbobpijoaa.setRo T d ⟨(T.ro d).nx, (T.ro d).sq, (T.ro d).mt, a, s⟩)) := by
  rw [← tbA_stale T d hd s a]
  exact (h.setAt _ _).setAt _ _
def stK (A : Nt) (x k : Nat) : Tb := ⟨(A.rs x).dk.sq, fun d => if d < k then staleR A x ((A.rs x).dk.ro d) else (A.rs x).dk.ro d, (A.rs x).dk.be⟩
theorem stK_zero (A : Nt) (x : Nat) : stK A x 0 = (A.rs x).dk := by
  have : (fun d => if d < 0 then staleR A x ((A.rs x).dk.ro d) else (A.rs x).dk.ro d) = (A.rs x).dk.ro := by funext d; rw [if_neg (by omega)]
  unfold stK
  rw [this]
theorem stK_ro (A : Nt) (x k : Nat) : (stK A x k).ro k = (A.rs x).dk.ro k := by
  show (if k < k then _ else _) = _
  rw [if_neg (by omega)]
theorem stK_step (A : Nt) (x k : Nat) : stK A x (k + 1) = setRo (stK A x k) k (staleR A x ((A.rs x).dk.ro k)) := by
  have : (fun d => if d < k + 1 then staleR A x ((A.rs x).dk.ro d) else (A.rs x).dk.ro d) = fun d => if d = k then staleR A x ((A.rs x).dk.ro k) else if d < k then staleR A x ((A.rs x).dk.ro d) else (A.rs x).dk.ro d := by
    funext d
    by_cases e : d = k
    · subst e; rw [if_pos (by omega), if_pos rfl]
    · rw [if_neg e]
      have : d < k + 1 ↔ d < k := by omega
      simp only [this]
  unfold stK
  rw [this]
  rfl
theorem setRo_self (T : Tb) (d : Nat) : setRo T d (T.ro d) = T := by
  have : (fun j => if j = d then T.ro d else T.ro j) = T.ro := by
    funext j
    split
    · next e => rw [e]
    · rfl
  show (⟨T.sq, fun j => if j = d then T.ro d else T.ro j, T.be⟩ : Tb) = T
  rw [this]
theorem stK_end {A : Nt} (g : Good A) (x : Nat) (hx : x < A.n) : tbA (stK A x A.n) = tbA ⟨(A.rs x).dk.sq, fun d => staleR A x ((A.rs x).dk.ro d), (A.rs x).dk.be⟩ := by
  refine tbA_congr rfl (fun d hd => ?_) (fun _ _ => rfl)
  show (if d < A.n then _ else _) = _
  by_cases h : d < A.n
  · rw [if_pos h]
  · rw [if_neg h]
    rcases (g.dk x hx).ro d with e | e
    · show _ = staleR A x ((A.rs x).dk.ro d)
      rw [e]; rfl
    · exact absurd e.dn h
attribute [local go_sem ↓] Go.wp_at_zero Go.wp_at_succ ldT stT alcT
attribute [local go_sem] vb_ptr vo_ptr cellsL_agg size_setCells
set_option maxHeartbeats 2000000 in
theorem rrestart (b : Nat) (r : Int) (A : Nt) (V : Nat → Nat → Value) (w : World) (g : Good A) (hR : RN w b A V) :
    Calls Try.prog 101 #[.pointer (some ⟨b, 0, none⟩), .int .i64 r] w fun e w' => e = .returned (.int .i64 (restartE A r)) ∧ RN w' b (restartC A r) V ∧ Only (· = b) w w' := by
  have hn := g.n5
  have hN := hR.n
  by_cases h0 : isB A.n r = true
  · obtain ⟨h1, h2⟩ := isB_true h0
    obtain ⟨x, rfl⟩ := Int.eq_ofNat_of_zero_le h1
    have hx : x < 5 := by omega
    have hx' : (x : Int) < 5 := by omega
    have c1 := hR.dn x hx
    by_cases hd : (A.rs x).dn = true
    · have hE : restartE A x = 0 := by unfold restartE; rw [if_pos h0, Int.toNat_natCast, if_pos hd]
      have hC : restartC A x = restartN A x := by unfold restartC; rw [hE, if_pos rfl, Int.toNat_natCast]
      rw [hE, hC]
      rw [hd] at c1
      have f1 := hR.fz
      have R1 := hR.setDn x hx false
      have m1 := R1.rangeD x hx
      rw [upR_same] at m1
      obtain ⟨m1, m2⟩ := m1
      have ag := aggOk_tb (A.rs x).dk
      have n7 := Whole.new (w.setCell ⟨b, 1 + x * 74 + 73, none⟩ (.bool false)) 153 Zk
      simp only [World.size_setCell] at n7
      have t7 := n7.there Zk_size
      have s7 := n7.over (tbA (A.rs x).dk) (by rw [tbA_size, Zk_size])
      have hlt := hR.lt
      have R7 : RN (((w.setCell ⟨b, 1 + x * 74 + 73, none⟩ (.bool false)).alloc (.cells Zk 153)).setCells w.heap.size 0 (tbA (A.rs x).dk).toList) b (upR A x { (A.rs x) with dn := false }) V := R1.of (by rw [(setCells_block _ _ _ _).2.1 b (by omega), Below.heap_alloc _ _ _ (by simp; omega)])
      have O7 : Only (· = b) w (((w.setCell ⟨b, 1 + x * 74 + 73, none⟩ (.bool false)).alloc (.cells Zk 153)).setCells w.heap.size 0 (tbA (A.rs x).dk).toList) := (((Only.refl (· = b) w).setCell (p := ⟨b, 1 + x * 74 + 73, none⟩) (.inl rfl) _).alloc _).setCells (.inr (Nat.le_refl _)) _ _
      have HG : Hid (Good A) := g; clear g
      have HS7 : Hid (Whole (((w.setCell ⟨b, 1 + x * 74 + 73, none⟩ (.bool false)).alloc (.cells Zk 153)).setCells w.heap.size 0 (tbA (A.rs x).dk).toList) w.heap.size 153 (tbA (A.rs x).dk)) := s7
      have HR7 : Hid (RN (((w.setCell ⟨b, 1 + x * 74 + 73, none⟩ (.bool false)).alloc (.cells Zk 153)).setCells w.heap.size 0 (tbA (A.rs x).dk).toList) b (upR A x { (A.rs x) with dn := false }) V) := R7
      have HO7 : Hid (Only (· = b) w (((w.setCell ⟨b, 1 + x * 74 + 73, none⟩ (.bool false)).alloc (.cells Zk 153)).setCells w.heap.size 0 (tbA (A.rs x).dk).toList)) := O7
      clear R1 n7 s7 R7 O7 hR
      go_enter Try.func101, Try.ntmps101
      go_wp2_with (go_at_call 113; refine (is_any b A.n _ _ hN).mono ?_; rintro e w' ⟨rfl, rfl⟩)
      go_loopw [8] (fun i wr => ∃ k : Nat, k ≤ A.n ∧ i = .int .i64 k ∧ RN wr b (upR A x { (A.rs x) with dn := false }) V ∧ Whole wr w.heap.size 153 (tbA (stK A x k)) ∧ Only (· = b) w wr) (fun i _ => A.n - (intOf i).toNat)
      case atStart => exact ⟨0, Nat.zero_le _, rfl, HR7.out, by rw [stK_zero]; exact HS7.out, HO7.out⟩
      case round =>
        clear HR7 HS7 HO7 m1 m2 t7 f1 c1
        obtain ⟨k, hk, rfl, r1, r2, r3⟩ := hrel
        have cn : wr.cell? ⟨b, 0, none⟩ = some (I A.n) := r1.n
        have z3 := r3.size
        have hltw : b < w.heap.size := hlt
        by_cases hkn : k < A.n
        · have hk5 : k < 5 := by omega
          have hk' : (k : Int) < 5 := by omega
          have hkn' : (k : Int) < (A.n : Int) := by omega
          obtain ⟨a0, a1, a2, a3, a4⟩ := tbA_ro5 (stK A x k) k hk5
          rw [stK_ro] at a0 a1 a2 a3 a4
          have c2 := r2.cell
          have f2 := r2.frozen
          have l2 := r2.lt
          by_cases hnx : ((A.rs x).dk.ro k).nx < 0
          · have e : staleR A x ((A.rs x).dk.ro k) = (A.rs x).dk.ro k := by unfold staleR; rw [if_pos hnx]
            have hnx' : decide (((A.rs x).dk.ro k).nx < 0) = true := by simpa using hnx
            go_wp2
            go_roundw
            case rel => exact ⟨k + 1, by omega, by go_num, r1, by rw [stK_step, e, ← stK_ro A x k, setRo_self]; exact r2, r3⟩
            case measure => simp [intOf]; omega
          · have hnx' : decide (((A.rs x).dk.ro k).nx < 0) = false := by simpa using hnx
            have ok := (HG.out.dk x (by omega)).nx k (by omega)
            have n0 := ok.nx0
            have n1 := ok.nx1
            obtain ⟨y, hy⟩ := Int.eq_ofNat_of_zero_le n0
            have hy5 : y < 5 := by omega
            have hy5' : (y : Int) < 5 := by omega
            have cc : wr.cell? ⟨b, 371 + x * 5 + y, none⟩ = some (I (A.co x y)) := r1.c x y hx hy5
            rw [hy] at a0 hnx'
            by_cases hco : A.co x y = 0
            · have e : staleR A x ((A.rs x).dk.ro k) = noRt := by unfold staleR; rw [if_neg hnx, hy, Int.toNat_natCast, if_pos hco]
              have hco' : (A.co x y == 0) = true := by simp [hco]
              go_wp2_with fail
              go_quiet (fail)
              have d2 := r2.drewN nq
              have d3 := r3.drewN nq
              have d1 := r1.of (w' := wr.drewN nq) rfl
              go_wp2_with (go_at_call 109; refine (none_any _).mono ?_; rintro e w2 ⟨rfl, hb⟩; have p2 := d2.below hb; obtain ⟨b0, b1, b2, b3, b4⟩ := tbA_ro5 (stK A x k) k hk5; have f3 := p2.frozen; have c3 := p2.cell; have z4 := hb.size)
              go_roundw
              case rel => exact ⟨k + 1, by omega, by go_num, by
                refine (d1.of (hb.block b d1.lt)).of ?_
                rw [heap_setCell_other _ _ _ _ (by dsimp only; omega), heap_setCell_other _ _ _ _ (by dsimp only; omega), heap_setCell_other _ _ _ _ (by dsimp only; omega), heap_setCell_other _ _ _ _ (by dsimp only; omega), heap_setCell_other _ _ _ _ (by dsimp only; omega)], by
                rw [stK_step, e]; exact p2.setRo k hk5 noRt, by
                have o1 : Only (· = b) w w2 := d3.trans (Only.ofBelow (S := (· = b)) hb) (fun _ _ h => h)
                exact ((((o1.setCell (p := ⟨w.heap.size, _, none⟩) (.inr (Nat.le_refl _)) _).setCell (p := ⟨w.heap.size, _, none⟩) (.inr (Nat.le_refl _)) _).setCell (p := ⟨w.heap.size, _, none⟩) (.inr (Nat.le_refl _)) _).setCell (p := ⟨w.heap.size, _, none⟩) (.inr (Nat.le_refl _)) _).setCell (p := ⟨w.heap.size, _, none⟩) (.inr (Nat.le_refl _)) _⟩
              case measure => simp [intOf]; omega
            · have e : staleR A x ((A.rs x).dk.ro k) = ⟨((A.rs x).dk.ro k).nx, ((A.rs x).dk.ro k).sq, ((A.rs x).dk.ro k).mt, 0, 1⟩ := by unfold staleR; rw [if_neg hnx, if_neg (by rw [hy, Int.toNat_natCast]; exact hco)]
              have hco' : (A.co x y == 0) = false := by simp [hco]
              go_wp2_with fail
              go_quiet (fail)
              have d2 := r2.drewN nq
              have d3 := r3.drewN nq
              have d1 := r1.of (w' := wr.drewN nq) rfl
              have c3 := d2.cell
              have f3 := d2.frozen
              go_wp2
              go_roundw
              case rel => exact ⟨k + 1, by omega, by go_num, by
                refine d1.of ?_
                rw [heap_setCell_other _ _ _ _ (by dsimp only; omega), heap_setCell_other _ _ _ _ (by dsimp only; omega)], by
                rw [stK_step, e, ← stK_ro A x k]; exact d2.stale k hk5 1 0, by
                exact (d3.setCell (p := ⟨w.heap.size, _, none⟩) (.inr (Nat.le_refl _)) _).setCell (p := ⟨w.heap.size, _, none⟩) (.inr (Nat.le_refl _)) _⟩
              case measure => simp [intOf]; omega
        · have hk6 : k = A.n := by omega
          subst hk6
          have m8 := r2.mid (tbA_size _)
          have ag8 := aggOk_tb (stK A x A.n)
          have t8 := r1.there x 0 hx (by omega)
          simp only [Nat.add_zero] at t8
          obtain ⟨m8, m9⟩ := m8
          go_wp2
          go_ret
          refine ⟨rfl, ?_, r3.setCells (.inl rfl) _ _⟩
          rw [stK_end HG.out x (by omega)]
          have := r1.setT x hx ⟨(A.rs x).dk.sq, fun d => staleR A x ((A.rs x).dk.ro d), (A.rs x).dk.be⟩
          rw [upR_upR, upR_same] at this
          exact this
    · have hd : (A.rs x).dn = false := by simpa using hd
      have hE : restartE A x = 6 := by unfold restartE; rw [if_pos h0, Int.toNat_natCast, if_neg (by simp [hd])]
      have hC : restartC A x = A := by unfold restartC; rw [hE, if_neg (by decide)]
      rw [hE, hC]
      rw [hd] at c1
      go_enter Try.func101, Try.ntmps101
      go_wp2_with (go_at_call 113; refine (is_any b A.n _ _ hN).mono ?_; rintro e w' ⟨rfl, rfl⟩)
      go_ret
      exact ⟨rfl, hR, Only.refl _ _⟩
  · have h0 : isB A.n r = false := by simpa using h0
    have hE : restartE A r = 2 := by unfold restartE; rw [if_neg (by simp [h0])]
    have hC : restartC A r = A := by unfold restartC; rw [hE, if_neg (by decide)]
    rw [hE, hC]
    go_enter Try.func101, Try.ntmps101
    go_wp2_with (go_at_call 113; refine (is_any b A.n _ _ hN).mono ?_; rintro e w' ⟨rfl, rfl⟩)
    go_ret
    exact ⟨rfl, hR, Only.refl _ _⟩
end Go.Proofs.Ytdoodnbobpijoaa
