import Derived.Test.YtdoodnbobpijoaaProJ
import Derived.Test.YtdoodnbobpijoaaPnew
import Derived.Test.YtdoodnbobpijoaaWk
namespace Go.Proofs.Ytdoodnbobpijoaa
open Go.RowKit

/-! ### Fail, Crash, Restart -/
theorem PN.costs {w : World} {bx bs : Nat} {A : Nt} {V : Nat → Nat → Value} (h : PN w bx bs A V) (y : Nat) (hy : y < 5) : midA w bx (1 + y * 5) 5 = coA (A.co y) ∧ MidOk w bx (1 + y * 5) 5 := coA_mid fun k hk => h.c y k hy hk
theorem PN.disk {w : World} {bx bs : Nat} {A : Nt} {V : Nat → Nat → Value} (h : PN w bx bs A V) (i : Nat) (hi : i < A.n) : KT w bs (i * 74 + 36) (A.rs i).dk :=
  ⟨fun j hj => by rw [show i * 74 + 36 + j = i * 74 + (36 + j) by omega, h.r i (36 + j) hi (by omega), roV_dk _ _ hj], h.rfz⟩
theorem PN.cellR {w : World} {bx bs : Nat} {A : Nt} {V : Nat → Nat → Value} (h : PN w bx bs A V) (i : Nat) (hi : i < A.n) (j : Nat) (v : Value) (R : Ro) (hR : ∀ k, k < 74 → roV R k = if k = j then v else roV (A.rs i) k) (hj : j < 74) :
    PN (w.setCell ⟨bs, i * 74 + j, none⟩ v) bx bs (upR A i R) V := by
  refine h.upd i R (heap_setCell_other _ _ _ _ h.ne) (fun o => by rw [World.frozen?_setCell]; exact h.rfz o) (fun _ k hk => ?_) (fun o ho => World.cell?_setCell_other _ _ _ _ (addr_ne (by omega)))
  rw [hR k hk]
  by_cases e : k = j
  · subst e; rw [if_pos rfl, World.cell?_setCell_same _ _ _ (h.r i k hi hk)]
  · rw [if_neg e, World.cell?_setCell_other _ _ _ _ (addr_ne (by omega)), h.r i k hi hk]
set_option maxHeartbeats 1000000 in
theorem pfail (bx bs : Nat) (r k : Int) (A : Nt) (V : Nat → Nat → Value) (w : World) (hR : PN w bx bs A V) :
    Calls Try.prog 22 #[.pointer (some ⟨bx, 0, none⟩), .int .i64 r, .int .i64 k] w fun e w' => e = .returned (.int .i64 (failE A r k)) ∧ PN w' bx bs (failC A r k) V ∧ Only (Two bx bs) w w' := by
  have hN := hR.rs
  by_cases h0 : isB A.n r = true
  · obtain ⟨h1, h2⟩ := isB_true h0
    obtain ⟨x, rfl⟩ := Int.eq_ofNat_of_zero_le h1
    have hx : x < A.n := by omega
    have hx' : (x : Int) < (A.n : Int) := by omega
    have c1 : w.cell? ⟨bs, x * 74 + 36 + 36, none⟩ = some (I (A.rs x).fa) := hR.r x 72 hx (by omega)
    have f1 := hR.rfz
    have HR : Hid (PN w bx bs A V) := hR; clear hR
    by_cases hk : k < 0
    · have hE : failE A x k = 8 := by unfold failE; rw [if_pos h0, if_pos (.inl hk)]
      have hC : failC A x k = A := by unfold failC; rw [hE, if_neg (by decide)]
      rw [hE, hC]
      go_enter Try.func22, Try.ntmps22
      go_wp2_with (go_at_call 44; refine (has_any bx A.n bs _ _ hN).mono ?_; rintro e w' ⟨rfl, rfl⟩)
      go_ret
      exact ⟨rfl, HR.out, Only.refl _ _⟩
    · by_cases hk3 : 3 < k
      · have hE : failE A x k = 8 := by unfold failE; rw [if_pos h0, if_pos (.inr hk3)]
        have hC : failC A x k = A := by unfold failC; rw [hE, if_neg (by decide)]
        rw [hE, hC]
        go_enter Try.func22, Try.ntmps22
        go_wp2_with (go_at_call 44; refine (has_any bx A.n bs _ _ hN).mono ?_; rintro e w' ⟨rfl, rfl⟩)
        go_ret
        exact ⟨rfl, HR.out, Only.refl _ _⟩
      · have hE : failE A x k = 0 := by unfold failE; rw [if_pos h0, if_neg (by omega)]
        have hC : failC A x k = failN A x k := by unfold failC; rw [hE, if_pos rfl, Int.toNat_natCast]
        rw [hE, hC]
        go_enter Try.func22, Try.ntmps22
        go_wp2_with (go_at_call 44; refine (has_any bx A.n bs _ _ hN).mono ?_; rintro e w' ⟨rfl, rfl⟩)
        go_ret
        exact ⟨rfl, HR.out.cellR x hx 72 (I k) _ (fun j hj => roV_fails _ _ j hj) (by omega), ((Only.refl (· = bs) w).setCell (p := ⟨bs, x * 74 + 36 + 36, none⟩) (.inl rfl) _).two (.inr rfl)⟩
  · have h0 : isB A.n r = false := by simpa using h0
    have hE : failE A r k = 2 := by unfold failE; rw [if_neg (by simp [h0])]
    have hC : failC A r k = A := by unfold failC; rw [hE, if_neg (by decide)]
    rw [hE, hC]
    go_enter Try.func22, Try.ntmps22
    go_wp2_with (go_at_call 44; refine (has_any bx A.n bs _ _ hN).mono ?_; rintro e w' ⟨rfl, rfl⟩)
    go_ret
    exact ⟨rfl, hR, Only.refl _ _⟩
section
attribute [local go_sem ↓] Go.wp_at_zero Go.wp_at_succ ldPK stPK ldPC
attribute [local go_sem] vb_ptr vo_ptr cellsL_agg size_setCells
set_option maxHeartbeats 1000000 in
theorem qcrash (bx bs x : Nat) (A : Nt) (V : Nat → Nat → Value) (w : World) (hx : x < A.n) (hR : PN w bx bs A V) :
    Calls Try.prog 52 #[.pointer (some ⟨bs, x * 74, none⟩)] w fun e w' => e = .returned (.tuple #[]) ∧ PN w' bx bs (upR A x { (A.rs x) with t := blankT, dn := true }) V ∧ Only (Two bx bs) w w' := by
  have hn0 : 0 < A.n := by omega
  have hag := aggOk_tb blankT
  go_enter Try.func52, Try.ntmps52
  go_wp2_with fail
  refine (pblank_any _).mono ?_
  rintro e w1 ⟨rfl, hb1⟩
  have p1 := hR.below hn0 hb1
  have t1 := (p1.kt x hx).there
  have p2 := p1.know x hx blankT ((p1.kt x hx).over blankT).1 ((p1.kt x hx).over blankT).2
  have c2 := p2.dn x hx
  have f2 := p2.rfz
  have o2 : Only (Two bx bs) w (w1.setCells bs (x * 74) (tbA blankT).toList) := (Only.ofBelow (S := Two bx bs) hb1).trans (((p1.kt x hx).over blankT).2.only.two (.inr rfl)) (fun _ _ h => h)
  have P2 : Hid (PN (w1.setCells bs (x * 74) (tbA blankT).toList) bx bs (upR A x (withT (A.rs x) blankT)) V) := p2
  have O2 : Hid (Only (Two bx bs) w (w1.setCells bs (x * 74) (tbA blankT).toList)) := o2
  clear p1 p2 o2 hR hb1
  go_wp2
  go_end0
  refine ⟨rfl, ?_, O2.out.trans (((Only.refl (· = bs) _).setCell (p := ⟨bs, x * 74 + 73, none⟩) (.inl rfl) _).two (.inr rfl)) (fun _ _ h => h)⟩
  have := P2.out.cellR x hx 73 (.bool true) { (withT (A.rs x) blankT) with dn := true } (fun j hj => by rw [upR_same]; exact roV_down _ _ j hj) (by omega)
  rw [upR_upR] at this
  exact this
end
set_option maxHeartbeats 400000 in
theorem pcrash (bx bs : Nat) (r : Int) (A : Nt) (V : Nat → Nat → Value) (w : World) (hR : PN w bx bs A V) :
    Calls Try.prog 27 #[.pointer (some ⟨bx, 0, none⟩), .int .i64 r] w fun e w' => e = .returned (.int .i64 (upE A r)) ∧ PN w' bx bs (crashP A r) V ∧ Only (Two bx bs) w w' := by
  have hN := hR.rs
  by_cases h0 : upE A r = 0
  · obtain ⟨h1, h2, h3⟩ := upE_zero h0
    obtain ⟨x, rfl⟩ := Int.eq_ofNat_of_zero_le h1
    have hx : x < A.n := by omega
    have hx' : (x : Int) < (A.n : Int) := by omega
    have hC : crashP A x = upR A x { (A.rs x) with t := blankT, dn := true } := by unfold crashP; rw [if_pos h0, Int.toNat_natCast]
    rw [h0, hC]
    go_enter Try.func27, Try.ntmps27
    go_wp2_with (first | (go_at_call 47; refine (cup_any bx bs _ A V _ hR).mono ?_; rintro e w' ⟨rfl, rfl⟩) | (go_at_call 52; refine (qcrash bx bs x A V _ hx hR).mono ?_; rintro e w1 ⟨rfl, t1, t2⟩))
    go_ret
    exact ⟨rfl, t1, t2⟩
  · have hC : crashP A r = A := by unfold crashP; rw [if_neg h0]
    have h0' : (upE A r != 0) = true := by simp [h0]
    rw [hC]
    go_enter Try.func27, Try.ntmps27
    go_wp2_with (go_at_call 47; refine (cup_any bx bs _ A V _ hR).mono ?_; rintro e w' ⟨rfl, rfl⟩)
    go_ret
    exact ⟨rfl, hR, Only.refl _ _⟩
/-! Restart: routes over links that are cut fall, the others become stale -/
def cutT (T : Tb) (f : Nat → Int) (k : Nat) : Tb := ⟨T.sq, fun d => if 0 ≤ (T.ro d).nx ∧ (T.ro d).nx < k ∧ f (T.ro d).nx.toNat = 0 then noRt else T.ro d, T.be⟩
theorem cutT_zero (T : Tb) (f : Nat → Int) : cutT T f 0 = T := by
  have : (fun d => if 0 ≤ (T.ro d).nx ∧ (T.ro d).nx < (0 : Nat) ∧ f (T.ro d).nx.toNat = 0 then noRt else T.ro d) = T.ro := by funext d; rw [if_neg (by omega)]
  unfold cutT; rw [this]
theorem cutT_hit (T : Tb) (f : Nat → Int) (k : Nat) (h : f k = 0) : wo (cutT T f k) k = cutT T f (k + 1) := by
  unfold wo cutT
  congr 1
  funext d
  show (if (if 0 ≤ (T.ro d).nx ∧ (T.ro d).nx < k ∧ f (T.ro d).nx.toNat = 0 then noRt else T.ro d).nx = (k : Int) then noRt else if 0 ≤ (T.ro d).nx ∧ (T.ro d).nx < k ∧ f (T.ro d).nx.toNat = 0 then noRt else T.ro d) = if 0 ≤ (T.ro d).nx ∧ (T.ro d).nx < (k + 1 : Nat) ∧ f (T.ro d).nx.toNat = 0 then noRt else T.ro d
  by_cases h1 : 0 ≤ (T.ro d).nx ∧ (T.ro d).nx < k ∧ f (T.ro d).nx.toNat = 0
  · rw [if_pos h1, if_neg (by rw [noRt_nx]; omega), if_pos ⟨h1.1, by omega, h1.2.2⟩]
  · rw [if_neg h1]
    by_cases h2 : (T.ro d).nx = (k : Int)
    · rw [if_pos h2, if_pos ⟨by omega, by omega, by rw [h2, Int.toNat_natCast]; exact h⟩]
    · rw [if_neg h2, if_neg (by omega)]
theorem cutT_miss (T : Tb) (f : Nat → Int) (k : Nat) (h : f k ≠ 0) : cutT T f k = cutT T f (k + 1) := by
  unfold cutT
  congr 1
  funext d
  by_cases h1 : 0 ≤ (T.ro d).nx ∧ (T.ro d).nx < k ∧ f (T.ro d).nx.toNat = 0
  · rw [if_pos h1, if_pos ⟨h1.1, by omega, h1.2.2⟩]
  · rw [if_neg h1, if_neg (fun h2 => by
      by_cases h3 : (T.ro d).nx = (k : Int)
      · have := h2.2.2; rw [h3, Int.toNat_natCast] at this; exact h this
      · omega)]
section
attribute [local go_sem ↓] Go.wp_at_zero Go.wp_at_succ ldPC
attribute [local go_sem] vb_ptr vo_ptr
set_option maxHeartbeats 2000000 in
set_option maxRecDepth 100000 in
theorem dropcut_any (b o : Nat) (T : Tb) (f : Nat → Int) (w : World) (hK : KT w b o T) :
    Calls Try.prog 70 #[.pointer (some ⟨b, o, none⟩), .agg (coA f)] w fun e w' => e = .returned (.tuple #[]) ∧ KT w' b o (cutT T f 5) ∧ Fr w w' b o := by
  have lb := hK.lt
  have b1 : Below w.heap.size w (w.alloc (.cells (coA f) 85)) := (Below.refl _ _).alloc (Nat.le_refl _) _
  obtain ⟨m1, m2⟩ := (Whole.new w 85 (coA f)).mid rfl
  have K0 : Hid (KT (w.alloc (.cells (coA f) 85)) b o T) := hK.below b1
  have F0 : Hid (Fr w (w.alloc (.cells (coA f) 85)) b o) := (Fr.refl w b o).below lb b1
  clear hK b1
  go_enter Try.func70, Try.ntmps70
  go_wp2
  go_loopw [7] (fun i wr => ∃ k : Nat, k ≤ 5 ∧ i = .int .i64 k ∧ KT wr b o (cutT T f k) ∧ Fr w wr b o) (fun i _ => 5 - (intOf i).toNat)
  case atStart => exact ⟨0, by omega, rfl, by rw [cutT_zero]; exact K0.out, F0.out⟩
  case round =>
    clear K0 F0 m1 m2
    obtain ⟨k, hk, rfl, q1, q2⟩ := hrel
    by_cases hk5 : k < 5
    · have hk' : (k : Int) < 5 := by omega
      have ix := idx_co f k hk5
      have Q1 : Hid (KT wr b o (cutT T f k)) := q1
      have Q2 : Hid (Fr w wr b o) := q2
      clear q1 q2
      by_cases hf : f k = 0
      · have HH : Hid (wo (cutT T f k) k = cutT T f (k + 1)) := cutT_hit T f k hf
        rw [hf] at ix
        go_wp2_with (go_at_call 102; refine (dropby_any b o (k : Int) _ _ Q1.out).mono ?_; rintro e w1 ⟨rfl, t1, t2⟩)
        go_roundw
        case rel => exact ⟨k + 1, by omega, by go_num, by rw [← HH.out]; exact t1, Q2.out.trans t2⟩
        case measure => simp [intOf]; omega
      · have HH : Hid (cutT T f k = cutT T f (k + 1)) := cutT_miss T f k hf
        have hf' : (f k == 0) = false := by simp [hf]
        generalize f k = fk at *
        go_wp2
        go_roundw
        case rel => exact ⟨k + 1, by omega, by go_num, by rw [← HH.out]; exact Q1.out, Q2.out⟩
        case measure => simp [intOf]; omega
    · have hk6 : k = 5 := by omega
      subst hk6
      go_wp2
      go_end0
      exact ⟨rfl, q1, q2⟩
end
def oldR (x : Rt) : Rt := if x.nx < 0 then x else ⟨x.nx, x.sq, x.mt, 0, 1⟩
def oldT (T : Tb) (k : Nat) : Tb := ⟨T.sq, fun d => if d < k then oldR (T.ro d) else T.ro d, T.be⟩
theorem oldT_zero (T : Tb) : oldT T 0 = T := by
  have : (fun d => if d < 0 then oldR (T.ro d) else T.ro d) = T.ro := by funext d; rw [if_neg (by omega)]
  unfold oldT; rw [this]
theorem oldT_ro (T : Tb) (k : Nat) : (oldT T k).ro k = T.ro k := by show (if k < k then _ else _) = _; rw [if_neg (by omega)]
theorem oldT_step (T : Tb) (k : Nat) : oldT T (k + 1) = setRo (oldT T k) k (oldR (T.ro k)) := by
  have : (fun d => if d < k + 1 then oldR (T.ro d) else T.ro d) = fun d => if d = k then oldR (T.ro k) else if d < k then oldR (T.ro d) else T.ro d := by
    funext d
    by_cases e : d = k
    · subst e; rw [if_pos (by omega), if_pos rfl]
    · rw [if_neg e]
      have : d < k + 1 ↔ d < k := by omega
      simp only [this]
  unfold oldT; rw [this]; rfl
theorem KT.setSt {w : World} {b o : Nat} {T : Tb} (h : KT w b o T) (d : Nat) (hd : d < 5) (v : Int) :
    KT (w.setCell ⟨b, o + 1 + d * 5 + 4, none⟩ (I v)) b o (Go.Proofs.Ytdoodnbobpijoaa.setRo T d ⟨(T.ro d).nx, (T.ro d).sq, (T.ro d).mt, (T.ro d).ag, v⟩) ∧ Fr w (w.setCell ⟨b, o + 1 + d * 5 + 4, none⟩ (I v)) b o := by
  have := h.cell1 (1 + d * 5 + 4) (by omega) (I v) (Go.Proofs.Ytdoodnbobpijoaa.setRo T d ⟨(T.ro d).nx, (T.ro d).sq, (T.ro d).mt, (T.ro d).ag, v⟩) fun i hi => by
    rw [tbV_setRo _ _ hd]
    by_cases e : 1 + d * 5 ≤ i ∧ i < 1 + d * 5 + 5
    · rw [if_pos e]
      obtain ⟨k, rfl⟩ : ∃ k, i = 1 + d * 5 + k := ⟨i - (1 + d * 5), by omega⟩
      have hk5 : k < 5 := by omega
      rw [show 1 + d * 5 + k - (1 + d * 5) = k by omega, tbV_ro _ _ _ hd hk5]
      have : k = 0 ∨ k = 1 ∨ k = 2 ∨ k = 3 ∨ k = 4 := by omega
      rcases this with rfl | rfl | rfl | rfl | rfl
      · rw [if_neg (by omega)]; rfl
      · rw [if_neg (by omega)]; rfl
      · rw [if_neg (by omega)]; rfl
      · rw [if_neg (by omega)]; rfl
      · rw [if_pos rfl]; rfl
    · rw [if_neg e, if_neg (by omega)]
  rw [show o + (1 + d * 5 + 4) = o + 1 + d * 5 + 4 by omega] at this
  exact this
attribute [local go_sem ↓] Go.wp_at_zero Go.wp_at_succ
set_option maxHeartbeats 2000000 in
theorem makestale_any (b o : Nat) (T : Tb) (w : World) (hK : KT w b o T) :
    Calls Try.prog 71 #[.pointer (some ⟨b, o, none⟩)] w fun e w' => e = .returned (.tuple #[]) ∧ KT w' b o (oldT T 5) ∧ Fr w w' b o := by
  go_enter Try.func71, Try.ntmps71
  go_wp2
  go_loopw [3] (fun i wr => ∃ k : Nat, k ≤ 5 ∧ i = .int .i64 k ∧ KT wr b o (oldT T k) ∧ Fr w wr b o) (fun i _ => 5 - (intOf i).toNat)
  case atStart => exact ⟨0, by omega, rfl, by rw [oldT_zero]; exact hK, Fr.refl _ _ _⟩
  case round =>
    obtain ⟨k, hk, rfl, q1, q2⟩ := hrel
    by_cases hk5 : k < 5
    · have hk' : (k : Int) < 5 := by omega
      have hro := oldT_ro T k
      have K1 : Hid (KT wr b o (oldT T k)) := q1
      have F1 : Hid (Fr w wr b o) := q2
      by_cases hnx : 0 ≤ (T.ro k).nx
      · have hnx' : decide (0 ≤ (T.ro k).nx) = true := by simpa using hnx
        have HS : Hid (oldT T (k + 1) = setRo (setRo (oldT T k) k ⟨(T.ro k).nx, (T.ro k).sq, (T.ro k).mt, (T.ro k).ag, 1⟩) k ⟨(T.ro k).nx, (T.ro k).sq, (T.ro k).mt, 0, 1⟩) := by
          show oldT T (k + 1) = setRo (setRo (oldT T k) k ⟨(T.ro k).nx, (T.ro k).sq, (T.ro k).mt, (T.ro k).ag, 1⟩) k ⟨(T.ro k).nx, (T.ro k).sq, (T.ro k).mt, 0, 1⟩
          rw [setRo_twice, oldT_step]
          unfold oldR
          rw [if_neg (by omega)]
        have s1 := q1.setSt k hk5 1
        rw [hro] at s1
        obtain ⟨s1, s2⟩ := s1
        obtain ⟨d0, d1, d2, d3, d4⟩ := q1.ro5 k hk5
        obtain ⟨e0, e1, e2, e3, e4⟩ := s1.ro5 k hk5
        have fz := q1.fz
        have fz1 := s1.fz
        have S1 : Hid (KT (wr.setCell ⟨b, o + 1 + k * 5 + 4, none⟩ (I 1)) b o (setRo (oldT T k) k ⟨(T.ro k).nx, (T.ro k).sq, (T.ro k).mt, (T.ro k).ag, 1⟩)) := s1
        have S2 : Hid (Fr wr (wr.setCell ⟨b, o + 1 + k * 5 + 4, none⟩ (I 1)) b o) := s2
        clear q1 q2 s1 s2
        go_wp2_with (go_at_call 79; refine (hasr_any b o k (oldT T k) _ hk5 K1.out).mono ?_; rw [hro, hnx']; rintro e w1 ⟨rfl, rfl⟩)
        go_roundw
        case rel => exact ⟨k + 1, by omega, by go_num, by
          rw [HS.out]
          have := (S1.out.setAg k hk5 0).1
          have e : ((setRo (oldT T k) k ⟨(T.ro k).nx, (T.ro k).sq, (T.ro k).mt, (T.ro k).ag, 1⟩).ro k) = ⟨(T.ro k).nx, (T.ro k).sq, (T.ro k).mt, (T.ro k).ag, 1⟩ := by show (if k = k then _ else _) = _; rw [if_pos rfl]
          rw [e] at this
          exact this, (F1.out.trans S2.out).trans (S1.out.setAg k hk5 0).2⟩
        case measure => simp [intOf]; omega
      · have hnx' : decide (0 ≤ (T.ro k).nx) = false := by simpa using hnx
        have e : oldR (T.ro k) = T.ro k := by unfold oldR; rw [if_pos (by omega)]
        go_wp2_with (go_at_call 79; refine (hasr_any b o k (oldT T k) _ hk5 K1.out).mono ?_; rw [hro, hnx']; rintro e w1 ⟨rfl, rfl⟩)
        go_roundw
        case rel => exact ⟨k + 1, by omega, by go_num, by
          rw [oldT_step, e, ← hro, setRo_self]; exact K1.out, F1.out⟩
        case measure => simp [intOf]; omega
    · have hk6 : k = 5 := by omega
      subst hk6
      go_wp2
      go_end0
      exact ⟨rfl, q1, q2⟩
theorem old_cut {A : Nt} {x : Nat} (h : TG A.n x (A.rs x).dk) (hn : A.n ≤ 5) : oldT (cutT (A.rs x).dk (A.co x) 5) 5 = { (A.rs x).dk with ro := fun d => staleR A x ((A.rs x).dk.ro d) } := by
  unfold oldT cutT
  congr 1
  funext d
  show (if d < 5 then oldR (if 0 ≤ ((A.rs x).dk.ro d).nx ∧ ((A.rs x).dk.ro d).nx < (5 : Nat) ∧ A.co x ((A.rs x).dk.ro d).nx.toNat = 0 then noRt else (A.rs x).dk.ro d) else if 0 ≤ ((A.rs x).dk.ro d).nx ∧ ((A.rs x).dk.ro d).nx < (5 : Nat) ∧ A.co x ((A.rs x).dk.ro d).nx.toNat = 0 then noRt else (A.rs x).dk.ro d) = staleR A x ((A.rs x).dk.ro d)
  unfold staleR
  by_cases h0 : ((A.rs x).dk.ro d).nx < 0
  · have e : (if 0 ≤ ((A.rs x).dk.ro d).nx ∧ ((A.rs x).dk.ro d).nx < (5 : Nat) ∧ A.co x ((A.rs x).dk.ro d).nx.toNat = 0 then noRt else (A.rs x).dk.ro d) = (A.rs x).dk.ro d := if_neg (by omega)
    rw [e, if_pos h0]
    unfold oldR
    rw [if_pos h0]
    split <;> rfl
  · have k := h.nx d (by omega)
    have k1 := k.nx1
    have k2 := k.dn
    rw [if_neg h0, if_pos (by omega)]
    by_cases h1 : A.co x ((A.rs x).dk.ro d).nx.toNat = 0
    · rw [if_pos ⟨by omega, by omega, h1⟩, if_pos h1]; rfl
    · rw [if_neg (fun hh => h1 hh.2.2), if_neg h1]
      unfold oldR
      rw [if_neg h0]
/-! Restart, walked -/
def SR (g : Nat) (f : Nat → Int) (w' : World) : Prop := midA w' g 0 5 = coA f ∧ MidOk w' g 0 5
theorem SR.of {g : Nat} {f : Nat → Int} {w w' : World} (h : SR g f w) (hb : w'.heap[g]? = w.heap[g]?) : SR g f w' := ⟨(midA_of hb _ _).trans h.1, h.2.of hb⟩
section
attribute [local go_sem ↓] Go.wp_at_zero Go.wp_at_succ ldPK stPK
attribute [local go_sem] vb_ptr vo_ptr cellsL_agg size_setCells
set_option maxHeartbeats 2000000 in
set_option maxRecDepth 100000 in
theorem qrestart (bx bs x : Nat) (A : Nt) (V : Nat → Nat → Value) (w : World) (hx : x < A.n) (g : GoodP A) (hR : PN w bx bs A V) :
    Calls Try.prog 46 #[.pointer (some ⟨bs, x * 74, none⟩), .agg (coA (A.co x))] w fun e w' => e = .returned (.tuple #[]) ∧ PN w' bx bs (restartN A x) V ∧ Only (Two bx bs) w w' := by
  have hn0 : 0 < A.n := by omega
  have hn5 := g.n5
  have HT : Hid (oldT (cutT (A.rs x).dk (A.co x) 5) 5 = { (A.rs x).dk with ro := fun d => staleR A x ((A.rs x).dk.ro d) }) := old_cut (g.dk x hx) hn5
  have lx := hR.lt
  have ls := hR.lts hn0
  have b1 : Below w.heap.size w (w.alloc (.cells (coA (A.co x)) 85)) := (Below.refl _ _).alloc (Nat.le_refl _) _
  have s0 : SR w.heap.size (A.co x) (w.alloc (.cells (coA (A.co x)) 85)) := (Whole.new w 85 (coA (A.co x))).mid rfl
  have p1 := hR.below hn0 b1
  have hag := aggOk_tb (A.rs x).dk
  obtain ⟨m1, m2⟩ := (p1.disk x hx).mid
  have t1 := (p1.kt x hx).there
  have p2 := p1.know x hx _ ((p1.kt x hx).over (A.rs x).dk).1 ((p1.kt x hx).over (A.rs x).dk).2
  have f1 := ((p1.kt x hx).over (A.rs x).dk).2
  have c2 := p2.dn x hx
  have f2 := p2.rfz
  have p3 := p2.cellR x hx 73 (.bool false) { (withT (A.rs x) (A.rs x).dk) with dn := false } (fun j hj => by rw [upR_same]; exact roV_down _ _ j hj) (by omega)
  rw [upR_upR] at p3
  have sS : SR w.heap.size (A.co x) (((w.alloc (.cells (coA (A.co x)) 85)).setCells bs (x * 74) (tbA (A.rs x).dk).toList).setCell ⟨bs, x * 74 + 73, none⟩ (.bool false)).drew := s0.of (by
    show (((w.alloc (.cells (coA (A.co x)) 85)).setCells bs (x * 74) (tbA (A.rs x).dk).toList).setCell ⟨bs, x * 74 + 73, none⟩ (.bool false)).heap[w.heap.size]? = _
    rw [heap_setCell_other _ _ _ _ (by show w.heap.size ≠ bs; omega)]
    exact f1.only.block w.heap.size (by simp) (by omega))
  have P3 : Hid (PN (((w.alloc (.cells (coA (A.co x)) 85)).setCells bs (x * 74) (tbA (A.rs x).dk).toList).setCell ⟨bs, x * 74 + 73, none⟩ (.bool false)).drew bx bs (upR A x { (withT (A.rs x) (A.rs x).dk) with dn := false }) V) := p3.of rfl rfl
  have O3 : Hid (Only (Two bx bs) w (((w.alloc (.cells (coA (A.co x)) 85)).setCells bs (x * 74) (tbA (A.rs x).dk).toList).setCell ⟨bs, x * 74 + 73, none⟩ (.bool false)).drew) := (((Only.ofBelow (S := Two bx bs) b1).trans (f1.only.two (.inr rfl)) (fun _ _ h => h)).trans (((Only.refl (· = bs) _).setCell (p := ⟨bs, x * 74 + 73, none⟩) (.inl rfl) _).two (.inr rfl)) (fun _ _ h => h)).drew
  have LW : Hid (w.heap.size < (((w.alloc (.cells (coA (A.co x)) 85)).setCells bs (x * 74) (tbA (A.rs x).dk).toList).setCell ⟨bs, x * 74 + 73, none⟩ (.bool false)).heap.size) := by
    show w.heap.size < (((w.alloc (.cells (coA (A.co x)) 85)).setCells bs (x * 74) (tbA (A.rs x).dk).toList).setCell ⟨bs, x * 74 + 73, none⟩ (.bool false)).heap.size
    simp [size_setCells]
  clear p1 p2 p3 hR b1 s0 f1
  go_enter Try.func46, Try.ntmps46
  go_wp2_with fail
  refine wp_region_held_drew (S := (SR w.heap.size (A.co x))) (by kernel_rfl) sS (fun _ => ?_)
  change wpAnyH _ _ _ _ _ _ _ _ (World.drew _)
  refine held_hq (fun _ _ x _ _ h => by cases x <;> exact h) ?_
  intro hQ
  refine held_to 0 (some 15) (.pointer (some ⟨bs, x * 74, none⟩)) hQ sS rfl rfl (by kernel_rfl) (by kernel_rfl) (by kernel_rfl) (by kernel_rfl) (fun w _ => by go_simp) ?_
  refine held_to 1 (some 16) (.pointer (some ⟨bs, x * 74, none⟩)) hQ sS rfl rfl (by kernel_rfl) (by kernel_rfl) (by kernel_rfl) (by kernel_rfl) (fun w _ => by go_simp) ?_
  refine held_to 2 (some 17) (.pointer (some ⟨bs, x * 74, none⟩)) hQ sS rfl rfl (by kernel_rfl) (by kernel_rfl) (by kernel_rfl) (by kernel_rfl) (fun w _ => by go_simp) ?_
  refine held_row Try.underlying85 rfl sizePC 3 (some 18) (coA (A.co x)) w.heap.size 0 (.tmp 3) hQ sS rfl rfl (by kernel_rfl) (by kernel_rfl) (by kernel_rfl) (by kernel_rfl) rfl (by kernel_rfl) (fun w hS => ⟨hS.1, hS.2⟩) ?_
  refine wpAnyH_ready (rs := [4]) (by kernel_rfl) (by simp) ?_
  refine AllReadyH.cons rfl (fun K hK => ?_) AllReadyH.nil
  go_simp
  go_wp2_with (go_at_call 70; refine (dropcut_any bs (x * 74) _ (A.co x) _ (P3.out.kt x hx)).mono ?_; rw [upR_same]; rintro e w4 ⟨rfl, t4, f4⟩)
  refine hK.out _ _ (sS.of (f4.only.block w.heap.size LW.out (by omega))) (fun _ => ?_)
  clear hK K
  refine wpAnyH_done (by kernel_rfl) ?_ _
  clear hQ
  go_simp
  have p4 := P3.out.know x hx _ t4 f4
  rw [upR_upR, upR_same] at p4
  have P4 : Hid (PN w4 bx bs (upR A x (withT { (withT (A.rs x) (A.rs x).dk) with dn := false } (cutT (A.rs x).dk (A.co x) 5))) V) := p4
  have O4 : Hid (Only (Two bx bs) w w4) := O3.out.trans (f4.only.two (.inr rfl)) (fun _ _ h => h)
  clear t4 f4 p4 sS
  go_wp2_with (go_at_call 71; refine (makestale_any bs (x * 74) _ _ (P4.out.kt x hx)).mono ?_; rw [upR_same]; rintro e w5 ⟨rfl, t5, f5⟩)
  go_end0
  refine ⟨rfl, ?_, O4.out.trans (f5.only.two (.inr rfl)) (fun _ _ h => h)⟩
  have p5 := P4.out.know x hx _ t5 f5
  rw [upR_upR, upR_same] at p5
  have e : (withT (withT { (withT (A.rs x) (A.rs x).dk) with dn := false } (cutT (A.rs x).dk (A.co x) 5)) (oldT (cutT (A.rs x).dk (A.co x) 5) 5)) = { (A.rs x) with t := { (A.rs x).dk with ro := fun d => staleR A x ((A.rs x).dk.ro d) }, dn := false } := by
    rw [HT.out]; rfl
  have p6 : PN w5 bx bs (upR A x (withT (withT { (withT (A.rs x) (A.rs x).dk) with dn := false } (cutT (A.rs x).dk (A.co x) 5)) (oldT (cutT (A.rs x).dk (A.co x) 5) 5))) V := p5
  rw [e] at p6
  exact p6
end
def SP (bx bs n x : Nat) (f : Nat → Int) (w' : World) : Prop := w'.cell? ⟨bx, 0, none⟩ = some (.slice (some ⟨bs, 0, none⟩) n n) ∧ midA w' bx (1 + x * 5) 5 = coA f ∧ MidOk w' bx (1 + x * 5) 5
set_option maxHeartbeats 2000000 in
set_option maxRecDepth 100000 in
theorem prestart (bx bs : Nat) (r : Int) (A : Nt) (V : Nat → Nat → Value) (w : World) (g : GoodP A) (hR : PN w bx bs A V) :
    Calls Try.prog 21 #[.pointer (some ⟨bx, 0, none⟩), .int .i64 r] w fun e w' => e = .returned (.int .i64 (restartE A r)) ∧ PN w' bx bs (restartC A r) V ∧ Only (Two bx bs) w w' := by
  have hN := hR.rs
  have hn5 := g.n5
  by_cases h0 : isB A.n r = true
  · obtain ⟨h1, h2⟩ := isB_true h0
    obtain ⟨x, rfl⟩ := Int.eq_ofNat_of_zero_le h1
    have hx : x < A.n := by omega
    have hx5 : x < 5 := by omega
    have hx5' : (x : Int) < 5 := by omega
    have hx' : (x : Int) < (A.n : Int) := by omega
    have c1 := hR.dn x hx
    by_cases hd : (A.rs x).dn = true
    · have hE : restartE A x = 0 := by unfold restartE; rw [if_pos h0, Int.toNat_natCast, if_pos hd]
      have hC : restartC A x = restartN A x := by unfold restartC; rw [hE, if_pos rfl, Int.toNat_natCast]
      rw [hE, hC]
      rw [hd] at c1
      have sS : SP bx bs A.n x (A.co x) w.drew := ⟨hN, (hR.costs x hx5).1, (hR.costs x hx5).2⟩
      have QR : Hid (Calls Try.prog 46 #[.pointer (some ⟨bs, x * 74, none⟩), .agg (coA (A.co x))] w.drew fun e w' => e = .returned (.tuple #[]) ∧ PN w' bx bs (restartN A x) V ∧ Only (Two bx bs) w.drew w') := qrestart bx bs x A V w.drew hx g (hR.of rfl rfl)
      clear hR
      go_enter Try.func21, Try.ntmps21
      go_wp2_with (go_at_call 44; refine (has_any bx A.n bs _ _ hN).mono ?_; rintro e w' ⟨rfl, rfl⟩)
      refine wp_region_held_drew (S := (SP bx bs A.n x (A.co x))) (by kernel_rfl) sS (fun _ => ?_)
      change wpAnyH _ _ _ _ _ _ _ _ (World.drew _)
      refine held_hq (fun _ _ x _ _ h => by cases x <;> exact h) ?_
      intro hQ
      refine held_to 0 (some 18) (.pointer (some ⟨bx, 0, none⟩)) hQ sS rfl rfl (by kernel_rfl) (by kernel_rfl) (by kernel_rfl) (by kernel_rfl) (fun w _ => by go_simp) ?_
      refine held_to 1 (some 19) (.pointer (some ⟨bx, 0, none⟩)) hQ sS rfl rfl (by kernel_rfl) (by kernel_rfl) (by kernel_rfl) (by kernel_rfl) (fun w _ => by go_simp) ?_
      refine held_to 2 (some 20) (.pointer (some ⟨bx, 0, none⟩)) hQ sS rfl rfl (by kernel_rfl) (by kernel_rfl) (by kernel_rfl) (by kernel_rfl) (fun w _ => by go_simp) ?_
      refine held_to 3 (some 21) (.slice (some ⟨bs, 0, none⟩) A.n A.n) hQ sS rfl rfl (by kernel_rfl) (by kernel_rfl) (by kernel_rfl) (by kernel_rfl) (fun w hS => by obtain ⟨h1, h2, h3⟩ := hS; go_simp) ?_
      refine held_to 4 (some 22) (.int .i64 x) hQ sS rfl rfl (by kernel_rfl) (by kernel_rfl) (by kernel_rfl) (by kernel_rfl) (fun w _ => by go_simp) ?_
      refine held_to 5 (some 23) (.pointer (some ⟨bs, x * 74, none⟩)) hQ sS rfl rfl (by kernel_rfl) (by kernel_rfl) (by kernel_rfl) (by kernel_rfl) (fun w _ => by go_simp) ?_
      refine held_to 6 (some 24) (.pointer (some ⟨bx, 0, none⟩)) hQ sS rfl rfl (by kernel_rfl) (by kernel_rfl) (by kernel_rfl) (by kernel_rfl) (fun w _ => by go_simp) ?_
      refine held_to 7 (some 25) (.int .i64 x) hQ sS rfl rfl (by kernel_rfl) (by kernel_rfl) (by kernel_rfl) (by kernel_rfl) (fun w _ => by go_simp) ?_
      refine held_to 8 (some 26) (.pointer (some ⟨bx, 0, none⟩)) hQ sS rfl rfl (by kernel_rfl) (by kernel_rfl) (by kernel_rfl) (by kernel_rfl) (fun w _ => by go_simp) ?_
      refine held_to 9 (some 27) (.pointer (some ⟨bx, 1, none⟩)) hQ sS rfl rfl (by kernel_rfl) (by kernel_rfl) (by kernel_rfl) (by kernel_rfl) (fun w _ => by go_simp) ?_
      refine held_to 10 (some 28) (.pointer (some ⟨bx, 1 + x * 5, none⟩)) hQ sS rfl rfl (by kernel_rfl) (by kernel_rfl) (by kernel_rfl) (by kernel_rfl) (fun w _ => by go_simp) ?_
      refine held_row Try.underlying85 rfl sizePC 11 (some 29) (coA (A.co x)) bx (1 + x * 5) (.tmp 28) hQ sS rfl rfl (by kernel_rfl) (by kernel_rfl) (by kernel_rfl) (by kernel_rfl) rfl (by kernel_rfl) (fun w hS => ⟨hS.2.1, hS.2.2⟩) ?_
      refine wpAnyH_ready (rs := [12]) (by kernel_rfl) (by simp) ?_
      refine AllReadyH.cons rfl (fun K hK => ?_) AllReadyH.nil
      go_simp
      go_wp2_with (go_at_call 46; refine (QR.out).mono ?_; rintro e w1 ⟨rfl, t1, t2⟩)
      refine hK.out _ _ ⟨t1.rs, (t1.costs x hx5).1, (t1.costs x hx5).2⟩ (fun _ => ?_)
      clear hK K
      refine wpAnyH_done (by kernel_rfl) ?_ _
      clear hQ
      go_simp
      go_wp2
      go_ret
      exact ⟨rfl, t1, ⟨t2.os, t2.tape, t2.output, t2.size, t2.block⟩⟩
    · have hd' : (A.rs x).dn = false := by simpa using hd
      have hE : restartE A x = 6 := by unfold restartE; rw [if_pos h0, Int.toNat_natCast, if_neg hd]
      have hC : restartC A x = A := by unfold restartC; rw [hE, if_neg (by decide)]
      rw [hE, hC]
      rw [hd'] at c1
      go_enter Try.func21, Try.ntmps21
      go_wp2_with (go_at_call 44; refine (has_any bx A.n bs _ _ hN).mono ?_; rintro e w' ⟨rfl, rfl⟩)
      go_ret
      exact ⟨rfl, hR, Only.refl _ _⟩
  · have h0 : isB A.n r = false := by simpa using h0
    have hE : restartE A r = 2 := by unfold restartE; rw [if_neg (by simp [h0])]
    have hC : restartC A r = A := by unfold restartC; rw [hE, if_neg (by decide)]
    rw [hE, hC]
    go_enter Try.func21, Try.ntmps21
    go_wp2_with (go_at_call 44; refine (has_any bx A.n bs _ _ hN).mono ?_; rintro e w' ⟨rfl, rfl⟩)
    go_ret
    exact ⟨rfl, hR, Only.refl _ _⟩
end Go.Proofs.Ytdoodnbobpijoaa
