import Derived.Test.YtdoodnbobpijoaaRefK
namespace Go.Proofs.Ytdoodnbobpijoaa
open Go.RowKit

/-! ### Tick -/
theorem tbV_congr {T U : Tb} (hs : T.sq = U.sq) (hr : ∀ d, d < 5 → T.ro d = U.ro d) (hb : ∀ d, d < 5 → T.be d = U.be d) (j : Nat) (hj : j < 36) : tbV T j = tbV U j := by
  unfold tbV
  rw [hs]
  by_cases h0 : j = 0
  · rw [if_pos h0, if_pos h0]
  · rw [if_neg h0, if_neg h0]
    by_cases h26 : j < 26
    · rw [if_pos h26, if_pos h26, hr _ (by omega)]
    · rw [if_neg h26, if_neg h26, hb _ (by omega)]
theorem RN.congr {w : World} {b : Nat} {A A' : Nt} {V : Nat → Nat → Value} (h : RN w b A V) (hn : A'.n = A.n) (hc : A'.co = A.co) (hr : ∀ i, i < 5 → ∀ j, j < 74 → roV (A'.rs i) j = roV (A.rs i) j) : RN w b A' V :=
  ⟨by rw [hn]; exact h.n, fun i j hi hj => by rw [hr i hi j hj]; exact h.r i j hi hj, by rw [hc]; exact h.c, h.v, h.fz⟩
theorem roV_congrT {R : Ro} {T U : Tb} (hs : T.sq = U.sq) (hr : ∀ d, d < 5 → T.ro d = U.ro d) (hb : ∀ d, d < 5 → T.be d = U.be d) (j : Nat) : roV (withT R T) j = roV (withT R U) j := by
  unfold roV
  by_cases h : j < 36
  · rw [if_pos h, if_pos h]; exact tbV_congr hs hr hb j h
  · rw [if_neg h, if_neg h]; rfl
/-- The age of a route is written. -/
theorem RN.setAg {w : World} {b : Nat} {A : Nt} {V : Nat → Nat → Value} (h : RN w b A V) (i d : Nat) (hi : i < 5) (hd : d < 5) (v : Int) :
    RN (w.setCell ⟨b, 1 + i * 74 + 1 + d * 5 + 3, none⟩ (I v)) b (upR A i (withT (A.rs i) (Go.Proofs.Ytdoodnbobpijoaa.setRo (A.rs i).t d ⟨((A.rs i).t.ro d).nx, ((A.rs i).t.ro d).sq, ((A.rs i).t.ro d).mt, v, ((A.rs i).t.ro d).st⟩))) V := by
  rw [show 1 + i * 74 + 1 + d * 5 + 3 = 1 + i * 74 + (1 + d * 5 + 3) by omega]
  refine h.cell1 i hi (1 + d * 5 + 3) (by omega) _ _ fun j hj => ?_
  rw [roV_setRo _ _ hd _ _ hj]
  by_cases hjd : 1 + d * 5 ≤ j ∧ j < 1 + d * 5 + 5
  · rw [if_pos hjd]
    have e : roV (A.rs i) j = rtV ((A.rs i).t.ro d) (j - (1 + d * 5)) := by
      rw [roV_t _ _ (by omega)]
      have e2 : j = 1 + d * 5 + (j - (1 + d * 5)) := by omega
      rw [e2, tbV_ro _ _ _ hd (by omega), ← e2]
    rw [e]
    generalize hk : j - (1 + d * 5) = k
    have : k < 5 := by omega
    rcases k with _ | _ | _ | _ | _ | k
    · rw [if_neg (by omega)]; rfl
    · rw [if_neg (by omega)]; rfl
    · rw [if_neg (by omega)]; rfl
    · rw [if_pos (by omega)]; rfl
    · rw [if_neg (by omega)]; rfl
    · omega
  · rw [if_neg hjd, if_neg (by omega)]
theorem setRo_twice (T : Tb) (d : Nat) (x y : Rt) : setRo (setRo T d x) d y = setRo T d y := by
  have : (fun j => if j = d then y else if j = d then x else T.ro j) = fun j => if j = d then y else T.ro j := by
    funext j
    split <;> rfl
  show (⟨T.sq, fun j => if j = d then y else if j = d then x else T.ro j, T.be⟩ : Tb) = _
  rw [this]
  rfl
def tickK (A : Nt) (x k : Nat) : Nt := upR A x (withT (A.rs x) ⟨(A.rs x).t.sq, fun d => if d < k then tickR ((A.rs x).t.ro d) else (A.rs x).t.ro d, (A.rs x).t.be⟩)
theorem tickK_rs (A : Nt) (x k : Nat) : (tickK A x k).rs x = withT (A.rs x) ⟨(A.rs x).t.sq, fun d => if d < k then tickR ((A.rs x).t.ro d) else (A.rs x).t.ro d, (A.rs x).t.be⟩ := upR_same _ _ _
theorem tickK_zero (A : Nt) (x : Nat) : tickK A x 0 = A := by
  have : (fun d => if d < 0 then tickR ((A.rs x).t.ro d) else (A.rs x).t.ro d) = (A.rs x).t.ro := by funext d; rw [if_neg (by omega)]
  unfold tickK
  rw [this]
  exact upR_self A x
theorem tickK_ro (A : Nt) (x k : Nat) : ((tickK A x k).rs x).t.ro k = (A.rs x).t.ro k := by
  rw [tickK_rs]
  show (if k < k then _ else _) = _
  rw [if_neg (by omega)]
theorem tickK_step (A : Nt) (x k : Nat) : tickK A x (k + 1) = upR (tickK A x k) x (withT ((tickK A x k).rs x) (setRo ((tickK A x k).rs x).t k (tickR ((A.rs x).t.ro k)))) := by
  rw [tickK_rs]
  unfold tickK
  rw [upR_upR]
  have : (fun d => if d < k + 1 then tickR ((A.rs x).t.ro d) else (A.rs x).t.ro d) = fun d => if d = k then tickR ((A.rs x).t.ro k) else if d < k then tickR ((A.rs x).t.ro d) else (A.rs x).t.ro d := by
    funext d
    by_cases e : d = k
    · subst e; rw [if_pos (by omega), if_pos rfl]
    · rw [if_neg e]
      have : d < k + 1 ↔ d < k := by omega
      simp only [this]
  rw [this]
  rfl
theorem tickK_end {w : World} {b x : Nat} {A : Nt} {V : Nat → Nat → Value} (g : Good A) (hx : x < A.n) (h : RN w b (tickK A x A.n) V) : RN w b (tickN A x) V := by
  refine h.congr rfl rfl fun i hi j hj => ?_
  by_cases e : i = x
  · subst e
    rw [tickK_rs, tickN_same]
    refine roV_congrT (R := A.rs i) (T := ⟨(A.rs i).t.sq, fun d => tickR ((A.rs i).t.ro d), (A.rs i).t.be⟩) (U := ⟨(A.rs i).t.sq, fun d => if d < A.n then tickR ((A.rs i).t.ro d) else (A.rs i).t.ro d, (A.rs i).t.be⟩) rfl (fun d hd => ?_) (fun _ _ => rfl) j
    show tickR ((A.rs i).t.ro d) = if d < A.n then _ else _
    by_cases hd2 : d < A.n
    · rw [if_pos hd2]
    · rw [if_neg hd2]
      rcases (g.t i hx).ro d with e | e
      · rw [e]; rfl
      · exact absurd e.dn hd2
  · unfold tickK
    rw [tickN_other _ _ _ e, upR_other _ _ _ _ e]
attribute [local go_sem ↓] Go.wp_at_zero Go.wp_at_succ
set_option maxHeartbeats 2000000 in
theorem rtick (b : Nat) (r : Int) (A : Nt) (V : Nat → Nat → Value) (w : World) (g : Good A) (hR : RN w b A V) :
    Calls Try.prog 97 #[.pointer (some ⟨b, 0, none⟩), .int .i64 r] w fun e w' => e = .returned (.int .i64 (upE A r)) ∧ RN w' b (tickC A r) V ∧ Only (· = b) w w' := by
  have hn := g.n5
  by_cases h0 : upE A r = 0
  · obtain ⟨h1, h2, h3⟩ := upE_zero h0
    obtain ⟨x, rfl⟩ := Int.eq_ofNat_of_zero_le h1
    have hx : x < 5 := by omega
    have hx' : (x : Int) < 5 := by omega
    have hC : tickC A x = tickN A x := by unfold tickC; rw [if_pos h0, Int.toNat_natCast]
    have HG : Hid (Good A) := g; clear g
    rw [h0, hC]
    go_enter Try.func97, Try.ntmps97
    go_wp2_with (go_at_call 118; refine (up_any b _ A V _ hn hR).mono ?_; rintro e w' ⟨rfl, rfl⟩)
    go_loopw [7] (fun i wr => ∃ k : Nat, k ≤ A.n ∧ i = .int .i64 k ∧ RN wr b (tickK A x k) V ∧ Only (· = b) w wr) (fun i _ => A.n - (intOf i).toNat)
    case atStart => exact ⟨0, Nat.zero_le _, rfl, by rw [tickK_zero]; exact hR, Only.refl _ _⟩
    case round =>
      clear hR
      obtain ⟨k, hk, rfl, r1, r2⟩ := hrel
      have cn : wr.cell? ⟨b, 0, none⟩ = some (I A.n) := r1.n
      by_cases hkn : k < A.n
      · have hk5 : k < 5 := by omega
        have hk' : (k : Int) < 5 := by omega
        have hkn' : (k : Int) < (A.n : Int) := by omega
        obtain ⟨d0, d1, d2, d3, d4⟩ := r1.ro5 x k hx hk5
        rw [tickK_ro] at d0 d1 d2 d3 d4
        have fz := r1.fz
        have K1 : Hid (RN wr b (tickK A x k) V) := r1; clear r1
        by_cases hnx : ((A.rs x).t.ro k).nx < 0
        · go_wp2
          go_roundw
          case rel => exact ⟨k + 1, by omega, by go_num, by
            have e : tickR ((A.rs x).t.ro k) = (A.rs x).t.ro k := by unfold tickR; rw [if_pos hnx]
            rw [tickK_step, e]
            refine K1.out.congr rfl rfl fun i hi j hj => ?_
            by_cases ei : i = x
            · subst ei
              rw [upR_same, roV_setRo _ _ hk5 _ _ hj]
              by_cases hjd : 1 + k * 5 ≤ j ∧ j < 1 + k * 5 + 5
              · rw [if_pos hjd, roV_t _ _ (by omega)]
                have e2 : j = 1 + k * 5 + (j - (1 + k * 5)) := by omega
                rw [e2, tbV_ro _ _ _ hk5 (by omega), ← e2, tickK_ro]
              · rw [if_neg hjd]
            · rw [upR_other _ _ _ _ ei], r2⟩
          case measure => simp [intOf]; omega
        · have ok := (HG.out.t x (by omega)).nx k (by omega)
          have a0 := ok.ag0
          have a1 := ok.ag1
          by_cases hag : 3 ≤ ((A.rs x).t.ro k).ag + 1
          · have e : tickR ((A.rs x).t.ro k) = noRt := by unfold tickR; rw [if_neg hnx, if_pos hag]
            have R1 := (K1.out.setAg x k hx hk5 (((A.rs x).t.ro k).ag + 1)).of (w' := (wr.setCell ⟨b, 1 + x * 74 + 1 + k * 5 + 3, none⟩ (I (((A.rs x).t.ro k).ag + 1))).drew) rfl
            rw [tickK_ro] at R1
            have HR1 : Hid (RN (wr.setCell ⟨b, 1 + x * 74 + 1 + k * 5 + 3, none⟩ (I (((A.rs x).t.ro k).ag + 1))).drew b (upR (tickK A x k) x (withT ((tickK A x k).rs x) (setRo ((tickK A x k).rs x).t k ⟨((A.rs x).t.ro k).nx, ((A.rs x).t.ro k).sq, ((A.rs x).t.ro k).mt, ((A.rs x).t.ro k).ag + 1, ((A.rs x).t.ro k).st⟩))) V) := R1; clear R1
            go_wp2_with fail
            go_region
            go_wp2
            go_region_with ((go_at_call 109; refine (none_any _).mono ?_; rintro e w2 ⟨rfl, hb⟩; have R2 := HR1.out.of ((hb.block b HR1.out.lt).trans rfl); obtain ⟨e0, e1, e2, e3, e4⟩ := R2.ro5 x k hx hk5; have fz2 := R2.fz; have HR2 : Hid (RN w2 b (upR (tickK A x k) x (withT ((tickK A x k).rs x) (setRo ((tickK A x k).rs x).t k ⟨((A.rs x).t.ro k).nx, ((A.rs x).t.ro k).sq, ((A.rs x).t.ro k).mt, ((A.rs x).t.ro k).ag + 1, ((A.rs x).t.ro k).st⟩))) V) := R2; clear R2))
            go_wp2
            go_roundw
            case rel => exact ⟨k + 1, by omega, by go_num, by
              rw [tickK_step, e]
              have := HR2.out.setRo x k hx hk5 noRt
              rw [upR_upR, upR_same] at this
              have e5 : (withT ((tickK A x k).rs x) (setRo ((tickK A x k).rs x).t k ⟨((A.rs x).t.ro k).nx, ((A.rs x).t.ro k).sq, ((A.rs x).t.ro k).mt, ((A.rs x).t.ro k).ag + 1, ((A.rs x).t.ro k).st⟩)).t = setRo ((tickK A x k).rs x).t k ⟨((A.rs x).t.ro k).nx, ((A.rs x).t.ro k).sq, ((A.rs x).t.ro k).mt, ((A.rs x).t.ro k).ag + 1, ((A.rs x).t.ro k).st⟩ := rfl
              rw [e5, setRo_twice] at this
              exact this, by
              have o1 : Only (· = b) w w2 := ((r2.setCell (p := ⟨b, 1 + x * 74 + 1 + k * 5 + 3, none⟩) (.inl rfl) (I (((A.rs x).t.ro k).ag + 1))).drew.drew).trans (Only.ofBelow (S := (· = b)) hb) (fun _ _ h => h)
              exact ((((o1.setCell (p := ⟨b, _, none⟩) (.inl rfl) _).setCell (p := ⟨b, _, none⟩) (.inl rfl) _).setCell (p := ⟨b, _, none⟩) (.inl rfl) _).setCell (p := ⟨b, _, none⟩) (.inl rfl) _).setCell (p := ⟨b, _, none⟩) (.inl rfl) _⟩
            case measure => simp [intOf]; omega
          · have e : tickR ((A.rs x).t.ro k) = ⟨((A.rs x).t.ro k).nx, ((A.rs x).t.ro k).sq, ((A.rs x).t.ro k).mt, ((A.rs x).t.ro k).ag + 1, ((A.rs x).t.ro k).st⟩ := by unfold tickR; rw [if_neg hnx, if_neg hag]
            go_wp2_with fail
            go_region
            go_wp2
            go_roundw
            case rel => exact ⟨k + 1, by omega, by go_num, by
              rw [tickK_step, e]
              have := (K1.out.setAg x k hx hk5 (((A.rs x).t.ro k).ag + 1)).of (w' := (wr.setCell ⟨b, 1 + x * 74 + 1 + k * 5 + 3, none⟩ (I (((A.rs x).t.ro k).ag + 1))).drew) rfl
              rw [tickK_ro] at this
              exact this, (r2.setCell (p := ⟨b, 1 + x * 74 + 1 + k * 5 + 3, none⟩) (.inl rfl) _).drew⟩
            case measure => simp [intOf]; omega
      · have hk6 : k = A.n := by omega
        subst hk6
        go_wp2
        go_ret
        exact ⟨rfl, tickK_end HG.out (by omega) r1, r2⟩
  · have hC : tickC A r = A := by unfold tickC; rw [if_neg h0]
    have h0' : (upE A r != 0) = true := by simp [h0]
    rw [hC]
    go_enter Try.func97, Try.ntmps97
    go_wp2_with (go_at_call 118; refine (up_any b _ A V _ hn hR).mono ?_; rintro e w' ⟨rfl, rfl⟩)
    go_ret
    exact ⟨rfl, hR, Only.refl _ _⟩
end Go.Proofs.Ytdoodnbobpijoaa
