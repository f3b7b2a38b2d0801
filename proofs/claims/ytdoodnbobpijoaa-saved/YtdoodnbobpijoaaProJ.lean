import Derived.Test.YtdoodnbobpijoaaProE
import Derived.Test.YtdoodnbobpijoaaProR
import Derived.Test.YtdoodnbobpijoaaRefM
namespace Go.Proofs.Ytdoodnbobpijoaa
open Go.RowKit

/-! ### Bump and Tick -/
theorem KT.cell1 {w : World} {b o : Nat} {T : Tb} (h : KT w b o T) (j : Nat) (hj : j < 36) (v : Value) (U : Tb) (hU : ∀ i, i < 36 → tbV U i = if i = j then v else tbV T i) :
    KT (w.setCell ⟨b, o + j, none⟩ v) b o U ∧ Fr w (w.setCell ⟨b, o + j, none⟩ v) b o := by
  refine ⟨⟨fun i hi => ?_, fun i => by rw [World.frozen?_setCell]; exact h.fz i⟩, ⟨(Only.refl (· = b) w).setCell (p := ⟨b, o + j, none⟩) (.inl rfl) _, fun p hp => World.cell?_setCell_other _ _ _ _ (addr_ne (by omega))⟩⟩
  rw [hU i hi]
  by_cases e : i = j
  · subst e; rw [if_pos rfl, World.cell?_setCell_same _ _ _ (h.at_ i hi)]
  · rw [if_neg e, World.cell?_setCell_other _ _ _ _ (addr_ne (by omega))]; exact h.at_ i hi
theorem KT.setSq {w : World} {b o : Nat} {T : Tb} (h : KT w b o T) (v : Int) : KT (w.setCell ⟨b, o, none⟩ (I v)) b o { T with sq := v } ∧ Fr w (w.setCell ⟨b, o, none⟩ (I v)) b o :=
  h.cell1 0 (by omega) (I v) { T with sq := v } fun i _ => by
    unfold tbV
    by_cases e : i = 0
    · rw [if_pos e, if_pos e]
    · rw [if_neg e, if_neg e, if_neg e]
theorem KT.setAg {w : World} {b o : Nat} {T : Tb} (h : KT w b o T) (d : Nat) (hd : d < 5) (v : Int) :
    KT (w.setCell ⟨b, o + 1 + d * 5 + 3, none⟩ (I v)) b o (Go.Proofs.Ytdoodnbobpijoaa.setRo T d ⟨(T.ro d).nx, (T.ro d).sq, (T.ro d).mt, v, (T.ro d).st⟩) ∧ Fr w (w.setCell ⟨b, o + 1 + d * 5 + 3, none⟩ (I v)) b o := by
  have := h.cell1 (1 + d * 5 + 3) (by omega) (I v) (Go.Proofs.Ytdoodnbobpijoaa.setRo T d ⟨(T.ro d).nx, (T.ro d).sq, (T.ro d).mt, v, (T.ro d).st⟩) fun i hi => by
    rw [tbV_setRo _ _ hd]
    by_cases e : 1 + d * 5 ≤ i ∧ i < 1 + d * 5 + 5
    · rw [if_pos e]
      obtain ⟨k, rfl⟩ : ∃ k, i = 1 + d * 5 + k := ⟨i - (1 + d * 5), by omega⟩
      have hk5 : k < 5 := by omega
      rw [show 1 + d * 5 + k - (1 + d * 5) = k by omega, tbV_ro _ _ _ hd hk5]
      have : k = 0 ∨ k = 1 ∨ k = 2 ∨ k = 3 ∨ k = 4 := by omega
      rcases this with rfl | rfl | rfl | rfl | rfl
      · rw [if_neg (by omega)]; rfl
      · rw [if_neg (by omega)]; rfl
      · rw [if_neg (by omega)]; rfl
      · rw [if_pos rfl]; rfl
      · rw [if_neg (by omega)]; rfl
    · rw [if_neg e, if_neg (by omega)]
  rw [show o + (1 + d * 5 + 3) = o + 1 + d * 5 + 3 by omega] at this
  exact this
attribute [local go_sem ↓] Go.wp_at_zero Go.wp_at_succ
set_option maxHeartbeats 400000 in
theorem qbump_no (b o : Nat) (T : Tb) (w : World) (hK : KT w b o T) (hs : T.sq = 1000) :
    Calls Try.prog 69 #[.pointer (some ⟨b, o, none⟩)] w fun e w' => e = .returned (.int .i64 8) ∧ w = w' := by
  have c := hK.sq
  have hs' : (T.sq == 1000) = true := by simp [hs]
  clear hK
  go_enter Try.func69, Try.ntmps69
  go_wp2
  go_ret
  exact ⟨rfl, rfl⟩
set_option maxHeartbeats 400000 in
theorem qbump_ok (b o : Nat) (T : Tb) (w : World) (hK : KT w b o T) (h0 : 0 ≤ T.sq) (hs : T.sq < 1000) :
    Calls Try.prog 69 #[.pointer (some ⟨b, o, none⟩)] w fun e w' => e = .returned (.int .i64 0) ∧ KT w' b o { T with sq := T.sq + 1 } ∧ Fr w w' b o := by
  have c := hK.sq
  have fz := hK.fz
  have hs' : (T.sq == 1000) = false := by rw [beq_eq_false_iff_ne]; omega
  have HK : Hid (KT w b o T) := hK; clear hK
  go_enter Try.func69, Try.ntmps69
  go_wp2
  go_ret
  exact ⟨rfl, (HK.out.setSq (T.sq + 1)).1, (HK.out.setSq (T.sq + 1)).2⟩
set_option maxHeartbeats 400000 in
theorem pbump (bx bs : Nat) (r : Int) (A : Nt) (V : Nat → Nat → Value) (w : World) (g : GoodP A) (hR : PN w bx bs A V) :
    Calls Try.prog 43 #[.pointer (some ⟨bx, 0, none⟩), .int .i64 r] w fun e w' => e = .returned (.int .i64 (bumpE A r)) ∧ PN w' bx bs (bumpC A r) V ∧ Only (Two bx bs) w w' := by
  have hn := g.n5
  have hN := hR.rs
  by_cases h0 : upE A r = 0
  · obtain ⟨h1, h2, h3⟩ := upE_zero h0
    obtain ⟨x, rfl⟩ := Int.eq_ofNat_of_zero_le h1
    have hx : x < A.n := by omega
    have hx' : (x : Int) < (A.n : Int) := by omega
    have s0 := (g.t x hx).sq0
    have s1 := (g.t x hx).sq1
    by_cases hs : 1000 ≤ (A.rs x).t.sq
    · have hE : bumpE A x = 8 := by unfold bumpE; rw [if_neg (by simpa using h0), Int.toNat_natCast, if_pos hs]
      have hC : bumpC A x = A := by unfold bumpC; rw [hE, if_neg (by decide)]
      rw [hE, hC]
      go_enter Try.func43, Try.ntmps43
      go_wp2_with (first | (go_at_call 47; refine (cup_any bx bs _ A V _ hR).mono ?_; rintro e w' ⟨rfl, rfl⟩) | (go_at_call 69; refine (qbump_no bs (x * 74) _ _ (hR.kt x hx) (by omega)).mono ?_; rintro e w' ⟨rfl, rfl⟩))
      go_ret
      exact ⟨rfl, hR, Only.refl _ _⟩
    · have hE : bumpE A x = 0 := by unfold bumpE; rw [if_neg (by simpa using h0), Int.toNat_natCast, if_neg hs]
      have hC : bumpC A x = bumpN A x := by unfold bumpC; rw [hE, if_pos rfl, Int.toNat_natCast]
      rw [hE, hC]
      go_enter Try.func43, Try.ntmps43
      go_wp2_with (first | (go_at_call 47; refine (cup_any bx bs _ A V _ hR).mono ?_; rintro e w' ⟨rfl, rfl⟩) | (go_at_call 69; refine (qbump_ok bs (x * 74) _ _ (hR.kt x hx) s0 (by omega)).mono ?_; rintro e w1 ⟨rfl, t1, t2⟩))
      go_ret
      exact ⟨rfl, hR.know x hx _ t1 t2, t2.only.two (.inr rfl)⟩
  · have hE : bumpE A r = upE A r := by unfold bumpE; rw [if_pos h0]
    have hC : bumpC A r = A := by unfold bumpC; rw [hE, if_neg h0]
    have h0' : (upE A r != 0) = true := by simp [h0]
    rw [hE, hC]
    go_enter Try.func43, Try.ntmps43
    go_wp2_with (go_at_call 47; refine (cup_any bx bs _ A V _ hR).mono ?_; rintro e w' ⟨rfl, rfl⟩)
    go_ret
    exact ⟨rfl, hR, Only.refl _ _⟩
def tickT (T : Tb) (k : Nat) : Tb := ⟨T.sq, fun d => if d < k then tickR (T.ro d) else T.ro d, T.be⟩
theorem tickT_zero (T : Tb) : tickT T 0 = T := by
  have : (fun d => if d < 0 then tickR (T.ro d) else T.ro d) = T.ro := by funext d; rw [if_neg (by omega)]
  unfold tickT; rw [this]
theorem tickT_ro (T : Tb) (k : Nat) : (tickT T k).ro k = T.ro k := by show (if k < k then _ else _) = _; rw [if_neg (by omega)]
theorem tickT_step (T : Tb) (k : Nat) : tickT T (k + 1) = setRo (tickT T k) k (tickR (T.ro k)) := by
  have : (fun d => if d < k + 1 then tickR (T.ro d) else T.ro d) = fun d => if d = k then tickR (T.ro k) else if d < k then tickR (T.ro d) else T.ro d := by
    funext d
    by_cases e : d = k
    · subst e; rw [if_pos (by omega), if_pos rfl]
    · rw [if_neg e]
      have : d < k + 1 ↔ d < k := by omega
      simp only [this]
  unfold tickT; rw [this]; rfl
theorem KT.congr {w : World} {b o : Nat} {T U : Tb} (h : KT w b o T) (hs : U.sq = T.sq) (hr : ∀ d, d < 5 → U.ro d = T.ro d) (hb : ∀ d, d < 5 → U.be d = T.be d) : KT w b o U :=
  ⟨fun j hj => by rw [h.at_ j hj, tbV_congr hs hr hb j hj], h.fz⟩
set_option maxHeartbeats 2000000 in
theorem ktick_any (b o : Nat) (T : Tb) (w : World) (hK : KT w b o T) (hT : ∀ d, d < 5 → 0 ≤ (T.ro d).nx → 0 ≤ (T.ro d).ag ∧ (T.ro d).ag < 3) :
    Calls Try.prog 54 #[.pointer (some ⟨b, o, none⟩)] w fun e w' => e = .returned (.tuple #[]) ∧ KT w' b o ⟨T.sq, fun d => tickR (T.ro d), T.be⟩ ∧ Fr w w' b o := by
  go_enter Try.func54, Try.ntmps54
  go_wp2
  go_loopw [3] (fun i wr => ∃ k : Nat, k ≤ 5 ∧ i = .int .i64 k ∧ KT wr b o (tickT T k) ∧ Fr w wr b o) (fun i _ => 5 - (intOf i).toNat)
  case atStart => exact ⟨0, by omega, rfl, by rw [tickT_zero]; exact hK, Fr.refl _ _ _⟩
  case round =>
    obtain ⟨k, hk, rfl, q1, q2⟩ := hrel
    by_cases hk5 : k < 5
    · have hk' : (k : Int) < 5 := by omega
      have hro := tickT_ro T k
      obtain ⟨d0, d1, d2, d3, d4⟩ := q1.ro5 k hk5
      rw [hro] at d0 d1 d2 d3 d4
      have fz := q1.fz
      have K1 : Hid (KT wr b o (tickT T k)) := q1
      have F1 : Hid (Fr w wr b o) := q2
      clear q1 q2
      by_cases hnx : 0 ≤ (T.ro k).nx
      · have hnx' : decide (0 ≤ (T.ro k).nx) = true := by simpa using hnx
        obtain ⟨a0, a1⟩ := hT k hk5 hnx
        by_cases hag : 3 ≤ (T.ro k).ag + 1
        · have e : tickR (T.ro k) = noRt := by unfold tickR; rw [if_neg (by omega), if_pos hag]
          have hag' : decide (3 ≤ (T.ro k).ag + 1) = true := by simpa using hag
          have R1 : KT (wr.setCell ⟨b, o + 1 + k * 5 + 3, none⟩ (I ((T.ro k).ag + 1))).drew b o (setRo (tickT T k) k ⟨(T.ro k).nx, (T.ro k).sq, (T.ro k).mt, (T.ro k).ag + 1, (T.ro k).st⟩) := by
            have := (K1.out.setAg k hk5 ((T.ro k).ag + 1)).1
            rw [hro] at this
            exact this.of rfl
          have F2 : Hid (Fr w (wr.setCell ⟨b, o + 1 + k * 5 + 3, none⟩ (I ((T.ro k).ag + 1))).drew b o) := (show Fr w (wr.setCell ⟨b, o + 1 + k * 5 + 3, none⟩ (I ((T.ro k).ag + 1))).drew b o by
            have := F1.out.trans (K1.out.setAg k hk5 ((T.ro k).ag + 1)).2
            exact ⟨this.only.drew, this.cell⟩)
          have HR1 : Hid (KT (wr.setCell ⟨b, o + 1 + k * 5 + 3, none⟩ (I ((T.ro k).ag + 1))).drew b o (setRo (tickT T k) k ⟨(T.ro k).nx, (T.ro k).sq, (T.ro k).mt, (T.ro k).ag + 1, (T.ro k).st⟩)) := R1
          clear R1
          go_wp2_with (go_at_call 79; refine (hasr_any b o k (tickT T k) _ hk5 K1.out).mono ?_; rw [hro, hnx']; rintro e w1 ⟨rfl, rfl⟩)
          go_region
          go_wp2
          go_region_with ((go_at_call 80; refine (pnone_any _).mono ?_; rintro e w2 ⟨rfl, hb⟩; have R2 := HR1.out.of ((hb.block b HR1.out.lt).trans rfl); obtain ⟨e0, e1, e2, e3, e4⟩ := R2.ro5 k hk5; have fz2 := R2.fz; have HR2 : Hid (KT w2 b o (setRo (tickT T k) k ⟨(T.ro k).nx, (T.ro k).sq, (T.ro k).mt, (T.ro k).ag + 1, (T.ro k).st⟩)) := R2; clear R2))
          go_wp2
          go_roundw
          case rel => exact ⟨k + 1, by omega, by go_num, by
            rw [tickT_step, e]
            have := (HR2.out.setRo k hk5 noRt).1
            rw [setRo_twice] at this
            exact this, by
            exact (F2.out.below HR1.out.lt ⟨hb.os, hb.tape, hb.output, hb.size, hb.block⟩).trans (HR2.out.setRo k hk5 noRt).2⟩
          case measure => simp [intOf]; omega
        · have e : tickR (T.ro k) = ⟨(T.ro k).nx, (T.ro k).sq, (T.ro k).mt, (T.ro k).ag + 1, (T.ro k).st⟩ := by unfold tickR; rw [if_neg (by omega), if_neg hag]
          have hag' : decide (3 ≤ (T.ro k).ag + 1) = false := by simpa using hag
          go_wp2_with (go_at_call 79; refine (hasr_any b o k (tickT T k) _ hk5 K1.out).mono ?_; rw [hro, hnx']; rintro e w1 ⟨rfl, rfl⟩)
          go_region
          go_wp2
          go_roundw
          case rel => exact ⟨k + 1, by omega, by go_num, by
            rw [tickT_step, e]
            have := (K1.out.setAg k hk5 ((T.ro k).ag + 1)).1
            rw [hro] at this
            exact this.of rfl, by
            have := F1.out.trans (K1.out.setAg k hk5 ((T.ro k).ag + 1)).2
            exact ⟨this.only.drew, this.cell⟩⟩
          case measure => simp [intOf]; omega
      · have hnx' : decide (0 ≤ (T.ro k).nx) = false := by simpa using hnx
        have e : tickR (T.ro k) = T.ro k := by unfold tickR; rw [if_pos (by omega)]
        go_wp2_with (go_at_call 79; refine (hasr_any b o k (tickT T k) _ hk5 K1.out).mono ?_; rw [hro, hnx']; rintro e w1 ⟨rfl, rfl⟩)
        go_roundw
        case rel => exact ⟨k + 1, by omega, by go_num, by
          rw [tickT_step, e, ← hro, setRo_self]; exact K1.out, F1.out⟩
        case measure => simp [intOf]; omega
    · have hk6 : k = 5 := by omega
      subst hk6
      go_wp2
      go_end0
      refine ⟨rfl, q1.congr rfl (fun d hd => ?_) (fun _ _ => rfl), q2⟩
      show _ = if d < 5 then _ else _
      rw [if_pos hd]
set_option maxHeartbeats 400000 in
theorem ptick (bx bs : Nat) (r : Int) (A : Nt) (V : Nat → Nat → Value) (w : World) (g : GoodP A) (hR : PN w bx bs A V) :
    Calls Try.prog 31 #[.pointer (some ⟨bx, 0, none⟩), .int .i64 r] w fun e w' => e = .returned (.int .i64 (upE A r)) ∧ PN w' bx bs (tickC A r) V ∧ Only (Two bx bs) w w' := by
  have hn := g.n5
  have hN := hR.rs
  by_cases h0 : upE A r = 0
  · obtain ⟨h1, h2, h3⟩ := upE_zero h0
    obtain ⟨x, rfl⟩ := Int.eq_ofNat_of_zero_le h1
    have hx : x < A.n := by omega
    have hx' : (x : Int) < (A.n : Int) := by omega
    have hC : tickC A x = tickN A x := by unfold tickC; rw [if_pos h0, Int.toNat_natCast]
    rw [h0, hC]
    have hag : ∀ d, d < 5 → 0 ≤ ((A.rs x).t.ro d).nx → 0 ≤ ((A.rs x).t.ro d).ag ∧ ((A.rs x).t.ro d).ag < 3 := fun d _ h => ⟨((g.t x hx).nx d h).ag0, ((g.t x hx).nx d h).ag1⟩
    go_enter Try.func31, Try.ntmps31
    go_wp2_with (first | (go_at_call 47; refine (cup_any bx bs _ A V _ hR).mono ?_; rintro e w' ⟨rfl, rfl⟩) | (go_at_call 54; refine (ktick_any bs (x * 74) _ _ (hR.kt x hx) hag).mono ?_; rintro e w1 ⟨rfl, t1, t2⟩))
    go_ret
    exact ⟨rfl, hR.know x hx _ t1 t2, t2.only.two (.inr rfl)⟩
  · have hC : tickC A r = A := by unfold tickC; rw [if_neg h0]
    have h0' : (upE A r != 0) = true := by simp [h0]
    rw [hC]
    go_enter Try.func31, Try.ntmps31
    go_wp2_with (go_at_call 47; refine (cup_any bx bs _ A V _ hR).mono ?_; rintro e w' ⟨rfl, rfl⟩)
    go_ret
    exact ⟨rfl, hR, Only.refl _ _⟩
end Go.Proofs.Ytdoodnbobpijoaa
