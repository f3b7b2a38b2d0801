import Derived.Test.YtdoodnbobpijoaaRefG
namespace Go.Proofs.Ytdoodnbobpijoaa
open Go.RowKit

/-! ### Lose, Again -/
attribute [local go_sem ↓] Go.wp_at_zero Go.wp_at_succ ldM stM alcM bsM
attribute [local go_sem] vb_ptr vo_ptr cellsL_agg size_setCells
theorem offC_zero {A : Nt} {x y k : Nat} (h : msgE A x y k = 0) : loseC A x y k = offN A x y k := by unfold loseC; rw [if_pos h]; rfl
set_option maxHeartbeats 1000000 in
theorem rlose (b B : Nat) (x y k : Int) (ρ : Nat → Part) (tg : Nat → Nat → Part) (A : Nt) (V : Nat → Nat → Value) (w : World) (g : Good A) (hR : RN w b A V) (hW : WR w B 164 ρ tg V A.wa) (hB : B ≤ w.heap.size)
    (hb : ∀ a c, ρ b ≠ tg a c) (hnew : ∀ j, w.heap.size ≤ j → ρ j = (0, 0)) :
    Calls Try.prog 94 #[.pointer (some ⟨b, 0, none⟩), .int .i64 x, .int .i64 y, .int .i64 k] w fun e w' => e = .returned (.int .i64 (msgE A x y k)) ∧ ∃ ρ' V', RN w' b (loseC A x y k) V' ∧ WR w' B 164 ρ' tg V' (loseC A x y k).wa ∧ Turn b tg ρ ρ' w w' := by
  have hn := g.n5
  by_cases h0 : msgE A x y k = 0
  · obtain ⟨h1, h2, h3⟩ := msgE_zero h0
    obtain ⟨⟨a1, a3⟩, ⟨a2, a4⟩, _⟩ := pairE_zero h1
    obtain ⟨x, rfl⟩ := Int.eq_ofNat_of_zero_le a1
    obtain ⟨y, rfl⟩ := Int.eq_ofNat_of_zero_le a2
    obtain ⟨k, rfl⟩ := Int.eq_ofNat_of_zero_le h2
    simp only [Int.toNat_natCast] at h3
    rw [offC_zero h0]
    have h6 := g.wl x y
    go_enter Try.func94, Try.ntmps94
    go_wp2_with (first | (go_at_call 115; refine (at_any b B 164 _ _ _ ρ tg A V _ hn hR hW).mono ?_; rintro e w1 ⟨rfl, hb1⟩; have n9 := Whole.new w1 164 Zm; have t9 := n9.there Zm_size; have ag9 := aggOk_mg (msgN A x y k); have b9 : Below w.heap.size w ((w1.alloc (.cells Zm 164)).setCells w1.heap.size 0 (mgA (msgN A x y k)).toList) := Below.setCells (hb1.alloc hb1.size _) hb1.size _ _) |
      (go_at_call 116; refine (off_any b x y k B ρ tg A V _ (by omega) (by omega) h3 h6 (hR.of (b9.block b hR.lt)) (hW.below b9) (Nat.le_trans hB b9.size) hb (fun j hj => hnew j (Nat.le_trans b9.size hj))).mono ?_; rintro e w2 ⟨rfl, ρ', V', t1, t2, t3⟩))
    go_ret
    exact ⟨by rw [h0]; rfl, ρ', V', t1, t2, (Turn.below hnew b9).trans t3⟩
  · have h0' : (msgE A x y k == 0) = false := by simp [h0]
    have hC : loseC A x y k = A := by unfold loseC; rw [if_neg h0]
    rw [hC]
    go_enter Try.func94, Try.ntmps94
    go_wp2_with (first | (go_at_call 115; refine (at_any b B 164 _ _ _ ρ tg A V _ hn hR hW).mono ?_; rintro e w1 ⟨rfl, hb1⟩; have n9 := Whole.new w1 164 Zm; have t9 := n9.there Zm_size; have ag9 := aggOk_mg (msgN A x y k); have b9 : Below w.heap.size w ((w1.alloc (.cells Zm 164)).setCells w1.heap.size 0 (mgA (msgN A x y k)).toList) := Below.setCells (hb1.alloc hb1.size _) hb1.size _ _))
    go_ret
    exact ⟨rfl, ρ, V, hR.of (b9.block b hR.lt), hW.below b9, Turn.below hnew b9⟩
theorem againE_split (A : Nt) (x y k : Int) : (¬ msgE A x y k = 0 ∧ againE A x y k = msgE A x y k) ∨ (msgE A x y k = 0 ∧ 6 ≤ (A.wa x.toNat y.toNat).length ∧ againE A x y k = 8) ∨ (msgE A x y k = 0 ∧ (A.wa x.toNat y.toNat).length < 6 ∧ againE A x y k = 0) := by
  unfold againE
  by_cases h : msgE A x y k = 0
  · by_cases h2 : 6 ≤ (A.wa x.toNat y.toNat).length
    · exact .inr (.inl ⟨h, h2, by simp [h, h2]⟩)
    · exact .inr (.inr ⟨h, by omega, by simp [h, h2]⟩)
  · exact .inl ⟨h, by simp [h]⟩
set_option maxHeartbeats 2000000 in
set_option maxRecDepth 100000 in
theorem ragain (b B : Nat) (x y k : Int) (ρ : Nat → Part) (tg : Nat → Nat → Part) (A : Nt) (V : Nat → Nat → Value) (w : World) (g : Good A) (hR : RN w b A V) (hW : WR w B 164 ρ tg V A.wa) (hB : B ≤ w.heap.size)
    (tz : TgOk tg) (hb : ∀ a c, ρ b ≠ tg a c) (hnew : ∀ j, w.heap.size ≤ j → ρ j = (0, 0)) :
    Calls Try.prog 95 #[.pointer (some ⟨b, 0, none⟩), .int .i64 x, .int .i64 y, .int .i64 k] w fun e w' => e = .returned (.int .i64 (againE A x y k)) ∧ ∃ ρ' V', RN w' b (againC A x y k) V' ∧ WR w' B 164 ρ' tg V' (againC A x y k).wa ∧ Turn b tg ρ ρ' w w' := by
  have hn := g.n5
  rcases againE_split A x y k with ⟨h0, e0⟩ | ⟨h0, h6, e0⟩ | ⟨h0, h6, e0⟩
  · have h0' : (msgE A x y k != 0) = true := by simp [h0]
    have hC : againC A x y k = A := by unfold againC; rw [e0, if_neg h0]
    rw [hC, e0]
    go_enter Try.func95, Try.ntmps95
    go_wp2_with (first | (go_at_call 115; refine (at_any b B 164 _ _ _ ρ tg A V _ hn hR hW).mono ?_; rintro e w1 ⟨rfl, hb1⟩; have n9 := Whole.new w1 164 Zm; have t9 := n9.there Zm_size; have ag9 := aggOk_mg (msgN A x y k); have b9 : Below w.heap.size w ((w1.alloc (.cells Zm 164)).setCells w1.heap.size 0 (mgA (msgN A x y k)).toList) := Below.setCells (hb1.alloc hb1.size _) hb1.size _ _))
    go_ret
    exact ⟨rfl, ρ, V, hR.of (b9.block b hR.lt), hW.below b9, Turn.below hnew b9⟩
  · obtain ⟨h1, h2, h3⟩ := msgE_zero h0
    obtain ⟨⟨a1, a3⟩, ⟨a2, a4⟩, _⟩ := pairE_zero h1
    obtain ⟨x, rfl⟩ := Int.eq_ofNat_of_zero_le a1
    obtain ⟨y, rfl⟩ := Int.eq_ofNat_of_zero_le a2
    have hx : x < 5 := by omega
    have hy : y < 5 := by omega
    have hx' : (x : Int) < 5 := by omega
    have hy' : (y : Int) < 5 := by omega
    simp only [Int.toNat_natCast] at h6
    have h6' : (6 : Int) ≤ ((A.wa x y).length : Int) := by omega
    obtain ⟨ad, cap, hv⟩ := hW.form x y hx hy
    have hC : againC A x y k = A := by unfold againC; rw [e0, if_neg (by decide)]
    rw [hC, e0]
    go_enter Try.func95, Try.ntmps95
    go_wp2_with (first | (go_at_call 115; refine (at_any b B 164 _ _ _ ρ tg A V _ hn hR hW).mono ?_; rintro e w1 ⟨rfl, hb1⟩; have n9 := Whole.new w1 164 Zm; have t9 := n9.there Zm_size; have ag9 := aggOk_mg (msgN A x y k); have b9 : Below w.heap.size w ((w1.alloc (.cells Zm 164)).setCells w1.heap.size 0 (mgA (msgN A x y k)).toList) := Below.setCells (hb1.alloc hb1.size _) hb1.size _ _; have hd := (hR.of (b9.block b hR.lt)).v x y hx hy; rw [hv] at hd))
    go_ret
    exact ⟨rfl, ρ, V, hR.of (b9.block b hR.lt), hW.below b9, Turn.below hnew b9⟩
  · obtain ⟨h1, h2, h3⟩ := msgE_zero h0
    obtain ⟨⟨a1, a3⟩, ⟨a2, a4⟩, _⟩ := pairE_zero h1
    obtain ⟨x, rfl⟩ := Int.eq_ofNat_of_zero_le a1
    obtain ⟨y, rfl⟩ := Int.eq_ofNat_of_zero_le a2
    obtain ⟨k, rfl⟩ := Int.eq_ofNat_of_zero_le h2
    simp only [Int.toNat_natCast] at h3 h6
    have hx : x < 5 := by omega
    have hy : y < 5 := by omega
    have hx' : (x : Int) < 5 := by omega
    have hy' : (y : Int) < 5 := by omega
    have h6' : ¬ (6 : Int) ≤ ((A.wa x y).length : Int) := by omega
    obtain ⟨ad, cap, hv⟩ := hW.form x y hx hy
    have hC : againC A x y k = againN A x y k := by unfold againC; rw [e0, if_pos rfl]; rfl
    obtain ⟨m, hm⟩ : ∃ m, msgN A x y k = m := ⟨_, rfl⟩
    have hm2 : againN A x y k = { A with wa := setWa A.wa x y (A.wa x y ++ [m]) } := by
      rw [← hm]
      unfold againN msgN
      rw [if_pos h0]
      rfl
    rw [hC, e0, hm2]
    have HM : Hid (msgN A x y k = m) := hm; clear hm hm2 hC
    have HR : Hid (RN w b A V) := hR
    have HW : Hid (WR w B 164 ρ tg V A.wa) := hW
    have HJ : Hid (TgOk tg) := tz; clear tz
    have HB : Hid (∀ a c, ρ b ≠ tg a c) := hb; clear hb
    have HN : Hid (∀ k, w.heap.size ≤ k → ρ k = (0, 0)) := hnew; clear hnew
    obtain ⟨i, z, hi1, hi2, hi3, hi4, hi5⟩ := infoM
    have I1 : Hid (Try.prog.info? 164 = some i) := hi1; have I2 : Hid (i.zero = some z) := hi2; have I3 : Hid (i.size = 10) := hi3; have I4 : Hid (i.bytes = 80) := hi4; have I5 : Hid (z.cells.size = 10) := hi5
    clear hi1 hi2 hi3 hi4 hi5
    have Hmx : Hid ((A.wa x y).length + 1 ≤ maxLen) := (show (A.wa x y).length + 1 ≤ maxLen by unfold maxLen; omega)
    have Hby : Hid (((A.wa x y).length + 1) * 80 ≤ 140737488355328) := (show ((A.wa x y).length + 1) * 80 ≤ 140737488355328 by omega)
    go_enter Try.func95, Try.ntmps95
    go_wp2_with (first | (go_at_call 115; refine (at_any b B 164 _ _ _ ρ tg A V _ hn hR hW).mono ?_; rintro e w1 ⟨rfl, hb1⟩; have n9 := Whole.new w1 164 Zm; have t9 := n9.there Zm_size; have ag9 := aggOk_mg (msgN A x y k); have b9 : Below w.heap.size w ((w1.alloc (.cells Zm 164)).setCells w1.heap.size 0 (mgA (msgN A x y k)).toList) := Below.setCells (hb1.alloc hb1.size _) hb1.size _ _; have n9' := n9.over (mgA (msgN A x y k)) (by rw [mgA_size, Zm_size]); have r9 := hR.of (b9.block b hR.lt); have w9 := hW.below b9; have l9 := n9'.lt; have hd := r9.v x y hx hy; rw [hv] at hd))
    have hm := HM.out; clear HM
    rw [hm] at ag9 b9 n9' r9 w9 l9 hd ⊢
    generalize ((w1.alloc (.cells Zm 164)).setCells w1.heap.size 0 (mgA m).toList) = wr at *
    have fz := r9.fz
    have km := n9'.drew.mid (mgA_size _)
    have lb : b < wr.heap.size := r9.lt
    have hown0 := w9.own x y hx hy
    rw [hv] at hown0
    have Hown : Hid ((wr.alloc (.cells (mgA m) 164)).drew.ownsRow B 164 10 (.slice ad (A.wa x y).length cap) (A.wa x y).length (flat (A.wa x y))) := (hown0.alloc _).drew
    have Hnews : Hid (∀ j u, (mgA m).toList[j]? = some u → (wr.alloc (.cells (mgA m) 164)).drew.cell? ((⟨wr.heap.size, 0, none⟩ : Addr).add j) = some u) := World.news_of_block (heap_alloc_new wr _)
    have Hone : Hid (∀ u ∈ (mgA m).toList, u.oneCell' = true) := fun u hu => (Array.all_eq_true_iff_forall_mem.1 (mgA_one _)) u (by simpa using hu)
    have Hlen : Hid ((mgA m).toList.length = 1 * 10) := (show (mgA m).toList.length = 1 * 10 by simp [mgA_size])
    have HBw : Hid (B ≤ (wr.alloc (.cells (mgA m) 164)).drew.heap.size) := (show B ≤ (wr.alloc (.cells (mgA m) 164)).drew.heap.size by have := b9.size; simp; omega)
    have Hnb : Hid (some b ≠ (Value.slice ad (A.wa x y).length cap).ownBlock) := fun e => HB.out x y (HW.out.part x y b hx hy (by rw [hv]; exact e.symm))
    have Hcb : Hid ((wr.alloc (.cells (mgA m) 164)).drew.cell? ⟨b, 396 + x * 5 + y, none⟩ = some (.slice ad (A.wa x y).length cap)) := (World.cell?_of_block (w := wr) (Below.heap_alloc wr _ b lb)).trans hd
    have Hfb : Hid ((wr.alloc (.cells (mgA m) 164)).drew.frozen? ⟨b, 396 + x * 5 + y, none⟩ = false) := (World.frozen?_of_block (w := wr) (Below.heap_alloc wr _ b lb)).trans (fz _)
    have Hlb : Hid (b < (wr.alloc (.cells (mgA m) 164)).drew.heap.size) := Nat.lt_of_lt_of_le lb (by simp)
    have N9 : Hid (Whole wr w1.heap.size 164 (mgA m)) := n9'; clear n9'
    have R9 : Hid (RN wr b A V) := r9; clear r9
    have W9 : Hid (WR wr B 164 ρ tg V A.wa) := w9; clear w9
    have B9 : Hid (Below w.heap.size w wr) := b9; clear b9
    have HV : Hid (V x y = .slice ad (A.wa x y).length cap) := hv; clear hv
    clear hown0 hR hW t9 n9 hm
    go_region_law ((refine step_append_lies _ (by rfl) _ _ 158 (by rfl) B 164 i z 10 80 Try.underlying158 I1.out I2.out I3.out I4.out I5.out (by omega) (.slice ad (A.wa x y).length cap) (A.wa x y).length (flat (A.wa x y)) (by rfl) Hown.out ⟨wr.heap.size, 0, none⟩ 1 1 (mgA m).toList (by rfl) Hlen.out Hnews.out Hone.out (by omega) Hmx.out Hby.out HBw.out (wr.heap.size + 1) (by simp) ?_; intro g' cap' w2 ho2 hgrow hat hlt2; have cb := (hgrow.cell_far ⟨b, 396 + x * 5 + y, none⟩ Hlb.out Hnb.out).trans Hcb.out; have fb := (hgrow.frozen_far ⟨b, 396 + x * 5 + y, none⟩ Hlb.out Hnb.out).trans Hfb.out))
    all_goals go_wp2
    all_goals
      have ho3 : w2.ownsRow B 164 10 (.slice (some ⟨g', 0, none⟩) ((A.wa x y).length + 1) cap') (A.wa x y ++ [m]).length (flat (A.wa x y ++ [m])) := by
        rw [flat_append, flat_one, List.length_append, List.length_singleton]; simpa [mgA] using ho2
      have hst := send_step (w := w) (ρ := ρ) (mb := w1.heap.size) (o := 396 + x * 5 + y) (W := A.wa) (V := V) (l := A.wa x y ++ [m]) (.slice (some ⟨g', 0, none⟩) ((A.wa x y).length + 1) cap') W9.out HJ.out hx hy HR.out.lt HB.out (fun _ _ => rfl) (fun j hj => HN.out j (Nat.le_trans B9.out.size hj)) (HN.out _ hb1.size) N9.out.lt (Nat.ne_of_gt (Nat.lt_of_lt_of_le HR.out.lt hb1.size)) (Turn.below (tg := tg) (b := b) HN.out B9.out).only
        (w0 := (wr.alloc (.cells (mgA m) 164)).drew) (H := wr.heap.size + 1) (((Below.refl _ _).alloc (Nat.le_refl _) _).drew) (by simp) ho3 (by rw [HV.out]; exact hgrow) (by rw [HV.out]; exact hat) hlt2 (by rw [List.length_append, List.length_singleton])
      obtain ⟨s1, s2, s3, s4, _, _, s7⟩ := hst
      go_ret
      exact ⟨rfl, _, _, ((R9.out.of s1).setV x y hx hy _).wa _, s2, ⟨s7, s3, s4⟩⟩
end Go.Proofs.Ytdoodnbobpijoaa
