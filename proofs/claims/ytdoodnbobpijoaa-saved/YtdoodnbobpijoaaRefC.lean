import Derived.Test.YtdoodnbobpijoaaRefB
namespace Go.Proofs.Ytdoodnbobpijoaa
open Go.RowKit

/-! ### without -/
def woK (T : Tb) (x : Int) (k : Nat) : Tb := { T with ro := fun d => if d < k ∧ (T.ro d).nx = x then noRt else T.ro d }
theorem woK_zero (T : Tb) (x : Int) : woK T x 0 = T := by
  have : (fun d => if d < 0 ∧ (T.ro d).nx = x then noRt else T.ro d) = T.ro := by
    funext d
    rw [if_neg (by omega)]
  unfold woK
  rw [this]
theorem woK_ro (T : Tb) (x : Int) (k : Nat) : (woK T x k).ro k = T.ro k := by
  show (if k < k ∧ _ then _ else _) = _
  rw [if_neg (by omega)]
theorem woK_hit (T : Tb) (x : Int) (k : Nat) (h : (T.ro k).nx = x) : woK T x (k + 1) = setRo (woK T x k) k noRt := by
  unfold woK setRo
  congr 1
  funext d
  by_cases e : d = k
  · subst e; rw [if_pos rfl, if_pos ⟨by omega, h⟩]
  · rw [if_neg e]
    have : d < k + 1 ↔ d < k := by omega
    simp only [this]
theorem woK_miss (T : Tb) (x : Int) (k : Nat) (h : (T.ro k).nx ≠ x) : woK T x (k + 1) = woK T x k := by
  unfold woK
  congr 1
  funext d
  by_cases e : d = k
  · subst e; rw [if_neg (fun hh => h hh.2), if_neg (fun hh => h hh.2)]
  · have : d < k + 1 ↔ d < k := by omega
    simp only [this]
theorem woK_five (T : Tb) (x : Int) : tbA (woK T x 5) = tbA (wo T x) := by
  refine tbA_congr rfl (fun d hd => ?_) (fun _ _ => rfl)
  show (if d < 5 ∧ (T.ro d).nx = x then noRt else T.ro d) = if (T.ro d).nx = x then noRt else T.ro d
  have : (d < 5 ∧ (T.ro d).nx = x) ↔ (T.ro d).nx = x := by omega
  simp only [this]
/-- A route is laid into a block that is known whole. -/
theorem Whole.setRo {w : World} {b : Nat} {t : TypeId} {T : Tb} (h : Whole w b t (tbA T)) (d : Nat) (hd : d < 5) (x : Rt) :
    Whole (((((w.setCell ⟨b, 1 + d * 5, none⟩ (I x.nx)).setCell ⟨b, 1 + d * 5 + 1, none⟩ (I x.sq)).setCell ⟨b, 1 + d * 5 + 2, none⟩ (I x.mt)).setCell ⟨b, 1 + d * 5 + 3, none⟩ (I x.ag)).setCell ⟨b, 1 + d * 5 + 4, none⟩ (I x.st)) b t (tbA (setRo T d x)) := by
  rw [← tbA_setRo T d x hd]
  exact ((((h.setAt _ _).setAt _ _).setAt _ _).setAt _ _).setAt _ _
theorem Whole.setBe {w : World} {b : Nat} {t : TypeId} {T : Tb} (h : Whole w b t (tbA T)) (d : Nat) (hd : d < 5) (x : Bs) :
    Whole ((w.setCell ⟨b, 26 + d * 2, none⟩ (I x.sq)).setCell ⟨b, 26 + d * 2 + 1, none⟩ (I x.mt)) b t (tbA (setBe T d x)) := by
  rw [← tbA_setBe T d x hd]
  exact (h.setAt _ _).setAt _ _
theorem Whole.setMg {w : World} {b : Nat} {t : TypeId} {m : Nat → Bs} (h : Whole w b t (mgA m)) (d : Nat) (hd : d < 5) (x : Bs) :
    Whole ((w.setCell ⟨b, d * 2, none⟩ (I x.sq)).setCell ⟨b, d * 2 + 1, none⟩ (I x.mt)) b t (mgA (setMg m d x)) := by
  rw [← mgA_set m d x hd]
  exact (h.setAt _ _).setAt _ _
theorem tbA_ro5 (T : Tb) (d : Nat) (hd : d < 5) : (tbA T)[1 + d * 5]? = some (I (T.ro d).nx) ∧ (tbA T)[1 + d * 5 + 1]? = some (I (T.ro d).sq) ∧ (tbA T)[1 + d * 5 + 2]? = some (I (T.ro d).mt) ∧ (tbA T)[1 + d * 5 + 3]? = some (I (T.ro d).ag) ∧ (tbA T)[1 + d * 5 + 4]? = some (I (T.ro d).st) := by
  have h : ∀ k, k < 5 → (tbA T)[1 + d * 5 + k]? = some (rtV (T.ro d) k) := fun k hk => by rw [tbA_at _ _ (by omega), tbV_ro _ _ _ hd hk]
  exact ⟨h 0 (by omega), h 1 (by omega), h 2 (by omega), h 3 (by omega), h 4 (by omega)⟩
theorem tbA_be2 (T : Tb) (d : Nat) (hd : d < 5) : (tbA T)[26 + d * 2]? = some (I (T.be d).sq) ∧ (tbA T)[26 + d * 2 + 1]? = some (I (T.be d).mt) := by
  have h : ∀ k, k < 2 → (tbA T)[26 + d * 2 + k]? = some (bsV (T.be d) k) := fun k hk => by rw [tbA_at _ _ (by omega), tbV_be _ _ _ hk]
  exact ⟨h 0 (by omega), h 1 (by omega)⟩
theorem mgA_2 (m : Nat → Bs) (d : Nat) (hd : d < 5) : (mgA m)[d * 2]? = some (I (m d).sq) ∧ (mgA m)[d * 2 + 1]? = some (I (m d).mt) := by
  have h : ∀ k, k < 2 → (mgA m)[d * 2 + k]? = some (bsV (m d) k) := fun k hk => by rw [mgA_at _ _ (by omega), mgV_at _ _ _ hk]
  exact ⟨h 0 (by omega), h 1 (by omega)⟩

attribute [local go_sem ↓] Go.wp_at_zero Go.wp_at_succ ldT stT alcT
attribute [local go_sem] vb_ptr vo_ptr cellsL_agg size_setCells
set_option maxHeartbeats 1000000 in
theorem without_any (T : Tb) (x : Int) (w : World) : Calls Try.prog 114 #[.agg (tbA T), .int .i64 x] w fun e w' => e = .returned (.agg (tbA (wo T x))) ∧ Below w.heap.size w w' := by
  have hs0 := (Whole.new w 153 (tbA T)).alloc (.cells Zk 153)
  have hs1 := Whole.new (w.alloc (.cells (tbA T) 153)) 153 Zk
  simp only [World.size_alloc] at hs1
  have hBel : Below w.heap.size w ((w.alloc (.cells (tbA T) 153)).alloc (.cells Zk 153)) := ((Below.refl _ _).alloc (Nat.le_refl _) _).alloc (by simp) _
  go_enter Try.func114, Try.ntmps114
  go_wp2
  go_loopw [5] (fun i wr => ∃ k : Nat, k ≤ 5 ∧ i = .int .i64 k ∧ Whole wr w.heap.size 153 (tbA (woK T x k)) ∧ Whole wr (w.heap.size + 1) 153 Zk ∧ Below w.heap.size w wr) (fun i _ => 5 - (intOf i).toNat)
  case atStart => exact ⟨0, by omega, rfl, by rw [woK_zero]; exact hs0, hs1, hBel⟩
  case round =>
    clear hs0 hs1 hBel
    obtain ⟨k, hk, rfl, q0, q1, q4⟩ := hrel
    have z1 := q4.size
    by_cases hk5 : k < 5
    · have hk' : (k : Int) < 5 := by omega
      obtain ⟨a0, _, _, _, _⟩ := tbA_ro5 (woK T x k) k hk5
      rw [woK_ro] at a0
      by_cases hx : (T.ro k).nx = x
      · have hx' : ((T.ro k).nx == x) = true := by simp [hx]
        have c0 := q0.cell
        go_wp2_with (go_at_call 109; refine (none_any _).mono ?_; rintro e w1 ⟨rfl, hb⟩; have p0 := q0.below hb; obtain ⟨b0, b1, b2, b3, b4⟩ := tbA_ro5 (woK T x k) k hk5; have f0 := p0.frozen; have c1 := p0.cell; have z2 := hb.size)
        go_roundw
        case rel =>
          refine ⟨k + 1, by omega, by go_num, ?_, ?_, ?_⟩
          · rw [woK_hit T x k hx]; exact p0.setRo k hk5 noRt
          · repeat (first | exact q1.below hb | refine Whole.setCell ?_ (by dsimp only; omega) _)
          · repeat (first | exact q4.trans (hb.mono q4.size) | refine Below.setCell ?_ (by dsimp only; omega) _)
        case measure => simp [intOf]; omega
      · have hx' : ((T.ro k).nx == x) = false := by simp [hx]
        have c0 := q0.cell
        go_wp2
        go_roundw
        case rel => exact ⟨k + 1, by omega, by go_num, by rw [woK_miss T x k hx]; exact q0, q1, q4⟩
        case measure => simp [intOf]; omega
    · have hk6 : k = 5 := by omega
      subst hk6
      have m0 := q0.mid (tbA_size _)
      have ag := aggOk_tb (woK T x 5)
      have t1 := q1.there Zk_size
      go_wp2
      refine bodyPost_ret (v := .agg (tbA (wo T x))) ?_ rfl ⟨rfl, Below.setCells q4 (by omega) _ _⟩
      rw [← woK_five]
      exact results_cell_row rfl _ _ _ _ _ _ _ rfl (q1.over (tbA (woK T x 5)) (by rw [tbA_size, Zk_size])).is Try.underlying153 rfl (by rw [sizeT, tbA_size])

/-! ### Link -/
theorem linkE_split (A : Nt) (x y c : Int) : (¬ pairE A.n x y = 0 ∧ linkE A x y c = pairE A.n x y) ∨ (pairE A.n x y = 0 ∧ (c < 0 ∨ 9 < c) ∧ linkE A x y c = 4) ∨ (pairE A.n x y = 0 ∧ 0 ≤ c ∧ c ≤ 9 ∧ linkE A x y c = 0) := by
  unfold linkE
  by_cases h : pairE A.n x y = 0
  · by_cases h2 : c < 0 ∨ 9 < c
    · exact .inr (.inl ⟨h, h2, by simp [h, h2]⟩)
    · exact .inr (.inr ⟨h, by omega, by omega, by simp [h, h2]⟩)
  · exact .inl ⟨h, by simp [h]⟩
theorem linkN_pos (A : Nt) (a b : Nat) (c : Int) (hc : c ≠ 0) : linkN A a b c = { A with co := setCo A.co a b c } := by
  unfold linkN
  congr 1
  funext j
  rw [if_neg hc]
theorem linkN_cut (A : Nt) (a b : Nat) (h : a ≠ b) : linkN A a b 0 = upR (upR { A with co := setCo A.co a b 0 } a (withT (A.rs a) (wo (A.rs a).t b))) b (withT (A.rs b) (wo (A.rs b).t a)) := by
  unfold linkN upR
  congr 1
  funext j
  simp only [if_true]
  by_cases h1 : j = a
  · subst h1; rw [if_pos rfl, if_neg h, if_pos rfl]
  · rw [if_neg h1]
    by_cases h2 : j = b
    · rw [if_pos h2, if_pos h2]
    · rw [if_neg h2, if_neg h2, if_neg h1]
set_option maxHeartbeats 400000 in
theorem rlink_no1 (b : Nat) (x y c : Int) (A : Nt) (V : Nat → Nat → Value) (w : World) (hR : RN w b A V) (h0 : ¬ pairE A.n x y = 0) :
    Calls Try.prog 92 #[.pointer (some ⟨b, 0, none⟩), .int .i64 x, .int .i64 y, .int .i64 c] w fun e w' => e = .returned (.int .i64 (pairE A.n x y)) ∧ w = w' := by
  have hN := hR.n
  have h0' : (pairE A.n x y != 0) = true := by simp [h0]
  clear hR
  go_enter Try.func92, Try.ntmps92
  go_wp2_with (go_at_call 111; refine (pair_any b A.n _ _ _ hN).mono ?_; rintro e w' ⟨rfl, rfl⟩)
  go_ret
  exact ⟨rfl, rfl⟩
set_option maxHeartbeats 400000 in
theorem rlink_no2 (b : Nat) (x y c : Int) (A : Nt) (V : Nat → Nat → Value) (w : World) (hR : RN w b A V) (h0 : pairE A.n x y = 0) (hc : c < 0 ∨ 9 < c) :
    Calls Try.prog 92 #[.pointer (some ⟨b, 0, none⟩), .int .i64 x, .int .i64 y, .int .i64 c] w fun e w' => e = .returned (.int .i64 4) ∧ w = w' := by
  have hN := hR.n
  clear hR
  rcases hc with hc | hc
  · go_enter Try.func92, Try.ntmps92
    go_wp2_with (go_at_call 111; refine (pair_any b A.n _ _ _ hN).mono ?_; rintro e w' ⟨rfl, rfl⟩)
    go_ret
    exact ⟨rfl, rfl⟩
  · have : ¬ c < 0 := by omega
    go_enter Try.func92, Try.ntmps92
    go_wp2_with (go_at_call 111; refine (pair_any b A.n _ _ _ hN).mono ?_; rintro e w' ⟨rfl, rfl⟩)
    go_ret
    exact ⟨rfl, rfl⟩
set_option maxHeartbeats 400000 in
theorem rlink_set (b x y : Nat) (c : Int) (A : Nt) (V : Nat → Nat → Value) (w : World) (hn : A.n ≤ 5) (hR : RN w b A V) (h0 : pairE A.n x y = 0) (hc : 0 < c) (hc9 : c ≤ 9) :
    Calls Try.prog 92 #[.pointer (some ⟨b, 0, none⟩), .int .i64 x, .int .i64 y, .int .i64 c] w fun e w' => e = .returned (.int .i64 0) ∧ RN w' b (linkN A x y c) V ∧ Only (· = b) w w' := by
  have hN := hR.n
  obtain ⟨⟨_, h1⟩, ⟨_, h2⟩, h3⟩ := pairE_zero h0
  have hx : x < 5 := by omega
  have hy : y < 5 := by omega
  have hx' : (x : Int) < 5 := by omega
  have hy' : (y : Int) < 5 := by omega
  have c1 := hR.c x y hx hy
  have c2 : (w.setCell ⟨b, 371 + x * 5 + y, none⟩ (I c)).cell? ⟨b, 371 + y * 5 + x, none⟩ = some (I (A.co y x)) := by
    rw [World.cell?_setCell_other _ _ _ _ (addr_ne (by omega))]; exact hR.c y x hy hx
  have f1 := hR.fz
  have HR : Hid (RN w b A V) := hR; clear hR
  have hc0 : (c == 0) = false := by rw [beq_eq_false_iff_ne]; omega
  rw [linkN_pos A x y c (by omega)]
  go_enter Try.func92, Try.ntmps92
  go_wp2_with (go_at_call 111; refine (pair_any b A.n _ _ _ hN).mono ?_; rintro e w' ⟨rfl, rfl⟩)
  go_ret
  exact ⟨rfl, HR.out.setC x y hx hy c, ((Only.refl (· = b) w).setCell (p := ⟨b, 371 + x * 5 + y, none⟩) (.inl rfl) _).setCell (p := ⟨b, 371 + y * 5 + x, none⟩) (.inl rfl) _⟩

theorem MidOk.drew {w : World} {b o n : Nat} (h : MidOk w b o n) : MidOk w.drew b o n := h
theorem MidOk.below {w w' : World} {b o n : Nat} (h : MidOk w b o n) (hn : 0 < n) (hb : Below w.heap.size w w') : MidOk w' b o n := by
  have hlt : b < w.heap.size := by
    obtain ⟨v, hv⟩ := Option.isSome_iff_exists.1 (h 0 hn)
    exact lt_of_cell hv
  exact h.of (hb.block b hlt)
theorem there_of {w w' : World} {b o n : Nat} (h : w.there b o n) (hb : w'.heap[b]? = w.heap[b]?) : w'.there b o n := fun j hj => by
  rw [World.cell?_of_block (w := w) (a := ⟨b, _, none⟩) hb, World.frozen?_of_block (w := w) (a := ⟨b, _, none⟩) hb]; exact h j hj
theorem there_ok {w : World} {b o n : Nat} (h : w.there b o n) : MidOk w b o n := fun j hj => (h j hj).1
theorem there_lt {w : World} {b o n : Nat} (h : w.there b o n) (hn : 0 < n) : b < w.heap.size := by
  obtain ⟨v, hv⟩ := Option.isSome_iff_exists.1 (h 0 hn).1
  exact lt_of_cell hv
/-- The 36 cells from an offset on may be read and written. -/
theorem spot_drew {w : World} {b o : Nat} (h : w.there b o 36) : MidOk w.drew b o 36 ∧ w.drew.there b o 36 := ⟨there_ok h, h⟩
theorem spot_below {w w' : World} {b o : Nat} (h : MidOk w b o 36 ∧ w.there b o 36) (hb : Below w.heap.size w w') : MidOk w' b o 36 ∧ w'.there b o 36 :=
  have := there_of h.2 (hb.block b (there_lt h.2 (by omega)))
  ⟨there_ok this, this⟩
theorem spot_store {w : World} {b o : Nat} (h : MidOk w b o 36 ∧ w.there b o 36) (g p : Nat) (l : List Value) : MidOk (w.setCells g p l) b o 36 ∧ (w.setCells g p l).there b o 36 :=
  have := World.there_setCells h.2 g p l
  ⟨there_ok this, this⟩
set_option maxHeartbeats 1000000 in
set_option maxRecDepth 100000 in
theorem rlink_cut (b x y : Nat) (A : Nt) (V : Nat → Nat → Value) (w : World) (hn : A.n ≤ 5) (hR : RN w b A V) (h0 : pairE A.n x y = 0) :
    Calls Try.prog 92 #[.pointer (some ⟨b, 0, none⟩), .int .i64 x, .int .i64 y, .int .i64 0] w fun e w' => e = .returned (.int .i64 0) ∧ RN w' b (linkN A x y 0) V ∧ Only (· = b) w w' := by
  have hN := hR.n
  obtain ⟨⟨_, h1⟩, ⟨_, h2⟩, h3⟩ := pairE_zero h0
  have hx : x < 5 := by omega
  have hy : y < 5 := by omega
  have hx' : (x : Int) < 5 := by omega
  have hy' : (y : Int) < 5 := by omega
  have c1 := hR.c x y hx hy
  have c2 : (w.setCell ⟨b, 371 + x * 5 + y, none⟩ (I 0)).cell? ⟨b, 371 + y * 5 + x, none⟩ = some (I (A.co y x)) := by
    rw [World.cell?_setCell_other _ _ _ _ (addr_ne (by omega))]; exact hR.c y x hy hx
  have f1 := hR.fz
  rw [linkN_cut A x y (by omega)]
  have hL := hR.setC x y hx hy 0
  have k1 := hL.there x 0 hx (by omega)
  have m1 := (hL.rangeT x hx).1
  simp only [Nat.add_zero] at k1
  have m1' : midA ((w.setCell ⟨b, 371 + x * 5 + y, none⟩ (I 0)).setCell ⟨b, 371 + y * 5 + x, none⟩ (I 0)).drew b (1 + x * 74) 36 = tbA (A.rs x).t := m1
  have ag1 := aggOk_tb (wo (A.rs x).t y)
  have HL : Hid (RN ((w.setCell ⟨b, 371 + x * 5 + y, none⟩ (I 0)).setCell ⟨b, 371 + y * 5 + x, none⟩ (I 0)) b { A with co := setCo A.co x y 0 } V) := hL; clear hL hR m1
  have HO : Hid (Only (· = b) w ((w.setCell ⟨b, 371 + x * 5 + y, none⟩ (I 0)).setCell ⟨b, 371 + y * 5 + x, none⟩ (I 0))) := ((Only.refl (· = b) w).setCell (p := ⟨b, 371 + x * 5 + y, none⟩) (.inl rfl) _).setCell (p := ⟨b, 371 + y * 5 + x, none⟩) (.inl rfl) _
  go_enter Try.func92, Try.ntmps92
  go_wp2_with (go_at_call 111; refine (pair_any b A.n _ _ _ hN).mono ?_; rintro e w' ⟨rfl, rfl⟩)
  have k1' : MidOk ((w.setCell ⟨b, 371 + x * 5 + y, none⟩ (I 0)).setCell ⟨b, 371 + y * 5 + x, none⟩ (I 0)).drew b (1 + x * 74) 36 := there_ok k1
  go_region_with ((go_at_call 114; refine (without_any (A.rs x).t (y : Int) _).mono ?_; rintro e w1 ⟨rfl, hb⟩; have k2 := there_of k1 (hb.block b (there_lt k1 (by omega)))))
  have R1 : RN (w1.setCells b (1 + x * 74) (tbA (wo (A.rs x).t y)).toList) b (upR { A with co := setCo A.co x y 0 } x (withT (A.rs x) (wo (A.rs x).t y))) V := ((HL.out.of (w' := _) rfl).of (hb.block b HL.out.lt)).setT x hx _
  have O1 : Only (· = b) w (w1.setCells b (1 + x * 74) (tbA (wo (A.rs x).t y)).toList) := ((HO.out.drew).trans (Only.ofBelow (S := (· = b)) hb) (fun _ _ h => h)).setCells (.inl rfl) _ _
  clear HL HO k1 k1' k2 m1' hb ag1
  generalize w1.setCells b (1 + x * 74) (tbA (wo (A.rs x).t y)).toList = w2 at *
  have k1 := R1.there y 0 hy (by omega)
  have m1 := (R1.rangeT y hy).1
  rw [upR_other _ _ _ _ (by omega)] at m1
  simp only [Nat.add_zero] at k1
  have m1' : midA w2.drew b (1 + y * 74) 36 = tbA (A.rs y).t := m1
  have k1' : MidOk w2.drew b (1 + y * 74) 36 := there_ok k1
  have ag1 := aggOk_tb (wo (A.rs y).t x)
  have HL : Hid (RN w2 b (upR { A with co := setCo A.co x y 0 } x (withT (A.rs x) (wo (A.rs x).t y))) V) := R1; clear R1 m1
  have HO : Hid (Only (· = b) w w2) := O1; clear O1
  go_wp2_with fail
  go_region_with ((go_at_call 114; refine (without_any (A.rs y).t (x : Int) _).mono ?_; rintro e w3 ⟨rfl, hb⟩; have k2 := there_of k1 (hb.block b (there_lt k1 (by omega)))))
  go_wp2
  go_ret
  refine ⟨rfl, ?_, ((HO.out.drew).trans (Only.ofBelow (S := (· = b)) hb) (fun _ _ h => h)).setCells (.inl rfl) _ _⟩
  have := ((HL.out.of (w' := _) rfl).of (hb.block b HL.out.lt)).setT y hy (wo (A.rs y).t x)
  rw [upR_other _ _ _ _ (by omega)] at this
  exact this
/-- Link, at whatever numbers. -/
theorem rlink (b : Nat) (x y c : Int) (A : Nt) (V : Nat → Nat → Value) (w : World) (hn : A.n ≤ 5) (hR : RN w b A V) :
    Calls Try.prog 92 #[.pointer (some ⟨b, 0, none⟩), .int .i64 x, .int .i64 y, .int .i64 c] w fun e w' => e = .returned (.int .i64 (linkE A x y c)) ∧ RN w' b (linkC A x y c) V ∧ Only (· = b) w w' := by
  rcases linkE_split A x y c with ⟨h, e⟩ | ⟨h, h2, e⟩ | ⟨h, h2, h3, e⟩
  · refine (rlink_no1 b x y c A V w hR h).mono fun e' w' ⟨h1, h2⟩ => ?_
    subst h2
    exact ⟨by rw [h1, e], by rw [linkC, e, if_neg h]; exact hR, Only.refl _ _⟩
  · refine (rlink_no2 b x y c A V w hR h h2).mono fun e' w' ⟨h1, h2⟩ => ?_
    subst h2
    exact ⟨by rw [h1, e], by rw [linkC, e, if_neg (by decide)]; exact hR, Only.refl _ _⟩
  · obtain ⟨⟨a1, _⟩, ⟨a2, _⟩, _⟩ := pairE_zero h
    obtain ⟨x, rfl⟩ := Int.eq_ofNat_of_zero_le a1
    obtain ⟨y, rfl⟩ := Int.eq_ofNat_of_zero_le a2
    by_cases hc : c = 0
    · subst hc
      refine (rlink_cut b x y A V w hn hR h).mono fun e' w' ⟨h1, h2, h3⟩ => ?_
      exact ⟨by rw [h1, e], by rw [linkC, e, if_pos rfl]; exact h2, h3⟩
    · refine (rlink_set b x y c A V w hn hR h (by omega) h3).mono fun e' w' ⟨h1, h2, h3⟩ => ?_
      exact ⟨by rw [h1, e], by rw [linkC, e, if_pos rfl]; exact h2, h3⟩
end Go.Proofs.Ytdoodnbobpijoaa
