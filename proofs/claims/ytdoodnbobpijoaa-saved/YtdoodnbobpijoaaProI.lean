import Derived.Test.YtdoodnbobpijoaaProH
import Derived.Test.YtdoodnbobpijoaaProR
import Derived.Test.YtdoodnbobpijoaaRefM
namespace Go.Proofs.Ytdoodnbobpijoaa
open Go.RowKit

/-! ### Hear -/
theorem prefers_any (b o d a : Nat) (T : Tb) (f : Nat → Int) (t : Bs) (w : World) (hd : d < 5) (h5 : a < 5) (hK : KT w b o T) (hx5 : (T.ro d).nx < 5)
    (hm : 0 ≤ (T.ro d).nx → 0 ≤ (T.ro d).mt ∧ (T.ro d).mt ≤ 30) (t0 : 0 ≤ t.mt) (t1 : t.mt ≤ 30) (hf : ∀ k, 0 ≤ f k ∧ f k ≤ 9) :
    Calls Try.prog 84 #[.pointer (some ⟨b, o, none⟩), .int .i64 d, .int .i64 a, .agg (bsA t), .agg (coA f)] w fun e w' => e = .returned (.bool (decide (prefs T f d a t))) ∧ Below w.heap.size w w' := by
  by_cases h0 : 0 ≤ (T.ro d).nx
  · by_cases ha : (T.ro d).nx = a
    · have e : decide (prefs T f d a t) = true := by rw [decide_eq_true_eq]; exact .inr (.inl ha)
      rw [e]
      exact prefers_2 b o d a T f t w hd hK (by simpa using h0) (by simpa using ha)
    · have e : decide (prefs T f d a t) = decide (bet ⟨t.sq, t.mt + f a⟩ ⟨(T.ro d).sq, (T.ro d).mt + f (T.ro d).nx.toNat⟩) := by
        apply decide_eq_decide.2
        constructor
        · rintro (h | h | h)
          · omega
          · exact absurd h ha
          · exact h
        · exact fun h => .inr (.inr h)
      rw [e]
      exact prefers_3 b o d a T f t w hd h5 hK (by simpa using h0) hx5 (by simpa using ha) (hm h0).1 (hm h0).2 t0 t1 hf
  · have e : decide (prefs T f d a t) = true := by rw [decide_eq_true_eq]; exact .inl (by omega)
    rw [e]
    exact prefers_1 b o d a T f t w hd hK (by simpa using h0)
/-- What becomes of the route to d by what a tells of it. -/
def heard (T : Tb) (f : Nat → Int) (a d : Nat) (t : Bs) : Rt :=
  if bet t (T.be d) ∧ t.mt + f a ≤ 30 then (if prefs T f d a t then ⟨a, t.sq, t.mt, 0, 0⟩ else T.ro d) else (if (T.ro d).nx = a then noRt else T.ro d)
def hearT (T : Tb) (f : Nat → Int) (self a : Nat) (m : Nat → Bs) (k : Nat) : Tb := ⟨T.sq, fun d => if d < k ∧ d ≠ self then heard T f a d (m d) else T.ro d, T.be⟩
theorem hearT_zero (T : Tb) (f : Nat → Int) (self a : Nat) (m : Nat → Bs) : hearT T f self a m 0 = T := by
  have : (fun d => if d < 0 ∧ d ≠ self then heard T f a d (m d) else T.ro d) = T.ro := by funext d; rw [if_neg (by omega)]
  unfold hearT
  rw [this]
theorem hearT_ro (T : Tb) (f : Nat → Int) (self a : Nat) (m : Nat → Bs) (k : Nat) : (hearT T f self a m k).ro k = T.ro k := by
  show (if k < k ∧ _ then _ else _) = _
  rw [if_neg (by omega)]
theorem hearT_self (T : Tb) (f : Nat → Int) (self a : Nat) (m : Nat → Bs) : hearT T f self a m (self + 1) = hearT T f self a m self := by
  have : (fun d => if d < self + 1 ∧ d ≠ self then heard T f a d (m d) else T.ro d) = fun d => if d < self ∧ d ≠ self then heard T f a d (m d) else T.ro d := by
    funext d
    have : (d < self + 1 ∧ d ≠ self) ↔ (d < self ∧ d ≠ self) := by omega
    simp only [this]
  unfold hearT
  rw [this]
theorem hearT_step (T : Tb) (f : Nat → Int) (self a : Nat) (m : Nat → Bs) (k : Nat) (hk : k ≠ self) : hearT T f self a m (k + 1) = setRo (hearT T f self a m k) k (heard T f a k (m k)) := by
  have : (fun d => if d < k + 1 ∧ d ≠ self then heard T f a d (m d) else T.ro d) = fun d => if d = k then heard T f a k (m k) else if d < k ∧ d ≠ self then heard T f a d (m d) else T.ro d := by
    funext d
    by_cases e : d = k
    · subst e; rw [if_pos ⟨by omega, hk⟩, if_pos rfl]
    · rw [if_neg e]
      have : (d < k + 1 ∧ d ≠ self) ↔ (d < k ∧ d ≠ self) := by omega
      simp only [this]
  unfold hearT
  rw [this]
  rfl
/-- What stays as it is. -/
theorem hearT_stay (T : Tb) (f : Nat → Int) (self a : Nat) (m : Nat → Bs) (k : Nat) (h : heard T f a k (m k) = T.ro k) : hearT T f self a m (k + 1) = hearT T f self a m k := by
  have : (fun d => if d < k + 1 ∧ d ≠ self then heard T f a d (m d) else T.ro d) = fun d => if d < k ∧ d ≠ self then heard T f a d (m d) else T.ro d := by
    funext d
    by_cases e : d = k
    · subst e; rw [if_neg (c := d < d ∧ d ≠ self) (by omega)]; split
      · exact h
      · rfl
    · have : (d < k + 1 ∧ d ≠ self) ↔ (d < k ∧ d ≠ self) := by omega
      simp only [this]
  unfold hearT
  rw [this]
/-- What Hear finds in a world of its own: what is known, the telling at p, the costs at q. -/
structure Hrs (w W : World) (b o : Nat) (U : Tb) (f : Nat → Int) (t : Bs) (p q : Nat) : Prop where
  fr : Fr w W b o
  kt : KT W b o U
  tl : Whole W p 92 (bsA t)
  c : Whole W q 85 (coA f)
theorem Hrs.step {w W W' : World} {b o : Nat} {U : Tb} {f : Nat → Int} {t : Bs} {p q : Nat} (h : Hrs w W b o U f t p q) (hb : Below W.heap.size W W') : Hrs w W' b o U f t p q :=
  ⟨h.fr.below h.kt.lt hb, h.kt.below hb, h.tl.below hb, h.c.below hb⟩
theorem Hrs.drew {w W : World} {b o : Nat} {U : Tb} {f : Nat → Int} {t : Bs} {p q : Nat} (h : Hrs w W b o U f t p q) : Hrs w W.drew b o U f t p q := ⟨⟨h.fr.only.drew, h.fr.cell⟩, h.kt.of rfl, h.tl.drew, h.c.drew⟩
theorem Hrs.co {w W : World} {b o : Nat} {U : Tb} {f : Nat → Int} {t : Bs} {p q : Nat} (h : Hrs w W b o U f t p q) (k : Nat) (hk : k < 5) : W.cell? ⟨q, k, none⟩ = some (I (f k)) := (h.c.cell k).trans (coA_at f k hk)
theorem Hrs.t0 {w W : World} {b o : Nat} {U : Tb} {f : Nat → Int} {t : Bs} {p q : Nat} (h : Hrs w W b o U f t p q) : W.cell? ⟨p, 0, none⟩ = some (I t.sq) := h.tl.cell 0
theorem Hrs.t1 {w W : World} {b o : Nat} {U : Tb} {f : Nat → Int} {t : Bs} {p q : Nat} (h : Hrs w W b o U f t p q) : W.cell? ⟨p, 1, none⟩ = some (I t.mt) := h.tl.cell 1
attribute [local go_sem ↓] Go.wp_at_zero Go.wp_at_succ ldPM stPM alcPM
attribute [local go_sem] vb_ptr vo_ptr cellsL_agg size_setCells
set_option maxHeartbeats 4000000 in
set_option maxRecDepth 100000 in
theorem hear_any (b o self a : Nat) (m : Nat → Bs) (T : Tb) (f : Nat → Int) (w : World) (hs : self < 5) (ha : a < 5) (hK : KT w b o T) (hm : ∀ d, d < 5 → 0 ≤ (m d).mt ∧ (m d).mt ≤ 30) (hf : ∀ k, 0 ≤ f k ∧ f k ≤ 9)
    (hT : ∀ d, d < 5 → (T.ro d).nx < 5 ∧ (0 ≤ (T.ro d).nx → 0 ≤ (T.ro d).mt ∧ (T.ro d).mt ≤ 30)) :
    Calls Try.prog 60 #[.pointer (some ⟨b, o, none⟩), .int .i64 self, .int .i64 a, .agg (mgA m), .agg (coA f)] w fun e w' => e = .returned (.tuple #[]) ∧ KT w' b o (hearT T f self a m 5) ∧ Fr w w' b o := by
  have hlt := hK.lt
  have ha' : (a : Int) < 5 := by omega
  have k0 := (Whole.new w 104 (mgA m)).alloc (.cells (coA f) 85)
  have k1 : Whole ((w.alloc (.cells (mgA m) 104)).alloc (.cells (coA f) 85)) (w.heap.size + 1) 85 (coA f) := by
    have := Whole.new (w.alloc (.cells (mgA m) 104)) 85 (coA f)
    simp only [World.size_alloc] at this
    exact this
  have nb : Below w.heap.size w ((w.alloc (.cells (mgA m) 104)).alloc (.cells (coA f) 85)) := ((Below.refl _ _).alloc (Nat.le_refl _) _).alloc (by simp) _
  have km := k0.mid (mgA_size m)
  obtain ⟨km1, km2⟩ := km
  have HK0 : Hid (KT ((w.alloc (.cells (mgA m) 104)).alloc (.cells (coA f) 85)) b o T) := hK.below nb
  have HF0 : Hid (Fr w ((w.alloc (.cells (mgA m) 104)).alloc (.cells (coA f) 85)) b o) := (Fr.refl w b o).below hlt nb
  have HC0 : Hid (Whole ((w.alloc (.cells (mgA m) 104)).alloc (.cells (coA f) 85)) (w.heap.size + 1) 85 (coA f)) := k1
  have HM : Hid (∀ d, d < 5 → 0 ≤ (m d).mt ∧ (m d).mt ≤ 30) := hm
  have HF : Hid (∀ k, 0 ≤ f k ∧ f k ≤ 9) := hf
  have HT : Hid (∀ d, d < 5 → (T.ro d).nx < 5 ∧ (0 ≤ (T.ro d).nx → 0 ≤ (T.ro d).mt ∧ (T.ro d).mt ≤ 30)) := hT
  clear k0 k1 nb hK hm hf hT
  go_enter Try.func60, Try.ntmps60
  go_wp2
  go_loopw [13] (fun i wr => ∃ k : Nat, k ≤ 5 ∧ i = .int .i64 k ∧ KT wr b o (hearT T f self a m k) ∧ Whole wr (w.heap.size + 1) 85 (coA f) ∧ Fr w wr b o) (fun i _ => 5 - (intOf i).toNat)
  case atStart => exact ⟨0, by omega, rfl, by rw [hearT_zero]; exact HK0.out, HC0.out, HF0.out⟩
  case round =>
    clear HK0 HC0 HF0 km1 km2
    obtain ⟨k, hk, rfl, q1, q2, q3⟩ := hrel
    by_cases hk5 : k < 5
    · have hk' : (k : Int) < 5 := by omega
      have hk0 : (0 : Int) ≤ (k : Int) := by omega
      have ix := idx_msg m k hk5
      have hro := hearT_ro T f self a m k
      obtain ⟨hx5, hm30⟩ := HT.out k hk5
      obtain ⟨t0, t1⟩ := HM.out k hk5
      generalize htt : m k = t at *
      have P0 : Hrs w (wr.alloc (.cells #[.int .i64 t.sq, .int .i64 t.mt] 92)) b o (hearT T f self a m k) f t wr.heap.size (w.heap.size + 1) :=
        ⟨q3.below q1.lt ((Below.refl _ _).alloc (Nat.le_refl _) _), q1.below ((Below.refl _ _).alloc (Nat.le_refl _) _), Whole.new _ _ _, q2.alloc _⟩
      have hqb : w.heap.size + 1 ≠ b := by omega
      have hpb : wr.heap.size ≠ b := Nat.ne_of_gt q1.lt
      have Q1 : Hid (KT wr b o (hearT T f self a m k)) := q1
      clear q1 q2 q3
      by_cases hks : k = self
      · subst hks
        have hb : ((k : Int) == (k : Int)) = true := by simp
        go_wp2
        go_roundw
        case rel => exact ⟨k + 1, by omega, by go_num, by rw [hearT_self]; exact P0.kt, P0.c, P0.fr⟩
        case measure => simp [intOf]; omega
      · have hb : ((k : Int) == (self : Int)) = false := by rw [beq_eq_false_iff_ne]; omega
        have P : Hid (Hrs w (wr.alloc (.cells #[.int .i64 t.sq, .int .i64 t.mt] 92)).drew b o (hearT T f self a m k) f t wr.heap.size (w.heap.size + 1)) := P0.drew
        clear P0
        obtain ⟨f0, f9⟩ := HF.out a
        by_cases hu : bet t (T.be k) ∧ t.mt + f a ≤ 30
        · have FU : ∀ W : World, KT W b o (hearT T f self a m k) → Calls Try.prog 82 #[.pointer (some ⟨b, o, none⟩), .int .i64 k, .agg (bsA t), .int .i64 (f a)] W fun e w' => e = .returned (.bool true) ∧ Below W.heap.size W w' := fun W h => by
            have := usable_any b o k (hearT T f self a m k) t (f a) W hk5 h t0 t1 f0 f9
            rw [decide_eq_true (p := bet t ((hearT T f self a m k).be k) ∧ t.mt + f a ≤ 30) hu] at this
            exact this
          by_cases hp : prefs T f k a t
          · have FP : ∀ W : World, KT W b o (hearT T f self a m k) → Calls Try.prog 84 #[.pointer (some ⟨b, o, none⟩), .int .i64 k, .int .i64 a, .agg (bsA t), .agg (coA f)] W fun e w' => e = .returned (.bool true) ∧ Below W.heap.size W w' := fun W h => by
              have := prefers_any b o k a (hearT T f self a m k) f t W hk5 ha h (by rw [hro]; exact hx5) (by rw [hro]; exact hm30) t0 t1 HF.out
              rw [decide_eq_true (p := prefs (hearT T f self a m k) f k a t) (by unfold prefs; rw [hro]; exact hp)] at this
              exact this
            have hst : heard T f a k t = ⟨a, t.sq, t.mt, 0, 0⟩ := by unfold heard; rw [if_pos hu, if_pos hp]
            have HS : Hid (heard T f a k t = ⟨a, t.sq, t.mt, 0, 0⟩) := hst
            clear hst hu hp hm30 hx5
            go_wp2_with fail
            generalize (wr.alloc (.cells #[.int .i64 t.sq, .int .i64 t.mt] 92)) = W at *
            have q0 := P.out.t0; have q1 := P.out.t1; have ca := P.out.co a ha
            have sS : W.drew.cell? ⟨wr.heap.size, 0, none⟩ = some (I t.sq) ∧ W.drew.cell? ⟨wr.heap.size, 1, none⟩ = some (I t.mt) ∧ W.drew.cell? ⟨w.heap.size + 1, a, none⟩ = some (I (f a)) := ⟨q0, q1, ca⟩
            clear q0 q1 ca
            go_region_held3 (fun w' => w'.cell? ⟨wr.heap.size, 0, none⟩ = some (I t.sq) ∧ w'.cell? ⟨wr.heap.size, 1, none⟩ = some (I t.mt) ∧ w'.cell? ⟨w.heap.size + 1, a, none⟩ = some (I (f a)))
              (first | with_reducible exact sS | exact ⟨P.out.t0, P.out.t1, P.out.co a ha⟩)
              (first | (go_at_call 82; refine (FU _ P.out.kt).mono ?_; rintro e w1 ⟨rfl, hb1⟩; replace P : Hid (Hrs w w1 b o (hearT T f self a m k) f t wr.heap.size (w.heap.size + 1)) := P.out.step hb1; clear hb1))
            clear sS
            have q0 := P.out.t0; have q1 := P.out.t1; have c0 := P.out.co 0 (by omega); have c1 := P.out.co 1 (by omega); have c2 := P.out.co 2 (by omega); have c3 := P.out.co 3 (by omega); have c4 := P.out.co 4 (by omega)
            go_wp2_with (go_at_call 84; refine (FP _ P.out.kt).mono ?_; rintro e w2 ⟨rfl, hb2⟩; replace P : Hid (Hrs w w2 b o (hearT T f self a m k) f t wr.heap.size (w.heap.size + 1)) := P.out.step hb2; clear hb2 q0 q1 c0 c1 c2 c3 c4; have q0 := P.out.t0; have q1 := P.out.t1; obtain ⟨e0, e1, e2, e3, e4⟩ := P.out.kt.ro5 k hk5; have fz := P.out.kt.fz)
            go_region
            go_wp2
            go_roundw
            case rel => exact ⟨k + 1, by omega, by go_num, by
              rw [hearT_step _ _ _ _ _ _ hks, htt, HS.out]
              exact ((P.out.kt.setRo k hk5 ⟨a, t.sq, t.mt, 0, 0⟩).1).of rfl, by
              refine Whole.of P.out.c ?_
              show (((((w2.setCell _ _).setCell _ _).setCell _ _).setCell _ _).setCell _ _).heap[w.heap.size + 1]? = _
              rw [heap_setCell_other _ _ _ _ hqb, heap_setCell_other _ _ _ _ hqb, heap_setCell_other _ _ _ _ hqb, heap_setCell_other _ _ _ _ hqb, heap_setCell_other _ _ _ _ hqb], by
              have := P.out.fr.trans (P.out.kt.setRo k hk5 ⟨a, t.sq, t.mt, 0, 0⟩).2
              exact ⟨this.only.drew, this.cell⟩⟩
            case measure => simp [intOf]; omega
          · have FP : ∀ W : World, KT W b o (hearT T f self a m k) → Calls Try.prog 84 #[.pointer (some ⟨b, o, none⟩), .int .i64 k, .int .i64 a, .agg (bsA t), .agg (coA f)] W fun e w' => e = .returned (.bool false) ∧ Below W.heap.size W w' := fun W h => by
              have := prefers_any b o k a (hearT T f self a m k) f t W hk5 ha h (by rw [hro]; exact hx5) (by rw [hro]; exact hm30) t0 t1 HF.out
              rw [decide_eq_false (p := prefs (hearT T f self a m k) f k a t) (by unfold prefs; rw [hro]; exact hp)] at this
              exact this
            have hst : heard T f a k t = T.ro k := by unfold heard; rw [if_pos hu, if_neg hp]
            have HS : Hid (heard T f a k t = T.ro k) := hst
            clear hst hu hp hm30 hx5
            go_wp2_with fail
            generalize (wr.alloc (.cells #[.int .i64 t.sq, .int .i64 t.mt] 92)) = W at *
            have q0 := P.out.t0; have q1 := P.out.t1; have ca := P.out.co a ha
            have sS : W.drew.cell? ⟨wr.heap.size, 0, none⟩ = some (I t.sq) ∧ W.drew.cell? ⟨wr.heap.size, 1, none⟩ = some (I t.mt) ∧ W.drew.cell? ⟨w.heap.size + 1, a, none⟩ = some (I (f a)) := ⟨q0, q1, ca⟩
            clear q0 q1 ca
            go_region_held3 (fun w' => w'.cell? ⟨wr.heap.size, 0, none⟩ = some (I t.sq) ∧ w'.cell? ⟨wr.heap.size, 1, none⟩ = some (I t.mt) ∧ w'.cell? ⟨w.heap.size + 1, a, none⟩ = some (I (f a)))
              (first | with_reducible exact sS | exact ⟨P.out.t0, P.out.t1, P.out.co a ha⟩)
              (first | (go_at_call 82; refine (FU _ P.out.kt).mono ?_; rintro e w1 ⟨rfl, hb1⟩; replace P : Hid (Hrs w w1 b o (hearT T f self a m k) f t wr.heap.size (w.heap.size + 1)) := P.out.step hb1; clear hb1))
            clear sS
            have q0 := P.out.t0; have q1 := P.out.t1; have c0 := P.out.co 0 (by omega); have c1 := P.out.co 1 (by omega); have c2 := P.out.co 2 (by omega); have c3 := P.out.co 3 (by omega); have c4 := P.out.co 4 (by omega)
            go_wp2_with (go_at_call 84; refine (FP _ P.out.kt).mono ?_; rintro e w2 ⟨rfl, hb2⟩; replace P : Hid (Hrs w w2 b o (hearT T f self a m k) f t wr.heap.size (w.heap.size + 1)) := P.out.step hb2; clear hb2 q0 q1 c0 c1 c2 c3 c4)
            go_roundw
            case rel => exact ⟨k + 1, by omega, by go_num, by rw [hearT_stay _ _ _ _ _ _ (by rw [htt]; exact HS.out)]; exact P.out.kt, P.out.c, P.out.fr⟩
            case measure => simp [intOf]; omega
        · have FU : ∀ W : World, KT W b o (hearT T f self a m k) → Calls Try.prog 82 #[.pointer (some ⟨b, o, none⟩), .int .i64 k, .agg (bsA t), .int .i64 (f a)] W fun e w' => e = .returned (.bool false) ∧ Below W.heap.size W w' := fun W h => by
            have := usable_any b o k (hearT T f self a m k) t (f a) W hk5 h t0 t1 f0 f9
            rw [decide_eq_false (p := bet t ((hearT T f self a m k).be k) ∧ t.mt + f a ≤ 30) hu] at this
            exact this
          have hst : heard T f a k t = if (T.ro k).nx = a then noRt else T.ro k := by unfold heard; rw [if_neg hu]
          have HS : Hid (heard T f a k t = if (T.ro k).nx = a then noRt else T.ro k) := hst
          clear hst hu hm30 hx5
          go_wp2_with fail
          generalize (wr.alloc (.cells #[.int .i64 t.sq, .int .i64 t.mt] 92)) = W at *
          have q0 := P.out.t0; have q1 := P.out.t1; have ca := P.out.co a ha
          have sS : W.drew.cell? ⟨wr.heap.size, 0, none⟩ = some (I t.sq) ∧ W.drew.cell? ⟨wr.heap.size, 1, none⟩ = some (I t.mt) ∧ W.drew.cell? ⟨w.heap.size + 1, a, none⟩ = some (I (f a)) := ⟨q0, q1, ca⟩
          clear q0 q1 ca
          go_region_held3 (fun w' => w'.cell? ⟨wr.heap.size, 0, none⟩ = some (I t.sq) ∧ w'.cell? ⟨wr.heap.size, 1, none⟩ = some (I t.mt) ∧ w'.cell? ⟨w.heap.size + 1, a, none⟩ = some (I (f a)))
            (first | with_reducible exact sS | exact ⟨P.out.t0, P.out.t1, P.out.co a ha⟩)
            (first | (go_at_call 82; refine (FU _ P.out.kt).mono ?_; rintro e w1 ⟨rfl, hb1⟩; replace P : Hid (Hrs w w1 b o (hearT T f self a m k) f t wr.heap.size (w.heap.size + 1)) := P.out.step hb1; clear hb1))
          clear sS
          go_wp2_with (go_at_call 83; refine (dropif_any b o k (a : Int) (hearT T f self a m k) _ hk5 P.out.kt).mono ?_; rintro e w2 ⟨rfl, t3, t4⟩)
          go_roundw
          case rel => exact ⟨k + 1, by omega, by go_num, by
            rw [hro] at t3
            rw [hearT_step _ _ _ _ _ _ hks, htt, HS.out]
            by_cases hx : (T.ro k).nx = a
            · rw [if_pos hx] at t3 ⊢; exact t3
            · rw [if_neg hx] at t3 ⊢; rw [← hro, setRo_self]; exact t3, P.out.c.of (t4.only.block _ P.out.c.lt hqb), P.out.fr.trans t4⟩
          case measure => simp [intOf]; omega
    · have hk6 : k = 5 := by omega
      subst hk6
      go_wp2
      go_end0
      exact ⟨rfl, q1, q3⟩
end Go.Proofs.Ytdoodnbobpijoaa
