import Derived.Test.YtdoodnbobpijoaaProB
namespace Go.Proofs.Ytdoodnbobpijoaa
open Go.RowKit

theorem sizeL : (Try.prog.info? 92).map (·.size) = some 2 := by kernel_rfl
/-- The block of a result of two cells, written over. -/
theorem Whole.telling {w : World} {b : Nat} {t : TypeId} {C : Array Value} (h : Whole w b t C) (hs : C.size = 2) (x : Bs) : Whole ((w.setCell ⟨b, 0, none⟩ (I x.sq)).setCell ⟨b, 1, none⟩ (I x.mt)) b t (bsA x) := by
  have := (h.setAt 0 (I x.sq)).setAt 1 (I x.mt)
  have e : ((C.setIfInBounds 0 (I x.sq)).setIfInBounds 1 (I x.mt)) = bsA x := by
    apply Array.ext (by simp [hs])
    intro j h1 h2
    have h3 : j < 2 := by simpa using h2
    have := getElem?_set2 C 0 (I x.sq) (I x.mt) (by omega) j
    simp only [Nat.zero_add] at this
    rw [Array.getElem?_eq_getElem h1] at this
    have h4 : j = 0 ∨ j = 1 := by omega
    rcases h4 with rfl | rfl
    · rw [if_pos rfl] at this; exact Option.some.inj this
    · rw [if_neg (by omega), if_pos rfl] at this; exact Option.some.inj this
  rw [e] at this
  exact this
theorem four_below2 {w w' : World} {a b c d : Addr} {p q r s : Value} (h : w.cell? a = some p ∧ w.cell? b = some q ∧ w.cell? c = some r ∧ w.cell? d = some s) (hb : Below w.heap.size w w') : w'.cell? a = some p ∧ w'.cell? b = some q ∧ w'.cell? c = some r ∧ w'.cell? d = some s :=
  ⟨cell_below h.1 hb, cell_below h.2.1 hb, cell_below h.2.2.1 hb, cell_below h.2.2.2 hb⟩
theorem four_set {w : World} {a b c d : Addr} {p q r s : Value} (h : w.cell? a = some p ∧ w.cell? b = some q ∧ w.cell? c = some r ∧ w.cell? d = some s) (x : Addr) (v : Value) (ha : x.block ≠ a.block) (hb : x.block ≠ b.block) (hc : x.block ≠ c.block) (hd : x.block ≠ d.block) : (w.setCell x v).cell? a = some p ∧ (w.setCell x v).cell? b = some q ∧ (w.setCell x v).cell? c = some r ∧ (w.setCell x v).cell? d = some s := by
  refine ⟨?_, ?_, ?_, ?_⟩
  · rw [World.cell?_setCell_other _ _ _ _ (fun e => ha (congrArg Addr.block e))]; exact h.1
  · rw [World.cell?_setCell_other _ _ _ _ (fun e => hb (congrArg Addr.block e))]; exact h.2.1
  · rw [World.cell?_setCell_other _ _ _ _ (fun e => hc (congrArg Addr.block e))]; exact h.2.2.1
  · rw [World.cell?_setCell_other _ _ _ _ (fun e => hd (congrArg Addr.block e))]; exact h.2.2.2
attribute [local go_sem ↓] Go.wp_at_zero Go.wp_at_succ
set_option maxHeartbeats 2000000 in
theorem telling_any (b o d : Nat) (T : Tb) (f : Nat → Int) (w : World) (hd : d < 5) (hK : KT w b o T) (h0 : 0 ≤ (T.ro d).nx) (h5 : (T.ro d).nx < 5) (m0 : 0 ≤ (T.ro d).mt) (m1 : (T.ro d).mt ≤ 30) (c0 : 0 ≤ f (T.ro d).nx.toNat) (c9 : f (T.ro d).nx.toNat ≤ 9) :
    Calls Try.prog 103 #[.pointer (some ⟨b, o, none⟩), .int .i64 d, .agg (coA f)] w fun e w' => e = .returned (.agg (bsA ⟨(T.ro d).sq, (T.ro d).mt + f (T.ro d).nx.toNat⟩)) ∧ Below w.heap.size w w' := by
  obtain ⟨d0, d1, d2, d3, d4⟩ := hK.ro5 d hd
  have hlt := hK.lt
  have hd' : (d : Int) < 5 := by omega
  clear hK
  generalize T.ro d = x at *
  obtain ⟨xn, xs, xm, xa, xt⟩ := x
  simp only at h0 h5 m0 m1 c0 c9 d0 d1 d2 d3 d4 ⊢
  obtain ⟨y, rfl⟩ := Int.eq_ofNat_of_zero_le h0
  rw [Int.toNat_natCast] at c0 c9 ⊢
  have hy : y < 5 := by omega
  have cy := coA_at f y hy
  have n0 : Whole (((w.alloc (.cells (coA f) 85)).alloc (.cells #[.int .i64 0, .int .i64 0] 92)).alloc (.cells #[.int .i64 (y : Int), .int .i64 xs, .int .i64 xm, .int .i64 xa, .int .i64 xt] 47)) w.heap.size 85 (coA f) := ((Whole.new w _ _).alloc _).alloc _
  have n1 : Whole (((w.alloc (.cells (coA f) 85)).alloc (.cells #[.int .i64 0, .int .i64 0] 92)).alloc (.cells #[.int .i64 (y : Int), .int .i64 xs, .int .i64 xm, .int .i64 xa, .int .i64 xt] 47)) (w.heap.size + 1) 92 (bsA ⟨0, 0⟩) := by
    have := (Whole.new (w.alloc (.cells (coA f) 85)) 92 (bsA ⟨0, 0⟩)).alloc (.cells #[.int .i64 (y : Int), .int .i64 xs, .int .i64 xm, .int .i64 xa, .int .i64 xt] 47)
    simp only [World.size_alloc] at this
    exact this
  have n2 : Whole (((w.alloc (.cells (coA f) 85)).alloc (.cells #[.int .i64 0, .int .i64 0] 92)).alloc (.cells #[.int .i64 (y : Int), .int .i64 xs, .int .i64 xm, .int .i64 xa, .int .i64 xt] 47)) (w.heap.size + 1 + 1) 47 (rtA ⟨y, xs, xm, xa, xt⟩) := by
    have := Whole.new ((w.alloc (.cells (coA f) 85)).alloc (.cells #[.int .i64 0, .int .i64 0] 92)) 47 (rtA ⟨y, xs, xm, xa, xt⟩)
    simp only [World.size_alloc] at this
    exact this
  have nb : Below w.heap.size w (((w.alloc (.cells (coA f) 85)).alloc (.cells #[.int .i64 0, .int .i64 0] 92)).alloc (.cells #[.int .i64 (y : Int), .int .i64 xs, .int .i64 xm, .int .i64 xa, .int .i64 xt] 47)) := (((Below.refl _ _).alloc (Nat.le_refl _) _).alloc (by simp) _).alloc (by simp; omega) _
  have HN0 := n0.cell; have HN2 := n2.cell
  go_enter Try.func103, Try.ntmps103
  go_wp2_with fail
  generalize ((w.alloc (.cells (coA f) 85)).alloc (.cells #[.int .i64 0, .int .i64 0] 92)).alloc (.cells #[.int .i64 (y : Int), .int .i64 xs, .int .i64 xm, .int .i64 xa, .int .i64 xt] 47) = W at *
  have sS : W.drew.cell? ⟨w.heap.size + 1 + 1, 0, none⟩ = some (I (y : Int)) ∧ W.drew.cell? ⟨w.heap.size + 1 + 1, 1, none⟩ = some (I xs) ∧ W.drew.cell? ⟨w.heap.size + 1 + 1, 2, none⟩ = some (I xm) ∧ W.drew.cell? ⟨w.heap.size, y, none⟩ = some (I (f y)) := ⟨n2.cell 0, n2.cell 1, n2.cell 2, (n0.cell y).trans cy⟩
  have z1 := nb.size
  have z2 := n2.lt
  have N1 : Hid (Whole W (w.heap.size + 1) 92 (bsA ⟨0, 0⟩)) := n1
  have NB : Hid (Below w.heap.size w W) := nb
  clear n0 n1 n2 nb HN0 HN2 d0 d1 d2 d3 d4
  go_region_held3 (fun w' => w'.cell? ⟨w.heap.size + 1 + 1, 0, none⟩ = some (I (y : Int)) ∧ w'.cell? ⟨w.heap.size + 1 + 1, 1, none⟩ = some (I xs) ∧ w'.cell? ⟨w.heap.size + 1 + 1, 2, none⟩ = some (I xm) ∧ w'.cell? ⟨w.heap.size, y, none⟩ = some (I (f y)))
    (first | with_reducible exact sS | with_reducible exact four_below2 sS hb1 | exact four_set (four_set (four_below2 sS hb1) _ _ (by dsimp only; omega) (by dsimp only; omega) (by dsimp only; omega) (by dsimp only; omega)) _ _ (by dsimp only; omega) (by dsimp only; omega) (by dsimp only; omega) (by dsimp only; omega))
    (first | (go_at_call 108; refine (farther_any ⟨xs, xm⟩ (f y) _ m0 m1 c0 c9).mono ?_; rintro e w1 ⟨rfl, hb1⟩; have p1 := N1.out.drew.below hb1; have pc := p1.cell; have pf := p1.frozen; have pl := p1.lt))
  go_wp2
  refine bodyPost_ret (v := .agg (bsA ⟨xs, xm + f y⟩)) (results_cell0 (t := 92) rfl _ _ (w.heap.size + 1) (bsA ⟨xs, xm + f y⟩) rfl (p1.telling rfl ⟨xs, xm + f y⟩) _ Try.underlying92 rfl (by rw [sizeL]; rfl)) rfl ⟨rfl, ?_⟩
  exact ((NB.out.drew.trans (hb1.mono z1)).setCell (p := ⟨w.heap.size + 1, 0, none⟩) (by dsimp only; omega) _).setCell (p := ⟨w.heap.size + 1, 1, none⟩) (by dsimp only; omega) _
theorem woK_end {w : World} {b o : Nat} {T : Tb} {x : Int} (h : KT w b o (woK T x 5)) : KT w b o (wo T x) :=
  ⟨fun j hj => by
    rw [h.at_ j hj]
    have := woK_five T x
    have e1 := tbA_at (woK T x 5) j hj
    rw [this, tbA_at _ _ hj] at e1
    exact e1.symm, h.fz⟩
set_option maxHeartbeats 1000000 in
theorem dropby_any (b o : Nat) (x : Int) (T : Tb) (w : World) (hK : KT w b o T) : Calls Try.prog 102 #[.pointer (some ⟨b, o, none⟩), .int .i64 x] w fun e w' => e = .returned (.tuple #[]) ∧ KT w' b o (wo T x) ∧ Fr w w' b o := by
  go_enter Try.func102, Try.ntmps102
  go_wp2
  go_loopw [5] (fun i wr => ∃ k : Nat, k ≤ 5 ∧ i = .int .i64 k ∧ KT wr b o (woK T x k) ∧ Fr w wr b o) (fun i _ => 5 - (intOf i).toNat)
  case atStart => exact ⟨0, by omega, rfl, by rw [woK_zero]; exact hK, Fr.refl _ _ _⟩
  case round =>
    obtain ⟨k, hk, rfl, q1, q2⟩ := hrel
    by_cases hk5 : k < 5
    · have hk' : (k : Int) < 5 := by omega
      go_wp2_with (go_at_call 83; refine (dropif_any b o k x _ _ hk5 q1).mono ?_; rintro e w1 ⟨rfl, t1, t2⟩)
      go_roundw
      case rel =>
        refine ⟨k + 1, by omega, by go_num, ?_, q2.trans t2⟩
        rw [woK_ro] at t1
        by_cases hx : (T.ro k).nx = x
        · rw [if_pos hx] at t1; rw [woK_hit T x k hx]; exact t1
        · rw [if_neg hx] at t1; rw [woK_miss T x k hx]; exact t1
      case measure => simp [intOf]; omega
    · have hk6 : k = 5 := by omega
      subst hk6
      go_wp2
      go_end0
      exact ⟨rfl, woK_end q1, q2⟩
end Go.Proofs.Ytdoodnbobpijoaa
