import Derived.Test.YtdoodnbobpijoaaRefG
namespace Go.Proofs.Ytdoodnbobpijoaa
open Go.RowKit

/-! ### What a router makes of a telling -/
theorem cell_below {w w' : World} {a : Addr} {p : Value} (hx : w.cell? a = some p) (hb : Below w.heap.size w w') : w'.cell? a = some p := by
  have : a.block < w.heap.size := by
    rcases Nat.lt_or_ge a.block w.heap.size with hlt | hge
    · exact hlt
    · simp [World.cell?, Array.getElem?_eq_none hge] at hx
  rw [World.cell?_of_block (w := w) (hb.block a.block this)]; exact hx
theorem seven_below {w w' : World} {a b c d e f g : Addr} {p q r s t u v : Value} (h : w.cell? a = some p ∧ w.cell? b = some q ∧ w.cell? c = some r ∧ w.cell? d = some s ∧ w.cell? e = some t ∧ w.cell? f = some u ∧ w.cell? g = some v) (hb : Below w.heap.size w w') : w'.cell? a = some p ∧ w'.cell? b = some q ∧ w'.cell? c = some r ∧ w'.cell? d = some s ∧ w'.cell? e = some t ∧ w'.cell? f = some u ∧ w'.cell? g = some v :=
  ⟨cell_below h.1 hb, cell_below h.2.1 hb, cell_below h.2.2.1 hb, cell_below h.2.2.2.1 hb, cell_below h.2.2.2.2.1 hb, cell_below h.2.2.2.2.2.1 hb, cell_below h.2.2.2.2.2.2 hb⟩
attribute [local go_sem ↓] Go.wp_at_zero Go.wp_at_succ
theorem results_cell0 {fn : Func} {p : Tmp} {t : TypeId} (h : fn.results = #[.cell p t]) (tmps : Array Value) (w : World) (g : Nat) (T : Array Value)
    (hp : tmps.getD p undef = .pointer (some ⟨g, 0, none⟩)) (hg : Whole w g t T) (d : TypeDesc)
    (hu : Try.prog.underlying t = some d) (hd : d.isRow = true) (hi : (Try.prog.info? t).map (·.size) = some T.size) :
    (results fn tmps).run Try.prog w = .ok (.agg T) w := by
  have hp' : tmps[p]?.getD undef = .pointer (some ⟨g, 0, none⟩) := by simpa using hp
  have e1 := run_loadVar_row (P := Try.prog) w g t t T (0, 0) d hg.is hu (by cases d <;> simp_all [TypeDesc.isRow]) hi
  simp [results, h, hp', asAddr, e1]
theorem sizeR : (Try.prog.info? 47).map (·.size) = some 5 := by kernel_rfl
/-- The block of a result of five cells, written over. -/
theorem Whole.route {w : World} {b : Nat} {t : TypeId} {C : Array Value} (h : Whole w b t C) (hs : C.size = 5) (x : Rt) :
    Whole (((((w.setCell ⟨b, 0, none⟩ (I x.nx)).setCell ⟨b, 1, none⟩ (I x.sq)).setCell ⟨b, 2, none⟩ (I x.mt)).setCell ⟨b, 3, none⟩ (I x.ag)).setCell ⟨b, 4, none⟩ (I x.st)) b t (rtA x) := by
  have := ((((h.setAt 0 (I x.nx)).setAt 1 (I x.sq)).setAt 2 (I x.mt)).setAt 3 (I x.ag)).setAt 4 (I x.st)
  have e : (((((C.setIfInBounds 0 (I x.nx)).setIfInBounds 1 (I x.sq)).setIfInBounds 2 (I x.mt)).setIfInBounds 3 (I x.ag)).setIfInBounds 4 (I x.st)) = rtA x := by
    apply Array.ext (by simp [hs])
    intro j h1 h2
    have h3 : j < 5 := by simpa using h2
    have := getElem?_set5 C 0 (I x.nx) (I x.sq) (I x.mt) (I x.ag) (I x.st) (by omega) j
    simp only [Nat.zero_add] at this
    rw [Array.getElem?_eq_getElem h1] at this
    have h4 : j = 0 ∨ j = 1 ∨ j = 2 ∨ j = 3 ∨ j = 4 := by omega
    rcases h4 with rfl | rfl | rfl | rfl | rfl
    · rw [if_pos rfl] at this; exact Option.some.inj this
    · rw [if_neg (by omega), if_pos rfl] at this; exact Option.some.inj this
    · rw [if_neg (by omega), if_neg (by omega), if_pos rfl] at this; exact Option.some.inj this
    · rw [if_neg (by omega), if_neg (by omega), if_neg (by omega), if_pos rfl] at this; exact Option.some.inj this
    · rw [if_neg (by omega), if_neg (by omega), if_neg (by omega), if_neg (by omega), if_pos rfl] at this; exact Option.some.inj this
  rw [e] at this
  exact this
set_option maxHeartbeats 2000000 in
set_option maxRecDepth 100000 in
theorem takes_d1 (b a r : Nat) (x : Rt) (best t : Bs) (A : Nt) (V : Nat → Nat → Value) (w : World) (ha : a < 5) (hr : r < 5) (g : Good A) (hR : RN w b A V) (_hx5 : x.nx < 5) (_hx0 : 0 ≤ x.nx → 0 ≤ x.mt ∧ x.mt ≤ 30) (ht0 : 0 ≤ t.mt) (ht1 : t.mt ≤ 30) (hdrop : t.sq < 0 ∨ ¬ bet t best ∨ 30 < t.mt + A.co a r) (hmine : x.nx = a) :
    Calls Try.prog 117 #[.pointer (some ⟨b, 0, none⟩), .int .i64 r, .int .i64 a, .agg (rtA x), .agg (bsA best), .agg (bsA t)] w fun e w' => e = .returned (.agg (rtA noRt)) ∧ Below w.heap.size w w' := by
  have ha' : (a : Int) < 5 := by omega
  have hr' : (r : Int) < 5 := by omega
  have hc := hR.c a r ha hr
  have c0 := g.c0 a r
  have c9 := g.c9 a r
  have hlt := hR.lt
  have n0 : Whole ((((w.alloc (.cells (rtA x) 47)).alloc (.cells (bsA best) 50)).alloc (.cells (bsA t) 50)).alloc (.cells #[.int .i64 0, .int .i64 0, .int .i64 0, .int .i64 0, .int .i64 0] 47)) w.heap.size 47 (rtA x) := (((Whole.new w _ _).alloc _).alloc _).alloc _
  have n1 : Whole ((((w.alloc (.cells (rtA x) 47)).alloc (.cells (bsA best) 50)).alloc (.cells (bsA t) 50)).alloc (.cells #[.int .i64 0, .int .i64 0, .int .i64 0, .int .i64 0, .int .i64 0] 47)) (w.heap.size + 1) 50 (bsA best) := by
    have := ((Whole.new (w.alloc (.cells (rtA x) 47)) 50 (bsA best)).alloc (.cells (bsA t) 50)).alloc (.cells #[.int .i64 0, .int .i64 0, .int .i64 0, .int .i64 0, .int .i64 0] 47)
    simp only [World.size_alloc] at this
    exact this
  have n2 : Whole ((((w.alloc (.cells (rtA x) 47)).alloc (.cells (bsA best) 50)).alloc (.cells (bsA t) 50)).alloc (.cells #[.int .i64 0, .int .i64 0, .int .i64 0, .int .i64 0, .int .i64 0] 47)) (w.heap.size + 1 + 1) 50 (bsA t) := by
    have := (Whole.new ((w.alloc (.cells (rtA x) 47)).alloc (.cells (bsA best) 50)) 50 (bsA t)).alloc (.cells #[.int .i64 0, .int .i64 0, .int .i64 0, .int .i64 0, .int .i64 0] 47)
    simp only [World.size_alloc] at this
    exact this
  have n3 : Whole ((((w.alloc (.cells (rtA x) 47)).alloc (.cells (bsA best) 50)).alloc (.cells (bsA t) 50)).alloc (.cells #[.int .i64 0, .int .i64 0, .int .i64 0, .int .i64 0, .int .i64 0] 47)) (w.heap.size + 1 + 1 + 1) 47 (rtA ⟨0, 0, 0, 0, 0⟩) := by
    have := Whole.new (((w.alloc (.cells (rtA x) 47)).alloc (.cells (bsA best) 50)).alloc (.cells (bsA t) 50)) 47 (rtA ⟨0, 0, 0, 0, 0⟩)
    simp only [World.size_alloc] at this
    exact this
  have nb : Below w.heap.size w ((((w.alloc (.cells (rtA x) 47)).alloc (.cells (bsA best) 50)).alloc (.cells (bsA t) 50)).alloc (.cells #[.int .i64 0, .int .i64 0, .int .i64 0, .int .i64 0, .int .i64 0] 47)) := ((((Below.refl _ _).alloc (Nat.le_refl _) _).alloc (by simp) _).alloc (by simp; omega) _).alloc (by simp; omega) _
  have hc4 := (World.cell?_of_block (w := w) (a := ⟨b, 371 + a * 5 + r, none⟩) (nb.block b hlt)).trans hc
  have HG : Hid (Good A) := g; clear g
  have HR : Hid (RN w b A V) := hR; clear hR
  have N0 : Hid (Whole ((((w.alloc (.cells (rtA x) 47)).alloc (.cells (bsA best) 50)).alloc (.cells (bsA t) 50)).alloc (.cells #[.int .i64 0, .int .i64 0, .int .i64 0, .int .i64 0, .int .i64 0] 47)) w.heap.size 47 (rtA x)) := n0; clear n0
  have N1 : Hid (Whole ((((w.alloc (.cells (rtA x) 47)).alloc (.cells (bsA best) 50)).alloc (.cells (bsA t) 50)).alloc (.cells #[.int .i64 0, .int .i64 0, .int .i64 0, .int .i64 0, .int .i64 0] 47)) (w.heap.size + 1) 50 (bsA best)) := n1; clear n1
  have N2 : Hid (Whole ((((w.alloc (.cells (rtA x) 47)).alloc (.cells (bsA best) 50)).alloc (.cells (bsA t) 50)).alloc (.cells #[.int .i64 0, .int .i64 0, .int .i64 0, .int .i64 0, .int .i64 0] 47)) (w.heap.size + 1 + 1) 50 (bsA t)) := n2; clear n2
  have N3 : Hid (Whole ((((w.alloc (.cells (rtA x) 47)).alloc (.cells (bsA best) 50)).alloc (.cells (bsA t) 50)).alloc (.cells #[.int .i64 0, .int .i64 0, .int .i64 0, .int .i64 0, .int .i64 0] 47)) (w.heap.size + 1 + 1 + 1) 47 (rtA ⟨0, 0, 0, 0, 0⟩)) := n3; clear n3
  have NB : Hid (Below w.heap.size w ((((w.alloc (.cells (rtA x) 47)).alloc (.cells (bsA best) 50)).alloc (.cells (bsA t) 50)).alloc (.cells #[.int .i64 0, .int .i64 0, .int .i64 0, .int .i64 0, .int .i64 0] 47))) := nb; clear nb
  have key : (∃ bt, decide (t.sq < 0) = true ∧ decide (bet t best) = bt) ∨ (∃ bt, bt = false ∧ decide (t.sq < 0) = false ∧ decide (bet t best) = bt) ∨ (∃ bt, bt = true ∧ decide (t.sq < 0) = false ∧ decide (bet t best) = bt ∧ 30 < t.mt + A.co a r) := by
    by_cases h1 : t.sq < 0
    · exact .inl ⟨_, by simpa using h1, rfl⟩
    · by_cases h2 : bet t best
      · exact .inr (.inr ⟨_, rfl, by simpa using h1, by simpa using h2, by omega⟩)
      · exact .inr (.inl ⟨_, rfl, by simpa using h1, by simpa using h2⟩)
  have hmine' : (x.nx == (a : Int)) = true := by simp [hmine]
  rcases key with ⟨bt, h1, hbt⟩ | ⟨bt, rfl, h1, hbt⟩ | ⟨bt, rfl, h1, hbt, h30⟩
  all_goals
    go_enter Try.func117, Try.ntmps117
    go_wp2_with (first | (go_at_call 122; refine (better_any t best _).mono ?_; rw [hbt]; rintro e w1 ⟨rfl, hb1⟩; have p0 := N0.out.below hb1; have p2 := N2.out.below hb1; have p3 := N3.out.below hb1; have pb := NB.out.trans (hb1.mono (by simp; omega)); have q0 := p0.cell; have q2 := p2.cell; have q3 := p3.cell; have f3 := p3.frozen; have l3 := p3.lt) | (go_at_call 109; refine (none_any _).mono ?_; rintro e w2 ⟨rfl, hb2⟩; have p4 := p3.below hb2; have pb4 := pb.trans (hb2.mono pb.size); have q4 := p4.cell; have f4 := p4.frozen; have l4 := p4.lt))
    refine bodyPost_ret (v := .agg (rtA noRt)) (results_cell0 (t := 47) rfl _ _ (w.heap.size + 1 + 1 + 1) (rtA noRt) rfl (p4.route rfl noRt) _ Try.underlying47 rfl (by rw [sizeR]; rfl)) rfl ⟨rfl, ?_⟩
    repeat (first | exact pb4 | refine Below.setCell ?_ (by dsimp only; omega) _)
set_option maxHeartbeats 2000000 in
set_option maxRecDepth 100000 in
theorem takes_d2 (b a r : Nat) (x : Rt) (best t : Bs) (A : Nt) (V : Nat → Nat → Value) (w : World) (ha : a < 5) (hr : r < 5) (g : Good A) (hR : RN w b A V) (_hx5 : x.nx < 5) (_hx0 : 0 ≤ x.nx → 0 ≤ x.mt ∧ x.mt ≤ 30) (ht0 : 0 ≤ t.mt) (ht1 : t.mt ≤ 30) (hdrop : t.sq < 0 ∨ ¬ bet t best ∨ 30 < t.mt + A.co a r) (hmine : ¬ x.nx = a) :
    Calls Try.prog 117 #[.pointer (some ⟨b, 0, none⟩), .int .i64 r, .int .i64 a, .agg (rtA x), .agg (bsA best), .agg (bsA t)] w fun e w' => e = .returned (.agg (rtA x)) ∧ Below w.heap.size w w' := by
  have ha' : (a : Int) < 5 := by omega
  have hr' : (r : Int) < 5 := by omega
  have hc := hR.c a r ha hr
  have c0 := g.c0 a r
  have c9 := g.c9 a r
  have hlt := hR.lt
  have n0 : Whole ((((w.alloc (.cells (rtA x) 47)).alloc (.cells (bsA best) 50)).alloc (.cells (bsA t) 50)).alloc (.cells #[.int .i64 0, .int .i64 0, .int .i64 0, .int .i64 0, .int .i64 0] 47)) w.heap.size 47 (rtA x) := (((Whole.new w _ _).alloc _).alloc _).alloc _
  have n1 : Whole ((((w.alloc (.cells (rtA x) 47)).alloc (.cells (bsA best) 50)).alloc (.cells (bsA t) 50)).alloc (.cells #[.int .i64 0, .int .i64 0, .int .i64 0, .int .i64 0, .int .i64 0] 47)) (w.heap.size + 1) 50 (bsA best) := by
    have := ((Whole.new (w.alloc (.cells (rtA x) 47)) 50 (bsA best)).alloc (.cells (bsA t) 50)).alloc (.cells #[.int .i64 0, .int .i64 0, .int .i64 0, .int .i64 0, .int .i64 0] 47)
    simp only [World.size_alloc] at this
    exact this
  have n2 : Whole ((((w.alloc (.cells (rtA x) 47)).alloc (.cells (bsA best) 50)).alloc (.cells (bsA t) 50)).alloc (.cells #[.int .i64 0, .int .i64 0, .int .i64 0, .int .i64 0, .int .i64 0] 47)) (w.heap.size + 1 + 1) 50 (bsA t) := by
    have := (Whole.new ((w.alloc (.cells (rtA x) 47)).alloc (.cells (bsA best) 50)) 50 (bsA t)).alloc (.cells #[.int .i64 0, .int .i64 0, .int .i64 0, .int .i64 0, .int .i64 0] 47)
    simp only [World.size_alloc] at this
    exact this
  have n3 : Whole ((((w.alloc (.cells (rtA x) 47)).alloc (.cells (bsA best) 50)).alloc (.cells (bsA t) 50)).alloc (.cells #[.int .i64 0, .int .i64 0, .int .i64 0, .int .i64 0, .int .i64 0] 47)) (w.heap.size + 1 + 1 + 1) 47 (rtA ⟨0, 0, 0, 0, 0⟩) := by
    have := Whole.new (((w.alloc (.cells (rtA x) 47)).alloc (.cells (bsA best) 50)).alloc (.cells (bsA t) 50)) 47 (rtA ⟨0, 0, 0, 0, 0⟩)
    simp only [World.size_alloc] at this
    exact this
  have nb : Below w.heap.size w ((((w.alloc (.cells (rtA x) 47)).alloc (.cells (bsA best) 50)).alloc (.cells (bsA t) 50)).alloc (.cells #[.int .i64 0, .int .i64 0, .int .i64 0, .int .i64 0, .int .i64 0] 47)) := ((((Below.refl _ _).alloc (Nat.le_refl _) _).alloc (by simp) _).alloc (by simp; omega) _).alloc (by simp; omega) _
  have hc4 := (World.cell?_of_block (w := w) (a := ⟨b, 371 + a * 5 + r, none⟩) (nb.block b hlt)).trans hc
  have HG : Hid (Good A) := g; clear g
  have HR : Hid (RN w b A V) := hR; clear hR
  have N0 : Hid (Whole ((((w.alloc (.cells (rtA x) 47)).alloc (.cells (bsA best) 50)).alloc (.cells (bsA t) 50)).alloc (.cells #[.int .i64 0, .int .i64 0, .int .i64 0, .int .i64 0, .int .i64 0] 47)) w.heap.size 47 (rtA x)) := n0; clear n0
  have N1 : Hid (Whole ((((w.alloc (.cells (rtA x) 47)).alloc (.cells (bsA best) 50)).alloc (.cells (bsA t) 50)).alloc (.cells #[.int .i64 0, .int .i64 0, .int .i64 0, .int .i64 0, .int .i64 0] 47)) (w.heap.size + 1) 50 (bsA best)) := n1; clear n1
  have N2 : Hid (Whole ((((w.alloc (.cells (rtA x) 47)).alloc (.cells (bsA best) 50)).alloc (.cells (bsA t) 50)).alloc (.cells #[.int .i64 0, .int .i64 0, .int .i64 0, .int .i64 0, .int .i64 0] 47)) (w.heap.size + 1 + 1) 50 (bsA t)) := n2; clear n2
  have N3 : Hid (Whole ((((w.alloc (.cells (rtA x) 47)).alloc (.cells (bsA best) 50)).alloc (.cells (bsA t) 50)).alloc (.cells #[.int .i64 0, .int .i64 0, .int .i64 0, .int .i64 0, .int .i64 0] 47)) (w.heap.size + 1 + 1 + 1) 47 (rtA ⟨0, 0, 0, 0, 0⟩)) := n3; clear n3
  have NB : Hid (Below w.heap.size w ((((w.alloc (.cells (rtA x) 47)).alloc (.cells (bsA best) 50)).alloc (.cells (bsA t) 50)).alloc (.cells #[.int .i64 0, .int .i64 0, .int .i64 0, .int .i64 0, .int .i64 0] 47))) := nb; clear nb
  have key : (∃ bt, decide (t.sq < 0) = true ∧ decide (bet t best) = bt) ∨ (∃ bt, bt = false ∧ decide (t.sq < 0) = false ∧ decide (bet t best) = bt) ∨ (∃ bt, bt = true ∧ decide (t.sq < 0) = false ∧ decide (bet t best) = bt ∧ 30 < t.mt + A.co a r) := by
    by_cases h1 : t.sq < 0
    · exact .inl ⟨_, by simpa using h1, rfl⟩
    · by_cases h2 : bet t best
      · exact .inr (.inr ⟨_, rfl, by simpa using h1, by simpa using h2, by omega⟩)
      · exact .inr (.inl ⟨_, rfl, by simpa using h1, by simpa using h2⟩)
  have hmine' : (x.nx == (a : Int)) = false := by simp [hmine]
  rcases key with ⟨bt, h1, hbt⟩ | ⟨bt, rfl, h1, hbt⟩ | ⟨bt, rfl, h1, hbt, h30⟩
  all_goals
    go_enter Try.func117, Try.ntmps117
    go_wp2_with (first | (go_at_call 122; refine (better_any t best _).mono ?_; rw [hbt]; rintro e w1 ⟨rfl, hb1⟩; have p0 := N0.out.below hb1; have p2 := N2.out.below hb1; have p3 := N3.out.below hb1; have pb := NB.out.trans (hb1.mono (by simp; omega)); have q0 := p0.cell; have q2 := p2.cell; have q3 := p3.cell; have f3 := p3.frozen; have l3 := p3.lt))
    refine bodyPost_ret (v := .agg (rtA x)) (results_cell0 (t := 47) rfl _ _ (w.heap.size + 1 + 1 + 1) (rtA x) rfl (p3.route rfl x) _ Try.underlying47 rfl (by rw [sizeR]; rfl)) rfl ⟨rfl, ?_⟩
    repeat (first | exact pb | refine Below.setCell ?_ (by dsimp only; omega) _)
set_option maxHeartbeats 2000000 in
set_option maxRecDepth 100000 in
theorem takes_n1 (b a r : Nat) (x : Rt) (best t : Bs) (A : Nt) (V : Nat → Nat → Value) (w : World) (ha : a < 5) (hr : r < 5) (g : Good A) (hR : RN w b A V) (_hx5 : x.nx < 5) (_hx0 : 0 ≤ x.nx → 0 ≤ x.mt ∧ x.mt ≤ 30) (ht0 : 0 ≤ t.mt) (ht1 : t.mt ≤ 30) (h1 : decide (t.sq < 0) = false) (hbt : decide (bet t best) = true) (h30 : t.mt + A.co a r ≤ 30) (hn' : decide (x.nx < 0) = true) (hmine' : (x.nx == (a : Int)) = false) :
    Calls Try.prog 117 #[.pointer (some ⟨b, 0, none⟩), .int .i64 r, .int .i64 a, .agg (rtA x), .agg (bsA best), .agg (bsA t)] w fun e w' => e = .returned (.agg (rtA ⟨a, t.sq, t.mt, 0, 0⟩)) ∧ Below w.heap.size w w' := by
  have ha' : (a : Int) < 5 := by omega
  have hr' : (r : Int) < 5 := by omega
  have hc := hR.c a r ha hr
  have c0 := g.c0 a r
  have c9 := g.c9 a r
  have hlt := hR.lt
  have n0 : Whole ((((w.alloc (.cells (rtA x) 47)).alloc (.cells (bsA best) 50)).alloc (.cells (bsA t) 50)).alloc (.cells #[.int .i64 0, .int .i64 0, .int .i64 0, .int .i64 0, .int .i64 0] 47)) w.heap.size 47 (rtA x) := (((Whole.new w _ _).alloc _).alloc _).alloc _
  have n1 : Whole ((((w.alloc (.cells (rtA x) 47)).alloc (.cells (bsA best) 50)).alloc (.cells (bsA t) 50)).alloc (.cells #[.int .i64 0, .int .i64 0, .int .i64 0, .int .i64 0, .int .i64 0] 47)) (w.heap.size + 1) 50 (bsA best) := by
    have := ((Whole.new (w.alloc (.cells (rtA x) 47)) 50 (bsA best)).alloc (.cells (bsA t) 50)).alloc (.cells #[.int .i64 0, .int .i64 0, .int .i64 0, .int .i64 0, .int .i64 0] 47)
    simp only [World.size_alloc] at this
    exact this
  have n2 : Whole ((((w.alloc (.cells (rtA x) 47)).alloc (.cells (bsA best) 50)).alloc (.cells (bsA t) 50)).alloc (.cells #[.int .i64 0, .int .i64 0, .int .i64 0, .int .i64 0, .int .i64 0] 47)) (w.heap.size + 1 + 1) 50 (bsA t) := by
    have := (Whole.new ((w.alloc (.cells (rtA x) 47)).alloc (.cells (bsA best) 50)) 50 (bsA t)).alloc (.cells #[.int .i64 0, .int .i64 0, .int .i64 0, .int .i64 0, .int .i64 0] 47)
    simp only [World.size_alloc] at this
    exact this
  have n3 : Whole ((((w.alloc (.cells (rtA x) 47)).alloc (.cells (bsA best) 50)).alloc (.cells (bsA t) 50)).alloc (.cells #[.int .i64 0, .int .i64 0, .int .i64 0, .int .i64 0, .int .i64 0] 47)) (w.heap.size + 1 + 1 + 1) 47 (rtA ⟨0, 0, 0, 0, 0⟩) := by
    have := Whole.new (((w.alloc (.cells (rtA x) 47)).alloc (.cells (bsA best) 50)).alloc (.cells (bsA t) 50)) 47 (rtA ⟨0, 0, 0, 0, 0⟩)
    simp only [World.size_alloc] at this
    exact this
  have nb : Below w.heap.size w ((((w.alloc (.cells (rtA x) 47)).alloc (.cells (bsA best) 50)).alloc (.cells (bsA t) 50)).alloc (.cells #[.int .i64 0, .int .i64 0, .int .i64 0, .int .i64 0, .int .i64 0] 47)) := ((((Below.refl _ _).alloc (Nat.le_refl _) _).alloc (by simp) _).alloc (by simp; omega) _).alloc (by simp; omega) _
  have hc4 := (World.cell?_of_block (w := w) (a := ⟨b, 371 + a * 5 + r, none⟩) (nb.block b hlt)).trans hc
  have HG : Hid (Good A) := g; clear g
  have HR : Hid (RN w b A V) := hR; clear hR
  have N0 : Hid (Whole ((((w.alloc (.cells (rtA x) 47)).alloc (.cells (bsA best) 50)).alloc (.cells (bsA t) 50)).alloc (.cells #[.int .i64 0, .int .i64 0, .int .i64 0, .int .i64 0, .int .i64 0] 47)) w.heap.size 47 (rtA x)) := n0; clear n0
  have N1 : Hid (Whole ((((w.alloc (.cells (rtA x) 47)).alloc (.cells (bsA best) 50)).alloc (.cells (bsA t) 50)).alloc (.cells #[.int .i64 0, .int .i64 0, .int .i64 0, .int .i64 0, .int .i64 0] 47)) (w.heap.size + 1) 50 (bsA best)) := n1; clear n1
  have N2 : Hid (Whole ((((w.alloc (.cells (rtA x) 47)).alloc (.cells (bsA best) 50)).alloc (.cells (bsA t) 50)).alloc (.cells #[.int .i64 0, .int .i64 0, .int .i64 0, .int .i64 0, .int .i64 0] 47)) (w.heap.size + 1 + 1) 50 (bsA t)) := n2; clear n2
  have N3 : Hid (Whole ((((w.alloc (.cells (rtA x) 47)).alloc (.cells (bsA best) 50)).alloc (.cells (bsA t) 50)).alloc (.cells #[.int .i64 0, .int .i64 0, .int .i64 0, .int .i64 0, .int .i64 0] 47)) (w.heap.size + 1 + 1 + 1) 47 (rtA ⟨0, 0, 0, 0, 0⟩)) := n3; clear n3
  have NB : Hid (Below w.heap.size w ((((w.alloc (.cells (rtA x) 47)).alloc (.cells (bsA best) 50)).alloc (.cells (bsA t) 50)).alloc (.cells #[.int .i64 0, .int .i64 0, .int .i64 0, .int .i64 0, .int .i64 0] 47))) := nb; clear nb
  go_enter Try.func117, Try.ntmps117
  go_wp2_with (first | (go_at_call 122; refine (better_any t best _).mono ?_; rw [hbt]; rintro e w1 ⟨rfl, hb1⟩; have p0 := N0.out.below hb1; have p2 := N2.out.below hb1; have p3 := N3.out.below hb1; have pb := NB.out.trans (hb1.mono (by simp; omega)); have q0 := p0.cell; have q2 := p2.cell; have q3 := p3.cell; have f3 := p3.frozen; have l3 := p3.lt))
  go_quiet (fail)
  go_wp2
  have p3' := p3.drewN nq
  have pb' := below_drewN pb nq
  refine bodyPost_ret (v := .agg (rtA ⟨a, t.sq, t.mt, 0, 0⟩)) (results_cell0 (t := 47) rfl _ _ (w.heap.size + 1 + 1 + 1) (rtA ⟨a, t.sq, t.mt, 0, 0⟩) rfl (p3'.route rfl ⟨a, t.sq, t.mt, 0, 0⟩) _ Try.underlying47 rfl (by rw [sizeR]; rfl)) rfl ⟨rfl, ?_⟩
  repeat (first | exact pb' | refine Below.setCell ?_ (by dsimp only; omega) _)
set_option maxHeartbeats 2000000 in
set_option maxRecDepth 100000 in
theorem takes_n2 (b a r : Nat) (x : Rt) (best t : Bs) (A : Nt) (V : Nat → Nat → Value) (w : World) (ha : a < 5) (hr : r < 5) (g : Good A) (hR : RN w b A V) (_hx5 : x.nx < 5) (_hx0 : 0 ≤ x.nx → 0 ≤ x.mt ∧ x.mt ≤ 30) (ht0 : 0 ≤ t.mt) (ht1 : t.mt ≤ 30) (h1 : decide (t.sq < 0) = false) (hbt : decide (bet t best) = true) (h30 : t.mt + A.co a r ≤ 30) (hn' : decide (x.nx < 0) = false) (hmine' : (x.nx == (a : Int)) = true) :
    Calls Try.prog 117 #[.pointer (some ⟨b, 0, none⟩), .int .i64 r, .int .i64 a, .agg (rtA x), .agg (bsA best), .agg (bsA t)] w fun e w' => e = .returned (.agg (rtA ⟨a, t.sq, t.mt, 0, 0⟩)) ∧ Below w.heap.size w w' := by
  have ha' : (a : Int) < 5 := by omega
  have hr' : (r : Int) < 5 := by omega
  have hc := hR.c a r ha hr
  have c0 := g.c0 a r
  have c9 := g.c9 a r
  have hlt := hR.lt
  have n0 : Whole ((((w.alloc (.cells (rtA x) 47)).alloc (.cells (bsA best) 50)).alloc (.cells (bsA t) 50)).alloc (.cells #[.int .i64 0, .int .i64 0, .int .i64 0, .int .i64 0, .int .i64 0] 47)) w.heap.size 47 (rtA x) := (((Whole.new w _ _).alloc _).alloc _).alloc _
  have n1 : Whole ((((w.alloc (.cells (rtA x) 47)).alloc (.cells (bsA best) 50)).alloc (.cells (bsA t) 50)).alloc (.cells #[.int .i64 0, .int .i64 0, .int .i64 0, .int .i64 0, .int .i64 0] 47)) (w.heap.size + 1) 50 (bsA best) := by
    have := ((Whole.new (w.alloc (.cells (rtA x) 47)) 50 (bsA best)).alloc (.cells (bsA t) 50)).alloc (.cells #[.int .i64 0, .int .i64 0, .int .i64 0, .int .i64 0, .int .i64 0] 47)
    simp only [World.size_alloc] at this
    exact this
  have n2 : Whole ((((w.alloc (.cells (rtA x) 47)).alloc (.cells (bsA best) 50)).alloc (.cells (bsA t) 50)).alloc (.cells #[.int .i64 0, .int .i64 0, .int .i64 0, .int .i64 0, .int .i64 0] 47)) (w.heap.size + 1 + 1) 50 (bsA t) := by
    have := (Whole.new ((w.alloc (.cells (rtA x) 47)).alloc (.cells (bsA best) 50)) 50 (bsA t)).alloc (.cells #[.int .i64 0, .int .i64 0, .int .i64 0, .int .i64 0, .int .i64 0] 47)
    simp only [World.size_alloc] at this
    exact this
  have n3 : Whole ((((w.alloc (.cells (rtA x) 47)).alloc (.cells (bsA best) 50)).alloc (.cells (bsA t) 50)).alloc (.cells #[.int .i64 0, .int .i64 0, .int .i64 0, .int .i64 0, .int .i64 0] 47)) (w.heap.size + 1 + 1 + 1) 47 (rtA ⟨0, 0, 0, 0, 0⟩) := by
    have := Whole.new (((w.alloc (.cells (rtA x) 47)).alloc (.cells (bsA best) 50)).alloc (.cells (bsA t) 50)) 47 (rtA ⟨0, 0, 0, 0, 0⟩)
    simp only [World.size_alloc] at this
    exact this
  have nb : Below w.heap.size w ((((w.alloc (.cells (rtA x) 47)).alloc (.cells (bsA best) 50)).alloc (.cells (bsA t) 50)).alloc (.cells #[.int .i64 0, .int .i64 0, .int .i64 0, .int .i64 0, .int .i64 0] 47)) := ((((Below.refl _ _).alloc (Nat.le_refl _) _).alloc (by simp) _).alloc (by simp; omega) _).alloc (by simp; omega) _
  have hc4 := (World.cell?_of_block (w := w) (a := ⟨b, 371 + a * 5 + r, none⟩) (nb.block b hlt)).trans hc
  have HG : Hid (Good A) := g; clear g
  have HR : Hid (RN w b A V) := hR; clear hR
  have N0 : Hid (Whole ((((w.alloc (.cells (rtA x) 47)).alloc (.cells (bsA best) 50)).alloc (.cells (bsA t) 50)).alloc (.cells #[.int .i64 0, .int .i64 0, .int .i64 0, .int .i64 0, .int .i64 0] 47)) w.heap.size 47 (rtA x)) := n0; clear n0
  have N1 : Hid (Whole ((((w.alloc (.cells (rtA x) 47)).alloc (.cells (bsA best) 50)).alloc (.cells (bsA t) 50)).alloc (.cells #[.int .i64 0, .int .i64 0, .int .i64 0, .int .i64 0, .int .i64 0] 47)) (w.heap.size + 1) 50 (bsA best)) := n1; clear n1
  have N2 : Hid (Whole ((((w.alloc (.cells (rtA x) 47)).alloc (.cells (bsA best) 50)).alloc (.cells (bsA t) 50)).alloc (.cells #[.int .i64 0, .int .i64 0, .int .i64 0, .int .i64 0, .int .i64 0] 47)) (w.heap.size + 1 + 1) 50 (bsA t)) := n2; clear n2
  have N3 : Hid (Whole ((((w.alloc (.cells (rtA x) 47)).alloc (.cells (bsA best) 50)).alloc (.cells (bsA t) 50)).alloc (.cells #[.int .i64 0, .int .i64 0, .int .i64 0, .int .i64 0, .int .i64 0] 47)) (w.heap.size + 1 + 1 + 1) 47 (rtA ⟨0, 0, 0, 0, 0⟩)) := n3; clear n3
  have NB : Hid (Below w.heap.size w ((((w.alloc (.cells (rtA x) 47)).alloc (.cells (bsA best) 50)).alloc (.cells (bsA t) 50)).alloc (.cells #[.int .i64 0, .int .i64 0, .int .i64 0, .int .i64 0, .int .i64 0] 47))) := nb; clear nb
  go_enter Try.func117, Try.ntmps117
  go_wp2_with (first | (go_at_call 122; refine (better_any t best _).mono ?_; rw [hbt]; rintro e w1 ⟨rfl, hb1⟩; have p0 := N0.out.below hb1; have p2 := N2.out.below hb1; have p3 := N3.out.below hb1; have pb := NB.out.trans (hb1.mono (by simp; omega)); have q0 := p0.cell; have q2 := p2.cell; have q3 := p3.cell; have f3 := p3.frozen; have l3 := p3.lt))
  go_quiet (fail)
  go_wp2
  have p3' := p3.drewN nq
  have pb' := below_drewN pb nq
  refine bodyPost_ret (v := .agg (rtA ⟨a, t.sq, t.mt, 0, 0⟩)) (results_cell0 (t := 47) rfl _ _ (w.heap.size + 1 + 1 + 1) (rtA ⟨a, t.sq, t.mt, 0, 0⟩) rfl (p3'.route rfl ⟨a, t.sq, t.mt, 0, 0⟩) _ Try.underlying47 rfl (by rw [sizeR]; rfl)) rfl ⟨rfl, ?_⟩
  repeat (first | exact pb' | refine Below.setCell ?_ (by dsimp only; omega) _)
set_option maxHeartbeats 2000000 in
set_option maxRecDepth 100000 in
theorem takes_n3 (b a r : Nat) (x : Rt) (best t : Bs) (A : Nt) (V : Nat → Nat → Value) (w : World) (ha : a < 5) (hr : r < 5) (g : Good A) (hR : RN w b A V) (_hx5 : x.nx < 5) (_hx0 : 0 ≤ x.nx → 0 ≤ x.mt ∧ x.mt ≤ 30) (ht0 : 0 ≤ t.mt) (ht1 : t.mt ≤ 30) (h1 : decide (t.sq < 0) = false) (hbt : decide (bet t best) = true) (h30 : t.mt + A.co a r ≤ 30) (hn' : decide (x.nx < 0) = false) (hmine' : (x.nx == (a : Int)) = false) (hsq' : decide (x.sq < t.sq) = true) :
    Calls Try.prog 117 #[.pointer (some ⟨b, 0, none⟩), .int .i64 r, .int .i64 a, .agg (rtA x), .agg (bsA best), .agg (bsA t)] w fun e w' => e = .returned (.agg (rtA ⟨a, t.sq, t.mt, 0, 0⟩)) ∧ Below w.heap.size w w' := by
  have ha' : (a : Int) < 5 := by omega
  have hr' : (r : Int) < 5 := by omega
  have hc := hR.c a r ha hr
  have c0 := g.c0 a r
  have c9 := g.c9 a r
  have hlt := hR.lt
  have n0 : Whole ((((w.alloc (.cells (rtA x) 47)).alloc (.cells (bsA best) 50)).alloc (.cells (bsA t) 50)).alloc (.cells #[.int .i64 0, .int .i64 0, .int .i64 0, .int .i64 0, .int .i64 0] 47)) w.heap.size 47 (rtA x) := (((Whole.new w _ _).alloc _).alloc _).alloc _
  have n1 : Whole ((((w.alloc (.cells (rtA x) 47)).alloc (.cells (bsA best) 50)).alloc (.cells (bsA t) 50)).alloc (.cells #[.int .i64 0, .int .i64 0, .int .i64 0, .int .i64 0, .int .i64 0] 47)) (w.heap.size + 1) 50 (bsA best) := by
    have := ((Whole.new (w.alloc (.cells (rtA x) 47)) 50 (bsA best)).alloc (.cells (bsA t) 50)).alloc (.cells #[.int .i64 0, .int .i64 0, .int .i64 0, .int .i64 0, .int .i64 0] 47)
    simp only [World.size_alloc] at this
    exact this
  have n2 : Whole ((((w.alloc (.cells (rtA x) 47)).alloc (.cells (bsA best) 50)).alloc (.cells (bsA t) 50)).alloc (.cells #[.int .i64 0, .int .i64 0, .int .i64 0, .int .i64 0, .int .i64 0] 47)) (w.heap.size + 1 + 1) 50 (bsA t) := by
    have := (Whole.new ((w.alloc (.cells (rtA x) 47)).alloc (.cells (bsA best) 50)) 50 (bsA t)).alloc (.cells #[.int .i64 0, .int .i64 0, .int .i64 0, .int .i64 0, .int .i64 0] 47)
    simp only [World.size_alloc] at this
    exact this
  have n3 : Whole ((((w.alloc (.cells (rtA x) 47)).alloc (.cells (bsA best) 50)).alloc (.cells (bsA t) 50)).alloc (.cells #[.int .i64 0, .int .i64 0, .int .i64 0, .int .i64 0, .int .i64 0] 47)) (w.heap.size + 1 + 1 + 1) 47 (rtA ⟨0, 0, 0, 0, 0⟩) := by
    have := Whole.new (((w.alloc (.cells (rtA x) 47)).alloc (.cells (bsA best) 50)).alloc (.cells (bsA t) 50)) 47 (rtA ⟨0, 0, 0, 0, 0⟩)
    simp only [World.size_alloc] at this
    exact this
  have nb : Below w.heap.size w ((((w.alloc (.cells (rtA x) 47)).alloc (.cells (bsA best) 50)).alloc (.cells (bsA t) 50)).alloc (.cells #[.int .i64 0, .int .i64 0, .int .i64 0, .int .i64 0, .int .i64 0] 47)) := ((((Below.refl _ _).alloc (Nat.le_refl _) _).alloc (by simp) _).alloc (by simp; omega) _).alloc (by simp; omega) _
  have hc4 := (World.cell?_of_block (w := w) (a := ⟨b, 371 + a * 5 + r, none⟩) (nb.block b hlt)).trans hc
  have HG : Hid (Good A) := g; clear g
  have HR : Hid (RN w b A V) := hR; clear hR
  have N0 : Hid (Whole ((((w.alloc (.cells (rtA x) 47)).alloc (.cells (bsA best) 50)).alloc (.cells (bsA t) 50)).alloc (.cells #[.int .i64 0, .int .i64 0, .int .i64 0, .int .i64 0, .int .i64 0] 47)) w.heap.size 47 (rtA x)) := n0; clear n0
  have N1 : Hid (Whole ((((w.alloc (.cells (rtA x) 47)).alloc (.cells (bsA best) 50)).alloc (.cells (bsA t) 50)).alloc (.cells #[.int .i64 0, .int .i64 0, .int .i64 0, .int .i64 0, .int .i64 0] 47)) (w.heap.size + 1) 50 (bsA best)) := n1; clear n1
  have N2 : Hid (Whole ((((w.alloc (.cells (rtA x) 47)).alloc (.cells (bsA best) 50)).alloc (.cells (bsA t) 50)).alloc (.cells #[.int .i64 0, .int .i64 0, .int .i64 0, .int .i64 0, .int .i64 0] 47)) (w.heap.size + 1 + 1) 50 (bsA t)) := n2; clear n2
  have N3 : Hid (Whole ((((w.alloc (.cells (rtA x) 47)).alloc (.cells (bsA best) 50)).alloc (.cells (bsA t) 50)).alloc (.cells #[.int .i64 0, .int .i64 0, .int .i64 0, .int .i64 0, .int .i64 0] 47)) (w.heap.size + 1 + 1 + 1) 47 (rtA ⟨0, 0, 0, 0, 0⟩)) := n3; clear n3
  have NB : Hid (Below w.heap.size w ((((w.alloc (.cells (rtA x) 47)).alloc (.cells (bsA best) 50)).alloc (.cells (bsA t) 50)).alloc (.cells #[.int .i64 0, .int .i64 0, .int .i64 0, .int .i64 0, .int .i64 0] 47))) := nb; clear nb
  go_enter Try.func117, Try.ntmps117
  go_wp2_with (first | (go_at_call 122; refine (better_any t best _).mono ?_; rw [hbt]; rintro e w1 ⟨rfl, hb1⟩; have p0 := N0.out.below hb1; have p2 := N2.out.below hb1; have p3 := N3.out.below hb1; have pb := NB.out.trans (hb1.mono (by simp; omega)); have q0 := p0.cell; have q2 := p2.cell; have q3 := p3.cell; have f3 := p3.frozen; have l3 := p3.lt))
  go_quiet (fail)
  go_wp2
  have p3' := p3.drewN nq
  have pb' := below_drewN pb nq
  refine bodyPost_ret (v := .agg (rtA ⟨a, t.sq, t.mt, 0, 0⟩)) (results_cell0 (t := 47) rfl _ _ (w.heap.size + 1 + 1 + 1) (rtA ⟨a, t.sq, t.mt, 0, 0⟩) rfl (p3'.route rfl ⟨a, t.sq, t.mt, 0, 0⟩) _ Try.underlying47 rfl (by rw [sizeR]; rfl)) rfl ⟨rfl, ?_⟩
  repeat (first | exact pb' | refine Below.setCell ?_ (by dsimp only; omega) _)
set_option maxHeartbeats 2000000 in
set_option maxRecDepth 100000 in
theorem takes_n4 (b a r : Nat) (x : Rt) (best t : Bs) (A : Nt) (V : Nat → Nat → Value) (w : World) (ha : a < 5) (hr : r < 5) (g : Good A) (hR : RN w b A V) (_hx5 : x.nx < 5) (_hx0 : 0 ≤ x.nx → 0 ≤ x.mt ∧ x.mt ≤ 30) (ht0 : 0 ≤ t.mt) (ht1 : t.mt ≤ 30) (h1 : decide (t.sq < 0) = false) (hbt : decide (bet t best) = true) (h30 : t.mt + A.co a r ≤ 30) (hn' : decide (x.nx < 0) = false) (hmine' : (x.nx == (a : Int)) = false) (hsq' : decide (x.sq < t.sq) = false) (heq' : (t.sq == x.sq) = false) :
    Calls Try.prog 117 #[.pointer (some ⟨b, 0, none⟩), .int .i64 r, .int .i64 a, .agg (rtA x), .agg (bsA best), .agg (bsA t)] w fun e w' => e = .returned (.agg (rtA x)) ∧ Below w.heap.size w w' := by
  have ha' : (a : Int) < 5 := by omega
  have hr' : (r : Int) < 5 := by omega
  have hc := hR.c a r ha hr
  have c0 := g.c0 a r
  have c9 := g.c9 a r
  have hlt := hR.lt
  have n0 : Whole ((((w.alloc (.cells (rtA x) 47)).alloc (.cells (bsA best) 50)).alloc (.cells (bsA t) 50)).alloc (.cells #[.int .i64 0, .int .i64 0, .int .i64 0, .int .i64 0, .int .i64 0] 47)) w.heap.size 47 (rtA x) := (((Whole.new w _ _).alloc _).alloc _).alloc _
  have n1 : Whole ((((w.alloc (.cells (rtA x) 47)).alloc (.cells (bsA best) 50)).alloc (.cells (bsA t) 50)).alloc (.cells #[.int .i64 0, .int .i64 0, .int .i64 0, .int .i64 0, .int .i64 0] 47)) (w.heap.size + 1) 50 (bsA best) := by
    have := ((Whole.new (w.alloc (.cells (rtA x) 47)) 50 (bsA best)).alloc (.cells (bsA t) 50)).alloc (.cells #[.int .i64 0, .int .i64 0, .int .i64 0, .int .i64 0, .int .i64 0] 47)
    simp only [World.size_alloc] at this
    exact this
  have n2 : Whole ((((w.alloc (.cells (rtA x) 47)).alloc (.cells (bsA best) 50)).alloc (.cells (bsA t) 50)).alloc (.cells #[.int .i64 0, .int .i64 0, .int .i64 0, .int .i64 0, .int .i64 0] 47)) (w.heap.size + 1 + 1) 50 (bsA t) := by
    have := (Whole.new ((w.alloc (.cells (rtA x) 47)).alloc (.cells (bsA best) 50)) 50 (bsA t)).alloc (.cells #[.int .i64 0, .int .i64 0, .int .i64 0, .int .i64 0, .int .i64 0] 47)
    simp only [World.size_alloc] at this
    exact this
  have n3 : Whole ((((w.alloc (.cells (rtA x) 47)).alloc (.cells (bsA best) 50)).alloc (.cells (bsA t) 50)).alloc (.cells #[.int .i64 0, .int .i64 0, .int .i64 0, .int .i64 0, .int .i64 0] 47)) (w.heap.size + 1 + 1 + 1) 47 (rtA ⟨0, 0, 0, 0, 0⟩) := by
    have := Whole.new (((w.alloc (.cells (rtA x) 47)).alloc (.cells (bsA best) 50)).alloc (.cells (bsA t) 50)) 47 (rtA ⟨0, 0, 0, 0, 0⟩)
    simp only [World.size_alloc] at this
    exact this
  have nb : Below w.heap.size w ((((w.alloc (.cells (rtA x) 47)).alloc (.cells (bsA best) 50)).alloc (.cells (bsA t) 50)).alloc (.cells #[.int .i64 0, .int .i64 0, .int .i64 0, .int .i64 0, .int .i64 0] 47)) := ((((Below.refl _ _).alloc (Nat.le_refl _) _).alloc (by simp) _).alloc (by simp; omega) _).alloc (by simp; omega) _
  have hc4 := (World.cell?_of_block (w := w) (a := ⟨b, 371 + a * 5 + r, none⟩) (nb.block b hlt)).trans hc
  have HG : Hid (Good A) := g; clear g
  have HR : Hid (RN w b A V) := hR; clear hR
  have N0 : Hid (Whole ((((w.alloc (.cells (rtA x) 47)).alloc (.cells (bsA best) 50)).alloc (.cells (bsA t) 50)).alloc (.cells #[.int .i64 0, .int .i64 0, .int .i64 0, .int .i64 0, .int .i64 0] 47)) w.heap.size 47 (rtA x)) := n0; clear n0
  have N1 : Hid (Whole ((((w.alloc (.cells (rtA x) 47)).alloc (.cells (bsA best) 50)).alloc (.cells (bsA t) 50)).alloc (.cells #[.int .i64 0, .int .i64 0, .int .i64 0, .int .i64 0, .int .i64 0] 47)) (w.heap.size + 1) 50 (bsA best)) := n1; clear n1
  have N2 : Hid (Whole ((((w.alloc (.cells (rtA x) 47)).alloc (.cells (bsA best) 50)).alloc (.cells (bsA t) 50)).alloc (.cells #[.int .i64 0, .int .i64 0, .int .i64 0, .int .i64 0, .int .i64 0] 47)) (w.heap.size + 1 + 1) 50 (bsA t)) := n2; clear n2
  have N3 : Hid (Whole ((((w.alloc (.cells (rtA x) 47)).alloc (.cells (bsA best) 50)).alloc (.cells (bsA t) 50)).alloc (.cells #[.int .i64 0, .int .i64 0, .int .i64 0, .int .i64 0, .int .i64 0] 47)) (w.heap.size + 1 + 1 + 1) 47 (rtA ⟨0, 0, 0, 0, 0⟩)) := n3; clear n3
  have NB : Hid (Below w.heap.size w ((((w.alloc (.cells (rtA x) 47)).alloc (.cells (bsA best) 50)).alloc (.cells (bsA t) 50)).alloc (.cells #[.int .i64 0, .int .i64 0, .int .i64 0, .int .i64 0, .int .i64 0] 47))) := nb; clear nb
  go_enter Try.func117, Try.ntmps117
  go_wp2_with (first | (go_at_call 122; refine (better_any t best _).mono ?_; rw [hbt]; rintro e w1 ⟨rfl, hb1⟩; have p0 := N0.out.below hb1; have p2 := N2.out.below hb1; have p3 := N3.out.below hb1; have pb := NB.out.trans (hb1.mono (by simp; omega)); have q0 := p0.cell; have q2 := p2.cell; have q3 := p3.cell; have f3 := p3.frozen; have l3 := p3.lt))
  go_quiet (fail)
  go_wp2
  have p3' := p3.drewN nq
  have pb' := below_drewN pb nq
  refine bodyPost_ret (v := .agg (rtA x)) (results_cell0 (t := 47) rfl _ _ (w.heap.size + 1 + 1 + 1) (rtA x) rfl (p3'.route rfl x) _ Try.underlying47 rfl (by rw [sizeR]; rfl)) rfl ⟨rfl, ?_⟩
  repeat (first | exact pb' | refine Below.setCell ?_ (by dsimp only; omega) _)
end Go.Proofs.Ytdoodnbobpijoaa
