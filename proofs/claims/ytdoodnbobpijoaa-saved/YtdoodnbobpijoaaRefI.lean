import Derived.Test.YtdoodnbobpijoaaRefH
namespace Go.Proofs.Ytdoodnbobpijoaa
open Go.RowKit

attribute [local go_sem ↓] Go.wp_at_zero Go.wp_at_succ
set_option maxHeartbeats 2000000 in
set_option maxRecDepth 100000 in
theorem takes_e (b a r : Nat) (x : Rt) (best t : Bs) (A : Nt) (V : Nat → Nat → Value) (w : World) (ha : a < 5) (hr : r < 5) (g : Good A) (hR : RN w b A V) (hx5 : x.nx < 5) (hx0 : 0 ≤ x.nx → 0 ≤ x.mt ∧ x.mt ≤ 30) (ht0 : 0 ≤ t.mt) (ht1 : t.mt ≤ 30) (h1 : decide (t.sq < 0) = false) (hbt : decide (bet t best) = true) (h30 : t.mt + A.co a r ≤ 30) (hn' : decide (x.nx < 0) = false) (hmine' : (x.nx == (a : Int)) = false) (hsq' : decide (x.sq < t.sq) = false) (heq' : (t.sq == x.sq) = true) :
    Calls Try.prog 117 #[.pointer (some ⟨b, 0, none⟩), .int .i64 r, .int .i64 a, .agg (rtA x), .agg (bsA best), .agg (bsA t)] w fun e w' => e = .returned (.agg (rtA (if t.mt + A.co a r < total A r x then ⟨a, t.sq, t.mt, 0, 0⟩ else x))) ∧ Below w.heap.size w w' := by
  have ha' : (a : Int) < 5 := by omega
  have hr' : (r : Int) < 5 := by omega
  have hc := hR.c a r ha hr
  have c0 := g.c0 a r
  have c9 := g.c9 a r
  have hlt := hR.lt
  have n0 : Whole ((((w.alloc (.cells (rtA x) 47)).alloc (.cells (bsA best) 50)).alloc (.cells (bsA t) 50)).alloc (.cells #[.int .i64 0, .int .i64 0, .int .i64 0, .int .i64 0, .int .i64 0] 47)) w.heap.size 47 (rtA x) := (((Whole.new w _ _).alloc _).alloc _).alloc _
  have n1 : Whole ((((w.alloc (.cells (rtA x) 47)).alloc (.cells (bsA best) 50)).alloc (.cells (bsA t) 50)).alloc (.cells #[.int .i64 0, .int .i64 0, .int .i64 0, .int .i64 0, .int .i64 0] 47)) (w.heap.size + 1) 50 (bsA best) := by
    have := ((Whole.new (w.alloc (.cells (rtA x) 47)) 50 (bsA best)).alloc (.cells (bsA t) 50)).alloc (.cells #[.int .i64 0, .int .i64 0, .int .i64 0, .int .i64 0, .int .i64 0] 47)
    simp only [World.size_alloc] at this
    exact this
  have n2 : Whole ((((w.alloc (.cells (rtA x) 47)).alloc (.cells (bsA best) 50)).alloc (.cells (bsA t) 50)).alloc (.cells #[.int .i64 0, .int .i64 0, .int .i64 0, .int .i64 0, .int .i64 0] 47)) (w.heap.size + 1 + 1) 50 (bsA t) := by
    have := (Whole.new ((w.alloc (.cells (rtA x) 47)).alloc (.cells (bsA best) 50)) 50 (bsA t)).alloc (.cells #[.int .i64 0, .int .i64 0, .int .i64 0, .int .i64 0, .int .i64 0] 47)
    simp only [World.size_alloc] at this
    exact this
  have n3 : Whole ((((w.alloc (.cells (rtA x) 47)).alloc (.cells (bsA best) 50)).alloc (.cells (bsA t) 50)).alloc (.cells #[.int .i64 0, .int .i64 0, .int .i64 0, .int .i64 0, .int .i64 0] 47)) (w.heap.size + 1 + 1 + 1) 47 (rtA ⟨0, 0, 0, 0, 0⟩) := by
    have := Whole.new (((w.alloc (.cells (rtA x) 47)).alloc (.cells (bsA best) 50)).alloc (.cells (bsA t) 50)) 47 (rtA ⟨0, 0, 0, 0, 0⟩)
    simp only [World.size_alloc] at this
    exact this
  have nb : Below w.heap.size w ((((w.alloc (.cells (rtA x) 47)).alloc (.cells (bsA best) 50)).alloc (.cells (bsA t) 50)).alloc (.cells #[.int .i64 0, .int .i64 0, .int .i64 0, .int .i64 0, .int .i64 0] 47)) := ((((Below.refl _ _).alloc (Nat.le_refl _) _).alloc (by simp) _).alloc (by simp; omega) _).alloc (by simp; omega) _
  have hc4 := (World.cell?_of_block (w := w) (a := ⟨b, 371 + a * 5 + r, none⟩) (nb.block b hlt)).trans hc
  have HG : Hid (Good A) := g; clear g
  have HR : Hid (RN w b A V) := hR; clear hR
  have N0 : Hid (Whole ((((w.alloc (.cells (rtA x) 47)).alloc (.cells (bsA best) 50)).alloc (.cells (bsA t) 50)).alloc (.cells #[.int .i64 0, .int .i64 0, .int .i64 0, .int .i64 0, .int .i64 0] 47)) w.heap.size 47 (rtA x)) := n0; clear n0
  have N1 : Hid (Whole ((((w.alloc (.cells (rtA x) 47)).alloc (.cells (bsA best) 50)).alloc (.cells (bsA t) 50)).alloc (.cells #[.int .i64 0, .int .i64 0, .int .i64 0, .int .i64 0, .int .i64 0] 47)) (w.heap.size + 1) 50 (bsA best)) := n1; clear n1
  have N2 : Hid (Whole ((((w.alloc (.cells (rtA x) 47)).alloc (.cells (bsA best) 50)).alloc (.cells (bsA t) 50)).alloc (.cells #[.int .i64 0, .int .i64 0, .int .i64 0, .int .i64 0, .int .i64 0] 47)) (w.heap.size + 1 + 1) 50 (bsA t)) := n2; clear n2
  have N3 : Hid (Whole ((((w.alloc (.cells (rtA x) 47)).alloc (.cells (bsA best) 50)).alloc (.cells (bsA t) 50)).alloc (.cells #[.int .i64 0, .int .i64 0, .int .i64 0, .int .i64 0, .int .i64 0] 47)) (w.heap.size + 1 + 1 + 1) 47 (rtA ⟨0, 0, 0, 0, 0⟩)) := n3; clear n3
  have NB : Hid (Below w.heap.size w ((((w.alloc (.cells (rtA x) 47)).alloc (.cells (bsA best) 50)).alloc (.cells (bsA t) 50)).alloc (.cells #[.int .i64 0, .int .i64 0, .int .i64 0, .int .i64 0, .int .i64 0] 47))) := nb; clear nb
  have h0 : 0 ≤ x.nx := by simpa using hn'
  obtain ⟨hm0, hm1⟩ := hx0 h0
  obtain ⟨tot, hT⟩ : ∃ tot, total A r x = tot := ⟨_, rfl⟩
  have hw : IntKind.i64.wrap (t.mt + A.co a r) = t.mt + A.co a r := IntWalk.i64_in _ (by omega)
  rw [hT]
  obtain ⟨res, hres⟩ : ∃ res, (if t.mt + A.co a r < tot then (⟨a, t.sq, t.mt, 0, 0⟩ : Rt) else x) = res := ⟨_, rfl⟩
  rw [hres]
  go_enter Try.func117, Try.ntmps117
  go_wp2_with (first | (go_at_call 122; refine (better_any t best _).mono ?_; rw [hbt]; rintro e w1 ⟨rfl, hb1⟩; have p0 := N0.out.below hb1; have p2 := N2.out.below hb1; have p3 := N3.out.below hb1; have pb := NB.out.trans (hb1.mono (by simp; omega)); have q0 := p0.cell; have q2 := p2.cell; have q3 := p3.cell; have f3 := p3.frozen; have l3 := p3.lt))
  have sS : w1.cell? ⟨w.heap.size, 0, none⟩ = some (I x.nx) ∧ w1.cell? ⟨w.heap.size, 1, none⟩ = some (I x.sq) ∧ w1.cell? ⟨w.heap.size, 2, none⟩ = some (I x.mt) ∧ w1.cell? ⟨w.heap.size, 3, none⟩ = some (I x.ag) ∧ w1.cell? ⟨w.heap.size, 4, none⟩ = some (I x.st) ∧ w1.cell? ⟨w.heap.size + 1 + 1, 0, none⟩ = some (I t.sq) ∧ w1.cell? ⟨w.heap.size + 1 + 1, 1, none⟩ = some (I t.mt) := ⟨p0.cell 0, p0.cell 1, p0.cell 2, p0.cell 3, p0.cell 4, p2.cell 0, p2.cell 1⟩
  have hRd : RN w1.drew b A V := (HR.out.of (pb.block b hlt)).of rfl
  have HRd : Hid (RN w1.drew b A V) := hRd; clear hRd
  have P3 : Hid (Whole w1 (w.heap.size + 1 + 1 + 1) 47 (rtA ⟨0, 0, 0, 0, 0⟩)) := p3; clear p3
  have PB : Hid (Below w.heap.size w w1) := pb; clear pb
  clear q0 q2 q3 f3 p0 p2
  go_region_held3 (fun w' => w'.cell? ⟨w.heap.size, 0, none⟩ = some (I x.nx) ∧ w'.cell? ⟨w.heap.size, 1, none⟩ = some (I x.sq) ∧ w'.cell? ⟨w.heap.size, 2, none⟩ = some (I x.mt) ∧ w'.cell? ⟨w.heap.size, 3, none⟩ = some (I x.ag) ∧ w'.cell? ⟨w.heap.size, 4, none⟩ = some (I x.st) ∧ w'.cell? ⟨w.heap.size + 1 + 1, 0, none⟩ = some (I t.sq) ∧ w'.cell? ⟨w.heap.size + 1 + 1, 1, none⟩ = some (I t.mt))
    (first | exact sS | exact seven_below (by assumption) hb2)
    (first | (go_at_call 123; refine (total_any b r x A V _ hr h0 hx5 hm0 hm1 HG.out HRd.out).mono ?_; rw [hT]; rintro e w2 ⟨rfl, hb2⟩))
  have p3 := P3.out.drew.below hb2
  have pb := PB.out.drew.trans (hb2.mono PB.out.size)
  have q3 := p3.cell
  have f3 := p3.frozen
  have l3 := p3.lt
  obtain ⟨s0, s1, s2, s3, s4, s5, s6⟩ := seven_below (w := w1.drew) sS hb2
  by_cases hlt2 : t.mt + A.co a r < tot
  · rw [if_pos hlt2] at hres
    subst hres
    have hl' : decide (t.mt + A.co a r < tot) = true := by simpa using hlt2
    go_wp2
    refine bodyPost_ret (v := .agg (rtA ⟨a, t.sq, t.mt, 0, 0⟩)) (results_cell0 (t := 47) rfl _ _ (w.heap.size + 1 + 1 + 1) (rtA ⟨a, t.sq, t.mt, 0, 0⟩) rfl (p3.route rfl ⟨a, t.sq, t.mt, 0, 0⟩) _ Try.underlying47 rfl (by rw [sizeR]; rfl)) rfl ⟨rfl, ?_⟩
    repeat (first | exact pb | refine Below.setCell ?_ (by dsimp only; omega) _)
  · rw [if_neg hlt2] at hres
    subst hres
    have hl' : decide (t.mt + A.co a r < tot) = false := by simpa using hlt2
    go_wp2
    refine bodyPost_ret (v := .agg (rtA x)) (results_cell0 (t := 47) rfl _ _ (w.heap.size + 1 + 1 + 1) (rtA x) rfl (p3.route rfl x) _ Try.underlying47 rfl (by rw [sizeR]; rfl)) rfl ⟨rfl, ?_⟩
    repeat (first | exact pb | refine Below.setCell ?_ (by dsimp only; omega) _)
theorem takes_any (b a r : Nat) (x : Rt) (best t : Bs) (A : Nt) (V : Nat → Nat → Value) (w : World) (ha : a < 5) (hr : r < 5) (g : Good A) (hR : RN w b A V) (hx5 : x.nx < 5) (hx0 : 0 ≤ x.nx → 0 ≤ x.mt ∧ x.mt ≤ 30) (ht0 : 0 ≤ t.mt) (ht1 : t.mt ≤ 30) :
    Calls Try.prog 117 #[.pointer (some ⟨b, 0, none⟩), .int .i64 r, .int .i64 a, .agg (rtA x), .agg (bsA best), .agg (bsA t)] w fun e w' => e = .returned (.agg (rtA (takes A r a x best t))) ∧ Below w.heap.size w w' := by
  unfold takes
  by_cases hdrop : t.sq < 0 ∨ ¬ bet t best ∨ 30 < t.mt + A.co a r
  · rw [if_pos hdrop]
    by_cases hmine : x.nx = a
    · rw [if_pos hmine]; exact takes_d1 b a r x best t A V w ha hr g hR hx5 hx0 ht0 ht1 hdrop hmine
    · rw [if_neg hmine]; exact takes_d2 b a r x best t A V w ha hr g hR hx5 hx0 ht0 ht1 hdrop hmine
  · rw [if_neg hdrop]
    have h1 : decide (t.sq < 0) = false := by simp; omega
    have hbt : decide (bet t best) = true := by simp; omega
    have h30 : t.mt + A.co a r ≤ 30 := by omega
    by_cases hn : x.nx < 0
    · rw [if_pos (.inl hn)]
      exact takes_n1 b a r x best t A V w ha hr g hR hx5 hx0 ht0 ht1 h1 hbt h30 (by simpa using hn) (by simp; omega)
    · by_cases hmine : x.nx = a
      · rw [if_pos (.inr (.inl hmine))]
        exact takes_n2 b a r x best t A V w ha hr g hR hx5 hx0 ht0 ht1 h1 hbt h30 (by simpa using hn) (by simpa using hmine)
      · by_cases hsq : x.sq < t.sq
        · rw [if_pos (.inr (.inr (.inl hsq)))]
          exact takes_n3 b a r x best t A V w ha hr g hR hx5 hx0 ht0 ht1 h1 hbt h30 (by simpa using hn) (by simpa using hmine) (by simpa using hsq)
        · by_cases heq : t.sq = x.sq
          · have e : (x.nx < 0 ∨ x.nx = a ∨ x.sq < t.sq ∨ (t.sq = x.sq ∧ t.mt + A.co a r < total A r x)) ↔ t.mt + A.co a r < total A r x := by
              constructor
              · rintro (h | h | h | h)
                · exact absurd h hn
                · exact absurd h hmine
                · exact absurd h hsq
                · exact h.2
              · exact fun h => .inr (.inr (.inr ⟨heq, h⟩))
            simp only [e]
            exact takes_e b a r x best t A V w ha hr g hR hx5 hx0 ht0 ht1 h1 hbt h30 (by simpa using hn) (by simpa using hmine) (by simpa using hsq) (by simpa using heq)
          · rw [if_neg (by rintro (h | h | h | h) <;> omega)]
            exact takes_n4 b a r x best t A V w ha hr g hR hx5 hx0 ht0 ht1 h1 hbt h30 (by simpa using hn) (by simpa using hmine) (by simpa using hsq) (by simpa using heq)
end Go.Proofs.Ytdoodnbobpijoaa
