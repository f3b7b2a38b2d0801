import Derived.Test.YtdoodnbobpijoaaProE
namespace Go.Proofs.Ytdoodnbobpijoaa
open Go.RowKit
attribute [local go_sem ↓] Go.wp_at_zero Go.wp_at_succ
theorem farther_lit (x : Bs) (c : Int) (w : World) (h0 : 0 ≤ x.mt) (h1 : x.mt ≤ 30) (c0 : 0 ≤ c) (c9 : c ≤ 9) : Calls Try.prog 108 #[.agg (bsA x), .int .i64 c] w fun e w' => e = .returned (.agg #[.int .i64 x.sq, .int .i64 (x.mt + c)]) ∧ Below w.heap.size w w' := farther_any x c w h0 h1 c0 c9
theorem field_mt (p q : Int) (w : World) : Sem.run Try.prog (Instr.field 92 (.agg #[.int .i64 p, .int .i64 q]) 1) w = .ok (.int .i64 q) w := by kernel_rfl
set_option maxHeartbeats 2000000 in
set_option maxRecDepth 100000 in
theorem usable_any (b o d : Nat) (T : Tb) (t : Bs) (c : Int) (w : World) (hd : d < 5) (hK : KT w b o T) (m0 : 0 ≤ t.mt) (m1 : t.mt ≤ 30) (c0 : 0 ≤ c) (c9 : c ≤ 9) :
    Calls Try.prog 82 #[.pointer (some ⟨b, o, none⟩), .int .i64 d, .agg (bsA t), .int .i64 c] w fun e w' => e = .returned (.bool (decide (bet t (T.be d) ∧ t.mt + c ≤ 30))) ∧ Below w.heap.size w w' := by
  obtain ⟨e0, e1⟩ := hK.be2 d hd
  have hlt := hK.lt
  have hd' : (d : Int) < 5 := by omega
  have n0 := Whole.new w 92 (bsA t)
  have nb : Below w.heap.size w (w.alloc (.cells (bsA t) 92)) := (Below.refl _ _).alloc (Nat.le_refl _) _
  have f0 : (w.alloc (.cells (bsA t) 92)).cell? ⟨b, o + 26 + d * 2, none⟩ = some (I (T.be d).sq) := cell_below e0 nb
  have f1 : (w.alloc (.cells (bsA t) 92)).cell? ⟨b, o + 26 + d * 2 + 1, none⟩ = some (I (T.be d).mt) := cell_below e1 nb
  clear hK e0 e1
  generalize T.be d = u at *
  by_cases hb : bet t u
  · have hb' : decide (bet t u) = true := by simpa using hb
    have hE : decide (bet t u ∧ t.mt + c ≤ 30) = decide (t.mt + c ≤ 30) := by simp [hb]
    rw [hE]
    have hfd := field_mt t.sq (t.mt + c)
    go_enter Try.func82, Try.ntmps82
    go_wp2_with fail
    have sS : (w.alloc (.cells (bsA t) 92)).drew.cell? ⟨w.heap.size, 0, none⟩ = some (I t.sq) ∧ (w.alloc (.cells (bsA t) 92)).drew.cell? ⟨w.heap.size, 1, none⟩ = some (I t.mt) ∧ (w.alloc (.cells (bsA t) 92)).drew.cell? ⟨b, o + 26 + d * 2, none⟩ = some (I u.sq) ∧ (w.alloc (.cells (bsA t) 92)).drew.cell? ⟨b, o + 26 + d * 2 + 1, none⟩ = some (I u.mt) := ⟨n0.cell 0, n0.cell 1, f0, f1⟩
    have NB : Hid (Below w.heap.size w (w.alloc (.cells (bsA t) 92))) := nb
    clear n0 nb f0 f1
    generalize w.alloc (.cells (bsA t) 92) = W at *
    have z1 := NB.out.size
    obtain ⟨g0, g1, g2, g3⟩ := sS
    go_region_with (first | (go_at_call 106; refine (pbetter_any t u _).mono ?_; rw [hb']; rintro e w1 ⟨rfl, hb1⟩; obtain ⟨j0, j1, j2, j3⟩ := four_below2 ⟨g0, g1, g2, g3⟩ hb1) | (go_at_call 108; refine (farther_lit t c _ m0 m1 c0 c9).mono ?_; rintro e w2 ⟨rfl, hb2⟩))
    all_goals go_wp2
    all_goals go_ret
    all_goals exact ⟨rfl, (NB.out.drew.trans (hb1.mono z1)).trans (hb2.mono (Nat.le_trans z1 hb1.size))⟩
  · have hb' : decide (bet t u) = false := by simpa using hb
    have hE : decide (bet t u ∧ t.mt + c ≤ 30) = false := by simp [hb]
    rw [hE]
    go_enter Try.func82, Try.ntmps82
    go_wp2_with fail
    have sS : (w.alloc (.cells (bsA t) 92)).drew.cell? ⟨w.heap.size, 0, none⟩ = some (I t.sq) ∧ (w.alloc (.cells (bsA t) 92)).drew.cell? ⟨w.heap.size, 1, none⟩ = some (I t.mt) ∧ (w.alloc (.cells (bsA t) 92)).drew.cell? ⟨b, o + 26 + d * 2, none⟩ = some (I u.sq) ∧ (w.alloc (.cells (bsA t) 92)).drew.cell? ⟨b, o + 26 + d * 2 + 1, none⟩ = some (I u.mt) := ⟨n0.cell 0, n0.cell 1, f0, f1⟩
    have NB : Hid (Below w.heap.size w (w.alloc (.cells (bsA t) 92))) := nb
    clear n0 nb f0 f1
    generalize w.alloc (.cells (bsA t) 92) = W at *
    have z1 := NB.out.size
    obtain ⟨g0, g1, g2, g3⟩ := sS
    first | go_region_with (first | (go_at_call 106; refine (pbetter_any t u _).mono ?_; rw [hb']; rintro e w1 ⟨rfl, hb1⟩)) | fail
    all_goals go_wp2
    all_goals go_ret
    all_goals exact ⟨rfl, NB.out.drew.trans (hb1.mono z1)⟩
end Go.Proofs.Ytdoodnbobpijoaa
