import Derived.Test.YtgimhfbpipgoeaaHarL
namespace Go.Proofs.Ytgimhfbpipgoeaa
open Go.RowKit

set_option maxHeartbeats 4000000 in
theorem plays_nil (B cap : Nat) (sa : Option Addr) (kv : Value) (w : World) (hB : B ≤ w.heap.size) :
    Calls Try.prog 4 #[.slice sa 0 cap, kv] w fun e w' => e = .returned (.bool true) ∧ Below B w w' := by
  have i0 := Inv.start w B hB
  have b1 : Below w.heap.size w ((w.alloc (.cells #[.slice none 0 0, .slice none 0 0] 32)).alloc (.cells headA 36)) := ((Below.refl _ _).alloc (Nat.le_refl _) _).alloc (by simp) _
  have p1 : Inv ((w.alloc (.cells #[.slice none 0 0, .slice none 0 0] 32)).alloc (.cells headA 36)) B (fun k => if k = w.heap.size then (0, 1) else (0, 0)) w.heap.size [] := i0.below ((Below.refl _ _).alloc (Nat.le_refl _) _)
  have n1 := Whole.new (w.alloc (.cells #[.slice none 0 0, .slice none 0 0] 32)) 36 headA
  simp only [World.size_alloc] at n1
  have P1 : Hid (Inv ((w.alloc (.cells #[.slice none 0 0, .slice none 0 0] 32)).alloc (.cells headA 36)) B (fun k => if k = w.heap.size then (0, 1) else (0, 0)) w.heap.size []) := p1
  have L1 : Hid (Below B w ((w.alloc (.cells #[.slice none 0 0, .slice none 0 0] 32)).alloc (.cells headA 36))) := b1.mono hB
  have N1 : Hid (Whole ((w.alloc (.cells #[.slice none 0 0, .slice none 0 0] 32)).alloc (.cells headA 36)) (w.heap.size + 1) 36 headA) := n1
  have hc1 : ∀ o, ((w.alloc (.cells #[.slice none 0 0, .slice none 0 0] 32)).alloc (.cells headA 36)).cell? ⟨w.heap.size + 1, o, none⟩ = (#[.int .i64 1, .int .i64 0, .int .i64 3, .int .i64 0, .int .i64 0, .int .i64 2, .int .i64 0, .int .i64 0, .int .i64 1, .int .i64 2, .int .i64 2, .int .i64 0, .int .i64 1, .int .i64 2, .int .i64 3] : Array Value)[o]? := fun o => n1.cell o
  clear p1 n1 i0 b1
  go_enter Try.func4, Try.ntmps4
  go_wp2_with (go_at_call 5; refine (head_any _).mono ?_; rintro e w' ⟨rfl, rfl⟩)
  refine wp_loop_rounds 4 ?_
  rw [rounds_succ]
  go_wp2_with fail
  have z1 : Hid ((fun k => if k = w.heap.size then ((0, 1) : Part) else (0, 0)) (w.heap.size + 1) = (0, 0)) := by show (if w.heap.size + 1 = w.heap.size then ((0, 1) : Part) else (0, 0)) = (0, 0); rw [if_neg (by omega)]
  refine (step_all w.heap.size B 1 0 3 0 0 _ [] _ P1.out (.inl rfl) (by omega) (by omega) (by simp; unfold maxLen; omega) (by simp)).mono ?_
  rintro e w1 ⟨rfl, ρ1, ns1, i1, b1, l1, m1, s1⟩
  have y1 := N1.out.of (s1.2.1 _ N1.out.lt (by rw [z1.out]) (by rw [z1.out]; simp) (by rw [z1.out]; simp))
  have z2 : Hid (ρ1 (w.heap.size + 1) = (0, 0)) := (s1.1 _ N1.out.lt).trans z1.out
  have hc2 : ∀ o, w1.cell? ⟨w.heap.size + 1, o, none⟩ = (#[.int .i64 1, .int .i64 0, .int .i64 3, .int .i64 0, .int .i64 0, .int .i64 2, .int .i64 0, .int .i64 0, .int .i64 1, .int .i64 2, .int .i64 2, .int .i64 0, .int .i64 1, .int .i64 2, .int .i64 3] : Array Value)[o]? := fun o => y1.cell o
  have P2 : Hid (Inv w1 B ρ1 w.heap.size ns1) := i1
  have L2 : Hid (Below B w w1) := L1.out.trans b1
  have N2 : Hid (Whole w1 (w.heap.size + 1) 36 headA) := y1
  clear y1 i1 b1 s1 P1 N1 z1 hc1 L1
  simp only [List.length_nil] at l1 m1
  go_wp2_with fail
  rw [rounds_succ]
  go_wp2_with fail
  refine (step_all w.heap.size B 2 0 0 1 2 _ _ _ P2.out (.inr (.inl rfl)) (by omega) (by omega) (by unfold maxLen; omega) (by omega)).mono ?_
  rintro e w2 ⟨rfl, ρ2, ns2, i2, b2, l2, m2, s2⟩
  have y2 := N2.out.of (s2.2.1 _ N2.out.lt (by rw [z2.out]) (by rw [z2.out]; simp) (by rw [z2.out]; simp))
  have z3 : Hid (ρ2 (w.heap.size + 1) = (0, 0)) := (s2.1 _ N2.out.lt).trans z2.out
  have hc3 : ∀ o, w2.cell? ⟨w.heap.size + 1, o, none⟩ = (#[.int .i64 1, .int .i64 0, .int .i64 3, .int .i64 0, .int .i64 0, .int .i64 2, .int .i64 0, .int .i64 0, .int .i64 1, .int .i64 2, .int .i64 2, .int .i64 0, .int .i64 1, .int .i64 2, .int .i64 3] : Array Value)[o]? := fun o => y2.cell o
  have P3 : Hid (Inv w2 B ρ2 w.heap.size ns2) := i2
  have L3 : Hid (Below B w w2) := L2.out.trans b2
  have N3 : Hid (Whole w2 (w.heap.size + 1) 36 headA) := y2
  clear y2 i2 b2 s2 P2 N2 z2 hc2 L2
  go_wp2_with fail
  rw [rounds_succ]
  go_wp2_with fail
  refine (step_all w.heap.size B 2 0 1 2 3 _ _ _ P3.out (.inr (.inl rfl)) (by omega) (by omega) (by unfold maxLen; omega) (by omega)).mono ?_
  rintro e w3 ⟨rfl, ρ3, ns3, i3, b3, l3, m3, s3⟩
  have y3 := N3.out.of (s3.2.1 _ N3.out.lt (by rw [z3.out]) (by rw [z3.out]; simp) (by rw [z3.out]; simp))
  have z4 : Hid (ρ3 (w.heap.size + 1) = (0, 0)) := (s3.1 _ N3.out.lt).trans z3.out
  have hc4 : ∀ o, w3.cell? ⟨w.heap.size + 1, o, none⟩ = (#[.int .i64 1, .int .i64 0, .int .i64 3, .int .i64 0, .int .i64 0, .int .i64 2, .int .i64 0, .int .i64 0, .int .i64 1, .int .i64 2, .int .i64 2, .int .i64 0, .int .i64 1, .int .i64 2, .int .i64 3] : Array Value)[o]? := fun o => y3.cell o
  have P4 : Hid (Inv w3 B ρ3 w.heap.size ns3) := i3
  have L4 : Hid (Below B w w3) := L3.out.trans b3
  have N4 : Hid (Whole w3 (w.heap.size + 1) 36 headA) := y3
  clear y3 i3 b3 s3 P3 N3 z3 hc3 L3
  clear hc4 N4 z4 l1 m1 l2 m2 l3 m3 P4
  go_wp2_with fail
  rw [rounds_succ]
  go_wp2_with fail
  refine wp_loop_rounds 1 ?_
  rw [rounds_succ]
  go_wp2
  go_ret
  exact ⟨rfl, L4.out⟩

set_option maxHeartbeats 1000000 in
theorem links_some (sb so len cap : Nat) (kf uf af bf cf : Nat → Int) (w : World) (hsb : sb < w.heap.size) (hS : Scr w sb so len kf uf af bf cf) (hlen : len ≤ maxLen) (hby : (len + 4) * 16 ≤ 140737488355328) :
    Calls Try.prog 3 #[.slice (some ⟨sb, so, none⟩) len cap] w fun e w' => e = .returned (.bool true) ∧ Below w.heap.size w w' := by
  have hbs : ∀ w, (Instr.buildSlice 24 6 #[(0, .int .i64 1), (1, .int .i64 2), (2, .int .i64 3), (3, .int .i64 4), (4, .int .i64 6), (5, .int .i64 7)]).run Try.prog w = .ok (.slice (some ⟨w.heap.size, 0, none⟩) 6 6) (w.alloc (.cells kindA 3)) := fun w => by kernel_rfl
  have b0 : Below w.heap.size w (w.alloc (.cells kindA 3)) := (Below.refl _ _).alloc (Nat.le_refl _) _
  have D := plays_some w.heap.size w.heap.size sb so len cap kf uf af bf cf (w.alloc (.cells kindA 3)) (by simp) hsb (hS.of (b0.block sb hsb)) (Whole.new w 3 kindA) hlen hby
  have HD : Hid (Calls Try.prog 4 _ _ _) := D
  have B0 : Hid (Below w.heap.size w (w.alloc (.cells kindA 3))) := b0
  clear D b0 hS
  go_enter Try.func3, Try.ntmps3
  go_wp2_with fail
  refine HD.out.mono ?_
  rintro e w1 ⟨rfl, b1⟩
  go_wp2
  go_ret
  exact ⟨rfl, B0.out.trans b1⟩
set_option maxHeartbeats 1000000 in
theorem links_nil (cap : Nat) (sa : Option Addr) (w : World) :
    Calls Try.prog 3 #[.slice sa 0 cap] w fun e w' => e = .returned (.bool true) ∧ Below w.heap.size w w' := by
  have hbs : ∀ w, (Instr.buildSlice 24 6 #[(0, .int .i64 1), (1, .int .i64 2), (2, .int .i64 3), (3, .int .i64 4), (4, .int .i64 6), (5, .int .i64 7)]).run Try.prog w = .ok (.slice (some ⟨w.heap.size, 0, none⟩) 6 6) (w.alloc (.cells kindA 3)) := fun w => by kernel_rfl
  have b0 : Below w.heap.size w (w.alloc (.cells kindA 3)) := (Below.refl _ _).alloc (Nat.le_refl _) _
  have D := plays_nil w.heap.size cap sa (.slice (some ⟨w.heap.size, 0, none⟩) 6 6) (w.alloc (.cells kindA 3)) (by simp)
  have HD : Hid (Calls Try.prog 4 _ _ _) := D
  have B0 : Hid (Below w.heap.size w (w.alloc (.cells kindA 3))) := b0
  clear D b0
  go_enter Try.func3, Try.ntmps3
  go_wp2_with fail
  refine HD.out.mono ?_
  rintro e w1 ⟨rfl, b1⟩
  go_wp2
  go_ret
  exact ⟨rfl, B0.out.trans b1⟩
end Go.Proofs.Ytgimhfbpipgoeaa
