import Derived.Test.YtgimhfbpipgoeaaHarK
import Derived.Deep.QuietTactic
import Derived.BigQuiet
namespace Go.Proofs.Ytgimhfbpipgoeaa
open Go.RowKit

theorem Inv.start (w : World) (B : Nat) (hB : B ≤ w.heap.size) : Inv (w.alloc (.cells #[.slice none 0 0, .slice none 0 0] 32)) B (fun k => if k = w.heap.size then (0, 1) else (0, 0)) w.heap.size [] :=
  ⟨fun i N h => by simp at h, fun k hk => by simp at hk; rw [if_neg (by omega)], fun k hk => by rw [if_neg (by omega)], by simp; omega, ⟨.slice none 0 0, Whole.new w 32 _, World.ownsRow_nil _ _ _ _, fun g hg => by simp [Value.ownBlock] at hg⟩, by simp, hB⟩

set_option maxHeartbeats 4000000 in
theorem plays_some (B kb sb so len cap : Nat) (kf uf af bf cf : Nat → Int) (w : World) (hB : B ≤ w.heap.size) (hsb : sb < B) (hS : Scr w sb so len kf uf af bf cf) (hK : Whole w kb 3 kindA) (hlen : len ≤ maxLen) (hby : (len + 4) * 16 ≤ 140737488355328) :
    Calls Try.prog 4 #[.slice (some ⟨sb, so, none⟩) len cap, .slice (some ⟨kb, 0, none⟩) 6 6] w fun e w' => e = .returned (.bool true) ∧ Below B w w' := by
  have lk := hK.lt
  have i0 := Inv.start w B hB
  have b0 : Below w.heap.size w (w.alloc (.cells #[.slice none 0 0, .slice none 0 0] 32)) := (Below.refl _ _).alloc (Nat.le_refl _) _
  have p0 : Pl w (w.alloc (.cells #[.slice none 0 0, .slice none 0 0] 32)) B kb w.heap.size sb so len kf uf af bf cf (fun k => if k = w.heap.size then (0, 1) else (0, 0)) [] :=
    ⟨i0, b0.mono hB, hK.below b0, by rw [if_neg (by omega)], hS.of (b0.block sb (by omega))⟩
  have b1 : Below (w.heap.size + 1) (w.alloc (.cells #[.slice none 0 0, .slice none 0 0] 32)) ((w.alloc (.cells #[.slice none 0 0, .slice none 0 0] 32)).alloc (.cells headA 36)) := (Below.refl _ _).alloc (by simp) _
  have p1 : Pl w ((w.alloc (.cells #[.slice none 0 0, .slice none 0 0] 32)).alloc (.cells headA 36)) B kb w.heap.size sb so len kf uf af bf cf (fun k => if k = w.heap.size then (0, 1) else (0, 0)) [] :=
    p0.step (p0.inv.below (b1.mono (by simp))) (b1.mono (by omega)) (Stays.below (b1.mono (by simp))) hsb
  have n1 := Whole.new (w.alloc (.cells #[.slice none 0 0, .slice none 0 0] 32)) 36 headA
  simp only [World.size_alloc] at n1
  have P1 : Hid (Pl w ((w.alloc (.cells #[.slice none 0 0, .slice none 0 0] 32)).alloc (.cells headA 36)) B kb w.heap.size sb so len kf uf af bf cf (fun k => if k = w.heap.size then (0, 1) else (0, 0)) []) := p1
  have N1 : Hid (Whole ((w.alloc (.cells #[.slice none 0 0, .slice none 0 0] 32)).alloc (.cells headA 36)) (w.heap.size + 1) 36 headA) := n1
  have hA : ∀ o, o < 15 → headA[o]? = some (headA[o]?.getD undef) := fun o ho => by
    have : o < headA.size := ho
    simp [this]
  have hc1 : ∀ o, ((w.alloc (.cells #[.slice none 0 0, .slice none 0 0] 32)).alloc (.cells headA 36)).cell? ⟨w.heap.size + 1, o, none⟩ = (#[.int .i64 1, .int .i64 0, .int .i64 3, .int .i64 0, .int .i64 0, .int .i64 2, .int .i64 0, .int .i64 0, .int .i64 1, .int .i64 2, .int .i64 2, .int .i64 0, .int .i64 1, .int .i64 2, .int .i64 3] : Array Value)[o]? := fun o => n1.cell o
  clear p1 n1 hA i0 b0 b1 p0
  unfold maxLen at hlen
  go_enter Try.func4, Try.ntmps4
  go_wp2_with (go_at_call 5; refine (head_any _).mono ?_; rintro e w' ⟨rfl, rfl⟩)
  refine wp_loop_rounds 4 ?_
  rw [rounds_succ]
  go_wp2_with fail
  have z1 : Hid ((fun k => if k = w.heap.size then ((0, 1) : Part) else (0, 0)) (w.heap.size + 1) = (0, 0)) := by show (if w.heap.size + 1 = w.heap.size then ((0, 1) : Part) else (0, 0)) = (0, 0); rw [if_neg (by omega)]
  refine (step_all w.heap.size B 1 0 3 0 0 _ [] _ P1.out.inv (.inl rfl) (by omega) (by omega) (by simp; unfold maxLen; omega) (by simp)).mono ?_
  rintro e w1 ⟨rfl, ρ1, ns1, i1, b1, l1, m1, s1⟩
  have q1 := P1.out.step i1 b1 s1 hsb
  have y1 := N1.out.of (s1.2.1 _ N1.out.lt (by rw [z1.out]) (by rw [z1.out]; simp) (by rw [z1.out]; simp))
  have z2 : Hid (ρ1 (w.heap.size + 1) = (0, 0)) := (s1.1 _ N1.out.lt).trans z1.out
  have hc2 : ∀ o, w1.cell? ⟨w.heap.size + 1, o, none⟩ = (#[.int .i64 1, .int .i64 0, .int .i64 3, .int .i64 0, .int .i64 0, .int .i64 2, .int .i64 0, .int .i64 0, .int .i64 1, .int .i64 2, .int .i64 2, .int .i64 0, .int .i64 1, .int .i64 2, .int .i64 3] : Array Value)[o]? := fun o => y1.cell o
  have P2 : Hid (Pl w w1 B kb w.heap.size sb so len kf uf af bf cf ρ1 ns1) := q1
  have N2 : Hid (Whole w1 (w.heap.size + 1) 36 headA) := y1
  clear q1 y1 i1 b1 s1 P1 N1 z1 hc1
  simp only [List.length_nil] at l1 m1
  go_wp2_with fail
  rw [rounds_succ]
  go_wp2_with fail
  refine (step_all w.heap.size B 2 0 0 1 2 _ _ _ P2.out.inv (.inr (.inl rfl)) (by omega) (by omega) (by unfold maxLen; omega) (by omega)).mono ?_
  rintro e w2 ⟨rfl, ρ2, ns2, i2, b2, l2, m2, s2⟩
  have q2 := P2.out.step i2 b2 s2 hsb
  have y2 := N2.out.of (s2.2.1 _ N2.out.lt (by rw [z2.out]) (by rw [z2.out]; simp) (by rw [z2.out]; simp))
  have z3 : Hid (ρ2 (w.heap.size + 1) = (0, 0)) := (s2.1 _ N2.out.lt).trans z2.out
  have hc3 : ∀ o, w2.cell? ⟨w.heap.size + 1, o, none⟩ = (#[.int .i64 1, .int .i64 0, .int .i64 3, .int .i64 0, .int .i64 0, .int .i64 2, .int .i64 0, .int .i64 0, .int .i64 1, .int .i64 2, .int .i64 2, .int .i64 0, .int .i64 1, .int .i64 2, .int .i64 3] : Array Value)[o]? := fun o => y2.cell o
  have P3 : Hid (Pl w w2 B kb w.heap.size sb so len kf uf af bf cf ρ2 ns2) := q2
  have N3 : Hid (Whole w2 (w.heap.size + 1) 36 headA) := y2
  clear q2 y2 i2 b2 s2 P2 N2 z2 hc2
  go_wp2_with fail
  rw [rounds_succ]
  go_wp2_with fail
  refine (step_all w.heap.size B 2 0 1 2 3 _ _ _ P3.out.inv (.inr (.inl rfl)) (by omega) (by omega) (by unfold maxLen; omega) (by omega)).mono ?_
  rintro e w3 ⟨rfl, ρ3, ns3, i3, b3, l3, m3, s3⟩
  have q3 := P3.out.step i3 b3 s3 hsb
  have y3 := N3.out.of (s3.2.1 _ N3.out.lt (by rw [z3.out]) (by rw [z3.out]; simp) (by rw [z3.out]; simp))
  have z4 : Hid (ρ3 (w.heap.size + 1) = (0, 0)) := (s3.1 _ N3.out.lt).trans z3.out
  have hc4 : ∀ o, w3.cell? ⟨w.heap.size + 1, o, none⟩ = (#[.int .i64 1, .int .i64 0, .int .i64 3, .int .i64 0, .int .i64 0, .int .i64 2, .int .i64 0, .int .i64 0, .int .i64 1, .int .i64 2, .int .i64 2, .int .i64 0, .int .i64 1, .int .i64 2, .int .i64 3] : Array Value)[o]? := fun o => y3.cell o
  have P4 : Hid (Pl w w3 B kb w.heap.size sb so len kf uf af bf cf ρ3 ns3) := q3
  have N4 : Hid (Whole w3 (w.heap.size + 1) 36 headA) := y3
  clear q3 y3 i3 b3 s3 P3 N3 z3 hc3
  have hm : ns3.length ≤ 3 := by omega
  clear hc4 N4 z4 l1 m1 l2 m2 l3 m3
  go_wp2_with fail
  rw [rounds_succ]
  go_wp2_with fail
  go_loopw [6, 9] (fun okv i wr => ∃ (k : Nat) (ρ : Nat → Part) (ns : List NetD), k ≤ len ∧ i = .int .i64 k ∧ okv = .bool true ∧ ns.length ≤ 3 + k ∧ Pl w wr B kb w.heap.size sb so len kf uf af bf cf ρ ns) (fun _ i _ => len - (intOf i).toNat)
  case atStart => exact ⟨0, ρ3, ns3, Nat.zero_le _, rfl, rfl, by omega, P4.out⟩
  case round =>
    clear P4
    obtain ⟨k, ρ, ns, hk, rfl, rfl, hns, hP⟩ := hrel
    by_cases hkl : k < len
    · have hkl' : (k : Int) < (len : Int) := by omega
      have hk0 : (0 : Int) ≤ (k : Int) := by omega
      have HP : Hid (Pl w wr B kb w.heap.size sb so len kf uf af bf cf ρ ns) := hP; clear hP
      obtain ⟨wo, hwo⟩ : ∃ wo, wo = wr := ⟨_, rfl⟩
      subst hwo
      go_wp2_with fail
      go_loopw [10, 11] (fun inv j wv => ∃ m : Nat, m ≤ 6 ∧ j = .int .i64 m ∧ inv = .bool (inB (kf k) m) ∧ Sim wo wv) (fun _ j _ => 6 - (intOf j).toNat)
      case atStart => exact ⟨0, by omega, rfl, rfl, ⟨rfl, rfl, rfl, rfl⟩⟩
      case round =>
        obtain ⟨m, hm6, rfl, rfl, hsim⟩ := hrel
        have HQ : Hid (Pl w wr B kb w.heap.size sb so len kf uf af bf cf ρ ns) := HP.out.sim hsim
        by_cases hm : m < 6
        · have hm' : (m : Int) < 6 := by omega
          have hm0 : (0 : Int) ≤ (m : Int) := by omega
          have HSim : Hid (Sim wo wr) := hsim; clear hsim
          cases hin : inB (kf k) m with
          | true =>
            have HE : Hid (inB (kf k) (m + 1) = true) := by show inB (kf k) (m + 1) = true; simp [inB, hin]
            clear hin
            go_wp2_with fail
            go_quiet (fail)
            go_wp2
            go_roundw
            case rel => exact ⟨m + 1, by omega, by go_num, by rw [HE.out], ⟨HSim.out.heap, HSim.out.os, HSim.out.tape, HSim.out.output⟩⟩
            case measure => simp [intOf]; omega
          | false =>
            have HE : Hid (inB (kf k) (m + 1) = (kf k == kq m)) := by show inB (kf k) (m + 1) = (kf k == kq m); simp [inB, hin]
            clear hin
            have sk := HQ.out.scr.k k hkl
            have kc : wr.cell? ⟨kb, m, none⟩ = some (.int .i64 (kq m)) := by rw [HQ.out.kinds.cell m, kindA_at m hm]
            go_wp2_with fail
            go_quiet (fail)
            go_wp2
            go_roundw
            case rel => exact ⟨m + 1, by omega, by go_num, by rw [HE.out], ⟨HSim.out.heap, HSim.out.os, HSim.out.tape, HSim.out.output⟩⟩
            case measure => simp [intOf]; omega
        · have hm6' : m = 6 := by omega
          subst hm6'
          cases hin : inB (kf k) 6 with
          | false =>
            go_wp2_with fail
            go_roundw
            case rel => exact ⟨k + 1, ρ, ns, by omega, by go_num, rfl, by omega, HQ.out⟩
            case measure => simp [intOf]; omega
          | true =>
            have HK : Hid (kf k = 1 ∨ kf k = 2 ∨ kf k = 3 ∨ kf k = 4 ∨ kf k = 6 ∨ kf k = 7) := inB_six (kf k) hin
            have sk := HQ.out.scr.k k hkl
            have su := HQ.out.scr.u k hkl
            have sa := HQ.out.scr.a k hkl
            have sbb := HQ.out.scr.b k hkl
            have sc := HQ.out.scr.c k hkl
            have hu := HQ.out.scr.ok k hkl
            have HU : Hid (-9223372036854775808 ≤ uf k ∧ uf k ≤ 9223372036854775807) := hu; clear hu
            go_wp2_with (first | (go_at_call 6; refine (step_all w.heap.size B (kf k) (uf k) (af k) (bf k) (cf k) ρ ns _ HQ.out.inv HK.out HU.out.1 HU.out.2 (by unfold maxLen; omega) (by omega)).mono ?_; rintro e w4 ⟨rfl, ρ4, ns4, i4, b4, l4, m4, s4⟩; obtain ⟨vv, y4, _, _⟩ := i4.y; have yc := (y4.cell 1).trans (show (#[vv, Value.slice none 0 0] : Array Value)[1]? = some (.slice none 0 0) from rfl); clear y4) |
              (go_at_call 7; refine (whole_any w.heap.size _ yc).mono ?_; rintro e w5 ⟨rfl, rfl⟩))
            go_roundw
            case rel => exact ⟨k + 1, ρ4, ns4, by omega, by go_num, rfl, by omega, HQ.out.step i4 b4 s4 hsb⟩
            case measure => simp [intOf]; omega
    · go_wp2
      go_ret
      exact ⟨rfl, hP.low⟩
end Go.Proofs.Ytgimhfbpipgoeaa
