import Derived.Test.YtdoodnbobpijoaaBunJ
import Derived.Test.YtdoodnbobpijoaaBunG
namespace Go.Proofs.Ytdoodnbobpijoaa
open Go.RowKit

/-! ### Straight -/
set_option maxHeartbeats 2000000 in
theorem straight_any (w : World) (size : Int) (fs : Fits size) (sa : Option Addr) (len cap : Nat) (f : Nat → St) (hS : Scp w sa len f) :
    Calls Try.prog 6 #[.int .i64 size, .slice sa len cap] w fun e w' => e = .returned (.bool true) ∧ Below w.heap.size w w' := by
  obtain ⟨n, hn, n2, n5⟩ := size_pick size
  have KL : Hid (Calls Try.prog 14 #[.int .i64 size] w fun e w' => ∃ bk bx bs, e = .returned (.pointer (some ⟨bk, 0, none⟩)) ∧ PostK w.heap.size 0 (fun _ => (0, 0)) bk bx bs (laidN n) w w') := klaid size n fs.1 fs.2 hn (fun _ _ => rfl) (Nat.le_refl _)
  have HG : Hid (Good (laidN n) ∧ (laidN n).n = n) := laid_good n n2 n5
  have HS : Hid (Scp w sa len f) := hS
  clear hS hn fs
  go_enter Try.func6, Try.ntmps6
  go_wp2_with fail
  refine (KL.out).mono ?_
  rintro e w1 ⟨bk, bx, bs, rfl, ρ1, V1, q1, q2⟩
  clear KL
  have Q1 : Hid (KI w1 w.heap.size ρ1 0 bk bx bs (laidN n) V1) := q1
  have Q2 : Hid (Aft 0 (fun _ => (0, 0)) ρ1 w w1) := q2
  clear q1 q2
  go_wp2_with fail
  go_loopw [6] (fun v wr => ∃ k : Nat, k ≤ len ∧ k ≤ 150 ∧ v = .int .i64 k ∧ ∃ ρ' V', KI wr w.heap.size ρ' 0 bk bx bs (playF (laidN n) f k) V' ∧ Aft 0 (fun _ => (0, 0)) ρ' w wr) (fun v _ => 150 - (intOf v).toNat)
  case atStart => exact ⟨0, by omega, by omega, rfl, ρ1, V1, Q1.out, Q2.out⟩
  case round =>
    clear Q1 Q2
    obtain ⟨k, hk, hk150, rfl, ρ2, V2, q1, q2⟩ := hrel
    by_cases hkl : k < len
    · have hkl' : (k : Int) < (len : Int) := by omega
      by_cases hk1 : k < 150
      · have hk1' : (k : Int) < 150 := by omega
        have hk0 : (0 : Int) ≤ (k : Int) := by omega
        obtain ⟨sb, so, rfl, ⟨s0, s1, s2, s3⟩, ft⟩ := HS.out.at q2.all hkl
        have CX : Hid (Calls Try.prog 15 #[.pointer (some ⟨bk, 0, none⟩), .agg #[.int .i64 (f k).k, .int .i64 (f k).a, .int .i64 (f k).b, .int .i64 (f k).c]] wr fun e w' => e = .returned (.tuple #[]) ∧ PostK w.heap.size 0 ρ2 bk bx bs (playF (laidN n) f (k + 1)) wr w') := kdoes q1 q2.new q2.only.size (f k) ft
        have Q2 : Hid (Aft 0 (fun _ => (0, 0)) ρ2 w wr) := q2
        clear q1 q2 ft
        go_wp2_with (first | (go_at_call 15; refine (CX.out).mono ?_; rintro e w2 ⟨rfl, ρ3, V3, t1, t2⟩; have T1 : Hid (KI w2 w.heap.size ρ3 0 bk bx bs (playF (laidN n) f (k + 1)) V3) := t1; have T2 : Hid (Aft 0 ρ2 ρ3 wr w2) := t2; clear t1 t2) | (go_at_call 16; refine (kstraight T1.out).mono ?_; rintro e w3 ⟨rfl, b3⟩))
        go_roundw
        case rel => exact ⟨k + 1, by omega, by omega, by go_num, ρ3, V3, T1.out.below b3, (Q2.out.trans T2.out).trans (Aft.below b3 T2.out.new)⟩
        case measure => simp [intOf]; omega
      · have hk1' : ¬ (k : Int) < 150 := by omega
        have Q2 : Hid (Below w.heap.size w wr) := q2.all
        clear q1 q2
        go_wp2
        go_ret
        exact ⟨rfl, Q2.out⟩
    · have hkl' : ¬ (k : Int) < (len : Int) := by omega
      have Q2 : Hid (Below w.heap.size w wr) := q2.all
      clear q1 q2
      go_wp2
      go_ret
      exact ⟨rfl, Q2.out⟩
end Go.Proofs.Ytdoodnbobpijoaa
