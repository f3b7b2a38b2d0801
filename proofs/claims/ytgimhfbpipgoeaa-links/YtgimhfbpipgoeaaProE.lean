import Derived.Test.YtgimhfbpipgoeaaProD
import Derived.Deep.DrawnRows
namespace Go.Proofs.Ytgimhfbpipgoeaa
open Go.RowKit
attribute [local go_sem ↓] Go.wp_at_zero Go.wp_at_succ ld87 st87 alc87 mks70 bld78
attribute [local go_sem] vb_ptr vo_ptr cellsL_agg size_setCells intOf_int isSl_slice

set_option maxHeartbeats 1000000 in
theorem pnew_ok (n : Nat) (w : World) (h2 : 2 ≤ n) (h5 : n ≤ 5) :
    Calls Try.prog 13 #[.int .i64 n] w fun e w' => ∃ bx bs, w.heap.size ≤ bx ∧ w.heap.size ≤ bs ∧ e = .returned (.tuple #[.pointer (some ⟨bx, 0, none⟩), .int .i64 0]) ∧ PN w' bx bs n (fun _ _ => 0) (fun _ _ => .slice none 0 0) ∧ Below w.heap.size w w' := by
  have g2 : ¬ (n : Int) < 2 := by omega
  have g5 : ¬ (5 : Int) < (n : Int) := by omega
  have hmk : MkOk (n : Int) := ⟨by omega, by omega⟩
  have hag := aggOk_rt
  have hp0 : (pzA (.slice (some ⟨w.heap.size, 0, none⟩) n n))[0]? = some (.slice (some ⟨w.heap.size, 0, none⟩) n n) := pzA_at _ 0 (by omega)
  go_enter Try.func13, Try.ntmps13
  go_wp2
  have hS := Whole.new (w.alloc (.cells (rzA (n * 74)) 87)) 78 (pzA (.slice (some ⟨w.heap.size, 0, none⟩) n n))
  have hP := (PK.zero w n).of (Below.heap_alloc (w.alloc (.cells (rzA (n * 74)) 87)) (.cells (pzA (.slice (some ⟨w.heap.size, 0, none⟩) n n)) 78) w.heap.size (by simp))
  have hBel : Below w.heap.size w ((w.alloc (.cells (rzA (n * 74)) 87)).alloc (.cells (pzA (.slice (some ⟨w.heap.size, 0, none⟩) n n)) 78)) := ((Below.refl _ _).alloc (Nat.le_refl _) _).alloc (by simp) _
  simp only [World.size_alloc] at hS
  have hne : w.heap.size + 1 ≠ w.heap.size := by omega
  go_loopw [21] (fun i wr => ∃ k : Nat, k ≤ n ∧ i = .int .i64 k ∧ Whole wr (w.heap.size + 1) 78 (pzA (.slice (some ⟨w.heap.size, 0, none⟩) n n)) ∧ PK wr w.heap.size n k ∧ Below w.heap.size w wr) (fun i _ => n - (intOf i).toNat)
  case atStart => exact ⟨0, by omega, rfl, hS, hP, hBel⟩
  case round =>
    clear hS hP hBel
    obtain ⟨k, hk, rfl, q0, q1, q4⟩ := hrel
    by_cases hkn : k < n
    · have hk' : (k : Int) < (n : Int) := by omega
      have hk0 : (0 : Int) ≤ (k : Int) := by omega
      have hI : S7 (w.heap.size + 1) w.heap.size n (k * 74) wr := ⟨by rw [q0.cell 0, pzA_at _ 0 (by omega)]; rfl, q1.there _ _ (by omega)⟩
      have Q0 : Hid (Whole wr (w.heap.size + 1) 78 (pzA (.slice (some ⟨w.heap.size, 0, none⟩) n n))) := q0; clear q0
      have Q1 : Hid (PK wr w.heap.size n k) := q1; clear q1
      have Q4 : Hid (Below w.heap.size w wr) := q4; clear q4
      go_wp2_with fail
      go_region_held3 (fun w' => w'.cell? ⟨w.heap.size + 1, 0, none⟩ = some (.slice (some ⟨w.heap.size, 0, none⟩) n n) ∧ w'.there w.heap.size (k * 74) 74) (first | exact S7_drew hI | exact S7_below (by assumption) hb | exact S7_store (by assumption) hne _)
        (first | (go_at_call 45; refine (fresh_any _).mono ?_; rintro e w1 ⟨rfl, hb⟩))
      go_wp2
      go_roundw
      case rel =>
        have z1 := Q4.out.size
        have l0 : w.heap.size < wr.drew.heap.size := Nat.lt_of_succ_lt Q0.out.lt
        have P1 : PK w1 w.heap.size n k := (Q1.out.of (w' := wr.drew) rfl).of (hb.block _ l0)
        have X1 : Whole (w1.setCells w.heap.size (k * 74) rtA.toList) (w.heap.size + 1) 78 (pzA (.slice (some ⟨w.heap.size, 0, none⟩) n n)) := (Q0.out.drew.below hb).setCells hne _ _
        have B1 : Below w.heap.size w (w1.setCells w.heap.size (k * 74) rtA.toList) := Below.setCells (Q4.out.drew.trans (hb.mono z1)) (Nat.le_refl _) _ _
        first
        | exact ⟨k + 1, by omega, by go_num, X1, P1.step hkn, B1⟩
        | ((repeat apply Exists.intro); exact ⟨⟨k + 1, by omega, by go_num, X1, P1.step hkn, B1⟩, rfl⟩)
      case measure => simp [intOf]; omega
    · have hk6 : k = n := by omega
      subst hk6
      go_wp2
      go_ret2
      exact ⟨w.heap.size + 1, w.heap.size, by omega, Nat.le_refl _, rfl, q1.pn q0 hne, q4⟩
end Go.Proofs.Ytgimhfbpipgoeaa
