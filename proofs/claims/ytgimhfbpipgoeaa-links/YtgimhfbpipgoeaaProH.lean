import Derived.Test.YtgimhfbpipgoeaaProG
import Derived.Deep.DrawnRows
namespace Go.Proofs.Ytgimhfbpipgoeaa
open Go.RowKit

theorem idx_self (k : Nat) (hk : k < 5) (w : World) : (Instr.index 114 (.agg (mkA 5 k)) (.int .i64 k)).run Try.prog w = .ok (.agg #[.int .i64 0, .int .i64 0]) w := by
  rw [mkA_eq]
  rcases k with _ | _ | _ | _ | _ | k
  · kernel_rfl
  · kernel_rfl
  · kernel_rfl
  · kernel_rfl
  · kernel_rfl
  · omega
theorem idx_other (k x : Nat) (hk : k < 5) (hx : x < 5) (hne : k ≠ x) (w : World) : (Instr.index 114 (.agg (mkA 5 x)) (.int .i64 k)).run Try.prog w = .ok (.agg #[.int .i64 (-1), .int .i64 0]) w := by
  rw [mkA_eq]
  rcases k with _ | _ | _ | _ | _ | k
  · rcases x with _ | _ | _ | _ | _ | x
    · omega
    · kernel_rfl
    · kernel_rfl
    · kernel_rfl
    · kernel_rfl
    · omega
  · rcases x with _ | _ | _ | _ | _ | x
    · kernel_rfl
    · omega
    · kernel_rfl
    · kernel_rfl
    · kernel_rfl
    · omega
  · rcases x with _ | _ | _ | _ | _ | x
    · kernel_rfl
    · kernel_rfl
    · omega
    · kernel_rfl
    · kernel_rfl
    · omega
  · rcases x with _ | _ | _ | _ | _ | x
    · kernel_rfl
    · kernel_rfl
    · kernel_rfl
    · omega
    · kernel_rfl
    · omega
  · rcases x with _ | _ | _ | _ | _ | x
    · kernel_rfl
    · kernel_rfl
    · kernel_rfl
    · kernel_rfl
    · omega
    · omega
  · omega

def S4 (t bs p : Nat) (w' : World) : Prop := w'.cell? ⟨t, 0, none⟩ = some (.int .i64 (-1)) ∧ w'.cell? ⟨t, 1, none⟩ = some (.int .i64 0) ∧ w'.cell? ⟨bs, p, none⟩ = some (.int .i64 (-1)) ∧ w'.cell? ⟨bs, p + 1, none⟩ = some (.int .i64 0)
theorem S4_drew {t bs p : Nat} {w : World} (h : S4 t bs p w) : S4 t bs p w.drew := h
theorem S4_below {t bs p : Nat} {w w' : World} (h : S4 t bs p w) (hb : Below w.heap.size w w') : S4 t bs p w' := by
  obtain ⟨h1, h2, h3, h4⟩ := h
  exact ⟨by rw [hb.cell (p := ⟨t, 0, none⟩) (lt_of_cell h1)]; exact h1, by rw [hb.cell (p := ⟨t, 1, none⟩) (lt_of_cell h2)]; exact h2, by rw [hb.cell (p := ⟨bs, p, none⟩) (lt_of_cell h3)]; exact h3, by rw [hb.cell (p := ⟨bs, p + 1, none⟩) (lt_of_cell h4)]; exact h4⟩

attribute [local go_sem ↓] Go.wp_at_zero Go.wp_at_succ ld83 st83 alc83 ld114 st114 alc114 ld72
attribute [local go_sem] vb_ptr vo_ptr cellsL_agg size_setCells intOf_int

set_option maxHeartbeats 1000000 in
theorem raise_any (bs o x : Nat) (lg : Value) (w : World) (hx : x < 5) (hK : KB w bs o) :
    Calls Try.prog 74 #[.pointer (some ⟨bs, o, none⟩), .int .i64 x, .agg (mkA 5 x), lg] w fun e w' => e = .returned (.tuple #[]) ∧ Below w.heap.size w w' := by
  have hlt := hK.lt
  have k1 := (Whole.new w 114 (mkA 5 x)).mid (mkA_size 5 x)
  go_enter Try.func74, Try.ntmps74
  go_wp2
  have hKk := hK.alloc (.cells (mkA 5 x) 114)
  have hBel : Below w.heap.size w (w.alloc (.cells (mkA 5 x) 114)) := (Below.refl _ _).alloc (Nat.le_refl _) _
  go_loopw [11] (fun i wr => ∃ k : Nat, k ≤ 5 ∧ i = .int .i64 k ∧ KB wr bs o ∧ Below w.heap.size w wr) (fun i _ => 5 - (intOf i).toNat)
  case atStart => exact ⟨0, by omega, rfl, hKk, hBel⟩
  case round =>
    clear hKk hBel hK k1
    obtain ⟨k, hk, rfl, q3, q4⟩ := hrel
    have z1 := q4.size
    have lb := q3.lt
    by_cases hk5 : k < 5
    · have hk' : (k : Int) < 5 := by omega
      have hk0 : (0 : Int) ≤ (k : Int) := by omega
      by_cases hkx : k = x
      · subst hkx
        have ix := idx_self k hk5
        have hg : ((k : Int) != (k : Int)) = false := by simp
        have Q3 : Hid (KB wr bs o) := q3; clear q3
        have Q4 : Hid (Below w.heap.size w wr) := q4; clear q4
        go_wp2_with fail
        go_quiet (fail)
        go_wp2
        have X := Q4.out.alloc z1 (.cells #[.int .i64 0, .int .i64 0] 80)
        go_roundw
        case rel => exact ⟨k + 1, by omega, by go_num, (Q3.out.alloc _).of rfl, ⟨X.os, X.tape, X.output, X.size, X.block⟩⟩
        case measure => simp [intOf]; omega
      · have ix := idx_other k x hk5 hx hkx
        have hkx' : ((k : Int) != (x : Int)) = true := by rw [bne_iff_ne]; omega
        have b0 := q3.at_ (26 + k * 2) (by omega)
        have b1 := q3.at_ (26 + k * 2 + 1) (by omega)
        rw [(bk_best k hk5).1] at b0
        rw [(bk_best k hk5).2] at b1
        simp only [← Nat.add_assoc] at b0 b1
        have Q3 : Hid (KB wr bs o) := q3; clear q3
        have Q4 : Hid (Below w.heap.size w wr) := q4; clear q4
        have hI : S4 wr.heap.size bs (o + 26 + k * 2) (wr.alloc (.cells #[.int .i64 (-1), .int .i64 0] 80)) := by
          have n0 := Whole.new wr 80 #[.int .i64 (-1), .int .i64 0]
          have e := Below.heap_alloc wr (.cells #[.int .i64 (-1), .int .i64 0] 80) bs lb
          exact ⟨n0.cell 0, n0.cell 1, by rw [World.cell?_of_block (w := wr) (a := ⟨bs, _, none⟩) e]; exact b0, by rw [World.cell?_of_block (w := wr) (a := ⟨bs, _, none⟩) e]; exact b1⟩
        go_wp2_with fail
        go_region_held3 (fun w' => w'.cell? ⟨wr.heap.size, 0, none⟩ = some (.int .i64 (-1)) ∧ w'.cell? ⟨wr.heap.size, 1, none⟩ = some (.int .i64 0) ∧ w'.cell? ⟨bs, o + 26 + k * 2, none⟩ = some (.int .i64 (-1)) ∧ w'.cell? ⟨bs, o + 26 + k * 2 + 1, none⟩ = some (.int .i64 0))
          (first | exact S4_drew hI | exact S4_below (by assumption) hb)
          (first | (go_at_call 80; refine (better_any _).mono ?_; rintro e w1 ⟨rfl, hb⟩))
        go_wp2
        have X := (Q4.out.alloc z1 (.cells #[.int .i64 (-1), .int .i64 0] 80)).drew.trans (hb.mono (by simp; omega))
        go_roundw
        case rel => exact ⟨k + 1, by omega, by go_num, KB.below (w := (wr.alloc (.cells #[.int .i64 (-1), .int .i64 0] 80)).drew) ((Q3.out.alloc _).of rfl) hb, X⟩
        case measure => simp [intOf]; omega
    · go_wp2
      go_end0
      exact ⟨rfl, q4⟩
end Go.Proofs.Ytgimhfbpipgoeaa
