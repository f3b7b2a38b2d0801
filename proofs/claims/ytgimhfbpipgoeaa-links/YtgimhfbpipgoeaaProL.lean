import Derived.Test.YtgimhfbpipgoeaaProK
import Derived.Defers
import Derived.Recover
import Derived.Laws.Pointers
namespace Go.Proofs.Ytgimhfbpipgoeaa
open Go.RowKit

set_option maxHeartbeats 2000000 in
theorem saving_any (bw bq bx bs n x B : Nat) (ρ : Nat → Part) (tg : Nat → Nat → Part) (C : Nat → Nat → Int) (V : Nat → Nat → Value) (L : Nat → Nat → Nat) (w : World) (hn : n ≤ 5) (hxn : x < n) (hR : PN w bx bs n C V) (hW : WR w B 114 ρ tg V L) (hB : B ≤ w.heap.size)
    (inj : ∀ a c a' c', a < 5 → c < 5 → a' < 5 → c' < 5 → tg a c = tg a' c' → a = a' ∧ c = c') (hb : ∀ a c, ρ bx ≠ tg a c) (hbs : ∀ a c, ρ bs ≠ tg a c) (hz : ∀ a c, tg a c ≠ (0, 0)) (hnew : ∀ k, w.heap.size ≤ k → ρ k = (0, 0))
    (hw1 : w.cell? ⟨bw, 0, none⟩ = some (.pointer (some ⟨bx, 0, none⟩))) (hw2 : w.cell? ⟨bq, 0, none⟩ = some (.int .i64 x)) (hr1 : ρ bw = (0, 0)) (hr2 : ρ bq = (0, 0)) (hd1 : bw ≠ bx) (hd2 : bq ≠ bx) :
    Calls Try.prog 59 #[.func (.func 60) #[] #[.pointer (some ⟨bw, 0, none⟩), .pointer (some ⟨bq, 0, none⟩)]] w fun e w' => e = .returned (.int .i64 0) ∧ ∃ ρ' V', PN w' bx bs n C V' ∧ WR w' B 114 ρ' tg V' (sentL 5 C x L) ∧ (∀ k, k < w.heap.size → ρ' k = ρ k) ∧ (∀ k, w'.heap.size ≤ k → ρ' k = (0, 0)) ∧ Only (fun k => k = bs ∨ k = bx ∨ ∃ c, c < 5 ∧ ρ k = tg x c) w w' := by
  have hmf : ∀ (fn : Fn) (first cap : Array Value) (w : World), (Instr.makeFunc fn first cap).run Try.prog w = .ok (.func fn first cap) w := fun _ _ _ _ => rfl
  have hn0 : 0 < n := by omega
  have b1 : Below w.heap.size w ((w.alloc (.cells #[.int .i64 0] 48)).alloc (.cells #[.slice none 0 0] 127)) := ((Below.refl _ _).alloc (Nat.le_refl _) _).alloc (by simp) _
  have P1 := hR.below hn0 b1
  have W1 : WR ((w.alloc (.cells #[.int .i64 0] 48)).alloc (.cells #[.slice none 0 0] 127)) B 114 ρ tg V L := hW.of fun k a c hk _ _ _ => b1.block k hk
  have c1 : ((w.alloc (.cells #[.int .i64 0] 48)).alloc (.cells #[.slice none 0 0] 127)).cell? ⟨bw, 0, none⟩ = some (.pointer (some ⟨bx, 0, none⟩)) := by rw [b1.cell (p := ⟨bw, 0, none⟩) (lt_of_cell hw1)]; exact hw1
  have c2 : ((w.alloc (.cells #[.int .i64 0] 48)).alloc (.cells #[.slice none 0 0] 127)).cell? ⟨bq, 0, none⟩ = some (.int .i64 x) := by rw [b1.cell (p := ⟨bq, 0, none⟩) (lt_of_cell hw2)]; exact hw2
  have hans : ((w.alloc (.cells #[.int .i64 0] 48)).alloc (.cells #[.slice none 0 0] 127)).heap[w.heap.size]? = some (.cells #[.int .i64 0] 48) := heap_alloc2_old _ _ _
  have D1 := dump1_any bw bq bx bs n x B (.pointer (some ⟨w.heap.size + 1, 0, none⟩)) ρ tg C V L _ hn hxn P1 W1 (by simp; omega) inj hb hbs hz (fun k hk => hnew k (by simp at hk; omega)) c1 c2 hr1 hr2 hd1 hd2
  have hlx : bx < w.heap.size := hR.lt
  have hls : bs < w.heap.size := hR.lts hn0
  have hA : ¬ (w.heap.size = bs ∨ w.heap.size = bx ∨ ∃ c, c < 5 ∧ ρ w.heap.size = tg x c) := by
    rintro (e | e | ⟨c, _, e⟩)
    · omega
    · omega
    · exact hz x c (by rw [← e]; exact hnew _ (Nat.le_refl _))
  go_enter_defers Try.func59, Try.ntmps59
  go_wp2_with fail
  refine D1.mono ?_
  rintro e w1 ⟨rfl, ρ', V', p1, q1, a1, d1, o1⟩
  have e1 : w1.heap[w.heap.size]? = some (.cells #[.int .i64 0] 48) := (o1.block w.heap.size (by simp; omega) hA).trans hans
  have cA1 : w1.cell? ⟨w.heap.size, 0, none⟩ = some (.int .i64 0) := by rw [cell_of_row w1 w.heap.size 0 _ 48 (0, 0) e1]; rfl
  have fA1 : w1.frozen? ⟨w.heap.size, 0, none⟩ = false := frozen_of_row w1 w.heap.size 0 _ 48 e1
  have hρ : ρ w.heap.size = (0, 0) := hnew _ (Nat.le_refl _)
  have X1 : PN (w1.setCell ⟨w.heap.size, 0, none⟩ (.int .i64 0)) bx bs n C V' := p1.of (heap_setCell_other _ _ _ _ (by show bx ≠ w.heap.size; omega)) (heap_setCell_other _ _ _ _ (by show bs ≠ w.heap.size; omega))
  have X2 : WR (w1.setCell ⟨w.heap.size, 0, none⟩ (.int .i64 0)) B 114 ρ' tg V' (sentL 5 C x L) := q1.of fun k a c hk _ _ hp => heap_setCell_other _ _ _ _ (by
    show k ≠ w.heap.size
    rintro rfl
    rw [a1 _ (by simp; omega), hρ] at hp
    exact hz a c hp.symm)
  have z1 : w.heap.size + 2 ≤ w1.heap.size := by have := o1.size; simp at this; omega
  have X3 : Only (fun k => k = bs ∨ k = bx ∨ ∃ c, c < 5 ∧ ρ k = tg x c) w (w1.setCell ⟨w.heap.size, 0, none⟩ (.int .i64 0)) :=
    Only.setCell ⟨o1.os.trans b1.os, o1.tape.trans b1.tape, o1.output.trans b1.output, by omega, fun k hk hs => (o1.block k (by simp; omega) hs).trans (b1.block k hk)⟩ (.inr (Nat.le_refl _)) _
  have HX1 : Hid (PN (w1.setCell ⟨w.heap.size, 0, none⟩ (.int .i64 0)) bx bs n C V') := X1; clear X1
  have HX2 : Hid (WR (w1.setCell ⟨w.heap.size, 0, none⟩ (.int .i64 0)) B 114 ρ' tg V' (sentL 5 C x L)) := X2; clear X2
  have HX3 : Hid (Only (fun k => k = bs ∨ k = bx ∨ ∃ c, c < 5 ∧ ρ k = tg x c) w (w1.setCell ⟨w.heap.size, 0, none⟩ (.int .i64 0))) := X3; clear X3
  have HA1 : Hid (∀ k, k < w.heap.size → ρ' k = ρ k) := fun k hk => a1 k (by simp; omega)
  have HD1 : Hid (∀ k, w1.heap.size ≤ k → ρ' k = (0, 0)) := d1
  clear D1 P1 W1 c1 c2 hans a1 d1 o1 p1 q1 hR hW inj hb hbs hz hnew hw1 hw2 hr1 hr2 hA b1 hρ
  go_wp2
  refine leaves_cons (f := 70) (args := #[.pointer (some ⟨w.heap.size + 1, 0, none⟩), .pointer (some ⟨w.heap.size, 0, none⟩)]) (by simp) (by simp [go_sem]) ?_
  refine (catch_idle _ _ _).mono ?_
  rintro e u' w'' ⟨rfl, rfl, rfl⟩
  simp [Leaves, settle, results, Try.results59, go_sem, cA1]
  exact ⟨ρ', V', HX1.out, HX2.out, HA1.out, HD1.out, HX3.out⟩
end Go.Proofs.Ytgimhfbpipgoeaa
