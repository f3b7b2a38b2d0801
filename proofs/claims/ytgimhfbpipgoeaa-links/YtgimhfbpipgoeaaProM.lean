import Derived.Test.YtgimhfbpipgoeaaProL
namespace Go.Proofs.Ytgimhfbpipgoeaa
open Go.RowKit

set_option maxHeartbeats 400000 in
theorem pdump_no (bx bs n : Nat) (r : Int) (C : Nat → Nat → Int) (V : Nat → Nat → Value) (w : World) (hn : 0 < n) (hR : PN w bx bs n C V) (h0 : isB n r = false) :
    Calls Try.prog 33 #[.pointer (some ⟨bx, 0, none⟩), .int .i64 r] w fun e w' => e = .returned (.int .i64 2) ∧ Below w.heap.size w w' := by
  have hE : upE n r = 2 := by simp [upE, h0]
  have b1 : Below w.heap.size w ((w.alloc (.cells #[.pointer (some ⟨bx, 0, none⟩)] 39)).alloc (.cells #[.int .i64 r] 3)) := ((Below.refl _ _).alloc (Nat.le_refl _) _).alloc (by simp) _
  have P1 := hR.below hn b1
  go_enter Try.func33, Try.ntmps33
  go_wp2_with (go_at_call 58; refine (cup_any bx bs n _ C V _ P1).mono ?_; rintro e w' ⟨rfl, rfl⟩)
  go_ret
  exact ⟨rfl, b1⟩

set_option maxHeartbeats 1000000 in
theorem pdump_ok (bx bs n x B : Nat) (ρ : Nat → Part) (tg : Nat → Nat → Part) (C : Nat → Nat → Int) (V : Nat → Nat → Value) (L : Nat → Nat → Nat) (w : World) (hn : n ≤ 5) (hxn : x < n) (hR : PN w bx bs n C V) (hW : WR w B 114 ρ tg V L) (hB : B ≤ w.heap.size)
    (inj : ∀ a c a' c', a < 5 → c < 5 → a' < 5 → c' < 5 → tg a c = tg a' c' → a = a' ∧ c = c') (hb : ∀ a c, ρ bx ≠ tg a c) (hbs : ∀ a c, ρ bs ≠ tg a c) (hz : ∀ a c, tg a c ≠ (0, 0)) (hnew : ∀ k, w.heap.size ≤ k → ρ k = (0, 0)) :
    Calls Try.prog 33 #[.pointer (some ⟨bx, 0, none⟩), .int .i64 x] w fun e w' => e = .returned (.int .i64 0) ∧ ∃ ρ' V', PN w' bx bs n C V' ∧ WR w' B 114 ρ' tg V' (sentL 5 C x L) ∧ (∀ k, k < w.heap.size → ρ' k = ρ k) ∧ (∀ k, w'.heap.size ≤ k → ρ' k = (0, 0)) ∧ Only (fun k => k = bs ∨ k = bx ∨ ∃ c, c < 5 ∧ ρ k = tg x c) w w' := by
  have hmf : ∀ (fn : Fn) (first cap : Array Value) (w : World), (Instr.makeFunc fn first cap).run Try.prog w = .ok (.func fn first cap) w := fun _ _ _ _ => rfl
  have hn0 : 0 < n := by omega
  have hE : upE n x = 0 := by
    have : isB n x = true := by simp [isB]; omega
    simp [upE, this]
  have hlx := hR.lt
  have b1 : Below w.heap.size w ((w.alloc (.cells #[.pointer (some ⟨bx, 0, none⟩)] 39)).alloc (.cells #[.int .i64 x] 3)) := ((Below.refl _ _).alloc (Nat.le_refl _) _).alloc (by simp) _
  have P1 := hR.below hn0 b1
  have W1 : WR ((w.alloc (.cells #[.pointer (some ⟨bx, 0, none⟩)] 39)).alloc (.cells #[.int .i64 x] 3)) B 114 ρ tg V L := hW.of fun k a c hk _ _ _ => b1.block k hk
  have c1 : ((w.alloc (.cells #[.pointer (some ⟨bx, 0, none⟩)] 39)).alloc (.cells #[.int .i64 x] 3)).cell? ⟨w.heap.size, 0, none⟩ = some (.pointer (some ⟨bx, 0, none⟩)) := by
    rw [cell_of_row _ w.heap.size 0 _ 39 (0, 0) (heap_alloc2_old _ _ _)]; rfl
  have c2 : ((w.alloc (.cells #[.pointer (some ⟨bx, 0, none⟩)] 39)).alloc (.cells #[.int .i64 x] 3)).cell? ⟨w.heap.size + 1, 0, none⟩ = some (.int .i64 x) := by
    rw [cell_of_row _ (w.heap.size + 1) 0 _ 3 (0, 0) (heap_alloc2_new _ _ _)]; rfl
  have D1 := saving_any w.heap.size (w.heap.size + 1) bx bs n x B ρ tg C V L _ hn hxn P1 W1 (by simp; omega) inj hb hbs hz (fun k hk => hnew k (by simp at hk; omega)) c1 c2 (hnew _ (Nat.le_refl _)) (hnew _ (by omega)) (by omega) (by omega)
  have HP1 : Hid (PN ((w.alloc (.cells #[.pointer (some ⟨bx, 0, none⟩)] 39)).alloc (.cells #[.int .i64 x] 3)) bx bs n C V) := P1
  have HD : Hid (Calls Try.prog 59 _ _ _) := D1
  clear P1 W1 D1 hR hW inj hb hbs hz hnew
  go_enter Try.func33, Try.ntmps33
  go_wp2_with (first | (go_at_call 58; refine (cup_any bx bs n _ C V _ HP1.out).mono ?_; rintro e w' ⟨rfl, rfl⟩))
  refine HD.out.mono ?_
  rintro e w1 ⟨rfl, ρ', V', p1, q1, a1, d1, o1⟩
  go_wp2
  go_ret
  have z1 := o1.size
  simp at z1
  exact ⟨rfl, ρ', V', p1, q1, fun k hk => a1 k (by simp; omega), d1, o1.os.trans b1.os, o1.tape.trans b1.tape, o1.output.trans b1.output, by omega, fun k hk hs => (o1.block k (by simp; omega) hs).trans (b1.block k hk)⟩
end Go.Proofs.Ytgimhfbpipgoeaa
