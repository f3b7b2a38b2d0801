import Derived.Test.YtgimhfbpipgoeaaHarI
import Derived.Deep.DrawnRows
namespace Go.Proofs.Ytgimhfbpipgoeaa
open Go.RowKit
attribute [local go_sem ↓] Go.wp_at_zero Go.wp_at_succ

set_option maxHeartbeats 2000000 in
theorem step_dump (yb B : Nat) (u a b c : Int) (ρ : Nat → Part) (ns : List NetD) (w : World) (hI : Inv w B ρ yb ns) (hne : ns ≠ []) (hu0 : -9223372036854775808 ≤ u) (hu1 : u ≤ 9223372036854775807) :
    Calls Try.prog 6 #[.pointer (some ⟨yb, 0, none⟩), opV 3 u a b c] w fun e w' => e = .returned (.bool true) ∧ ∃ ρ' ns', Inv w' B ρ' yb ns' ∧ Below B w w' ∧ ns.length ≤ ns'.length ∧ ns'.length ≤ ns.length + 1 ∧ Stays ρ ρ' w w' := by
  have b0 := alloc36 w 3 u a b c
  have I0 := hI.below b0
  obtain ⟨g, cap, c0, hlen, hat⟩ := I0.at hne
  have hpos : 0 < ns.length := List.length_pos_iff.2 hne
  obtain ⟨j, hj, PK⟩ := pick_any u ns.length hu0 hu1 hpos hlen
  obtain ⟨N, hN⟩ : ∃ N, ns[j]? = some N := ⟨ns[j], by simp [hj]⟩
  have hj' : (j : Int) < (ns.length : Int) := by omega
  have hj0 : (0 : Int) ≤ (j : Int) := by omega
  have hl0 : ((ns.length : Int) == 0) = false := by rw [beq_eq_false_iff_ne]; omega
  have hx := hat j N hN
  have ob : (w.alloc (.cells #[.int .i64 3, .int .i64 u, .int .i64 a, .int .i64 b, .int .i64 c] 36)).cell? ⟨w.heap.size, 1, none⟩ = some (.int .i64 u) := by rw [cell_of_row _ w.heap.size 1 _ 36 (0, 0) (heap_alloc_new w _)]; rfl
  have hI5 : S5 yb g ns.length cap w.heap.size j N.bx N.br u (w.alloc (.cells #[.int .i64 3, .int .i64 u, .int .i64 a, .int .i64 b, .int .i64 c] 36)) := ⟨c0, ob, hx.1, hx.2⟩
  have HP : Hid (∀ w : World, Calls Try.prog 9 #[.int .i64 u, .int .i64 ns.length] w fun e w' => e = .returned (.int .i64 j) ∧ w = w') := PK; clear PK
  have HI : Hid (Inv w B ρ yb ns) := hI
  have NI0 := I0.nets j N hN
  have HNI0 : Hid (NetI (w.alloc (.cells #[.int .i64 3, .int .i64 u, .int .i64 a, .int .i64 b, .int .i64 c] 36)) B ρ j N) := NI0; clear NI0
  have B0 : Hid (Below w.heap.size w (w.alloc (.cells #[.int .i64 3, .int .i64 u, .int .i64 a, .int .i64 b, .int .i64 c] 36))) := b0; clear b0
  have HB : Hid (B ≤ w.heap.size) := hI.hB
  have Hj : Hid (ns[j]? = some N) := hN; clear hN
  clear hat I0 hx ob hI hu0 hu1
  unfold maxLen at hlen
  by_cases hb : isB N.n a = true
  · obtain ⟨x, rfl⟩ := Int.eq_ofNat_of_zero_le (isB_true hb).1
    have XN : Hid (x < N.n) := by have := (isB_true hb).2; show x < N.n; omega
    clear hb
    have D1 : Hid (Below w.heap.size w (((w.alloc (.cells #[.int .i64 3, .int .i64 u, .int .i64 x, .int .i64 b, .int .i64 c] 36)).alloc (.cells #[.pointer (some ⟨N.bx, 0, none⟩), .pointer (some ⟨N.br, 0, none⟩)] 42)).drew)) := (B0.out.alloc B0.out.size _).drew
    have NI : Hid (NetI (((w.alloc (.cells #[.int .i64 3, .int .i64 u, .int .i64 x, .int .i64 b, .int .i64 c] 36)).alloc (.cells #[.pointer (some ⟨N.bx, 0, none⟩), .pointer (some ⟨N.br, 0, none⟩)] 42)).drew) B ρ j N) := HNI0.out.below ((Below.refl _ _).alloc (Nat.le_refl _) _).drew
    have NW : Hid (∀ k, (((w.alloc (.cells #[.int .i64 3, .int .i64 u, .int .i64 x, .int .i64 b, .int .i64 c] 36)).alloc (.cells #[.pointer (some ⟨N.bx, 0, none⟩), .pointer (some ⟨N.br, 0, none⟩)] 42)).drew).heap.size ≤ k → ρ k = (0, 0)) := fun k hk => HI.out.new k (Nat.le_trans D1.out.size hk)
    go_enter Try.func6, Try.ntmps6
    go_wp2_with fail
    go_region_held3 (fun w' => w'.cell? ⟨yb, 0, none⟩ = some (.slice (some ⟨g, 0, none⟩) ns.length cap) ∧ w'.cell? ⟨w.heap.size, 1, none⟩ = some (.int .i64 u) ∧ w'.cell? ⟨g, j * 2, none⟩ = some (.pointer (some ⟨N.bx, 0, none⟩)) ∧ w'.cell? ⟨g, j * 2 + 1, none⟩ = some (.pointer (some ⟨N.br, 0, none⟩)))
      (first | exact S5_drew hI5 | assumption | exact S5_of (by assumption) (fun k hk => Below.heap_alloc _ _ k hk) | exact S5_of hI5 (fun k hk => Below.heap_alloc _ _ k hk))
      (first | (go_at_call 9; refine (HP.out _).mono ?_; rintro e w' ⟨rfl, rfl⟩))
    all_goals
      go_wp2_with (go_at_call 12; refine (does_dump B j ρ N x u b c _ NI.out NW.out (Nat.le_trans HB.out D1.out.size) XN.out).mono ?_; rintro e w2 ⟨rfl, ρ2, V1, V2, n2, a2⟩)
      go_ret
      obtain ⟨q1, q2⟩ := (HI.out.below D1.out).step Hj.out n2 rfl rfl a2
      exact ⟨rfl, ρ2, _, q1, (D1.out.mono HB.out).trans q2, by simp, by simp, (Stays.below D1.out).trans (Stays.aft a2)⟩
  · have ZB : Hid (isB N.n a = false) := by show isB N.n a = false; simpa using hb
    clear hb
    have D1 : Hid (Below w.heap.size w (((w.alloc (.cells #[.int .i64 3, .int .i64 u, .int .i64 a, .int .i64 b, .int .i64 c] 36)).alloc (.cells #[.pointer (some ⟨N.bx, 0, none⟩), .pointer (some ⟨N.br, 0, none⟩)] 42)).drew)) := (B0.out.alloc B0.out.size _).drew
    have NI : Hid (NetI (((w.alloc (.cells #[.int .i64 3, .int .i64 u, .int .i64 a, .int .i64 b, .int .i64 c] 36)).alloc (.cells #[.pointer (some ⟨N.bx, 0, none⟩), .pointer (some ⟨N.br, 0, none⟩)] 42)).drew) B ρ j N) := HNI0.out.below ((Below.refl _ _).alloc (Nat.le_refl _) _).drew
    have NW : Hid (∀ k, (((w.alloc (.cells #[.int .i64 3, .int .i64 u, .int .i64 a, .int .i64 b, .int .i64 c] 36)).alloc (.cells #[.pointer (some ⟨N.bx, 0, none⟩), .pointer (some ⟨N.br, 0, none⟩)] 42)).drew).heap.size ≤ k → ρ k = (0, 0)) := fun k hk => HI.out.new k (Nat.le_trans D1.out.size hk)
    go_enter Try.func6, Try.ntmps6
    go_wp2_with fail
    go_region_held3 (fun w' => w'.cell? ⟨yb, 0, none⟩ = some (.slice (some ⟨g, 0, none⟩) ns.length cap) ∧ w'.cell? ⟨w.heap.size, 1, none⟩ = some (.int .i64 u) ∧ w'.cell? ⟨g, j * 2, none⟩ = some (.pointer (some ⟨N.bx, 0, none⟩)) ∧ w'.cell? ⟨g, j * 2 + 1, none⟩ = some (.pointer (some ⟨N.br, 0, none⟩)))
      (first | exact S5_drew hI5 | assumption | exact S5_of (by assumption) (fun k hk => Below.heap_alloc _ _ k hk) | exact S5_of hI5 (fun k hk => Below.heap_alloc _ _ k hk))
      (first | (go_at_call 9; refine (HP.out _).mono ?_; rintro e w' ⟨rfl, rfl⟩))
    all_goals
      go_wp2_with (go_at_call 12; refine (does_no B j ρ N u a b c _ NI.out NW.out ZB.out).mono ?_; rintro e w2 ⟨rfl, n2, a2⟩)
      go_ret
      obtain ⟨q1, q2⟩ := (HI.out.below D1.out).step Hj.out n2 rfl rfl a2
      exact ⟨rfl, ρ, _, q1, (D1.out.mono HB.out).trans q2, by simp, by simp, (Stays.below D1.out).trans (Stays.aft a2)⟩
end Go.Proofs.Ytgimhfbpipgoeaa
