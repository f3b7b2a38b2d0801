import Derived.Test.YtgimhfbpipgoeaaHarB
namespace Go.Proofs.Ytgimhfbpipgoeaa
open Go.RowKit

set_option maxHeartbeats 1000000 in
theorem asked_wait (B i : Nat) (y : Value) (ρ : Nat → Part) (N : NetD) (u a b c : Int) (w : World) (hI : NetI w B ρ i N) :
    Calls Try.prog 10 #[y, .agg #[.pointer (some ⟨N.bx, 0, none⟩), .pointer (some ⟨N.br, 0, none⟩)], .agg #[.int .i64 4, .int .i64 u, .int .i64 a, .int .i64 b, .int .i64 c]] w fun e w' =>
      e = .returned (.bool true) ∧ Below w.heap.size w w' := by
  have b0 := W0_below w N.bx N.br 4 u a b c
  have I0 := hI.below b0
  have hn5 := hI.n5
  have HI0 : Hid (NetI (W0 w N.bx N.br 4 u a b c) B ρ i N) := I0; clear I0 hI
  have B0 : Hid (Below w.heap.size w (W0 w N.bx N.br 4 u a b c)) := b0; clear b0
  go_enter Try.func10, Try.ntmps10
  go_wp2_with (first | (go_at_call 15; refine (pwait_all N.bx N.bs N.n B a b ρ (tgx i) N.C N.Vx N.L _ hn5 HI0.out.p HI0.out.wx).mono ?_; rintro e w1 ⟨rfl, rfl⟩) |
    (go_at_call 16; refine (rwait_all N.br N.n B a b ρ (tgr i) N.C N.Vr N.L _ hn5 HI0.out.r HI0.out.wr).mono ?_; rintro e w2 ⟨rfl, rfl⟩))
  go_ret
  exact ⟨rfl, B0.out⟩

/-- The second variable, two calls later. -/
theorem Box.below {w1 w2 w : World} {bx br : Nat} {k u a b c : Int} (h : Box w1 w bx br k u a b c) (hb : Below w1.heap.size w1 w2) : Box w2 w bx br k u a b c := h.of (hb.block _ (by have := h.lt; omega)) (hb.block _ h.lt)

set_option maxHeartbeats 1000000 in
theorem asked_route (B i : Nat) (y : Value) (ρ : Nat → Part) (N : NetD) (u a b c : Int) (w : World) (hI : NetI w B ρ i N) :
    Calls Try.prog 10 #[y, .agg #[.pointer (some ⟨N.bx, 0, none⟩), .pointer (some ⟨N.br, 0, none⟩)], .agg #[.int .i64 6, .int .i64 u, .int .i64 a, .int .i64 b, .int .i64 c]] w fun e w' =>
      e = .returned (.bool true) ∧ Below w.heap.size w w' := by
  have b0 := W0_below w N.bx N.br 6 u a b c
  have x0 := Box.start w N.bx N.br 6 u a b c
  have I0 := hI.below b0
  have hn5 := hI.n5
  have hn2 := hI.n2
  have HI0 : Hid (NetI (W0 w N.bx N.br 6 u a b c) B ρ i N) := I0; clear I0 hI
  have B0 : Hid (Below w.heap.size w (W0 w N.bx N.br 6 u a b c)) := b0; clear b0
  have X0 : Hid (Box (W0 w N.bx N.br 6 u a b c) w N.bx N.br 6 u a b c) := x0; clear x0
  by_cases h : pairE N.n a b = 0
  · obtain ⟨⟨a1, _⟩, ⟨a2, _⟩, _⟩ := pairE_zero h
    obtain ⟨p, rfl⟩ := Int.eq_ofNat_of_zero_le a1
    obtain ⟨q, rfl⟩ := Int.eq_ofNat_of_zero_le a2
    have H : Hid (pairE N.n p q = 0) := h; clear h
    go_enter Try.func10, Try.ntmps10
    go_wp2_with (first | (go_at_call 17; refine (proute_ok N.bx N.bs N.n p q N.C N.Vx _ hn5 HI0.out.p H.out).mono ?_; unfold noneV; rintro e w1 ⟨rfl, b1⟩; have x1 := X0.out.below b1; have g1 := x1.c1; have g2 := x1.a; have g3 := x1.b; have l1 := x1.lt; have l0 := Nat.lt_of_succ_lt x1.lt; clear x1) |
      (go_at_call 18; refine (rroute_ok N.br N.n p q N.C N.Vr _ hn5 ((HI0.out.r.of (b1.block _ HI0.out.r.lt)).of (Below.heap_alloc _ _ _ (Nat.lt_of_lt_of_le HI0.out.r.lt b1.size))) H.out).mono ?_; unfold noneV; rintro e w2 ⟨rfl, b2⟩; have k0 := (Whole.below (Whole.new w1 56 #[.int .i64 (-1), .int .i64 0, .int .i64 0, .int .i64 0, .int .i64 0]) b2).cell; have l2 : w1.heap.size < w2.heap.size := (by have := b2.size; simp at this; omega)))
    go_ret
    have z0 := B0.out.size
    have C1 : Below w.heap.size w w1 := B0.out.trans (b1.mono z0)
    have C2 : Below w.heap.size w w2 := (C1.alloc C1.size (.cells #[.int .i64 (-1), .int .i64 0, .int .i64 0, .int .i64 0, .int .i64 0] 56)).trans (b2.mono (by have := C1.size; simp; omega))
    exact ⟨rfl, C2.alloc C2.size _⟩
  · have H : Hid (¬ pairE N.n a b = 0) := h; clear h
    go_enter Try.func10, Try.ntmps10
    go_wp2_with (first | (go_at_call 17; refine (proute_no N.bx N.bs N.n a b N.C N.Vx _ (by omega) HI0.out.p H.out).mono ?_; unfold zRoute; rintro e w1 ⟨rfl, b1⟩; have x1 := X0.out.below b1; have g1 := x1.c1; have g2 := x1.a; have g3 := x1.b; have l1 := x1.lt; have l0 := Nat.lt_of_succ_lt x1.lt; clear x1) |
      (go_at_call 18; refine (rroute_no N.br N.n a b N.C N.Vr _ hn5 ((HI0.out.r.of (b1.block _ HI0.out.r.lt)).of (Below.heap_alloc _ _ _ (Nat.lt_of_lt_of_le HI0.out.r.lt b1.size))) H.out).mono ?_; unfold zRoute; rintro e w2 ⟨rfl, b2⟩; have k0 := (Whole.below (Whole.new w1 56 #[.int .i64 0, .int .i64 0, .int .i64 0, .int .i64 0, .int .i64 0]) b2).cell; have l2 : w1.heap.size < w2.heap.size := (by have := b2.size; simp at this; omega)))
    go_ret
    have z0 := B0.out.size
    have C1 : Below w.heap.size w w1 := B0.out.trans (b1.mono z0)
    have C2 : Below w.heap.size w w2 := (C1.alloc C1.size (.cells #[.int .i64 0, .int .i64 0, .int .i64 0, .int .i64 0, .int .i64 0] 56)).trans (b2.mono (by have := C1.size; simp; omega))
    exact ⟨rfl, C2.alloc C2.size _⟩

set_option maxHeartbeats 1000000 in
theorem asked_best (B i : Nat) (y : Value) (ρ : Nat → Part) (N : NetD) (u a b c : Int) (w : World) (hI : NetI w B ρ i N) :
    Calls Try.prog 10 #[y, .agg #[.pointer (some ⟨N.bx, 0, none⟩), .pointer (some ⟨N.br, 0, none⟩)], .agg #[.int .i64 7, .int .i64 u, .int .i64 a, .int .i64 b, .int .i64 c]] w fun e w' =>
      e = .returned (.bool true) ∧ Below w.heap.size w w' := by
  have b0 := W0_below w N.bx N.br 7 u a b c
  have x0 := Box.start w N.bx N.br 7 u a b c
  have I0 := hI.below b0
  have hn5 := hI.n5
  have hn2 := hI.n2
  have HI0 : Hid (NetI (W0 w N.bx N.br 7 u a b c) B ρ i N) := I0; clear I0 hI
  have B0 : Hid (Below w.heap.size w (W0 w N.bx N.br 7 u a b c)) := b0; clear b0
  have X0 : Hid (Box (W0 w N.bx N.br 7 u a b c) w N.bx N.br 7 u a b c) := x0; clear x0
  by_cases h : pairE N.n a b = 0
  · obtain ⟨⟨a1, _⟩, ⟨a2, _⟩, _⟩ := pairE_zero h
    obtain ⟨p, rfl⟩ := Int.eq_ofNat_of_zero_le a1
    obtain ⟨q, rfl⟩ := Int.eq_ofNat_of_zero_le a2
    have H : Hid (pairE N.n p q = 0) := h; clear h
    go_enter Try.func10, Try.ntmps10
    go_wp2_with (first | (go_at_call 19; refine (pbest_ok N.bx N.bs N.n p q N.C N.Vx _ hn5 HI0.out.p H.out).mono ?_; unfold nothingV; rintro e w1 ⟨rfl, b1⟩; have x1 := X0.out.below b1; have g1 := x1.c1; have g2 := x1.a; have g3 := x1.b; have l1 := x1.lt; have l0 := Nat.lt_of_succ_lt x1.lt; clear x1) |
      (go_at_call 20; refine (rbest_ok N.br N.n p q N.C N.Vr _ hn5 ((HI0.out.r.of (b1.block _ HI0.out.r.lt)).of (Below.heap_alloc _ _ _ (Nat.lt_of_lt_of_le HI0.out.r.lt b1.size))) H.out).mono ?_; unfold nothingV; rintro e w2 ⟨rfl, b2⟩; have k0 := (Whole.below (Whole.new w1 60 #[.int .i64 (-1), .int .i64 0]) b2).cell; have l2 : w1.heap.size < w2.heap.size := (by have := b2.size; simp at this; omega)))
    go_ret
    have z0 := B0.out.size
    have C1 : Below w.heap.size w w1 := B0.out.trans (b1.mono z0)
    have C2 : Below w.heap.size w w2 := (C1.alloc C1.size (.cells #[.int .i64 (-1), .int .i64 0] 60)).trans (b2.mono (by have := C1.size; simp; omega))
    exact ⟨rfl, C2.alloc C2.size _⟩
  · have H : Hid (¬ pairE N.n a b = 0) := h; clear h
    go_enter Try.func10, Try.ntmps10
    go_wp2_with (first | (go_at_call 19; refine (pbest_no N.bx N.bs N.n a b N.C N.Vx _ (by omega) HI0.out.p H.out).mono ?_; unfold zBest; rintro e w1 ⟨rfl, b1⟩; have x1 := X0.out.below b1; have g1 := x1.c1; have g2 := x1.a; have g3 := x1.b; have l1 := x1.lt; have l0 := Nat.lt_of_succ_lt x1.lt; clear x1) |
      (go_at_call 20; refine (rbest_no N.br N.n a b N.C N.Vr _ hn5 ((HI0.out.r.of (b1.block _ HI0.out.r.lt)).of (Below.heap_alloc _ _ _ (Nat.lt_of_lt_of_le HI0.out.r.lt b1.size))) H.out).mono ?_; unfold zBest; rintro e w2 ⟨rfl, b2⟩; have k0 := (Whole.below (Whole.new w1 60 #[.int .i64 0, .int .i64 0]) b2).cell; have l2 : w1.heap.size < w2.heap.size := (by have := b2.size; simp at this; omega)))
    go_ret
    have z0 := B0.out.size
    have C1 : Below w.heap.size w w1 := B0.out.trans (b1.mono z0)
    have C2 : Below w.heap.size w w2 := (C1.alloc C1.size (.cells #[.int .i64 0, .int .i64 0] 60)).trans (b2.mono (by have := C1.size; simp; omega))
    exact ⟨rfl, C2.alloc C2.size _⟩

end Go.Proofs.Ytgimhfbpipgoeaa
