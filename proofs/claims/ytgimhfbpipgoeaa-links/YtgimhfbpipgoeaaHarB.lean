import Derived.Test.YtgimhfbpipgoeaaHarA
namespace Go.Proofs.Ytgimhfbpipgoeaa
open Go.RowKit

/-- The two variables in which a step's net and numbers lie. -/
abbrev W0 (w : World) (bx br : Nat) (k u a b c : Int) : World := (w.alloc (.cells #[.pointer (some ⟨bx, 0, none⟩), .pointer (some ⟨br, 0, none⟩)] 42)).alloc (.cells #[.int .i64 k, .int .i64 u, .int .i64 a, .int .i64 b, .int .i64 c] 36)
theorem W0_below (w : World) (bx br : Nat) (k u a b c : Int) : Below w.heap.size w (W0 w bx br k u a b c) := ((Below.refl _ _).alloc (Nat.le_refl _) _).alloc (by simp) _
/-- They stay. -/
structure Box (w' w : World) (bx br : Nat) (k u a b c : Int) : Prop where
  one : w'.heap[w.heap.size]? = some (.cells #[.pointer (some ⟨bx, 0, none⟩), .pointer (some ⟨br, 0, none⟩)] 42)
  two : w'.heap[w.heap.size + 1]? = some (.cells #[.int .i64 k, .int .i64 u, .int .i64 a, .int .i64 b, .int .i64 c] 36)
theorem Box.start (w : World) (bx br : Nat) (k u a b c : Int) : Box (W0 w bx br k u a b c) w bx br k u a b c := ⟨heap_alloc2_old _ _ _, heap_alloc2_new _ _ _⟩
theorem Box.of {w1 w2 w : World} {bx br : Nat} {k u a b c : Int} (h : Box w1 w bx br k u a b c) (h1 : w2.heap[w.heap.size]? = w1.heap[w.heap.size]?) (h2 : w2.heap[w.heap.size + 1]? = w1.heap[w.heap.size + 1]?) : Box w2 w bx br k u a b c := ⟨h1.trans h.one, h2.trans h.two⟩
theorem Box.lt {w1 w : World} {bx br : Nat} {k u a b c : Int} (h : Box w1 w bx br k u a b c) : w.heap.size + 1 < w1.heap.size := (Array.getElem?_eq_some_iff.1 h.two).1
theorem Box.only {S : Nat → Prop} {w1 w2 w : World} {bx br : Nat} {k u a b c : Int} (h : Box w1 w bx br k u a b c) (ho : Only S w1 w2) (h1 : ¬ S w.heap.size) (h2 : ¬ S (w.heap.size + 1)) : Box w2 w bx br k u a b c :=
  h.of (ho.block _ (by have := h.lt; omega) h1) (ho.block _ h.lt h2)
theorem Box.c1 {w1 w : World} {bx br : Nat} {k u a b c : Int} (h : Box w1 w bx br k u a b c) : w1.cell? ⟨w.heap.size, 1, none⟩ = some (.pointer (some ⟨br, 0, none⟩)) := by rw [cell_of_row w1 _ 1 _ 42 (0, 0) h.one]; rfl
theorem Box.a {w1 w : World} {bx br : Nat} {k u a b c : Int} (h : Box w1 w bx br k u a b c) : w1.cell? ⟨w.heap.size + 1, 2, none⟩ = some (.int .i64 a) := by rw [cell_of_row w1 _ 2 _ 36 (0, 0) h.two]; rfl
theorem Box.b {w1 w : World} {bx br : Nat} {k u a b c : Int} (h : Box w1 w bx br k u a b c) : w1.cell? ⟨w.heap.size + 1, 3, none⟩ = some (.int .i64 b) := by rw [cell_of_row w1 _ 3 _ 36 (0, 0) h.two]; rfl
theorem Box.c {w1 w : World} {bx br : Nat} {k u a b c : Int} (h : Box w1 w bx br k u a b c) : w1.cell? ⟨w.heap.size + 1, 4, none⟩ = some (.int .i64 c) := by rw [cell_of_row w1 _ 4 _ 36 (0, 0) h.two]; rfl

set_option maxHeartbeats 1000000 in
theorem happens_link (B i : Nat) (ρ : Nat → Part) (N : NetD) (u a b c : Int) (w : World) (hI : NetI w B ρ i N) (hnew : ∀ k, w.heap.size ≤ k → ρ k = (0, 0)) :
    Calls Try.prog 11 #[.agg #[.pointer (some ⟨N.bx, 0, none⟩), .pointer (some ⟨N.br, 0, none⟩)], .agg #[.int .i64 2, .int .i64 u, .int .i64 a, .int .i64 b, .int .i64 c]] w fun e w' =>
      e = .returned (.bool true) ∧ NetI w' B ρ i { N with C := linkC N.n N.C a b c } ∧ Aft i ρ ρ w w' := by
  have b0 := W0_below w N.bx N.br 2 u a b c
  have x0 := Box.start w N.bx N.br 2 u a b c
  have I0 := hI.below b0
  have lx := hI.p.lt
  have ls := hI.p.lts (by have := hI.n2; omega)
  have lr := hI.r.lt
  have hn5 := hI.n5
  have nxr : N.bx ≠ N.br := fun e => by have h1 := hI.px; have h2 := hI.pr; rw [e, h2] at h1; simp at h1
  have nsr : N.bs ≠ N.br := fun e => by have h1 := hI.ps; have h2 := hI.pr; rw [e, h2] at h1; simp at h1
  have HI : Hid (NetI w B ρ i N) := hI; clear hI
  have HI0 : Hid (NetI (W0 w N.bx N.br 2 u a b c) B ρ i N) := I0; clear I0
  have HN : Hid (∀ k, w.heap.size ≤ k → ρ k = (0, 0)) := hnew; clear hnew
  have X0 : Hid (Box (W0 w N.bx N.br 2 u a b c) w N.bx N.br 2 u a b c) := x0; clear x0
  have B0 : Hid (Below w.heap.size w (W0 w N.bx N.br 2 u a b c)) := b0; clear b0
  go_enter Try.func11, Try.ntmps11
  go_wp2_with (first | (go_at_call 25; refine (plink_all N.bx N.bs N.n a b c N.C N.Vx _ hn5 HI0.out.p).mono ?_; rintro e w1 ⟨rfl, p1, o1⟩; have x1 := X0.out.only o1 (by omega) (by omega); have g1 := x1.c1; have g2 := x1.a; have g3 := x1.b; have g4 := x1.c; have X1 : Hid (Box w1 w N.bx N.br 2 u a b c) := x1; clear x1) |
    (go_at_call 26; refine (rlink_all N.br N.n a b c N.C N.Vr _ hn5 (HI0.out.r.of (o1.block _ HI0.out.r.lt nxr.symm))).mono ?_; rintro e w2 ⟨rfl, r2, o2⟩))
  go_ret
  have O1 : Only (fun k => (ρ k).1 = i + 1) (W0 w N.bx N.br 2 u a b c) w1 := o1.mono fun k _ e => by rw [e, HI.out.px]
  have O2 : Only (fun k => (ρ k).1 = i + 1) w1 w2 := o2.mono fun k _ e => by rw [e, HI.out.pr]
  have z0 := B0.out.size
  have A0 : Aft i ρ ρ w (W0 w N.bx N.br 2 u a b c) := Aft.below B0.out HN.out
  have A1 : Aft i ρ ρ (W0 w N.bx N.br 2 u a b c) w1 := ⟨O1, fun _ _ => rfl, fun k hk => HN.out k (by have := O1.size; omega)⟩
  have A2 : Aft i ρ ρ w1 w2 := ⟨O2, fun _ _ => rfl, fun k hk => HN.out k (by have := O1.size; have := O2.size; omega)⟩
  refine ⟨rfl, ⟨HI.out.n2, hn5, ?_, r2, ?_, ?_, HI.out.px, HI.out.ps, HI.out.pr, ?_⟩, (A0.trans A1).trans A2⟩
  · exact p1.of (o2.block _ p1.lt nxr) (o2.block _ (p1.lts (by have := HI.out.n2; omega)) nsr)
  · refine (HI0.out.wx.of (w' := w1) fun k x y hk hx hy hp => ?_).of fun k x y hk hx hy hp => ?_
    · exact o1.block k hk (fun e => by rw [e, HI.out.px] at hp; have := congrArg Prod.snd hp; simp only [tgx] at this; omega)
    · exact o2.block k hk (fun e => by rw [e, HI.out.pr] at hp; have := congrArg Prod.snd hp; simp only [tgx] at this; omega)
  · refine (HI0.out.wr.of (w' := w1) fun k x y hk hx hy hp => ?_).of fun k x y hk hx hy hp => ?_
    · exact o1.block k hk (fun e => by rw [e, HI.out.px] at hp; have := congrArg Prod.snd hp; simp only [tgr] at this; omega)
    · exact o2.block k hk (fun e => by rw [e, HI.out.pr] at hp; have := congrArg Prod.snd hp; simp only [tgr] at this; omega)
  · intro x y hxy
    show linkC N.n N.C a b c x y = 0
    have hxy : N.n ≤ x ∨ N.n ≤ y := hxy
    have h0 := HI.out.c0 x y hxy
    unfold linkC
    split
    · rename_i hE
      rcases linkE_split N.n a b c with ⟨h, e⟩ | ⟨h, h2, e⟩ | ⟨h, h2, h3, e⟩
      · rw [e] at hE; exact absurd hE h
      · rw [e] at hE; omega
      · obtain ⟨⟨a1, b1⟩, ⟨a2, b2⟩, _⟩ := pairE_zero h
        unfold updC
        rw [if_neg (by omega)]
        exact h0
    · exact h0
end Go.Proofs.Ytgimhfbpipgoeaa
