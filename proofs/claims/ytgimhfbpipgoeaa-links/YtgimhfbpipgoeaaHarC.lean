import Derived.Test.YtgimhfbpipgoeaaHarB
namespace Go.Proofs.Ytgimhfbpipgoeaa
open Go.RowKit

theorem tgx_ne0 (i a c : Nat) : tgx i a c ≠ (0, 0) := fun h => by have := congrArg Prod.fst h; simp [tgx] at this
theorem tgr_ne0 (i a c : Nat) : tgr i a c ≠ (0, 0) := fun h => by have := congrArg Prod.fst h; simp [tgr] at this

set_option maxHeartbeats 1000000 in
theorem does_no (B i : Nat) (ρ : Nat → Part) (N : NetD) (u a b c : Int) (w : World) (hI : NetI w B ρ i N) (hnew : ∀ k, w.heap.size ≤ k → ρ k = (0, 0)) (h0 : isB N.n a = false) :
    Calls Try.prog 12 #[.agg #[.pointer (some ⟨N.bx, 0, none⟩), .pointer (some ⟨N.br, 0, none⟩)], .agg #[.int .i64 3, .int .i64 u, .int .i64 a, .int .i64 b, .int .i64 c]] w fun e w' =>
      e = .returned (.bool true) ∧ NetI w' B ρ i N ∧ Aft i ρ ρ w w' := by
  have b0 := W0_below w N.bx N.br 3 u a b c
  have x0 := Box.start w N.bx N.br 3 u a b c
  have I0 := hI.below b0
  have hn5 := hI.n5
  have hn2 := hI.n2
  have HI : Hid (NetI w B ρ i N) := hI; clear hI
  have HI0 : Hid (NetI (W0 w N.bx N.br 3 u a b c) B ρ i N) := I0; clear I0
  have HN : Hid (∀ k, w.heap.size ≤ k → ρ k = (0, 0)) := hnew; clear hnew
  have X0 : Hid (Box (W0 w N.bx N.br 3 u a b c) w N.bx N.br 3 u a b c) := x0; clear x0
  have B0 : Hid (Below w.heap.size w (W0 w N.bx N.br 3 u a b c)) := b0; clear b0
  go_enter Try.func12, Try.ntmps12
  go_wp2_with (first | (go_at_call 33; refine (pdump_no N.bx N.bs N.n a N.C N.Vx _ (by omega) HI0.out.p h0).mono ?_; rintro e w1 ⟨rfl, b1⟩; have x1 := X0.out.of (b1.block _ (by have := X0.out.lt; omega)) (b1.block _ X0.out.lt); have g1 := x1.c1; have g2 := x1.a; clear x1) |
    (go_at_call 34; refine (rdump_no N.br N.n a N.C N.Vr _ hn5 (HI0.out.r.of (b1.block _ HI0.out.r.lt)) h0).mono ?_; rintro e w2 ⟨rfl, rfl⟩))
  go_ret
  have z0 := B0.out.size
  have B1 : Below w.heap.size w w1 := B0.out.trans (b1.mono z0)
  exact ⟨rfl, HI.out.below B1, Aft.below B1 HN.out⟩

set_option maxHeartbeats 1000000 in
theorem does_dump (B i : Nat) (ρ : Nat → Part) (N : NetD) (x : Nat) (u b c : Int) (w : World) (hI : NetI w B ρ i N) (hnew : ∀ k, w.heap.size ≤ k → ρ k = (0, 0)) (hB : B ≤ w.heap.size) (hxn : x < N.n) :
    Calls Try.prog 12 #[.agg #[.pointer (some ⟨N.bx, 0, none⟩), .pointer (some ⟨N.br, 0, none⟩)], .agg #[.int .i64 3, .int .i64 u, .int .i64 x, .int .i64 b, .int .i64 c]] w fun e w' =>
      e = .returned (.bool true) ∧ ∃ ρ' Vx' Vr', NetI w' B ρ' i { N with L := sentL N.n N.C x N.L, Vx := Vx', Vr := Vr' } ∧ Aft i ρ ρ' w w' := by
  have b0 := W0_below w N.bx N.br 3 u x b c
  have x0 := Box.start w N.bx N.br 3 u x b c
  have I0 := hI.below b0
  have lx := hI.p.lt
  have hn5 := hI.n5
  have hn2 := hI.n2
  have ls := hI.p.lts (by omega)
  have lr := hI.r.lt
  have HI : Hid (NetI w B ρ i N) := hI; clear hI
  have HI0 : Hid (NetI (W0 w N.bx N.br 3 u x b c) B ρ i N) := I0; clear I0
  have HN : Hid (∀ k, w.heap.size ≤ k → ρ k = (0, 0)) := hnew; clear hnew
  have X0 : Hid (Box (W0 w N.bx N.br 3 u x b c) w N.bx N.br 3 u x b c) := x0; clear x0
  have B0 : Hid (Below w.heap.size w (W0 w N.bx N.br 3 u x b c)) := b0; clear b0
  have z0 := B0.out.size
  have px : ∀ p q, ρ N.bx ≠ tgx i p q := fun p q e => by rw [HI.out.px] at e; have := congrArg Prod.snd e; simp only [tgx] at this; omega
  have ps : ∀ p q, ρ N.bs ≠ tgx i p q := fun p q e => by rw [HI.out.ps] at e; have := congrArg Prod.snd e; simp only [tgx] at this; omega
  have pr : ∀ p q, ρ N.br ≠ tgr i p q := fun p q e => by rw [HI.out.pr] at e; have := congrArg Prod.snd e; simp only [tgr] at this; omega
  have PX : Hid (∀ p q, ρ N.bx ≠ tgx i p q) := px; clear px
  have PS : Hid (∀ p q, ρ N.bs ≠ tgx i p q) := ps; clear ps
  have PR : Hid (∀ p q, ρ N.br ≠ tgr i p q) := pr; clear pr
  -- what the program's Dump does not touch
  have nS : ∀ k, k = w.heap.size ∨ k = w.heap.size + 1 → ¬ (k = N.bs ∨ k = N.bx ∨ ∃ c, c < 5 ∧ ρ k = tgx i x c) := by
    rintro k hk (e | e | ⟨c, _, e⟩)
    · omega
    · omega
    · exact tgx_ne0 i x c (by rw [← e]; exact HN.out k (by omega))
  have nR : ∀ k, (ρ k = (i + 1, 2) ∨ ∃ p q, p < 5 ∧ q < 5 ∧ ρ k = tgr i p q) → ¬ (k = N.bs ∨ k = N.bx ∨ ∃ c, c < 5 ∧ ρ k = tgx i x c) := by
    rintro k hk (e | e | ⟨c, hc, e⟩)
    · rw [e, HI.out.ps] at hk
      rcases hk with hk | ⟨p, q, _, _, hk⟩
      · simp at hk
      · have := congrArg Prod.snd hk; simp only [tgr] at this; omega
    · rw [e, HI.out.px] at hk
      rcases hk with hk | ⟨p, q, _, _, hk⟩
      · simp at hk
      · have := congrArg Prod.snd hk; simp only [tgr] at this; omega
    · rw [e] at hk
      rcases hk with hk | ⟨p, q, _, _, hk⟩
      · have := congrArg Prod.snd hk; simp only [tgx] at this; omega
      · have := congrArg Prod.snd hk; simp only [tgx, tgr] at this; omega
  have NS : Hid (∀ k, k = w.heap.size ∨ k = w.heap.size + 1 → ¬ (k = N.bs ∨ k = N.bx ∨ ∃ c, c < 5 ∧ ρ k = tgx i x c)) := nS; clear nS
  have NR : Hid (∀ k, (ρ k = (i + 1, 2) ∨ ∃ p q, p < 5 ∧ q < 5 ∧ ρ k = tgr i p q) → ¬ (k = N.bs ∨ k = N.bx ∨ ∃ c, c < 5 ∧ ρ k = tgx i x c)) := nR; clear nR
  go_enter Try.func12, Try.ntmps12
  go_wp2_with (first | (go_at_call 33; refine (pdump_ok N.bx N.bs N.n x B ρ (tgx i) N.C N.Vx N.L _ hn5 hxn HI0.out.p HI0.out.wx (by omega) (tgx_inj i) PX.out PS.out (tgx_ne0 i) (fun k hk => HN.out k (by omega))).mono ?_; rintro e w1 ⟨rfl, ρ1, V1, p1, q1, a1, d1, o1⟩; have x1 := X0.out.only o1 (NS.out _ (.inl rfl)) (NS.out _ (.inr rfl)); have g1 := x1.c1; have g2 := x1.a; clear x1; have A1 : Hid (∀ k, k < (W0 w N.bx N.br 3 u x b c).heap.size → ρ1 k = ρ k) := a1; clear a1; have D1 : Hid (∀ k, w1.heap.size ≤ k → ρ1 k = (0, 0)) := d1; clear d1) |
    (go_at_call 34; refine (rdump_ok N.br N.n x B ρ1 (tgr i) N.C N.Vr N.L _ hn5 hxn (HI0.out.r.of (o1.block _ HI0.out.r.lt (NR.out _ (.inl HI.out.pr)))) ?_ ?_ (tgr_inj i) ?_ (tgr_ne0 i) D1.out).mono ?_;
      exact ⟨(HI0.out.wr.of fun k p q hk hp hq e => o1.block k hk (NR.out k (.inr ⟨p, q, hp, hq, e⟩))).own, (fun p q g hp hq hg => (by obtain ⟨xs, hxs⟩ := HI0.out.wr.own p q hp hq; rw [A1.out g (hxs.lt g hg).2]; exact HI0.out.wr.part p q g hp hq hg)), HI0.out.wr.six⟩;
      exact (by have := o1.size; omega);
      exact (fun p q e => PR.out p q (by rw [← e]; exact (A1.out _ HI0.out.r.lt).symm));
      rintro e w2 ⟨rfl, ρ2, V2, p2, q2, a2, d2, o2⟩))
  go_ret
  have hl0 : ∀ k, k < w.heap.size → k < (W0 w N.bx N.br 3 u x b c).heap.size := fun k hk => Nat.lt_of_lt_of_le hk z0
  have e1 : ∀ k, k < w.heap.size → ρ1 k = ρ k := fun k hk => A1.out k (hl0 k hk)
  have zz := o1.size
  have l1 : ∀ k, k < w.heap.size → k < w1.heap.size := fun k hk => Nat.lt_of_lt_of_le (hl0 k hk) zz
  have T0 : Aft i ρ ρ w (W0 w N.bx N.br 3 u x b c) := Aft.below B0.out HN.out
  have T1 : Aft i ρ ρ1 (W0 w N.bx N.br 3 u x b c) w1 := ⟨o1.mono (by
    rintro k _ (e | e | ⟨c, _, e⟩)
    · rw [e, HI.out.ps]
    · rw [e, HI.out.px]
    · rw [e]; rfl), A1.out, D1.out⟩
  have T2 : Aft i ρ1 ρ2 w1 w2 := ⟨o2.mono (by
    rintro k _ (e | ⟨c, _, e⟩)
    · rw [e, e1 _ lr, HI.out.pr]
    · rw [e]; rfl), a2, d2⟩
  have nX : ∀ k, (ρ1 k = (i + 1, 0) ∨ ρ1 k = (i + 1, 1) ∨ ∃ p q, p < 5 ∧ q < 5 ∧ ρ1 k = tgx i p q) → ¬ (k = N.br ∨ ∃ c, c < 5 ∧ ρ1 k = tgr i x c) := by
    rintro k hk (e | ⟨c, hc, e⟩)
    · rw [e, e1 _ lr, HI.out.pr] at hk
      rcases hk with hk | hk | ⟨p, q, _, _, hk⟩
      · simp at hk
      · simp at hk
      · have := congrArg Prod.snd hk; simp only [tgx] at this; omega
    · rw [e] at hk
      rcases hk with hk | hk | ⟨p, q, _, _, hk⟩
      · have := congrArg Prod.snd hk; simp only [tgr] at this; omega
      · have := congrArg Prod.snd hk; simp only [tgr] at this; omega
      · have := congrArg Prod.snd hk; simp only [tgx, tgr] at this; omega
  have rx : ρ1 N.bx = (i + 1, 0) := by rw [e1 _ lx]; exact HI.out.px
  have rs : ρ1 N.bs = (i + 1, 1) := by rw [e1 _ ls]; exact HI.out.ps
  have qx := (q1.of fun k p q hk hp hq e => o2.block k hk (nX k (.inr (.inr ⟨p, q, hp, hq, e⟩))))
  refine ⟨rfl, ρ2, V1, V2, ⟨hn2, hn5, p1.of (o2.block _ (l1 _ lx) (nX _ (.inl rx))) (o2.block _ (l1 _ ls) (nX _ (.inr (.inl rs)))), p2, ?_, q2, ?_, ?_, ?_, HI.out.c0⟩, (T0.trans T1).trans T2⟩
  · have qy : WR w2 B 114 ρ2 (tgx i) V1 (sentL 5 N.C x N.L) := ⟨qx.own, fun p q g hp hq hg => by
      obtain ⟨xs, hxs⟩ := q1.own p q hp hq
      rw [a2 g (hxs.lt g hg).2]; exact q1.part p q g hp hq hg, qx.six⟩
    exact qy.congr fun p q _ hq => sentL_five N.n N.C x N.L hn5 (fun c hc => HI.out.c0 x c (.inr hc)) p q hq
  · show ρ2 N.bx = _
    rw [a2 _ (l1 _ lx)]; exact rx
  · show ρ2 N.bs = _
    rw [a2 _ (l1 _ ls)]; exact rs
  · show ρ2 N.br = _
    rw [a2 _ (l1 _ lr), e1 _ lr]; exact HI.out.pr
end Go.Proofs.Ytgimhfbpipgoeaa
