import Derived.Test.YtdoodnbobpijoaaAbsF
namespace Go.Proofs.Ytdoodnbobpijoaa

/-! ### A round: all dump, all is delivered -/
def heardF (A : Nt) (b d : Nat) : Nat → Rt
  | 0 => (toldT A b).ro d
  | k + 1 => if 0 < A.co k b then takes A b k (heardF A b d k) ((toldT A b).be d) (toldM A k d) else heardF A b d k
theorem heardF_succ (A : Nt) (b d k : Nat) : heardF A b d (k + 1) = if 0 < A.co k b then takes A b k (heardF A b d k) ((toldT A b).be d) (toldM A k d) else heardF A b d k := rfl
/-- What a router knows behind it. -/
def roundT (A : Nt) (b : Nat) : Tb := ⟨(A.rs b).t.sq, fun d => if d = b then (toldT A b).ro d else heardF A b d A.n, (toldT A b).be⟩
/-- All is quiet: all are up, nothing waits, no cost is above 5. -/
structure Calm (A : Nt) : Prop where
  good : Good A
  up : ∀ r, r < A.n → (A.rs r).dn = false
  wa : ∀ a b, A.wa a b = []
  c5 : ∀ a b, A.co a b ≤ 5
theorem Good.ne {A : Nt} (g : Good A) {a b : Nat} (h : 0 < A.co a b) : a ≠ b := by
  rintro rfl
  rw [g.ca] at h
  omega
/-- Routes are by neighbours, all through. -/
theorem heardF_nb {A : Nt} (q : Calm A) (b d : Nat) (hb : b < A.n) : ∀ j, 0 ≤ (heardF A b d j).nx → 0 < A.co b (heardF A b d j).nx.toNat := by
  have g := q.good
  intro j
  induction j with
  | zero =>
    intro h0
    have h0 : 0 ≤ ((toldT A b).ro d).nx := h0
    show 0 < A.co b ((toldT A b).ro d).nx.toNat
    rcases toldT_ro A b d with e | ⟨e, _⟩
    · rw [e] at h0 ⊢; exact g.nb b d hb (q.up b hb) h0
    · rw [e, noRt_nx] at h0; omega
  | succ j ih =>
    rw [heardF_succ]
    by_cases hc : 0 < A.co j b
    · rw [if_pos hc]
      rcases takes_cases A b j (heardF A b d j) ((toldT A b).be d) (toldM A j d) with e | e | ⟨e, _⟩
      · rw [e]; exact ih
      · rw [e, noRt_nx]; intro h; omega
      · rw [e]; intro _; show 0 < A.co b (j : Int).toNat; rw [Int.toNat_natCast, g.cs]; exact hc
    · rw [if_neg hc]; exact ih

/-! #### Those that can be reached -/
structure Near (A : Nt) (d : Nat) (σ : Int) (k : Nat) : Prop where
  own : (A.rs d).t.sq = σ
  be1 : ∀ r, r < A.n → r ≠ d → ((A.rs r).t.be d).sq ≤ σ
  ro1 : ∀ r, r < A.n → r ≠ d → 0 ≤ ((A.rs r).t.ro d).nx → ((A.rs r).t.ro d).sq ≤ σ
  be2 : ∀ r, r < A.n → r ≠ d → ((A.rs r).t.be d).sq = σ → dist A.co r d < 1000 ∧ dist A.co r d ≤ ((A.rs r).t.be d).mt
  ro2 : ∀ r, r < A.n → r ≠ d → 0 ≤ ((A.rs r).t.ro d).nx → ((A.rs r).t.ro d).sq = σ → dist A.co ((A.rs r).t.ro d).nx.toNat d < 1000 ∧ dist A.co ((A.rs r).t.ro d).nx.toNat d ≤ ((A.rs r).t.ro d).mt
  hit : ∀ r, r < A.n → r ≠ d → dist A.co r d < 1000 → rank A.co A.n d r ≤ k → 0 ≤ ((A.rs r).t.ro d).nx ∧ ((A.rs r).t.ro d).sq = σ ∧ ((A.rs r).t.ro d).mt = dist A.co ((A.rs r).t.ro d).nx.toNat d ∧ A.co r ((A.rs r).t.ro d).nx.toNat + dist A.co ((A.rs r).t.ro d).nx.toNat d = dist A.co r d
theorem Calm.step {A : Nt} (q : Calm A) (a x d : Nat) (h : 0 < A.co a x) : dist A.co a d ≤ A.co a x + dist A.co x d :=
  dist_step A.co a x d (by have := (q.good.cn a x h).2; have := q.good.n5; omega) (q.good.ne h) h
theorem Calm.d20 {A : Nt} (q : Calm A) (r d : Nat) (hr : r < A.n) (h : dist A.co r d < 1000) : dist A.co r d ≤ 20 := dist_20 A.co A.n d r q.good.n5 q.c5 q.good.cn hr h
theorem near_told {A : Nt} (q : Calm A) {d : Nat} {σ : Int} {k : Nat} (h : Near A d σ k) (x : Nat) (hx : x < A.n) :
    (toldM A x d).sq ≤ σ ∧ ((toldM A x d).sq = σ → 0 ≤ σ → dist A.co x d < 1000 ∧ dist A.co x d ≤ (toldM A x d).mt) ∧ (dist A.co x d < 1000 → rank A.co A.n d x ≤ k → toldM A x d = ⟨σ, dist A.co x d⟩) := by
  have g := q.good
  by_cases e : d = x
  · subst e
    have : toldM A d d = ⟨σ, 0⟩ := by unfold toldM; rw [if_pos rfl, h.own]
    rw [this, dist_self]
    exact ⟨Int.le_refl _, fun _ _ => ⟨by omega, Int.le_refl _⟩, fun _ _ => rfl⟩
  · have e' : x ≠ d := fun h => e h.symm
    have T3 : dist A.co x d < 1000 → rank A.co A.n d x ≤ k → toldM A x d = ⟨σ, dist A.co x d⟩ := fun h1 h2 => by
      obtain ⟨a1, a2, a3, a4⟩ := h.hit x hx e' h1 h2
      have : total A x ((A.rs x).t.ro d) = dist A.co x d := by unfold total; omega
      have := q.d20 x d hx h1
      unfold toldM
      rw [if_neg e, if_neg (by omega), if_neg (by omega), a2, ‹total A x _ = _›]
    rcases toldM_cases g x hx (q.up x hx) d with ⟨e1, _⟩ | ⟨_, e1⟩ | ⟨_, h1, h2, h3, e1⟩
    · exact absurd e1 e
    · have s0 : 0 ≤ (A.rs d).t.sq ∨ A.n ≤ d := by
        by_cases hd : d < A.n
        · exact .inl (g.t d hd).sq0
        · exact .inr (by omega)
      refine ⟨?_, fun h1 h2 => ?_, T3⟩
      · rw [e1, noBs_sq]
        have := h.be1 x hx e'
        rcases (g.t x hx).be d with e2 | e2
        · rw [e2, noBs_sq] at this; exact this
        · have := e2.sq0; omega
      · rw [e1, noBs_sq] at h1; omega
    · refine ⟨?_, fun h4 _ => ?_, T3⟩
      · rw [e1]; exact h.ro1 x hx e' h1
      · rw [e1] at h4 ⊢
        obtain ⟨b1, b2⟩ := h.ro2 x hx e' h1 h4
        have c := g.nb x d hx (q.up x hx) h1
        have s := q.step x ((A.rs x).t.ro d).nx.toNat d c
        have := q.d20 _ d (g.cn _ _ c).2 b1
        have := q.c5 x ((A.rs x).t.ro d).nx.toNat
        refine ⟨by omega, ?_⟩
        show dist A.co x d ≤ total A x ((A.rs x).t.ro d)
        unfold total
        omega
theorem near_best {A : Nt} (q : Calm A) {d : Nat} {σ : Int} {k : Nat} (h : Near A d σ k) (hs : 0 ≤ σ) (r : Nat) (hr : r < A.n) (hrd : r ≠ d) :
    ((toldT A r).be d).sq ≤ σ ∧ (((toldT A r).be d).sq = σ → dist A.co r d < 1000 ∧ dist A.co r d ≤ ((toldT A r).be d).mt) := by
  rcases toldT_be A r d with e | ⟨h1, h2, h3, h4, e⟩
  · rw [e]; exact ⟨h.be1 r hr hrd, h.be2 r hr hrd⟩
  · have : toldM A r d = (toldT A r).be d := by
      rw [e]; unfold toldM; rw [if_neg h1, if_neg (by omega), if_neg (by omega)]
    rw [← this]
    obtain ⟨t1, t2, _⟩ := near_told q h r hr
    exact ⟨t1, fun h => t2 h hs⟩
/-- What a router takes up, one neighbour behind the other. -/
theorem near_heard {A : Nt} (q : Calm A) {d : Nat} {σ : Int} {k : Nat} (h : Near A d σ k) (hs : 0 ≤ σ) (r : Nat) (hr : r < A.n) (hrd : r ≠ d) : ∀ j,
    (0 ≤ (heardF A r d j).nx → (heardF A r d j).sq ≤ σ ∧ ((heardF A r d j).sq = σ → dist A.co (heardF A r d j).nx.toNat d < 1000 ∧ dist A.co (heardF A r d j).nx.toNat d ≤ (heardF A r d j).mt)) ∧
    (∀ x, 0 < A.co r x → A.co r x + dist A.co x d = dist A.co r d → dist A.co r d < 1000 → rank A.co A.n d r ≤ k + 1 → x < j →
      0 ≤ (heardF A r d j).nx ∧ (heardF A r d j).sq = σ ∧ (heardF A r d j).mt = dist A.co (heardF A r d j).nx.toNat d ∧ A.co r (heardF A r d j).nx.toNat + dist A.co (heardF A r d j).nx.toNat d = dist A.co r d) := by
  have g := q.good
  intro j
  induction j with
  | zero =>
    refine ⟨fun h0 => ?_, fun x _ _ _ _ hx => absurd hx (Nat.not_lt_zero x)⟩
    have h0 : 0 ≤ ((toldT A r).ro d).nx := h0
    show ((toldT A r).ro d).sq ≤ σ ∧ (((toldT A r).ro d).sq = σ → dist A.co ((toldT A r).ro d).nx.toNat d < 1000 ∧ dist A.co ((toldT A r).ro d).nx.toNat d ≤ ((toldT A r).ro d).mt)
    rcases toldT_ro A r d with e | ⟨e, _⟩
    · rw [e] at h0 ⊢; exact ⟨h.ro1 r hr hrd h0, h.ro2 r hr hrd h0⟩
    · rw [e, noRt_nx] at h0; omega
  | succ j ih =>
    obtain ⟨i1, i2⟩ := ih
    have nbj := heardF_nb q r d hr j
    rw [heardF_succ]
    by_cases hc : 0 < A.co j r
    · rw [if_pos hc]
      have hjn := (g.cn j r hc).1
      have hc' : 0 < A.co r j := by rw [g.cs]; exact hc
      have hcs := g.cs r j
      obtain ⟨t1, t2, t3⟩ := near_told q h j hjn
      obtain ⟨b1, b2⟩ := near_best q h hs r hr hrd
      have stp := q.step r j d hc'
      generalize hcur : heardF A r d j = cur at *
      generalize (toldT A r).be d = β at *
      generalize hsd : toldM A j d = s at *
      constructor
      · intro h0
        rcases takes_cases A r j cur β s with e | e | ⟨e, e1, e2, e3⟩
        · rw [e] at h0 ⊢; exact i1 h0
        · rw [e, noRt_nx] at h0; omega
        · rw [e]
          refine ⟨t1, fun h1 => ?_⟩
          show dist A.co (j : Int).toNat d < 1000 ∧ dist A.co (j : Int).toNat d ≤ s.mt
          rw [Int.toNat_natCast]; exact t2 h1 hs
      · intro x hx1 hx2 hx3 hx4 hxj
        -- what j tells, if it is on a shortest way: it is taken
        have tight : A.co r j + dist A.co j d = dist A.co r d → s = ⟨σ, dist A.co j d⟩ ∧ 0 ≤ s.sq ∧ bet s β ∧ s.mt + A.co j r ≤ 30 := fun ht => by
          have hd : dist A.co j d < dist A.co r d := by omega
          have hrk := rank_lt A.co A.n d j r hjn hd
          have es := t3 (by omega) (by omega)
          have := q.d20 r d hr hx3
          refine ⟨es, by rw [es]; exact hs, ?_, by rw [es]; show dist A.co j d + A.co j r ≤ 30; omega⟩
          by_cases hb : β.sq = σ
          · have := b2 hb
            exact .inr ⟨by rw [es, hb], by rw [es]; show dist A.co j d < β.mt; omega⟩
          · exact .inl (by rw [es]; show β.sq < σ; omega)
        have done : A.co r j + dist A.co j d = dist A.co r d → takes A r j cur β s = ⟨j, s.sq, s.mt, 0, 0⟩ → 0 ≤ (takes A r j cur β s).nx ∧ (takes A r j cur β s).sq = σ ∧ (takes A r j cur β s).mt = dist A.co (takes A r j cur β s).nx.toNat d ∧ A.co r (takes A r j cur β s).nx.toNat + dist A.co (takes A r j cur β s).nx.toNat d = dist A.co r d := fun ht e => by
          rw [e]
          have := (tight ht).1
          rw [this]
          exact ⟨Int.natCast_nonneg j, rfl, by show dist A.co j d = dist A.co (j : Int).toNat d; rw [Int.toNat_natCast], by show A.co r (j : Int).toNat + dist A.co (j : Int).toNat d = _; rw [Int.toNat_natCast]; exact ht⟩
        by_cases hjx : x = j
        · subst hjx
          obtain ⟨u1, u2, u3, u4⟩ := tight hx2
          by_cases hnew : cur.nx < 0 ∨ cur.nx = x ∨ cur.sq < s.sq ∨ (s.sq = cur.sq ∧ s.mt + A.co x r < total A r cur)
          · refine done hx2 ?_
            unfold takes
            rw [if_neg (by omega), if_pos hnew]
          · have e : takes A r x cur β s = cur := by
              unfold takes
              rw [if_neg (by omega), if_neg hnew]
            rw [e]
            have h0 : 0 ≤ cur.nx := by omega
            obtain ⟨v1, v2⟩ := i1 h0
            have hσ : s.sq = σ := by rw [u1]
            have hm : s.mt = dist A.co x d := by rw [u1]
            have heq : cur.sq = σ := by omega
            obtain ⟨w1, w2⟩ := v2 heq
            have st2 := q.step r cur.nx.toNat d (nbj h0)
            have ht : ¬ (s.mt + A.co x r < total A r cur) := fun hlt => hnew (.inr (.inr (.inr ⟨by omega, hlt⟩)))
            have htot : total A r cur = cur.mt + A.co r cur.nx.toNat := rfl
            exact ⟨h0, heq, by omega, by omega⟩
        · obtain ⟨a1, a2, a3, a4⟩ := i2 x hx1 hx2 hx3 hx4 (by omega)
          by_cases hjn2 : cur.nx = j
          · have ht : A.co r j + dist A.co j d = dist A.co r d := by rw [hjn2, Int.toNat_natCast] at a4; exact a4
            refine done ht ?_
            obtain ⟨u1, u2, u3, u4⟩ := tight ht
            unfold takes
            rw [if_neg (by omega), if_pos (.inr (.inl hjn2))]
          · have e : takes A r j cur β s = cur := by
              unfold takes
              by_cases hd : s.sq < 0 ∨ ¬ bet s β ∨ 30 < s.mt + A.co j r
              · rw [if_pos hd, if_neg hjn2]
              · rw [if_neg hd, if_neg]
                rintro (h1 | h1 | h1 | ⟨h1, h2⟩)
                · omega
                · exact hjn2 h1
                · omega
                · obtain ⟨w1, w2⟩ := t2 (by omega) hs
                  have htot : total A r cur = cur.mt + A.co r cur.nx.toNat := rfl
                  omega
            rw [e]
            exact ⟨a1, a2, a3, a4⟩
    · rw [if_neg hc]
      refine ⟨i1, fun x hx1 hx2 hx3 hx4 hxj => i2 x hx1 hx2 hx3 hx4 ?_⟩
      have : x ≠ j := by
        rintro rfl
        rw [g.cs] at hx1
        exact hc hx1
      omega
end Go.Proofs.Ytdoodnbobpijoaa
