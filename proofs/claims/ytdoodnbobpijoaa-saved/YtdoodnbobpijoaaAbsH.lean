import Derived.Test.YtdoodnbobpijoaaAbsG
namespace Go.Proofs.Ytdoodnbobpijoaa

/-- B is A behind a round. -/
structure Round (A B : Nt) : Prop where
  n : B.n = A.n
  co : B.co = A.co
  t : ∀ r, r < A.n → (B.rs r).t = roundT A r
theorem roundT_ro (A : Nt) (r d : Nat) (h : r ≠ d) : (roundT A r).ro d = heardF A r d A.n := by
  show (if d = r then _ else _) = _
  rw [if_neg (Ne.symm h)]
theorem Near.round {A B : Nt} (q : Calm A) {d : Nat} {σ : Int} {k : Nat} (h : Near A d σ k) (hs : 0 ≤ σ) (hd : d < A.n) (hB : Round A B) : Near B d σ (k + 1) := by
  have g := q.good
  refine ⟨?_, fun r hr hrd => ?_, fun r hr hrd => ?_, fun r hr hrd => ?_, fun r hr hrd => ?_, fun r hr hrd => ?_⟩
  · rw [hB.t d hd]; exact h.own
  · rw [hB.n] at hr; rw [hB.t r hr]; exact (near_best q h hs r hr hrd).1
  · rw [hB.n] at hr; rw [hB.t r hr, roundT_ro _ _ _ hrd]; exact fun h0 => ((near_heard q h hs r hr hrd A.n).1 h0).1
  · rw [hB.n] at hr; rw [hB.t r hr, hB.co]; exact (near_best q h hs r hr hrd).2
  · rw [hB.n] at hr; rw [hB.t r hr, hB.co, roundT_ro _ _ _ hrd]; exact fun h0 => ((near_heard q h hs r hr hrd A.n).1 h0).2
  · rw [hB.n] at hr ⊢
    rw [hB.t r hr, hB.co, roundT_ro _ _ _ hrd]
    intro h1 h2
    obtain ⟨x, x1, x2⟩ := dist_next A.co r d hrd h1
    have x3 := q.step r x d x1
    exact (near_heard q h hs r hr hrd A.n).2 x x1 (by omega) h1 h2 (g.cn r x x1).2

/-! #### Those that can't -/
def Off (A : Nt) (d r : Nat) : Prop := r < A.n ∧ 1000 ≤ dist A.co r d
theorem Off.ne {A : Nt} {d r : Nat} (h : Off A d r) : r ≠ d := by
  rintro rfl
  have := h.2
  rw [dist_self] at this
  omega
theorem Off.next {A : Nt} (q : Calm A) {d r x : Nat} (h : Off A d r) (hc : 0 < A.co r x) : Off A d x := by
  have hx := (q.good.cn r x hc).2
  refine ⟨hx, ?_⟩
  rcases Int.lt_or_le (dist A.co x d) 1000 with h1 | h1
  · have h2 := q.step r x d hc
    have h3 := q.d20 x d hx h1
    have h4 := q.c5 r x
    have h5 := h.2
    omega
  · exact h1
/-- U: those that may still have a route. -/
structure Live (A : Nt) (d : Nat) (U : List Nat) : Prop where
  off : ∀ y, y ∈ U → Off A d y
  dead : ∀ z, Off A d z → z ∉ U → ((A.rs z).t.ro d).nx < 0
  by_ : ∀ r, Off A d r → 0 ≤ ((A.rs r).t.ro d).nx → ((A.rs r).t.ro d).nx.toNat ∈ U
  best : ∀ z y, Off A d z → z ∉ U → y ∈ U → geB ((A.rs z).t.be d) ((A.rs y).t.be d)
theorem toldM_none {A : Nt} {r d : Nat} (h : d ≠ r) (h0 : ((A.rs r).t.ro d).nx < 0) : toldM A r d = noBs := by
  unfold toldM; rw [if_neg h, if_pos h0]
theorem toldT_none {A : Nt} {r d : Nat} (h0 : ((A.rs r).t.ro d).nx < 0) : (toldT A r).ro d = (A.rs r).t.ro d ∧ (toldT A r).be d = (A.rs r).t.be d := by
  constructor
  · rcases toldT_ro A r d with e | ⟨_, _, e, _⟩
    · exact e
    · omega
  · rcases toldT_be A r d with e | ⟨_, e, _⟩
    · exact e
    · omega
theorem takes_none (A : Nt) (b a : Nat) (x : Rt) (best t : Bs) (h : t = noBs ∨ ¬ bet t best) : takes A b a x best t = if x.nx = a then noRt else x := by
  unfold takes
  rw [if_pos]
  rcases h with h | h
  · left; rw [h, noBs_sq]; decide
  · exact .inr (.inl h)
theorem Live.round {A B : Nt} (q : Calm A) {d : Nat} {U U' : List Nat} (h : Live A d U) (hB : Round A B) (hsub : ∀ y, y ∈ U' → y ∈ U)
    (hmax : ∀ x, x ∈ U → x ∉ U' → ∀ y, y ∈ U → geB ((A.rs x).t.be d) ((A.rs y).t.be d)) : Live B d U' := by
  have g := q.good
  have hoff : ∀ r, Off B d r ↔ Off A d r := fun r => by unfold Off; rw [hB.n, hB.co]
  -- the dead, behind the round, too
  have top : ∀ z, Off A d z → z ∉ U' → ∀ y, y ∈ U → geB ((A.rs z).t.be d) ((A.rs y).t.be d) := fun z hz hzu y hy => by
    by_cases hzU : z ∈ U
    · exact hmax z hzU hzu y hy
    · exact h.best z y hz hzU hy
  have none_ : ∀ z, Off A d z → z ∉ U' → ((A.rs z).t.ro d).nx < 0 := fun z hz hzu => by
    by_cases hzU : z ∈ U
    · rcases Int.lt_or_le ((A.rs z).t.ro d).nx 0 with h1 | h1
      · exact h1
      · exfalso
        have hy := h.by_ z hz h1
        have h2 := better_next g z d hz.1 h1 (h.off _ hy).ne
        have h3 := hmax z hzU hzu _ hy
        exact bet_irrefl (bet_geB h2 h3)
    · exact h.dead z hz hzU
  have told0 : ∀ z, Off A d z → z ∉ U' → toldM A z d = noBs := fun z hz hzu => toldM_none (Ne.symm hz.ne) (none_ z hz hzu)
  -- what the others tell is worse than the bests of the dead
  have told1 : ∀ y, Off A d y → toldM A y d = noBs ∨ (y ∈ U' ∧ ∀ z, Off A d z → z ∉ U' → bet ((A.rs z).t.be d) (toldM A y d)) := fun y hy => by
    by_cases hyu : y ∈ U'
    · rcases toldM_cases g y hy.1 (q.up y hy.1) d with ⟨e, _⟩ | ⟨_, e⟩ | ⟨_, h1, h2, h3, e⟩
      · exact absurd e.symm hy.ne
      · exact .inl e
      · refine .inr ⟨hyu, fun z hz hzu => ?_⟩
        have hw := h.by_ y hy h1
        have t := g.rt y d hy.1 h1
        unfold Tells at t
        rw [if_neg (h.off _ hw).ne, ← g.bq _ d (h.off _ hw).1] at t
        have t2 := geB_trans (top z hz hzu _ hw) t
        rw [e]
        refine geB_bet t2 (.inr ⟨rfl, h3⟩)
    · exact .inl (told0 y hy hyu)
  have bests : ∀ y, Off A d y → ((toldT A y).be d = (A.rs y).t.be d) ∨ (toldT A y).be d = toldM A y d := fun y hy => by
    rcases toldT_be A y d with e | ⟨h1, h2, h3, h4, e⟩
    · exact .inl e
    · right; rw [e]; unfold toldM; rw [if_neg h1, if_neg (by omega), if_neg (by omega)]
  have fold0 : ∀ z, Off A d z → z ∉ U' → ∀ j, (heardF A z d j).nx < 0 := fun z hz hzu j => by
    induction j with
    | zero => show ((toldT A z).ro d).nx < 0; rw [(toldT_none (none_ z hz hzu)).1]; exact none_ z hz hzu
    | succ j ih =>
      rw [heardF_succ]
      by_cases hc : 0 < A.co j z
      · rw [if_pos hc, takes_none, if_neg (by omega)]
        · exact ih
        · rcases told1 j (hz.next q (by rw [g.cs]; exact hc)) with e | ⟨_, e⟩
          · exact .inl e
          · right
            rw [(toldT_none (none_ z hz hzu)).2]
            intro hb
            exact bet_irrefl (bet_trans hb (e z hz hzu))
      · rw [if_neg hc]; exact ih
  have fold1 : ∀ r, Off A d r → ∀ j, 0 ≤ (heardF A r d j).nx → (heardF A r d j).nx.toNat ∈ U' ∨ j ≤ (heardF A r d j).nx.toNat := fun r hr j => by
    induction j with
    | zero => intro _; exact .inr (Nat.zero_le _)
    | succ j ih =>
      have nbj := heardF_nb q r d hr.1 j
      rw [heardF_succ]
      by_cases hc : 0 < A.co j r
      · rw [if_pos hc]
        rcases told1 j (hr.next q (by rw [g.cs]; exact hc)) with e | ⟨e, _⟩
        · rw [takes_none _ _ _ _ _ _ (.inl e)]
          by_cases hx : (heardF A r d j).nx = j
          · rw [if_pos hx, noRt_nx]; intro h; omega
          · rw [if_neg hx]
            intro h0
            rcases ih h0 with i | i
            · exact .inl i
            · right; omega
        · rcases takes_cases A r j (heardF A r d j) ((toldT A r).be d) (toldM A j d) with e' | e' | ⟨e', _⟩
          · rw [e']
            intro h0
            rcases ih h0 with i | i
            · exact .inl i
            · by_cases hx : (heardF A r d j).nx.toNat = j
              · left; rw [hx]; exact e
              · right; omega
          · rw [e', noRt_nx]; intro h; omega
          · rw [e']; intro _; left; show (j : Int).toNat ∈ U'; rw [Int.toNat_natCast]; exact e
      · rw [if_neg hc]
        intro h0
        rcases ih h0 with i | i
        · exact .inl i
        · right
          have : (heardF A r d j).nx.toNat ≠ j := fun e => by
            have := nbj h0
            rw [e, g.cs] at this
            exact hc this
          omega
  refine ⟨fun y hy => (hoff y).2 (h.off y (hsub y hy)), fun z hz hzu => ?_, fun r hr => ?_, fun z y hz hzu hy => ?_⟩
  · rw [hoff] at hz
    rw [hB.t z hz.1, roundT_ro _ _ _ hz.ne]
    exact fold0 z hz hzu _
  · rw [hoff] at hr
    rw [hB.t r hr.1, roundT_ro _ _ _ hr.ne]
    intro h0
    rcases fold1 r hr _ h0 with i | i
    · exact i
    · have := (g.cn _ _ (heardF_nb q r d hr.1 _ h0)).2
      omega
  · rw [hoff] at hz
    have hy' := h.off y (hsub y hy)
    rw [hB.t z hz.1, hB.t y hy'.1]
    show geB ((toldT A z).be d) ((toldT A y).be d)
    rw [(toldT_none (none_ z hz hzu)).2]
    have tz := top z hz hzu y (hsub y hy)
    rcases bests y hy' with e | e
    · rw [e]; exact tz
    · rcases told1 y hy' with e1 | ⟨_, e1⟩
      · rw [e, e1]
        rcases (g.t z hz.1).be d with e2 | e2
        · rw [e2]; exact geB_refl _
        · left; rw [noBs_sq]; have := e2.sq0; omega
      · rw [e]; exact bet_ge (e1 z hz hzu)
theorem max_of (f : Nat → Bs) : ∀ l : List Nat, l ≠ [] → ∃ x, x ∈ l ∧ ∀ y, y ∈ l → geB (f x) (f y) := by
  intro l
  induction l with
  | nil => intro h; exact absurd rfl h
  | cons a l ih =>
    intro _
    by_cases hl : l = []
    · subst hl
      exact ⟨a, by simp, fun y hy => by rw [List.mem_singleton.1 hy]; exact geB_refl _⟩
    · obtain ⟨x, hx, hm⟩ := ih hl
      by_cases hb : geB (f a) (f x)
      · exact ⟨a, by simp, fun y hy => by
          rcases List.mem_cons.1 hy with e | e
          · rw [e]; exact geB_refl _
          · exact geB_trans hb (hm y e)⟩
      · refine ⟨x, List.mem_cons_of_mem _ hx, fun y hy => ?_⟩
        rcases List.mem_cons.1 hy with e | e
        · rw [e]; omega
        · exact hm y e
/-- A round, and one less may have a route. -/
theorem Live.less {A B : Nt} (q : Calm A) {d k : Nat} (h : ∃ U, Live A d U ∧ U.length ≤ k) (hB : Round A B) : ∃ U, Live B d U ∧ U.length ≤ k - 1 := by
  obtain ⟨U, hU, hk⟩ := h
  by_cases he : U = []
  · subst he
    exact ⟨[], hU.round q hB (fun _ h => h) (fun x hx _ => by cases hx), Nat.zero_le _⟩
  · obtain ⟨x, hx, hm⟩ := max_of (fun y => (A.rs y).t.be d) U he
    refine ⟨U.filter (· ≠ x), hU.round q hB (fun y hy => (List.mem_filter.1 hy).1) (fun z hz hzu y hy => ?_), ?_⟩
    · have : z = x := by
        rcases Nat.decEq z x with e | e
        · exact absurd (List.mem_filter.2 ⟨hz, by simpa using e⟩) hzu
        · exact e
      rw [this]; exact hm y hy
    · have : (U.filter (· ≠ x)).length < U.length := by
        have h1 := List.length_filter_lt_length_iff_exists (p := fun y => decide (y ≠ x)) (l := U)
        exact h1.2 ⟨x, hx, by simp⟩
      omega
theorem Live.start {A : Nt} (q : Calm A) (d : Nat) : ∃ U, Live A d U ∧ U.length ≤ A.n := by
  refine ⟨(List.range A.n).filter (fun r => decide (1000 ≤ dist A.co r d)), ⟨fun y hy => ?_, fun z hz hzu => ?_, fun r hr h0 => ?_, fun z y hz hzu _ => ?_⟩, ?_⟩
  · have := List.mem_filter.1 hy
    exact ⟨List.mem_range.1 this.1, by simpa using this.2⟩
  · exact absurd (List.mem_filter.2 ⟨List.mem_range.2 hz.1, by simpa using hz.2⟩) hzu
  · have := hr.next q (q.good.nb r d hr.1 (q.up r hr.1) h0)
    exact List.mem_filter.2 ⟨List.mem_range.2 this.1, by simpa using this.2⟩
  · exact absurd (List.mem_filter.2 ⟨List.mem_range.2 hz.1, by simpa using hz.2⟩) hzu
  · have := List.length_filter_le (fun r => decide (1000 ≤ dist A.co r d)) (List.range A.n)
    simpa using this
end Go.Proofs.Ytdoodnbobpijoaa
