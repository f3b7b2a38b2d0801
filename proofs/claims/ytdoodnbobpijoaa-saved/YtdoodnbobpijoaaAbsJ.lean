import Derived.Test.YtdoodnbobpijoaaAbsI
namespace Go.Proofs.Ytdoodnbobpijoaa

/-! ### Steps: seqs grow by one at most, costs stay small -/
structure Tame (A : Nt) (s : Int) : Prop where
  good : Good A
  sq : ∀ r, r < A.n → (A.rs r).t.sq ≤ s
  c5 : ∀ a b, A.co a b ≤ 5
theorem upR_sq {A : Nt} {s : Int} (h : ∀ r, r < A.n → (A.rs r).t.sq ≤ s) (i : Nat) (R : Ro) (hR : i < A.n → R.t.sq ≤ s + 1) : ∀ r, r < A.n → ((upR A i R).rs r).t.sq ≤ s + 1 := fun r hr => by
  by_cases e : r = i
  · subst e; rw [upR_same]; exact hR hr
  · rw [upR_other _ _ _ _ e]; have := h r hr; omega
theorem linkN_sq (A : Nt) (a b : Nat) (c : Int) (r : Nat) : ((linkN A a b c).rs r).t.sq = (A.rs r).t.sq := by
  show (if c = 0 then (if r = a then withT (A.rs a) (wo (A.rs a).t b) else if r = b then withT (A.rs b) (wo (A.rs b).t a) else A.rs r) else A.rs r).t.sq = _
  split
  · split
    · next e => rw [e]; rfl
    · split
      · next e => rw [e]; rfl
      · rfl
  · rfl
theorem dumpN_sq (A : Nt) (i r : Nat) : ((dumpN A i).rs r).t.sq = (A.rs r).t.sq := by
  unfold dumpN
  by_cases e : r = i
  · subst e
    split
    · unfold failOnce; rw [upR_same]
    · rw [dumpOk_same]; rfl
  · split
    · unfold failOnce; rw [upR_other _ _ _ _ e]
    · rw [dumpOk_other _ _ _ e]
theorem dumpN_co (A : Nt) (i : Nat) : (dumpN A i).co = A.co := by unfold dumpN; split <;> rfl
theorem Tame.mono {A : Nt} {s t : Int} (h : Tame A s) (hst : s ≤ t) : Tame A t := ⟨h.good, fun r hr => Int.le_trans (h.sq r hr) hst, h.c5⟩
theorem Tame.link {A : Nt} {s : Int} (h : Tame A s) (a b c : Int) (hc : c ≤ 5) : Tame (linkC A a b c) (s + 1) := by
  have st := Steps.link h.good a b c
  refine ⟨st.good, fun r hr => ?_, fun x y => ?_⟩
  · rw [st.n] at hr
    have := h.sq r hr
    unfold linkC
    split
    · rw [linkN_sq]; omega
    · omega
  · unfold linkC
    split
    · show setCo A.co a.toNat b.toNat c x y ≤ 5
      unfold setCo
      have := h.c5 x y
      split <;> assumption
    · exact h.c5 x y
theorem Tame.step {A : Nt} {s : Int} (h : Tame A s) (k a b c : Int) : Tame (stepN A k a b c) (s + 1) := by
  have g := h.good
  have keep : Tame A (s + 1) := h.mono (by omega)
  unfold stepN
  split
  · split
    · exact h.link _ _ _ (by have := pickI_ok c 6 (by omega); omega)
    · exact keep
  split
  · have st := Steps.dump g a
    refine ⟨st.good, fun r hr => ?_, fun x y => ?_⟩
    · rw [st.n] at hr
      have := h.sq r hr
      unfold dumpC; split
      · rw [dumpN_sq]; omega
      · omega
    · unfold dumpC; split
      · rw [dumpN_co]; exact h.c5 x y
      · exact h.c5 x y
  split
  · unfold deliverC
    split
    · next e =>
      have kd := Kept.deliver g _ _ _ (msgE_zero e).2.2
      exact ⟨kd.good, fun r hr => by rw [kd.n] at hr; rw [kd.sq]; have := h.sq r hr; omega, fun x y => by rw [kd.co]; exact h.c5 x y⟩
    · exact keep
  split
  · have st := Steps.again g a b (whichI A a b c)
    refine ⟨st.good, fun r hr => ?_, fun x y => ?_⟩
    · rw [st.n] at hr
      have := h.sq r hr
      unfold againC; split
      · show (A.rs r).t.sq ≤ _; omega
      · omega
    · unfold againC; split
      · exact h.c5 x y
      · exact h.c5 x y
  split
  · have st := Steps.lose g a b (whichI A a b c)
    refine ⟨st.good, fun r hr => ?_, fun x y => ?_⟩
    · rw [st.n] at hr
      have := h.sq r hr
      unfold loseC; split
      · show (A.rs r).t.sq ≤ _; omega
      · omega
    · unfold loseC; split
      · exact h.c5 x y
      · exact h.c5 x y
  split
  · have st := Steps.tick g a
    refine ⟨st.good, fun r hr => ?_, fun x y => ?_⟩
    · rw [st.n] at hr
      unfold tickC; split
      · exact upR_sq h.sq _ _ (fun hi => by have := h.sq _ hi; show (A.rs a.toNat).t.sq ≤ _; omega) r hr
      · have := h.sq r hr; omega
    · unfold tickC; split
      · exact h.c5 x y
      · exact h.c5 x y
  split
  · have st := Steps.bump g a
    refine ⟨st.good, fun r hr => ?_, fun x y => ?_⟩
    · rw [st.n] at hr
      unfold bumpC; split
      · exact upR_sq h.sq _ _ (fun hi => by have := h.sq _ hi; show (A.rs a.toNat).t.sq + 1 ≤ _; omega) r hr
      · have := h.sq r hr; omega
    · unfold bumpC; split
      · exact h.c5 x y
      · exact h.c5 x y
  split
  · have st := Steps.crash g a
    refine ⟨st.good, fun r hr => ?_, fun x y => ?_⟩
    · rw [st.n] at hr
      unfold crashC; split
      · exact upR_sq h.sq _ _ (fun hi => by have := h.sq _ hi; have := g.sq _ hi; show (A.rs a.toNat).dk.sq ≤ _; omega) r hr
      · have := h.sq r hr; omega
    · unfold crashC; split
      · exact h.c5 x y
      · exact h.c5 x y
  split
  · have st := Steps.restart g a
    refine ⟨st.good, fun r hr => ?_, fun x y => ?_⟩
    · rw [st.n] at hr
      unfold restartC; split
      · exact upR_sq h.sq _ _ (fun hi => by have := h.sq _ hi; have := g.sq _ hi; show (A.rs a.toNat).dk.sq ≤ _; omega) r hr
      · have := h.sq r hr; omega
    · unfold restartC; split
      · exact h.c5 x y
      · exact h.c5 x y
  · have st := Steps.fail g a (pickI c 4)
    refine ⟨st.good, fun r hr => ?_, fun x y => ?_⟩
    · rw [st.n] at hr
      unfold failC; split
      · exact upR_sq h.sq _ _ (fun hi => by have := h.sq _ hi; show (A.rs a.toNat).t.sq ≤ _; omega) r hr
      · have := h.sq r hr; omega
    · unfold failC; split
      · exact h.c5 x y
      · exact h.c5 x y
theorem Tame.does {A : Nt} {s : Int} (h : Tame A s) (x : St) : Tame (doesN A x) (s + 1) := h.step _ _ _ _
theorem doesN_n {A : Nt} (g : Good A) (x : St) : (doesN A x).n = A.n := (Steps.does g x).n

/-! ### Quiet -/
def restTo (A : Nt) : Nat → Nt
  | 0 => A
  | k + 1 => restartC (restTo A k) k
theorem restartC_nat {A : Nt} (r : Nat) (hr : r < A.n) : restartC A r = if (A.rs r).dn = true then restartN A r else A := by
  unfold restartC restartE
  rw [if_pos (isB_nat hr), Int.toNat_natCast]
  by_cases h : (A.rs r).dn = true
  · rw [if_pos h, if_pos rfl, if_pos h]
  · rw [if_neg h, if_neg (by omega), if_neg h]
/-- What restarts leave as it was. -/
structure Risen (A B : Nt) : Prop where
  good : Good B
  n : B.n = A.n
  co : B.co = A.co
  wa : B.wa = A.wa
  dk : ∀ r, (B.rs r).dk = (A.rs r).dk
  fa : ∀ r, (B.rs r).fa = (A.rs r).fa
  sq : ∀ r, r < A.n → (B.rs r).t.sq ≤ (A.rs r).t.sq
  up : ∀ r, (A.rs r).dn = false → B.rs r = A.rs r
theorem Risen.refl {A : Nt} (g : Good A) : Risen A A := ⟨g, rfl, rfl, rfl, fun _ => rfl, fun _ => rfl, fun _ _ => Int.le_refl _, fun _ _ => rfl⟩
theorem Risen.trans {A B C : Nt} (h : Risen A B) (k : Risen B C) : Risen A C := ⟨k.good, k.n.trans h.n, k.co.trans h.co, k.wa.trans h.wa, fun r => (k.dk r).trans (h.dk r), fun r => (k.fa r).trans (h.fa r), fun r hr => Int.le_trans (k.sq r (by rw [h.n]; exact hr)) (h.sq r hr), fun r hr => by rw [k.up r (by rw [h.up r hr]; exact hr), h.up r hr]⟩
theorem Risen.restart {A : Nt} (g : Good A) (r : Nat) (hr : r < A.n) : Risen A (restartC A r) ∧ ((restartC A r).rs r).dn = false := by
  rw [restartC_nat r hr]
  by_cases h : (A.rs r).dn = true
  · rw [if_pos h]
    refine ⟨⟨g.restart r, rfl, rfl, rfl, upR_dk A r _ rfl, fun j => ?_, fun j hj => ?_, fun j hj => ?_⟩, ?_⟩
    · by_cases e : j = r
      · subst e; unfold restartN; rw [upR_same]
      · unfold restartN; rw [upR_other _ _ _ _ e]
    · by_cases e : j = r
      · subst e; unfold restartN; rw [upR_same]; exact g.sq j hj
      · unfold restartN; rw [upR_other _ _ _ _ e]; exact Int.le_refl _
    · have e : j ≠ r := by
        rintro rfl
        rw [h] at hj; cases hj
      unfold restartN; rw [upR_other _ _ _ _ e]
    · unfold restartN; rw [upR_same]
  · rw [if_neg h]; exact ⟨.refl g, by simpa using h⟩
theorem restTo_ok {A : Nt} (g : Good A) : ∀ k, k ≤ A.n → Risen A (restTo A k) ∧ ∀ r, r < k → ((restTo A k).rs r).dn = false := by
  intro k
  induction k with
  | zero => intro _; exact ⟨.refl g, fun r hr => by omega⟩
  | succ k ih =>
    intro hk
    obtain ⟨i1, i2⟩ := ih (by omega)
    obtain ⟨r1, r2⟩ := Risen.restart i1.good k (by rw [i1.n]; omega)
    refine ⟨i1.trans r1, fun r hr => ?_⟩
    show ((restartC (restTo A k) k).rs r).dn = false
    by_cases e : r = k
    · subst e; exact r2
    · have := i2 r (by omega)
      rw [r1.up r this]; exact this
def bumpTo (A : Nt) : Nat → Nt
  | 0 => A
  | k + 1 => bumpN (bumpTo A k) k
theorem bumpN_same (A : Nt) (r : Nat) : (bumpN A r).rs r = withT (A.rs r) { (A.rs r).t with sq := (A.rs r).t.sq + 1 } := upR_same _ _ _
theorem bumpN_other (A : Nt) (r j : Nat) (h : j ≠ r) : (bumpN A r).rs j = A.rs j := upR_other _ _ _ _ h
theorem bumpTo_ok {A : Nt} (g : Good A) (hs : ∀ r, r < A.n → (A.rs r).t.sq < 1000) : ∀ k, k ≤ A.n → Good (bumpTo A k) ∧ (bumpTo A k).n = A.n ∧ (bumpTo A k).co = A.co ∧ (bumpTo A k).wa = A.wa ∧
    (∀ r, ((bumpTo A k).rs r).dn = (A.rs r).dn ∧ ((bumpTo A k).rs r).dk = (A.rs r).dk ∧ ((bumpTo A k).rs r).t.sq = if r < k then (A.rs r).t.sq + 1 else (A.rs r).t.sq) := by
  intro k
  induction k with
  | zero => intro _; exact ⟨g, rfl, rfl, rfl, fun r => ⟨rfl, rfl, by rw [if_neg (by omega)]; rfl⟩⟩
  | succ k ih =>
    intro hk
    obtain ⟨i1, i2, i3, i4, i5⟩ := ih (by omega)
    refine ⟨i1.bump k fun _ => ?_, i2, i3, i4, fun r => ?_⟩
    · rw [(i5 k).2.2, if_neg (by omega)]; exact hs k (by omega)
    · show ((bumpN (bumpTo A k) k).rs r).dn = _ ∧ ((bumpN (bumpTo A k) k).rs r).dk = _ ∧ ((bumpN (bumpTo A k) k).rs r).t.sq = _
      by_cases e : r = k
      · subst e
        rw [bumpN_same, if_pos (by omega)]
        have := (i5 r).2.2
        rw [if_neg (by omega)] at this
        exact ⟨(i5 r).1, (i5 r).2.1, by show ((bumpTo A r).rs r).t.sq + 1 = _; rw [this]⟩
      · rw [bumpN_other _ _ _ e]
        refine ⟨(i5 r).1, (i5 r).2.1, ?_⟩
        rw [(i5 r).2.2]
        by_cases h2 : r < k
        · rw [if_pos h2, if_pos (by omega)]
        · rw [if_neg h2, if_neg (by omega)]
def roundsN (A : Nt) : Nat → Nt
  | 0 => A
  | k + 1 => roundN (roundsN A k)
def wokenN (A : Nt) : Nt := allN (restTo A A.n)
def quietN (A : Nt) : Nt := roundsN (bumpTo (wokenN A) A.n) (A.n + 2)
/-- All are up, nothing waits. -/
theorem woken_ok {A : Nt} {s : Int} (h : Tame A s) : Calm (wokenN A) ∧ (wokenN A).n = A.n ∧ (wokenN A).co = A.co ∧ ∀ r, r < A.n → ((wokenN A).rs r).t.sq ≤ s := by
  obtain ⟨r1, r2⟩ := restTo_ok h.good A.n (Nat.le_refl _)
  obtain ⟨a1, a2⟩ := allN_ok r1.good
  refine ⟨⟨a1.good, fun r hr => ?_, a2, fun a b => ?_⟩, a1.n.trans r1.n, a1.co.trans r1.co, fun r hr => ?_⟩
  · show ((allN (restTo A A.n)).rs r).dn = false
    rw [a1.dn]
    exact r2 r (by rw [← r1.n, ← a1.n]; exact hr)
  · show (allN (restTo A A.n)).co a b ≤ 5
    rw [a1.co, r1.co]; exact h.c5 a b
  · show ((allN (restTo A A.n)).rs r).t.sq ≤ s
    rw [a1.sq]
    exact Int.le_trans (r1.sq r hr) (h.sq r hr)
theorem Near.start {A : Nt} (q : Calm A) (d : Nat) (hd : d < A.n) (h : (A.rs d).dk.sq < (A.rs d).t.sq) : Near A d (A.rs d).t.sq 0 := by
  have g := q.good
  have rs : ∀ r, r < A.n → 0 ≤ ((A.rs r).t.ro d).nx → ((A.rs r).t.ro d).sq ≤ (A.rs d).dk.sq := fun r hr h0 => g.tells_sq (g.rt r d hr h0) ((g.t r hr).toNat d h0).1 hd
  refine ⟨rfl, fun r hr _ => ?_, fun r hr _ h0 => ?_, fun r hr _ e => ?_, fun r hr _ h0 e => ?_, fun r hr hrd h1 h2 => ?_⟩
  · have := g.os r d hr hd; omega
  · have := rs r hr h0; omega
  · have := g.os r d hr hd; omega
  · have := rs r hr h0; omega
  · have := rank_lt A.co A.n d d r hd (by rw [dist_self]; exact dist_pos _ _ _ hrd)
    omega
/-- When all is quiet. -/
structure Found (A : Nt) : Prop where
  calm : Calm A
  near : ∀ d, d < A.n → ∃ σ, Near A d σ (A.n + 2)
  off : ∀ d, d < A.n → ∀ r, Off A d r → ((A.rs r).t.ro d).nx < 0
theorem rounds_ok {A : Nt} (q : Calm A) (h : ∀ d, d < A.n → (A.rs d).dk.sq < (A.rs d).t.sq) : ∀ k, Calm (roundsN A k) ∧ (roundsN A k).n = A.n ∧ (roundsN A k).co = A.co ∧ (∀ d, d < A.n → Near (roundsN A k) d (A.rs d).t.sq k) ∧ (∀ d, d < A.n → ∃ U, Live (roundsN A k) d U ∧ U.length ≤ A.n - k) := by
  intro k
  induction k with
  | zero => exact ⟨q, rfl, rfl, fun d hd => Near.start q d hd (h d hd), fun d _ => Live.start q d⟩
  | succ k ih =>
    obtain ⟨i1, i2, i3, i4, i5⟩ := ih
    obtain ⟨r1, r2⟩ := round_ok i1
    refine ⟨r2, r1.n.trans i2, r1.co.trans i3, fun d hd => ?_, fun d hd => ?_⟩
    · exact (i4 d hd).round i1 (q.good.t d hd).sq0 (by rw [i2]; exact hd) r1
    · obtain ⟨U, u1, u2⟩ := Live.less i1 (i5 d hd) r1
      exact ⟨U, u1, by omega⟩
theorem quiet_found {A : Nt} {s : Int} (h : Tame A s) (hs : s < 1000) : Found (quietN A) ∧ (quietN A).n = A.n ∧ (quietN A).co = A.co := by
  obtain ⟨w1, w2, w3, w4⟩ := woken_ok h
  obtain ⟨b1, b2, b3, b4, b5⟩ := bumpTo_ok w1.good (fun r hr => by rw [w2] at hr; have := w4 r hr; omega) (wokenN A).n (Nat.le_refl _)
  rw [w2] at b1 b2 b3 b4 b5
  have q : Calm (bumpTo (wokenN A) A.n) := ⟨b1, fun r hr => by rw [(b5 r).1]; exact w1.up r (by rw [w2]; rw [b2] at hr; exact hr), fun x y => by rw [b4]; exact w1.wa x y, fun x y => by rw [b3]; exact w1.c5 x y⟩
  obtain ⟨r1, r2, r3, r4, r5⟩ := rounds_ok q (fun d hd => by
    rw [b2] at hd
    rw [(b5 d).2.1, (b5 d).2.2, if_pos hd]
    have := w1.good.sq d (by rw [w2]; exact hd)
    omega) (A.n + 2)
  have e : (quietN A).n = A.n := r2.trans b2
  refine ⟨⟨r1, fun d hd => ?_, fun d hd r hr => ?_⟩, e, r3.trans (b3.trans w3)⟩
  · rw [e] at hd ⊢
    exact ⟨_, r4 d (by rw [b2]; exact hd)⟩
  · rw [e] at hd
    obtain ⟨U, u1, u2⟩ := r5 d (by rw [b2]; exact hd)
    have : U = [] := List.length_eq_zero_iff.1 (by omega)
    subst this
    exact u1.dead r hr (by simp)
/-! What is seen of it -/
def sumUp (C : Nat → Nat → Int) (l : List Nat) : Nat → Int
  | 0 => 0
  | i + 1 => sumUp C l i + C (l.getD i 0) (l.getD (i + 1) 0)
theorem Found.lone {A : Nt} (f : Found A) (a b : Nat) (ha : a < A.n) (hb : b < A.n) (h : 1000 ≤ dist A.co a b) : trace A a b = [a] :=
  trF_end (.inr (.inr (f.off b hb a ⟨ha, h⟩))) _
theorem Found.reach {A : Nt} (f : Found A) (a b : Nat) (ha : a < A.n) (hb : b < A.n) (h : dist A.co a b < 1000) :
    (trace A a b).getLast? = some b ∧ sumUp A.co (trace A a b) ((trace A a b).length - 1) = dist A.co a b := by
  have q := f.calm
  have g := q.good
  obtain ⟨σ, nr⟩ := f.near b hb
  have hlen := trF_length g b A.n a ha
  obtain ⟨hlt, _, _⟩ := trF_ok g b A.n a ha
  have key : ∀ i (hi : i < (trace A a b).length), sumUp A.co (trace A a b) i + dist A.co (trace A a b)[i] b = dist A.co a b ∧ dist A.co (trace A a b)[i] b < 1000 := by
    intro i
    induction i with
    | zero =>
      intro hi
      obtain ⟨l, hl⟩ := trF_head A b A.n a
      have e : (trace A a b)[0] = a := by simp [trace, hl]
      rw [e]
      exact ⟨by show 0 + _ = _; omega, h⟩
    | succ i ih =>
      intro hi
      obtain ⟨i1, i2⟩ := ih (by omega)
      obtain ⟨s1, s2⟩ := trF_step A b A.n a i hi
      have hin : (trace A a b)[i] < A.n := hlt _ (List.getElem_mem _)
      have hne : (trace A a b)[i] ≠ b := fun e => s1 (.inl e)
      obtain ⟨n1, n2, n3, n4⟩ := nr.hit _ hin hne i2 (by have := rank_le A.co A.n b _ hin; omega)
      have e : (trace A a b)[i + 1] = ((A.rs (trace A a b)[i]).t.ro b).nx.toNat := s2
      have e1 : (trace A a b).getD i 0 = (trace A a b)[i] := by rw [List.getD_eq_getElem?_getD, List.getElem?_eq_getElem (by omega)]; rfl
      have e2 : (trace A a b).getD (i + 1) 0 = (trace A a b)[i + 1] := by rw [List.getD_eq_getElem?_getD, List.getElem?_eq_getElem hi]; rfl
      have hc := g.c0 (trace A a b)[i] (trace A a b)[i + 1]
      rw [← e] at n4
      constructor
      · show sumUp A.co (trace A a b) i + A.co ((trace A a b).getD i 0) ((trace A a b).getD (i + 1) 0) + _ = _
        rw [e1, e2]; omega
      · omega
  obtain ⟨x, x1, x2⟩ := trF_last g b A.n a ha hlen
  have hl0 : 0 < (trace A a b).length := by
    obtain ⟨l, hl⟩ := trF_head A b A.n a
    show 0 < (trF A b A.n a).length
    rw [hl]; simp
  have x3 : (trace A a b)[(trace A a b).length - 1]'(by omega) = x := by
    have : (trace A a b).getLast? = some x := x1
    rw [List.getLast?_eq_getElem?, List.getElem?_eq_getElem (by omega)] at this
    exact Option.some.inj this
  obtain ⟨k1, k2⟩ := key ((trace A a b).length - 1) (by omega)
  rw [x3] at k1 k2
  have hx : x < A.n := by rw [← x3]; exact hlt _ (List.getElem_mem _)
  have hxb : x = b := by
    rcases x2 with e | e | e
    · exact e
    · rw [q.up x hx] at e; cases e
    · rcases Nat.decEq x b with hne | e
      · obtain ⟨n1, _⟩ := nr.hit x hx hne k2 (by have := rank_le A.co A.n b x hx; omega)
        omega
      · exact e
  subst hxb
  rw [dist_self] at k1
  exact ⟨x1, by omega⟩
end Go.Proofs.Ytdoodnbobpijoaa
