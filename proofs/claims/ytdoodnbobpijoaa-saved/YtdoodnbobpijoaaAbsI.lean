import Derived.Test.YtdoodnbobpijoaaAbsH
namespace Go.Proofs.Ytdoodnbobpijoaa

/-! ### Dumps of all, deliveries of all -/
/-- A dump, as often as the disk wants it. -/
def dumpTill (A : Nt) (r : Nat) : Nt := dumpOk (failN A r 0) r
def dumps (A : Nt) : Nat → Nt
  | 0 => A
  | k + 1 => dumpTill (dumps A k) k
theorem failN_same (A : Nt) (r : Nat) (k : Int) : (failN A r k).rs r = { (A.rs r) with fa := k } := upR_same _ _ _
theorem failN_other (A : Nt) (r : Nat) (k : Int) (j : Nat) (h : j ≠ r) : (failN A r k).rs j = A.rs j := upR_other _ _ _ _ h
theorem toldT_congr {A B : Nt} {r : Nat} (ht : (B.rs r).t = (A.rs r).t) (hc : B.co = A.co) : toldT B r = toldT A r := by
  unfold toldT total
  rw [ht, hc]
theorem toldM_congr {A B : Nt} {r : Nat} (ht : (B.rs r).t = (A.rs r).t) (hc : B.co = A.co) : toldM B r = toldM A r := by
  funext d
  unfold toldM total
  rw [ht, hc]
theorem failN_t (A : Nt) (r : Nat) (k : Int) (j : Nat) : ((failN A r k).rs j).t = (A.rs j).t ∧ ((failN A r k).rs j).dk = (A.rs j).dk ∧ ((failN A r k).rs j).dn = (A.rs j).dn := by
  by_cases h : j = r
  · subst h; rw [failN_same]; exact ⟨rfl, rfl, rfl⟩
  · rw [failN_other _ _ _ _ h]; exact ⟨rfl, rfl, rfl⟩
theorem dumpTill_same (A : Nt) (r : Nat) : ((dumpTill A r).rs r).t = toldT A r ∧ ((dumpTill A r).rs r).dk = toldT A r ∧ ((dumpTill A r).rs r).dn = (A.rs r).dn := by
  unfold dumpTill
  rw [dumpOk_same]
  have e : toldT (failN A r 0) r = toldT A r := toldT_congr (failN_t A r 0 r).1 rfl
  exact ⟨e, e, (failN_t A r 0 r).2.2⟩
theorem dumpTill_other (A : Nt) (r j : Nat) (h : j ≠ r) : (dumpTill A r).rs j = A.rs j := by
  unfold dumpTill
  rw [dumpOk_other _ _ _ h, failN_other _ _ _ _ h]
theorem dumpTill_wa (A : Nt) (r a b : Nat) : (dumpTill A r).wa a b = if a = r ∧ b < A.n ∧ 0 < A.co r b ∧ (A.wa r b).length < 6 then A.wa r b ++ [toldM A r] else A.wa a b := by
  have e : toldM (failN A r 0) r = toldM A r := toldM_congr (failN_t A r 0 r).1 rfl
  show (if a = r ∧ b < A.n ∧ 0 < A.co r b ∧ (A.wa r b).length < 6 then A.wa r b ++ [toldM (failN A r 0) r] else A.wa a b) = _
  rw [e]
theorem Good.dumpTill {A : Nt} (g : Good A) (r : Nat) (hr : r < A.n) (hdn : (A.rs r).dn = false) : Good (dumpTill A r) :=
  (g.fail r 0 (Int.le_refl _) (by decide)).dumpOk r hr (by rw [(failN_t A r 0 r).2.2]; exact hdn)
theorem dumps_ok {A : Nt} (q : Calm A) : ∀ k, k ≤ A.n → Good (dumps A k) ∧ (dumps A k).n = A.n ∧ (dumps A k).co = A.co ∧ (∀ j, ((dumps A k).rs j).dn = (A.rs j).dn) ∧
    (∀ j, ((dumps A k).rs j).t = if j < k then toldT A j else (A.rs j).t) ∧ (∀ a b, (dumps A k).wa a b = if a < k ∧ 0 < A.co a b then [toldM A a] else []) := by
  intro k
  induction k with
  | zero => intro _; exact ⟨q.good, rfl, rfl, fun _ => rfl, fun j => by rw [if_neg (by omega)]; rfl, fun a b => by rw [if_neg (by omega)]; exact q.wa a b⟩
  | succ k ih =>
    intro hk
    obtain ⟨i1, i2, i3, i4, i5, i6⟩ := ih (by omega)
    have et : ((dumps A k).rs k).t = (A.rs k).t := by rw [i5, if_neg (by omega)]
    refine ⟨i1.dumpTill k (by omega) (by rw [i4]; exact q.up k (by omega)), i2, i3, fun j => ?_, fun j => ?_, fun a b => ?_⟩
    · show ((dumpTill (dumps A k) k).rs j).dn = _
      by_cases h : j = k
      · subst h; rw [(dumpTill_same _ _).2.2, i4]
      · rw [dumpTill_other _ _ _ h, i4]
    · show ((dumpTill (dumps A k) k).rs j).t = _
      by_cases h : j = k
      · subst h; rw [(dumpTill_same _ _).1, if_pos (by omega)]; exact toldT_congr et i3
      · rw [dumpTill_other _ _ _ h, i5]
        by_cases h2 : j < k
        · rw [if_pos h2, if_pos (by omega)]
        · rw [if_neg h2, if_neg (by omega)]
    · show (dumpTill (dumps A k) k).wa a b = _
      rw [dumpTill_wa, i2, i3]
      by_cases h : a = k
      · subst h
        have e0 : (dumps A a).wa a b = [] := by rw [i6, if_neg (by omega)]
        rw [e0]
        by_cases hc : 0 < A.co a b
        · rw [if_pos ⟨rfl, (q.good.cn a b hc).2, hc, by simp⟩, if_pos ⟨by omega, hc⟩, toldM_congr et i3]; rfl
        · rw [if_neg (fun h => hc h.2.2.1), if_neg (fun h => hc h.2)]
      · rw [if_neg (fun h' => h h'.1), i6]
        have : a < k ↔ a < k + 1 := by omega
        simp only [this]

/-- The messages of a link, all of them. -/
def iterD (A : Nt) (a b : Nat) : Nat → Nt
  | 0 => A
  | j + 1 => deliverN (iterD A a b j) a b 0
def drain (A : Nt) (a b : Nat) : Nt := iterD A a b (A.wa a b).length
def allRow (A : Nt) (a : Nat) : Nat → Nt
  | 0 => A
  | b + 1 => drain (allRow A a b) a b
def allTo (A : Nt) : Nat → Nt
  | 0 => A
  | a + 1 => allRow (allTo A a) a A.n
def allN (A : Nt) : Nt := allTo A A.n
/-- What deliveries leave as it was. -/
structure Kept (A B : Nt) : Prop where
  good : Good B
  n : B.n = A.n
  co : B.co = A.co
  dn : ∀ r, (B.rs r).dn = (A.rs r).dn
  dk : ∀ r, (B.rs r).dk = (A.rs r).dk
  fa : ∀ r, (B.rs r).fa = (A.rs r).fa
  sq : ∀ r, (B.rs r).t.sq = (A.rs r).t.sq
  be : ∀ r, (B.rs r).t.be = (A.rs r).t.be
theorem Kept.refl {A : Nt} (g : Good A) : Kept A A := ⟨g, rfl, rfl, fun _ => rfl, fun _ => rfl, fun _ => rfl, fun _ => rfl, fun _ => rfl⟩
theorem Kept.trans {A B C : Nt} (h : Kept A B) (k : Kept B C) : Kept A C := ⟨k.good, k.n.trans h.n, k.co.trans h.co, fun r => (k.dn r).trans (h.dn r), fun r => (k.dk r).trans (h.dk r), fun r => (k.fa r).trans (h.fa r), fun r => (k.sq r).trans (h.sq r), fun r => (k.be r).trans (h.be r)⟩
theorem deliverN_co (A : Nt) (a b k : Nat) : (deliverN A a b k).co = A.co := by unfold deliverN; split <;> rfl
theorem deliverN_wa (A : Nt) (a b k : Nat) : (deliverN A a b k).wa = setWa A.wa a b ((A.wa a b).eraseIdx k) := by unfold deliverN; split <;> rfl
theorem deliverN_other (A : Nt) (a b k j : Nat) (h : j ≠ b) : (deliverN A a b k).rs j = A.rs j := by
  unfold deliverN
  split
  · rfl
  · exact upR_other _ _ _ _ h
theorem deliverN_rs (A : Nt) (a b k : Nat) : (deliverN A a b k).rs b = A.rs b ∨ (deliverN A a b k).rs b = withT (A.rs b) { (A.rs b).t with ro := fun d => if d = b then (A.rs b).t.ro d else takes A b a ((A.rs b).t.ro d) ((A.rs b).t.be d) ((A.wa a b).getD k (fun _ => noBs) d) } := by
  unfold deliverN
  split
  · exact .inl rfl
  · exact .inr (upR_same _ _ _)
theorem Kept.deliver {A : Nt} (g : Good A) (a b k : Nat) (hk : k < (A.wa a b).length) : Kept A (deliverN A a b k) := by
  have key : ∀ r, ((deliverN A a b k).rs r).dn = (A.rs r).dn ∧ ((deliverN A a b k).rs r).fa = (A.rs r).fa ∧ ((deliverN A a b k).rs r).t.sq = (A.rs r).t.sq ∧ ((deliverN A a b k).rs r).t.be = (A.rs r).t.be := fun r => by
    by_cases h : r = b
    · subst h
      rcases deliverN_rs A a r k with e | e <;> rw [e]
      · exact ⟨rfl, rfl, rfl, rfl⟩
      · exact ⟨rfl, rfl, rfl, rfl⟩
    · rw [deliverN_other _ _ _ _ _ h]; exact ⟨rfl, rfl, rfl, rfl⟩
  exact ⟨g.deliver a b k hk, deliverN_n _ _ _ _, deliverN_co _ _ _ _, fun r => (key r).1, deliverN_dk _ _ _ _, fun r => (key r).2.1, fun r => (key r).2.2.1, fun r => (key r).2.2.2⟩
theorem iterD_ok {A : Nt} (g : Good A) (a b : Nat) : ∀ j, j ≤ (A.wa a b).length → Kept A (iterD A a b j) ∧ (iterD A a b j).wa a b = (A.wa a b).drop j ∧ (∀ x y, ¬ (x = a ∧ y = b) → (iterD A a b j).wa x y = A.wa x y) := by
  intro j
  induction j with
  | zero => intro _; exact ⟨.refl g, rfl, fun _ _ _ => rfl⟩
  | succ j ih =>
    intro hj
    obtain ⟨i1, i2, i3⟩ := ih (by omega)
    have hl : 0 < ((iterD A a b j).wa a b).length := by rw [i2, List.length_drop]; omega
    refine ⟨i1.trans (.deliver i1.good a b 0 hl), ?_, fun x y h => ?_⟩
    · show (deliverN (iterD A a b j) a b 0).wa a b = _
      rw [deliverN_wa]
      unfold setWa
      rw [if_pos ⟨rfl, rfl⟩, i2, List.eraseIdx_zero, List.tail_drop]
    · show (deliverN (iterD A a b j) a b 0).wa x y = _
      rw [deliverN_wa]
      unfold setWa
      rw [if_neg h]
      exact i3 x y h
theorem drain_ok {A : Nt} (g : Good A) (a b : Nat) : Kept A (drain A a b) ∧ (drain A a b).wa a b = [] ∧ (∀ x y, ¬ (x = a ∧ y = b) → (drain A a b).wa x y = A.wa x y) := by
  obtain ⟨h1, h2, h3⟩ := iterD_ok g a b (A.wa a b).length (Nat.le_refl _)
  exact ⟨h1, by unfold drain; rw [h2, List.drop_length], h3⟩
theorem allRow_ok {A : Nt} (g : Good A) (a : Nat) : ∀ b, Kept A (allRow A a b) ∧ (∀ x y, (allRow A a b).wa x y = if x = a ∧ y < b then [] else A.wa x y) := by
  intro b
  induction b with
  | zero => exact ⟨.refl g, fun x y => by rw [if_neg (by omega)]; rfl⟩
  | succ b ih =>
    obtain ⟨i1, i2⟩ := ih
    obtain ⟨d1, d2, d3⟩ := drain_ok i1.good a b
    refine ⟨i1.trans d1, fun x y => ?_⟩
    show (drain (allRow A a b) a b).wa x y = _
    by_cases h : x = a ∧ y = b
    · obtain ⟨rfl, rfl⟩ := h
      rw [d2, if_pos ⟨rfl, by omega⟩]
    · rw [d3 x y h, i2]
      by_cases h2 : x = a ∧ y < b
      · rw [if_pos h2, if_pos ⟨h2.1, by omega⟩]
      · rw [if_neg h2, if_neg]
        omega
theorem allTo_ok {A : Nt} (g : Good A) : ∀ a, Kept A (allTo A a) ∧ (∀ x y, (allTo A a).wa x y = if x < a ∧ y < A.n then [] else A.wa x y) := by
  intro a
  induction a with
  | zero => exact ⟨.refl g, fun x y => by rw [if_neg (by omega)]; rfl⟩
  | succ a ih =>
    obtain ⟨i1, i2⟩ := ih
    obtain ⟨d1, d2⟩ := allRow_ok i1.good a A.n
    refine ⟨i1.trans d1, fun x y => ?_⟩
    show (allRow (allTo A a) a A.n).wa x y = _
    rw [d2, i2]
    by_cases h : x = a ∧ y < A.n
    · rw [if_pos h, if_pos ⟨by omega, h.2⟩]
    · rw [if_neg h]
      by_cases h2 : x < a ∧ y < A.n
      · rw [if_pos h2, if_pos ⟨by omega, h2.2⟩]
      · rw [if_neg h2, if_neg]
        omega
theorem allN_ok {A : Nt} (g : Good A) : Kept A (allN A) ∧ ∀ x y, (allN A).wa x y = [] := by
  obtain ⟨h1, h2⟩ := allTo_ok g A.n
  refine ⟨h1, fun x y => ?_⟩
  show (allTo A A.n).wa x y = []
  rw [h2]
  split
  · rfl
  · next h =>
    cases hw : A.wa x y with
    | nil => rfl
    | cons m l =>
      have := g.wn x y m (by rw [hw]; simp)
      exact absurd ⟨this.1, this.2.1⟩ h

/-! ### A round of both -/
def midT (A : Nt) (y j : Nat) : Tb := ⟨(A.rs y).t.sq, fun d => if d = y then (toldT A y).ro d else heardF A y d j, (toldT A y).be⟩
/-- Behind the deliveries of those below a, and of a to those below b. -/
structure Mid (A B : Nt) (a b : Nat) : Prop where
  good : Good B
  n : B.n = A.n
  co : B.co = A.co
  dn : ∀ r, (B.rs r).dn = (A.rs r).dn
  t : ∀ y, y < A.n → (B.rs y).t = midT A y (if y < b then a + 1 else a)
  wa : ∀ x y, B.wa x y = if (x < a ∨ (x = a ∧ y < b)) ∨ ¬ 0 < A.co x y then [] else [toldM A x]
theorem midT_skip (A : Nt) (y j : Nat) (h : ¬ 0 < A.co j y) : midT A y (j + 1) = midT A y j := by
  unfold midT
  simp only [heardF_succ, if_neg h]
theorem midT_hear {A B : Nt} (a b : Nat) (hc : B.co = A.co) (h : 0 < A.co a b) : ({ midT A b a with ro := fun d => if d = b then (midT A b a).ro d else takes B b a ((midT A b a).ro d) ((midT A b a).be d) (toldM A a d) } : Tb) = midT A b (a + 1) := by
  unfold midT
  simp only [heardF_succ, if_pos h]
  congr 1
  funext d
  by_cases hd : d = b
  · rw [if_pos hd, if_pos hd, if_pos hd]
  · rw [if_neg hd, if_neg hd, if_neg hd]
    unfold takes total
    rw [hc]
theorem Mid.drain {A B : Nt} (q : Calm A) {a b : Nat} (h : Mid A B a b) (ha : a < A.n) (hb : b < A.n) : Mid A (drain B a b) a (b + 1) := by
  obtain ⟨k1, k2, k3⟩ := drain_ok h.good a b
  have key : ∀ y, y < A.n → ((Go.Proofs.Ytdoodnbobpijoaa.drain B a b).rs y).t = midT A y (if y < b + 1 then a + 1 else a) := fun y hy => by
    unfold Go.Proofs.Ytdoodnbobpijoaa.drain
    by_cases hc : 0 < A.co a b
    · have hw : B.wa a b = [toldM A a] := by rw [h.wa, if_neg]; omega
      rw [hw]
      show ((deliverN B a b 0).rs y).t = _
      by_cases hyb : y = b
      · subst hyb
        have e : (deliverN B a y 0).rs y = withT (B.rs y) { (B.rs y).t with ro := fun d => if d = y then (B.rs y).t.ro d else takes B y a ((B.rs y).t.ro d) ((B.rs y).t.be d) ((B.wa a y).getD 0 (fun _ => noBs) d) } := by
          unfold deliverN
          rw [if_neg]
          · exact upR_same _ _ _
          · rw [h.dn, q.up y hy, h.co]
            simp
            omega
        rw [e]
        have et := h.t y hy
        rw [if_neg (by omega)] at et
        show ({ (B.rs y).t with ro := fun d => if d = y then (B.rs y).t.ro d else takes B y a ((B.rs y).t.ro d) ((B.rs y).t.be d) ((B.wa a y).getD 0 (fun _ => noBs) d) } : Tb) = _
        rw [et, hw, if_pos (by omega)]
        exact midT_hear a y h.co hc
      · rw [deliverN_other _ _ _ _ _ hyb, h.t y hy]
        have : y < b ↔ y < b + 1 := by omega
        simp only [this]
    · have hw : B.wa a b = [] := by rw [h.wa, if_pos (.inr hc)]
      rw [hw]
      show (B.rs y).t = _
      rw [h.t y hy]
      by_cases hyb : y = b
      · subst hyb
        rw [if_neg (by omega), if_pos (by omega), midT_skip _ _ _ hc]
      · have : y < b ↔ y < b + 1 := by omega
        simp only [this]
  refine ⟨k1.good, k1.n.trans h.n, k1.co.trans h.co, fun r => (k1.dn r).trans (h.dn r), key, fun x y => ?_⟩
  by_cases hxy : x = a ∧ y = b
  · obtain ⟨rfl, rfl⟩ := hxy
    rw [k2, if_pos (.inl (.inr ⟨rfl, by omega⟩))]
  · rw [k3 x y hxy, h.wa]
    by_cases h1 : (x < a ∨ x = a ∧ y < b) ∨ ¬ 0 < A.co x y
    · rw [if_pos h1, if_pos]; omega
    · rw [if_neg h1, if_neg]; omega
theorem Mid.row {A B : Nt} (q : Calm A) {a : Nat} (h : Mid A B a 0) (ha : a < A.n) : ∀ b, b ≤ A.n → Mid A (allRow B a b) a b := by
  intro b
  induction b with
  | zero => intro _; exact h
  | succ b ih => intro hb; exact (ih (by omega)).drain q ha (by omega)
theorem Mid.next {A B : Nt} (q : Calm A) {a : Nat} (h : Mid A B a A.n) : Mid A B (a + 1) 0 := by
  refine ⟨h.good, h.n, h.co, h.dn, fun y hy => ?_, fun x y => ?_⟩
  · rw [h.t y hy, if_pos hy, if_neg (by omega)]
  · rw [h.wa]
    by_cases hc : 0 < A.co x y
    · have := (q.good.cn x y hc).2
      by_cases h1 : (x < a ∨ x = a ∧ y < A.n) ∨ ¬ 0 < A.co x y
      · rw [if_pos h1, if_pos]; omega
      · rw [if_neg h1, if_neg]; omega
    · rw [if_pos (.inr hc), if_pos (.inr hc)]
theorem Mid.to {A B : Nt} (q : Calm A) (h : Mid A B 0 0) : ∀ a, a ≤ A.n → Mid A (allTo B a) a 0 := by
  intro a
  induction a with
  | zero => intro _; exact h
  | succ a ih =>
    intro ha
    show Mid A (allRow (allTo B a) a B.n) (a + 1) 0
    rw [h.n]
    exact ((ih (by omega)).row q (by omega) A.n (Nat.le_refl _)).next q
def roundN (A : Nt) : Nt := allN (dumps A A.n)
theorem round_ok {A : Nt} (q : Calm A) : Round A (roundN A) ∧ Calm (roundN A) := by
  obtain ⟨d1, d2, d3, d4, d5, d6⟩ := dumps_ok q A.n (Nat.le_refl _)
  have m0 : Mid A (dumps A A.n) 0 0 := by
    refine ⟨d1, d2, d3, d4, fun y hy => ?_, fun x y => ?_⟩
    · rw [d5, if_pos hy, if_neg (by omega)]
      have : (fun d => if d = y then (toldT A y).ro d else heardF A y d 0) = (toldT A y).ro := by
        funext d
        split
        · rfl
        · rfl
      unfold midT
      rw [this]
      rfl
    · rw [d6]
      by_cases hc : 0 < A.co x y
      · rw [if_pos ⟨(q.good.cn x y hc).1, hc⟩, if_neg]; omega
      · rw [if_neg (fun h => hc h.2), if_pos (.inr hc)]
  have m := m0.to q A.n (Nat.le_refl _)
  have e : allTo (dumps A A.n) A.n = roundN A := by unfold roundN allN; rw [d2]
  rw [e] at m
  refine ⟨⟨m.n, m.co, fun r hr => ?_⟩, ⟨m.good, fun r hr => ?_, fun x y => ?_, fun a b => ?_⟩⟩
  · rw [m.t r hr, if_neg (by omega)]; rfl
  · rw [m.dn]; exact q.up r (by rw [← m.n]; exact hr)
  · unfold roundN
    exact (allN_ok d1).2 x y
  · rw [m.co]; exact q.c5 a b
end Go.Proofs.Ytdoodnbobpijoaa
