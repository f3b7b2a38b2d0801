import Derived.Test.YtdoodnbobpijoaaAbsJ
namespace Go.Proofs.Ytdoodnbobpijoaa

/-! ### The net that scripts begin with -/
def laidL (n : Nat) : Nat → Nt
  | 0 => newN n
  | i + 1 => linkC (laidL n i) (i : Nat) ((i : Nat) + 1 : Int) (1 + (i : Nat) : Int)
def loses (A : Nt) (i : Nat) : Nat → Nt
  | 0 => A
  | k + 1 => loseC (loses A i k) (i : Nat) ((i : Nat) + 1 : Int) 0
def laidD (A : Nt) : Nat → Nt
  | 0 => A
  | k + 1 => loses (deliverC (dumpC (laidD A k) (A.n - 1 - k : Nat)) (A.n - 1 - k : Nat) ((A.n - 1 - k : Nat) - 1 : Int) 0) (A.n - 1 - k) (if A.n - 1 - k + 1 < A.n then 3 else 0)
def laidN (n : Nat) : Nt := laidD (laidL n (n - 1)) (n - 1)
theorem loses_ok {A : Nt} (g : Good A) (i k : Nat) : Steps A (loses A i k) := by
  induction k with
  | zero => exact .refl g
  | succ k ih => exact ih.trans (.lose ih.good _ _ _)
theorem laidL_ok (n : Nat) (h2 : 2 ≤ n) (h5 : n ≤ 5) : ∀ i, Good (laidL n i) ∧ (laidL n i).n = n := by
  intro i
  induction i with
  | zero => exact ⟨Good.new n h2 h5, rfl⟩
  | succ i ih =>
    have := Steps.link ih.1 (i : Nat) ((i : Nat) + 1 : Int) (1 + (i : Nat) : Int)
    exact ⟨this.good, this.n.trans ih.2⟩
theorem laidL_link (n : Nat) (h2 : 2 ≤ n) (h5 : n ≤ 5) (i : Nat) (hi : i + 1 < n) : linkE (laidL n i) (i : Nat) ((i : Nat) + 1 : Int) (1 + (i : Nat) : Int) = 0 := by
  unfold linkE
  have h : pairE ((laidL n i).n : Nat) (i : Nat) ((i : Nat) + 1 : Int) = 0 := by
    rw [(laidL_ok n h2 h5 i).2]
    have := pairE_nat (n := n) (x := i) (y := i + 1) (by omega) hi (by omega)
    simpa using this
  rw [if_neg (by simpa using h), if_neg (by omega)]
theorem laidD_ok {A : Nt} (g : Good A) (k : Nat) : Steps A (laidD A k) := by
  induction k with
  | zero => exact .refl g
  | succ k ih =>
    have s1 := Steps.dump ih.good (A.n - 1 - k : Nat)
    have s2 := Steps.deliver s1.good (A.n - 1 - k : Nat) ((A.n - 1 - k : Nat) - 1 : Int) 0
    exact (ih.trans (s1.trans s2)).trans (loses_ok s2.good _ _)
theorem laid_good (n : Nat) (h2 : 2 ≤ n) (h5 : n ≤ 5) : Good (laidN n) ∧ (laidN n).n = n := by
  have h := laidL_ok n h2 h5 (n - 1)
  have s := laidD_ok h.1 (n - 1)
  exact ⟨s.good, s.n.trans h.2⟩
theorem upto5 {p : Nat → Prop} (p2 : p 2) (p3 : p 3) (p4 : p 4) (p5 : p 5) (n : Nat) (h2 : 2 ≤ n) (h5 : n ≤ 5) : p n := by
  have : n = 2 ∨ n = 3 ∨ n = 4 ∨ n = 5 := by omega
  rcases this with rfl | rfl | rfl | rfl
  · exact p2
  · exact p3
  · exact p4
  · exact p5
/-- Each dump of the laying is taken, and the message is there. -/
theorem laid_calls : ∀ n, 2 ≤ n → n ≤ 5 → ∀ k, k < n - 1 → dumpCE (laidD (laidL n (n - 1)) k) (n - 1 - k : Nat) = 0 ∧ msgE (dumpC (laidD (laidL n (n - 1)) k) (n - 1 - k : Nat)) (n - 1 - k : Nat) ((n - 1 - k : Nat) - 1 : Int) 0 = 0 :=
  upto5 (by decide +kernel) (by decide +kernel) (by decide +kernel) (by decide +kernel)
theorem laid_trace : ∀ n, 2 ≤ n → n ≤ 5 → (trace (laidN n) 0 (n - 1)).length = n :=
  upto5 (by decide +kernel) (by decide +kernel) (by decide +kernel) (by decide +kernel)
theorem laid_up : ∀ n, 2 ≤ n → n ≤ 5 → ∀ r, r < n → ((laidN n).rs r).dn = false ∧ ((laidN n).rs r).t.sq = 0 ∧ ((laidN n).rs r).fa = 0 :=
  upto5 (by decide +kernel) (by decide +kernel) (by decide +kernel) (by decide +kernel)
theorem laid_best : ∀ n, 2 ≤ n → n ≤ 5 → (((laidN n).rs 1).t.be 0).sq = -1 ∧ (((laidN n).rs (n - 1)).t.be 0).sq = -1 :=
  upto5 (by decide +kernel) (by decide +kernel) (by decide +kernel) (by decide +kernel)
theorem laid_costs : ∀ n, 2 ≤ n → n ≤ 5 → ∀ a, a < n → ∀ b, b < n → (laidN n).co a b ≤ 5 :=
  upto5 (by decide +kernel) (by decide +kernel) (by decide +kernel) (by decide +kernel)
theorem laid_tame (n : Nat) (h2 : 2 ≤ n) (h5 : n ≤ 5) : Tame (laidN n) 0 := by
  obtain ⟨g, e⟩ := laid_good n h2 h5
  refine ⟨g, fun r hr => ?_, fun a b => ?_⟩
  · rw [(laid_up n h2 h5 r (by omega)).2.1]; omega
  · rcases Int.lt_or_le 0 ((laidN n).co a b) with h | h
    · have := g.cn a b h
      exact laid_costs n h2 h5 a (by omega) b (by omega)
    · omega

/-! ### A script -/
def playN (A : Nt) : List St → Nt
  | [] => A
  | s :: l => playN (doesN A s) l
theorem playN_tame : ∀ (l : List St) {A : Nt} {s : Int}, Tame A s → Tame (playN A l) (s + l.length) := by
  intro l
  induction l with
  | nil => intro A s h; simpa [playN] using h
  | cons x l ih =>
    intro A s h
    have := ih (h.does x)
    rw [List.length_cons]
    have e : s + ((l.length + 1 : Nat) : Int) = s + 1 + (l.length : Int) := by omega
    rw [e]
    exact this
theorem playN_n {A : Nt} (g : Good A) (l : List St) : Good (playN A l) ∧ (playN A l).n = A.n := by
  induction l generalizing A with
  | nil => exact ⟨g, rfl⟩
  | cons x l ih =>
    have s := Steps.does g x
    have := ih s.good
    exact ⟨this.1, this.2.trans s.n⟩
theorem playN_append (A : Nt) (l : List St) (x : St) : playN A (l ++ [x]) = doesN (playN A l) x := by
  induction l generalizing A with
  | nil => rfl
  | cons y l ih => exact ih _

/-! ### Better -/
theorem better_step {A : Nt} (g : Good A) (x : St) (r d : Nat) (hr : r < A.n) : geB (((doesN A x).rs r).t.be d) ((A.rs r).t.be d) := by
  have s := Steps.does g x
  rw [g.bq r d hr, s.good.bq r d (by rw [s.n]; exact hr)]
  exact s.up.be r d hr

/-! ### Undone -/
theorem upR_upR (A : Nt) (r : Nat) (R S : Ro) : upR (upR A r R) r S = upR A r S := by
  unfold upR
  congr 1
  funext j
  simp only
  split <;> rfl
theorem upR_self (A : Nt) (r : Nat) : upR A r (A.rs r) = A := by
  unfold upR
  cases A
  congr 1
  funext j
  simp only
  split
  · next e => rw [e]
  · rfl
theorem undone (A : Nt) (r : Nat) : failOnce (failN A r 1) r = failN A r 0 := by
  unfold failOnce
  rw [failN_same]
  unfold failN
  rw [upR_upR]
  rfl
theorem failOnce_N (A : Nt) (r : Nat) (k : Int) : failOnce (failN A r k) r = failN A r (k - 1) := by
  unfold failOnce
  rw [failN_same]
  unfold failN
  rw [upR_upR]
theorem failN_self (A : Nt) (r : Nat) : failN A r (A.rs r).fa = A := upR_self A r

/-! ### Saved -/
/-- What a router has, as long as it itself does not dump, nor crash, and no link turns. -/
structure Held (A B : Nt) (r : Nat) : Prop where
  good : Good B
  n : B.n = A.n
  co : B.co = A.co
  dk : (B.rs r).dk = (A.rs r).dk
  dn : (B.rs r).dn = (A.rs r).dn
theorem Held.refl {A : Nt} (g : Good A) (r : Nat) : Held A A r := ⟨g, rfl, rfl, rfl, rfl⟩
theorem Held.trans {A B C : Nt} {r : Nat} (h : Held A B r) (k : Held B C r) : Held A C r := ⟨k.good, k.n.trans h.n, k.co.trans h.co, k.dk.trans h.dk, k.dn.trans h.dn⟩
theorem upR_keep (A : Nt) (i : Nat) (R : Ro) (h : R.dk = (A.rs i).dk) (h2 : R.dn = (A.rs i).dn) (r : Nat) : ((upR A i R).rs r).dk = (A.rs r).dk ∧ ((upR A i R).rs r).dn = (A.rs r).dn := by
  by_cases e : r = i
  · subst e; rw [upR_same]; exact ⟨h, h2⟩
  · rw [upR_other _ _ _ _ e]; exact ⟨rfl, rfl⟩
theorem Held.step {A : Nt} (g : Good A) (r : Nat) (k a b c : Int) (h : (6 < k ∧ k < 17) ∨ (1 < k ∧ k < 7 ∧ a ≠ r)) : Held A (stepN A k a b c) r := by
  have st := Steps.step g k a b c
  have key : (stepN A k a b c).co = A.co ∧ ((stepN A k a b c).rs r).dk = (A.rs r).dk ∧ ((stepN A k a b c).rs r).dn = (A.rs r).dn := ?_
  · exact ⟨st.good, st.n, key.1, key.2.1, key.2.2⟩
  clear st
  unfold stepN
  rw [if_neg (by omega)]
  split
  · unfold dumpC
    split
    · next e =>
      have hne : r ≠ a.toNat := by have := (upE_zero e).1; omega
      refine ⟨dumpN_co _ _, ?_⟩
      unfold dumpN
      split
      · unfold failOnce; rw [upR_other _ _ _ _ hne]; exact ⟨rfl, rfl⟩
      · rw [dumpOk_other _ _ _ hne]; exact ⟨rfl, rfl⟩
    · exact ⟨rfl, rfl, rfl⟩
  split
  · unfold deliverC
    split
    · next e =>
      have kd := Kept.deliver g _ _ _ (msgE_zero e).2.2
      exact ⟨kd.co, kd.dk r, kd.dn r⟩
    · exact ⟨rfl, rfl, rfl⟩
  split
  · unfold againC; split <;> exact ⟨rfl, rfl, rfl⟩
  split
  · unfold loseC; split <;> exact ⟨rfl, rfl, rfl⟩
  split
  · unfold tickC; split
    · unfold tickN; refine ⟨rfl, ?_⟩; apply upR_keep <;> rfl
    · exact ⟨rfl, rfl, rfl⟩
  split
  · unfold bumpC; split
    · unfold bumpN; refine ⟨rfl, ?_⟩; apply upR_keep <;> rfl
    · exact ⟨rfl, rfl, rfl⟩
  · omega
/-- The route of a router behind a dump, steps that leave it alone, a crash and a restart. -/
theorem saved_route {A B : Nt} (g : Good A) (r : Nat) (hr : r < A.n) (hdn : (A.rs r).dn = false) (h : Held (dumpTill A r) B r) (d : Nat) :
    ((restartN (crashN B r) r).rs r).t.be d = ((dumpTill A r).rs r).t.be d ∧
    ((restartN (crashN B r) r).rs r).t.ro d = if 0 ≤ (((dumpTill A r).rs r).t.ro d).nx then { ((dumpTill A r).rs r).t.ro d with ag := 0, st := 1 } else ((dumpTill A r).rs r).t.ro d := by
  obtain ⟨d1, d2, d3⟩ := dumpTill_same A r
  have gd := g.dumpTill r hr hdn
  have e : ((crashN B r).rs r).dk = ((dumpTill A r).rs r).t := by
    unfold crashN; rw [upR_same]
    show (B.rs r).dk = _
    rw [h.dk, d1, d2]
  unfold restartN
  rw [upR_same]
  show ((crashN B r).rs r).dk.be d = _ ∧ staleR (crashN B r) r (((crashN B r).rs r).dk.ro d) = _
  rw [e]
  refine ⟨rfl, ?_⟩
  unfold staleR
  by_cases h0 : 0 ≤ (((dumpTill A r).rs r).t.ro d).nx
  · rw [if_neg (by omega), if_pos h0, if_neg]
    have hn := gd.nb r d hr (by rw [d3]; exact hdn) h0
    have : (crashN B r).co = (dumpTill A r).co := h.co
    rw [this]
    omega
  · rw [if_pos (by omega), if_neg h0]

/-! ### Aged -/
def tickTo (A : Nt) (r : Nat) : Nat → Nt
  | 0 => A
  | k + 1 => tickN (tickTo A r k) r
theorem tickN_same (A : Nt) (r : Nat) : (tickN A r).rs r = withT (A.rs r) { (A.rs r).t with ro := fun d => tickR ((A.rs r).t.ro d) } := upR_same _ _ _
theorem tickN_other (A : Nt) (r j : Nat) (h : j ≠ r) : (tickN A r).rs j = A.rs j := upR_other _ _ _ _ h
theorem tick3 {n r d : Nat} {x : Rt} (h : x = noRt ∨ RtOk n r d x) : (tickR (tickR (tickR x))).nx < 0 := by
  rcases h with h | h
  · subst h; decide
  · have h0 := h.nx0
    have h1 := h.ag0
    have h2 := h.ag1
    have key : ∀ y : Rt, 0 ≤ y.nx → (tickR y).nx < 0 ∨ ((tickR y).nx = y.nx ∧ (tickR y).ag = y.ag + 1 ∧ y.ag + 1 < 3) := fun y hy => by
      unfold tickR
      rw [if_neg (by omega)]
      split
      · exact .inl (by rw [noRt_nx]; decide)
      · exact .inr ⟨rfl, rfl, by omega⟩
    have keep : ∀ y : Rt, y.nx < 0 → (tickR y).nx < 0 := fun y hy => by unfold tickR; rw [if_pos hy]; exact hy
    rcases key x h0 with k1 | ⟨k1, k2, k3⟩
    · exact keep _ (keep _ k1)
    · rcases key (tickR x) (by omega) with l1 | ⟨l1, l2, l3⟩
      · exact keep _ l1
      · rcases key (tickR (tickR x)) (by omega) with m1 | ⟨m1, m2, m3⟩
        · exact m1
        · omega
theorem tickTo_ok {A : Nt} (g : Good A) (r : Nat) : ∀ k, Good (tickTo A r k) ∧ (tickTo A r k).n = A.n ∧ (tickTo A r k).co = A.co ∧ (tickTo A r k).wa = A.wa ∧ (∀ j, ((tickTo A r k).rs j).dn = (A.rs j).dn) := by
  intro k
  induction k with
  | zero => exact ⟨g, rfl, rfl, rfl, fun _ => rfl⟩
  | succ k ih =>
    obtain ⟨i1, i2, i3, i4, i5⟩ := ih
    refine ⟨i1.tick r, i2, i3, i4, fun j => ?_⟩
    show ((tickN (tickTo A r k) r).rs j).dn = _
    by_cases e : j = r
    · subst e; rw [tickN_same]; exact i5 j
    · rw [tickN_other _ _ _ e]; exact i5 j
theorem tickTo_3 {A : Nt} (g : Good A) (r : Nat) (hr : r < A.n) (d : Nat) : (((tickTo A r 3).rs r).t.ro d).nx < 0 := by
  have e : ((tickTo A r 3).rs r).t.ro d = tickR (tickR (tickR ((A.rs r).t.ro d))) := by
    show ((tickN (tickN (tickN A r) r) r).rs r).t.ro d = _
    rw [tickN_same, tickN_same, tickN_same]
    rfl
  rw [e]
  exact tick3 ((g.t r hr).ro d)
/-- The last message to each, of those that got one. -/
def lastTo (A : Nt) (r : Nat) : Nat → Nt
  | 0 => A
  | b + 1 => deliverC (lastTo A r b) r (b : Nat) (((lastTo A r b).wa r b).length - 1 : Int)
def agedN (A : Nt) (r : Nat) : Nt := lastTo (dumpTill (tickTo (wokenN (tickTo A r 3)) r 3) r) r A.n
/-- What is so ahead of the last deliveries, and behind some of them. -/
structure Sunk (A : Nt) (r b : Nat) : Prop where
  good : Good A
  up : ∀ j, j < A.n → (A.rs j).dn = false
  none : ∀ d, ((A.rs r).t.ro d).nx < 0
  msg : ∀ y m, m ∈ A.wa r y → ∀ d, d ≠ r → m d = noBs
  wait : ∀ y, b ≤ y → 0 < A.co r y → A.wa r y ≠ []
  gone : ∀ y, y < b → y < A.n → y ≠ r → ∀ d, d ≠ r → ((A.rs y).t.ro d).nx ≠ r
theorem Sunk.next {A : Nt} {r b : Nat} (h : Sunk A r b) (hr : r < A.n) (hb : b < A.n) : Sunk (deliverC A r (b : Nat) ((A.wa r b).length - 1 : Int)) r (b + 1) := by
  have g := h.good
  by_cases hw : A.wa r b = []
  · have e : deliverC A r (b : Nat) ((A.wa r b).length - 1 : Int) = A := by
      unfold deliverC
      rw [if_neg]
      intro h0
      have := (msgE_zero h0).2
      rw [Int.toNat_natCast, Int.toNat_natCast, hw] at this
      simp at this
    rw [e]
    refine ⟨g, h.up, h.none, h.msg, fun y hy => h.wait y (by omega), fun y hy hyn hyr d hd => ?_⟩
    by_cases e : y = b
    · subst e
      intro hx
      have hc := g.nb y d hyn (h.up y hyn) (by omega)
      rw [hx, Int.toNat_natCast, g.cs] at hc
      exact h.wait y (Nat.le_refl _) hc hw
    · exact h.gone y (by omega) hyn hyr d hd
  · have hl : 0 < (A.wa r b).length := List.length_pos_iff.2 hw
    obtain ⟨m0, hm0⟩ := List.exists_mem_of_ne_nil _ hw
    obtain ⟨_, _, hne⟩ := g.wn r b m0 hm0
    have e : deliverC A r (b : Nat) ((A.wa r b).length - 1 : Int) = deliverN A r b ((A.wa r b).length - 1) := by
      unfold deliverC
      have em : msgE A r (b : Nat) ((A.wa r b).length - 1 : Int) = 0 := by
        unfold msgE
        rw [if_neg (by simpa using pairE_nat hr hb hne), if_neg]
        rw [Int.toNat_natCast, Int.toNat_natCast]
        omega
      rw [if_pos em, Int.toNat_natCast, Int.toNat_natCast]
      congr 1
      omega
    rw [e]
    have hk : (A.wa r b).length - 1 < (A.wa r b).length := by omega
    have kd := Kept.deliver g r b _ hk
    have hmem : (A.wa r b).getD ((A.wa r b).length - 1) (fun _ => noBs) ∈ A.wa r b := by rw [List.getD_eq_getElem?_getD, List.getElem?_eq_getElem hk]; exact List.getElem_mem hk
    have sub : ∀ y m, m ∈ (deliverN A r b ((A.wa r b).length - 1)).wa r y → m ∈ A.wa r y := fun y m hm => by
      rw [deliverN_wa] at hm
      unfold setWa at hm
      split at hm
      · next e => obtain ⟨_, rfl⟩ := e; exact List.mem_of_mem_eraseIdx hm
      · exact hm
    refine ⟨kd.good, fun j hj => by rw [kd.dn]; exact h.up j (by rw [← kd.n]; exact hj), fun d => ?_, fun y m hm => h.msg y m (sub y m hm), fun y hy hc => ?_, fun y hy hyn hyr d hd => ?_⟩
    · rw [deliverN_other _ _ _ _ _ hne]; exact h.none d
    · rw [kd.co] at hc
      rw [deliverN_wa]
      unfold setWa
      rw [if_neg (by omega)]
      exact h.wait y (by omega) hc
    · rw [kd.n] at hyn
      by_cases e : y = b
      · subst e
        by_cases hc : A.co r y = 0
        · intro hx
          have hc2 := kd.good.nb y d (by rw [kd.n]; exact hyn) (by rw [kd.dn]; exact h.up y hyn) (by omega)
          rw [hx, Int.toNat_natCast, kd.co, g.cs] at hc2
          omega
        · have e : (deliverN A r y ((A.wa r y).length - 1)).rs y = withT (A.rs y) { (A.rs y).t with ro := fun d => if d = y then (A.rs y).t.ro d else takes A y r ((A.rs y).t.ro d) ((A.rs y).t.be d) ((A.wa r y).getD ((A.wa r y).length - 1) (fun _ => noBs) d) } := by
            unfold deliverN
            rw [if_neg]
            · exact upR_same _ _ _
            · rw [h.up y hyn]; simp; exact hc
          rw [e]
          show (if d = y then (A.rs y).t.ro d else _).nx ≠ r
          split
          · next ed =>
            subst ed
            rcases (g.t d hyn).ro d with e1 | e1
            · rw [e1, noRt_nx]; omega
            · exact absurd rfl e1.dr
          · rw [takes_none _ _ _ _ _ _ (.inl (h.msg y _ hmem d hd))]
            split
            · rw [noRt_nx]; omega
            · assumption
      · rw [deliverN_other _ _ _ _ _ e]
        exact h.gone y (by omega) hyn hyr d hd
theorem Sunk.to {A : Nt} {r : Nat} (h : Sunk A r 0) (hr : r < A.n) : ∀ b, b ≤ A.n → Sunk (lastTo A r b) r b ∧ (lastTo A r b).n = A.n := by
  intro b
  induction b with
  | zero => intro _; exact ⟨h, rfl⟩
  | succ b ih =>
    intro hb
    obtain ⟨i1, i2⟩ := ih (by omega)
    refine ⟨i1.next (by omega) (by omega), ?_⟩
    exact (Steps.deliver i1.good _ _ _).n.trans i2
theorem sunk_dump {A : Nt} (q : Calm A) (r : Nat) (hr : r < A.n) (h : ∀ d, ((A.rs r).t.ro d).nx < 0) : Sunk (dumpTill A r) r 0 := by
  have g := q.good
  have hdn := q.up r hr
  obtain ⟨d1, d2, d3⟩ := dumpTill_same A r
  refine ⟨g.dumpTill r hr hdn, fun j hj => ?_, fun d => ?_, fun y m hm d hd => ?_, fun y _ hc => ?_, fun y hy => by omega⟩
  · by_cases e : j = r
    · subst e; rw [d3]; exact hdn
    · rw [dumpTill_other _ _ _ e]; exact q.up j hj
  · rw [d1, (toldT_none (h d)).1]; exact h d
  · rw [dumpTill_wa, q.wa] at hm
    split at hm
    · have : m = toldM A r := by simpa using hm
      rw [this]; exact toldM_none hd (h d)
    · cases hm
  · have hc : 0 < A.co r y := hc
    rw [dumpTill_wa, q.wa, if_pos ⟨rfl, (g.cn r y hc).2, hc, by simp⟩]
    simp
theorem aged {A : Nt} {s : Int} (h : Tame A s) (r : Nat) (hr : r < A.n) :
    Good (agedN A r) ∧ (agedN A r).n = A.n ∧ (∀ j, j < A.n → ((agedN A r).rs j).dn = false) ∧ (∀ d, (((agedN A r).rs r).t.ro d).nx < 0) ∧ (∀ y d, y < A.n → y ≠ r → d ≠ r → (((agedN A r).rs y).t.ro d).nx ≠ r) := by
  obtain ⟨t1, t2, t3, t4, t5⟩ := tickTo_ok h.good r 3
  have tm : Tame (tickTo A r 3) (s + 1 + 1 + 1) := by
    have e : ∀ k, Tame (tickTo A r k) (s + (k : Int)) := fun k => by
      induction k with
      | zero => simpa [tickTo] using h
      | succ k ih =>
        obtain ⟨u1, u2, u3, u4, u5⟩ := tickTo_ok h.good r (k + 1)
        refine ⟨u1, fun j hj => ?_, fun x y => by rw [u3]; exact h.c5 x y⟩
        show ((tickN (tickTo A r k) r).rs j).t.sq ≤ _
        have hk := (tickTo_ok h.good r k).2.1
        rw [u2] at hj
        by_cases e : j = r
        · subst e; rw [tickN_same]; have := ih.sq j (by rw [hk]; exact hj); show ((tickTo A j k).rs j).t.sq ≤ _; omega
        · rw [tickN_other _ _ _ e]; have := ih.sq j (by rw [hk]; exact hj); omega
    have := e 3
    have e3 : s + ((3 : Nat) : Int) = s + 1 + 1 + 1 := by omega
    rw [e3] at this
    exact this
  obtain ⟨w1, w2, w3, w4⟩ := woken_ok tm
  have wn : (wokenN (tickTo A r 3)).n = A.n := w2.trans t2
  obtain ⟨v1, v2, v3, v4, v5⟩ := tickTo_ok w1.good r 3
  have vn : (tickTo (wokenN (tickTo A r 3)) r 3).n = A.n := v2.trans wn
  have q : Calm (tickTo (wokenN (tickTo A r 3)) r 3) := ⟨v1, fun j hj => by rw [v5]; exact w1.up j (by rw [← v2]; exact hj), fun x y => by rw [v4]; exact w1.wa x y, fun x y => by rw [v3]; exact w1.c5 x y⟩
  have sk := sunk_dump q r (by rw [vn]; exact hr) (fun d => tickTo_3 w1.good r (by rw [wn]; exact hr) d)
  have dn : (dumpTill (tickTo (wokenN (tickTo A r 3)) r 3) r).n = A.n := vn
  obtain ⟨z1, z2⟩ := sk.to (by rw [dn]; exact hr) A.n (by rw [dn]; exact Nat.le_refl _)
  have zn : (agedN A r).n = A.n := z2.trans dn
  exact ⟨z1.good, zn, fun j hj => z1.up j (by rw [z2, dn]; exact hj), z1.none, fun y d hy hyr hd => z1.gone y hy (by rw [z2, dn]; exact hy) hyr d hd⟩
end Go.Proofs.Ytdoodnbobpijoaa
