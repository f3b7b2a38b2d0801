import Derived.Test.YtdoodnbobpijoaaAbsD
namespace Go.Proofs.Ytdoodnbobpijoaa

/-! ### The calls, at any numbers: what is answered, what becomes of the net -/
def isB (n r : Int) : Bool := decide (0 ≤ r) && decide (r < n)
def pairE (n a b : Int) : Int := if isB n a = true ∧ isB n b = true then (if a = b then 3 else 0) else 2
def upE (A : Nt) (r : Int) : Int := if isB A.n r = true then (if (A.rs r.toNat).dn = true then 5 else 0) else 2
def linkE (A : Nt) (a b c : Int) : Int := if pairE A.n a b ≠ 0 then pairE A.n a b else if c < 0 ∨ 9 < c then 4 else 0
def linkC (A : Nt) (a b c : Int) : Nt := if linkE A a b c = 0 then linkN A a.toNat b.toNat c else A
def dumpCE (A : Nt) (r : Int) : Int := if upE A r ≠ 0 then upE A r else dumpE A r.toNat
def dumpC (A : Nt) (r : Int) : Nt := if upE A r = 0 then dumpN A r.toNat else A
def msgE (A : Nt) (a b k : Int) : Int := if pairE A.n a b ≠ 0 then pairE A.n a b else if k < 0 ∨ (A.wa a.toNat b.toNat).length ≤ k then 9 else 0
def deliverC (A : Nt) (a b k : Int) : Nt := if msgE A a b k = 0 then deliverN A a.toNat b.toNat k.toNat else A
def loseC (A : Nt) (a b k : Int) : Nt := if msgE A a b k = 0 then offN A a.toNat b.toNat k.toNat else A
def againE (A : Nt) (a b k : Int) : Int := if msgE A a b k ≠ 0 then msgE A a b k else if 6 ≤ (A.wa a.toNat b.toNat).length then 8 else 0
def againC (A : Nt) (a b k : Int) : Nt := if againE A a b k = 0 then againN A a.toNat b.toNat k.toNat else A
def tickC (A : Nt) (r : Int) : Nt := if upE A r = 0 then tickN A r.toNat else A
def bumpE (A : Nt) (r : Int) : Int := if upE A r ≠ 0 then upE A r else if 1000 ≤ (A.rs r.toNat).t.sq then 8 else 0
def bumpC (A : Nt) (r : Int) : Nt := if bumpE A r = 0 then bumpN A r.toNat else A
def failE (A : Nt) (r k : Int) : Int := if isB A.n r = true then (if k < 0 ∨ 3 < k then 8 else 0) else 2
def failC (A : Nt) (r k : Int) : Nt := if failE A r k = 0 then failN A r.toNat k else A
def crashC (A : Nt) (r : Int) : Nt := if upE A r = 0 then crashN A r.toNat else A
def restartE (A : Nt) (r : Int) : Int := if isB A.n r = true then (if (A.rs r.toNat).dn = true then 0 else 6) else 2
def restartC (A : Nt) (r : Int) : Nt := if restartE A r = 0 then restartN A r.toNat else A
def asksE (A : Nt) (r d : Int) : Int := if pairE A.n r d ≠ 0 then pairE A.n r d else if (A.rs r.toNat).dn = true then 5 else 0

theorem isB_true {n r : Int} (h : isB n r = true) : 0 ≤ r ∧ r < n := by simpa [isB] using h
theorem isB_false {n r : Int} (h : isB n r = false) : r < 0 ∨ n ≤ r := by
  by_cases h0 : 0 ≤ r
  · by_cases h1 : r < n
    · simp [isB, h0, h1] at h
    · right; omega
  · left; omega
theorem isB_nat {n r : Nat} (h : r < n) : isB n r = true := by simp [isB]; omega
theorem pairE_zero {n x y : Int} (h : pairE n x y = 0) : (0 ≤ x ∧ x < n) ∧ (0 ≤ y ∧ y < n) ∧ x ≠ y := by
  by_cases h' : isB n x = true ∧ isB n y = true
  · refine ⟨isB_true h'.1, isB_true h'.2, ?_⟩
    rintro rfl
    simp [pairE, h'.1] at h
  · simp [pairE, h'] at h
theorem pairE_nat {n x y : Nat} (hx : x < n) (hy : y < n) (h : x ≠ y) : pairE n x y = 0 := by
  unfold pairE
  rw [if_pos ⟨isB_nat hx, isB_nat hy⟩, if_neg (by omega)]
theorem upE_zero {A : Nt} {r : Int} (h : upE A r = 0) : 0 ≤ r ∧ r < A.n ∧ (A.rs r.toNat).dn = false := by
  unfold upE at h
  by_cases h1 : isB A.n r = true
  · rw [if_pos h1] at h
    by_cases h2 : (A.rs r.toNat).dn = true
    · rw [if_pos h2] at h; omega
    · exact ⟨(isB_true h1).1, (isB_true h1).2, by simpa using h2⟩
  · rw [if_neg h1] at h; omega
theorem upE_nat {A : Nt} {r : Nat} (hr : r < A.n) (h : (A.rs r).dn = false) : upE A r = 0 := by
  unfold upE
  rw [if_pos (isB_nat hr), Int.toNat_natCast, h]; rfl
theorem linkE_zero {A : Nt} {a b c : Int} (h : linkE A a b c = 0) : pairE A.n a b = 0 ∧ 0 ≤ c ∧ c ≤ 9 := by
  unfold linkE at h
  by_cases h1 : pairE A.n a b = 0
  · rw [if_neg (by simpa using h1)] at h
    by_cases h2 : c < 0 ∨ 9 < c
    · rw [if_pos h2] at h; omega
    · exact ⟨h1, by omega, by omega⟩
  · rw [if_pos h1] at h; exact absurd h h1
theorem msgE_zero {A : Nt} {a b k : Int} (h : msgE A a b k = 0) : pairE A.n a b = 0 ∧ 0 ≤ k ∧ k.toNat < (A.wa a.toNat b.toNat).length := by
  unfold msgE at h
  by_cases h1 : pairE A.n a b = 0
  · rw [if_neg (by simpa using h1)] at h
    by_cases h2 : k < 0 ∨ ((A.wa a.toNat b.toNat).length : Int) ≤ k
    · rw [if_pos h2] at h; omega
    · exact ⟨h1, by omega, by omega⟩
  · rw [if_pos h1] at h; exact absurd h h1
theorem againE_zero {A : Nt} {a b k : Int} (h : againE A a b k = 0) : msgE A a b k = 0 ∧ (A.wa a.toNat b.toNat).length < 6 := by
  unfold againE at h
  by_cases h1 : msgE A a b k = 0
  · rw [if_neg (by simpa using h1)] at h
    by_cases h2 : 6 ≤ (A.wa a.toNat b.toNat).length
    · rw [if_pos h2] at h; omega
    · exact ⟨h1, by omega⟩
  · rw [if_pos h1] at h; exact absurd h h1
theorem bumpE_zero {A : Nt} {r : Int} (h : bumpE A r = 0) : upE A r = 0 ∧ (A.rs r.toNat).t.sq < 1000 := by
  unfold bumpE at h
  by_cases h1 : upE A r = 0
  · rw [if_neg (by simpa using h1)] at h
    by_cases h2 : 1000 ≤ (A.rs r.toNat).t.sq
    · rw [if_pos h2] at h; omega
    · exact ⟨h1, by omega⟩
  · rw [if_pos h1] at h; exact absurd h h1
theorem failE_zero {A : Nt} {r k : Int} (h : failE A r k = 0) : (0 ≤ r ∧ r < A.n) ∧ 0 ≤ k ∧ k ≤ 3 := by
  unfold failE at h
  by_cases h1 : isB A.n r = true
  · rw [if_pos h1] at h
    by_cases h2 : k < 0 ∨ 3 < k
    · rw [if_pos h2] at h; omega
    · exact ⟨isB_true h1, by omega, by omega⟩
  · rw [if_neg h1] at h; omega
theorem restartE_zero {A : Nt} {r : Int} (h : restartE A r = 0) : (0 ≤ r ∧ r < A.n) ∧ (A.rs r.toNat).dn = true := by
  unfold restartE at h
  by_cases h1 : isB A.n r = true
  · rw [if_pos h1] at h
    by_cases h2 : (A.rs r.toNat).dn = true
    · exact ⟨isB_true h1, h2⟩
    · rw [if_neg h2] at h; omega
  · rw [if_neg h1] at h; omega

/-- What every call keeps: the net stays a good one, as great as it was; bests get no worse. -/
structure Steps (A A' : Nt) : Prop where
  good : Good A'
  n : A'.n = A.n
  up : Up A A'
theorem Up.refl (A : Nt) : Up A A := ⟨fun _ _ => Int.le_refl _, fun _ _ _ => geB_refl _⟩
theorem Up.trans {A B C : Nt} (h : Up A B) (k : Up B C) (hn : B.n = A.n) : Up A C :=
  ⟨fun r hr => Int.le_trans (h.sq r hr) (k.sq r (by omega)), fun r d hr => geB_trans (k.be r d (by omega)) (h.be r d hr)⟩
theorem Up.same {A B : Nt} (h : ∀ r, (B.rs r).dk = (A.rs r).dk) : Up A B := ⟨fun r _ => by rw [h]; exact Int.le_refl _, fun r d _ => by rw [h]; exact geB_refl _⟩
theorem upR_dk (A : Nt) (i : Nat) (R : Ro) (h : R.dk = (A.rs i).dk) (r : Nat) : ((upR A i R).rs r).dk = (A.rs r).dk := by
  by_cases e : r = i
  · subst e; rw [upR_same, h]
  · rw [upR_other _ _ _ _ e]
theorem Steps.refl {A : Nt} (g : Good A) : Steps A A := ⟨g, rfl, Up.refl A⟩
theorem Steps.trans {A B C : Nt} (h : Steps A B) (k : Steps B C) : Steps A C := ⟨k.good, k.n.trans h.n, h.up.trans k.up h.n⟩
theorem linkN_dk (A : Nt) (a b : Nat) (c : Int) (r : Nat) : ((linkN A a b c).rs r).dk = (A.rs r).dk := by
  show (if c = 0 then (if r = a then withT (A.rs a) (wo (A.rs a).t b) else if r = b then withT (A.rs b) (wo (A.rs b).t a) else A.rs r) else A.rs r).dk = _
  split
  · split
    · next e => rw [e]; rfl
    · split
      · next e => rw [e]; rfl
      · rfl
  · rfl
theorem deliverN_dk (A : Nt) (a b k r : Nat) : ((deliverN A a b k).rs r).dk = (A.rs r).dk := by
  unfold deliverN
  split
  · rfl
  · unfold hearN
    rw [upR_dk]
    · rfl
    · rfl
theorem deliverN_n (A : Nt) (a b k : Nat) : (deliverN A a b k).n = A.n := by
  unfold deliverN
  split <;> rfl
theorem dumpN_n (A : Nt) (r : Nat) : (dumpN A r).n = A.n := by
  unfold dumpN
  split <;> rfl
theorem dumpN_up {A : Nt} (g : Good A) (r : Nat) (hr : r < A.n) : Up A (dumpN A r) := by
  unfold dumpN
  split
  · exact Up.same (upR_dk A r _ rfl)
  · exact dumpOk_up g r hr

theorem Steps.link {A : Nt} (g : Good A) (a b c : Int) : Steps A (linkC A a b c) := by
  unfold linkC
  split
  · next h =>
    obtain ⟨h1, h2, h3⟩ := linkE_zero h
    obtain ⟨⟨a0, a1⟩, ⟨b0, b1⟩, hab⟩ := pairE_zero h1
    exact ⟨g.link _ _ c (by omega) (by omega) (by omega) h2 h3, rfl, Up.same (linkN_dk _ _ _ _)⟩
  · exact Steps.refl g
theorem Steps.dump {A : Nt} (g : Good A) (r : Int) : Steps A (dumpC A r) := by
  unfold dumpC
  split
  · next h =>
    obtain ⟨h1, h2, h3⟩ := upE_zero h
    exact ⟨g.dump _ (by omega) h3, dumpN_n _ _, dumpN_up g _ (by omega)⟩
  · exact Steps.refl g
theorem Steps.deliver {A : Nt} (g : Good A) (a b k : Int) : Steps A (deliverC A a b k) := by
  unfold deliverC
  split
  · next h =>
    obtain ⟨h1, h2, h3⟩ := msgE_zero h
    exact ⟨g.deliver _ _ _ h3, deliverN_n _ _ _ _, Up.same (deliverN_dk _ _ _ _)⟩
  · exact Steps.refl g
theorem Steps.lose {A : Nt} (g : Good A) (a b k : Int) : Steps A (loseC A a b k) := by
  unfold loseC
  split
  · exact ⟨g.off _ _ _, rfl, Up.same fun _ => rfl⟩
  · exact Steps.refl g
theorem Steps.again {A : Nt} (g : Good A) (a b k : Int) : Steps A (againC A a b k) := by
  unfold againC
  split
  · next h =>
    obtain ⟨h1, h2⟩ := againE_zero h
    obtain ⟨_, _, h3⟩ := msgE_zero h1
    exact ⟨g.again _ _ _ h3 h2, rfl, Up.same fun _ => rfl⟩
  · exact Steps.refl g
theorem Steps.tick {A : Nt} (g : Good A) (r : Int) : Steps A (tickC A r) := by
  unfold tickC
  split
  · exact ⟨g.tick _, rfl, Up.same (upR_dk A _ _ rfl)⟩
  · exact Steps.refl g
theorem Steps.bump {A : Nt} (g : Good A) (r : Int) : Steps A (bumpC A r) := by
  unfold bumpC
  split
  · next h => exact ⟨g.bump _ fun _ => (bumpE_zero h).2, rfl, Up.same (upR_dk A _ _ rfl)⟩
  · exact Steps.refl g
theorem Steps.fail {A : Nt} (g : Good A) (r k : Int) : Steps A (failC A r k) := by
  unfold failC
  split
  · next h => exact ⟨g.fail _ _ (failE_zero h).2.1 (failE_zero h).2.2, rfl, Up.same (upR_dk A _ _ rfl)⟩
  · exact Steps.refl g
theorem Steps.crash {A : Nt} (g : Good A) (r : Int) : Steps A (crashC A r) := by
  unfold crashC
  split
  · exact ⟨g.crash _, rfl, Up.same (upR_dk A _ _ rfl)⟩
  · exact Steps.refl g
theorem Steps.restart {A : Nt} (g : Good A) (r : Int) : Steps A (restartC A r) := by
  unfold restartC
  split
  · exact ⟨g.restart _, rfl, Up.same (upR_dk A _ _ rfl)⟩
  · exact Steps.refl g

/-! ### Raw steps, brought to routers and messages that there are -/
def pickI (c n : Int) : Int := (if c < 0 then -(c + 1) else c) % n
theorem pickI_ok (c n : Int) (h : 0 < n) : 0 ≤ pickI c n ∧ pickI c n < n := ⟨Int.emod_nonneg _ (by omega), Int.emod_lt_of_pos _ h⟩
/-- Which message of a link. -/
def whichI (A : Nt) (a b c : Int) : Int := if pairE A.n a b = 0 ∧ (A.wa a.toNat b.toNat).length ≠ 0 then pickI c (A.wa a.toNat b.toNat).length else 0
def stepN (A : Nt) (k a b c : Int) : Nt :=
  if k < 2 then (if a ≠ b then linkC A a b (pickI c 6) else A) else
  if k < 7 then dumpC A a else
  if k < 13 then deliverC A a b (whichI A a b c) else
  if k = 13 then againC A a b (whichI A a b c) else
  if k = 14 then loseC A a b (whichI A a b c) else
  if k = 15 then tickC A a else
  if k = 16 then bumpC A a else
  if k = 17 then crashC A a else
  if k = 18 then restartC A a else failC A a (pickI c 4)
structure St where
  k : Int
  a : Int
  b : Int
  c : Int
def doesN (A : Nt) (s : St) : Nt := stepN A (pickI s.k 20) (pickI s.a A.n) (pickI s.b A.n) s.c
theorem Steps.step {A : Nt} (g : Good A) (k a b c : Int) : Steps A (stepN A k a b c) := by
  unfold stepN
  split
  · split
    · exact .link g _ _ _
    · exact .refl g
  split
  · exact .dump g _
  split
  · exact .deliver g _ _ _
  split
  · exact .again g _ _ _
  split
  · exact .lose g _ _ _
  split
  · exact .tick g _
  split
  · exact .bump g _
  split
  · exact .crash g _
  split
  · exact .restart g _
  · exact .fail g _ _
theorem Steps.does {A : Nt} (g : Good A) (s : St) : Steps A (doesN A s) := .step g _ _ _ _
end Go.Proofs.Ytdoodnbobpijoaa
