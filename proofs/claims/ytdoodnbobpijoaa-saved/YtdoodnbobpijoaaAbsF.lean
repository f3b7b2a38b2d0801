import Derived.Test.YtdoodnbobpijoaaAbsE
namespace Go.Proofs.Ytdoodnbobpijoaa

/-! ### How far it is from each router to each -/
def fw0 (C : Nat → Nat → Int) : Nat → Nat → Int := fun a b => if a = b then 0 else if 0 < C a b then C a b else 1000
def fwS (M : Nat → Nat → Int) (k : Nat) : Nat → Nat → Int := fun a b => min (M a b) (M a k + M k b)
def fwN (C : Nat → Nat → Int) : Nat → Nat → Nat → Int
  | 0 => fw0 C
  | k + 1 => fwS (fwN C k) k
def dist (C : Nat → Nat → Int) : Nat → Nat → Int := fwN C 5
theorem fwN_succ (C : Nat → Nat → Int) (k a b : Nat) : fwN C (k + 1) a b = min (fwN C k a b) (fwN C k a k + fwN C k k b) := rfl
theorem fwN_nonneg (C : Nat → Nat → Int) : ∀ k a b, 0 ≤ fwN C k a b := by
  intro k
  induction k with
  | zero =>
    intro a b
    show 0 ≤ (if a = b then 0 else if 0 < C a b then C a b else 1000)
    split
    · omega
    · split <;> omega
  | succ k ih =>
    intro a b
    rw [fwN_succ]
    have h1 := ih a b
    have h2 := ih a k
    have h3 := ih k b
    omega
theorem fwN_diag (C : Nat → Nat → Int) : ∀ k a, fwN C k a a = 0 := by
  intro k
  induction k with
  | zero => intro a; show (if a = a then (0 : Int) else _) = 0; rw [if_pos rfl]
  | succ k ih =>
    intro a
    rw [fwN_succ, ih]
    have h2 := fwN_nonneg C k a k
    have h3 := fwN_nonneg C k k a
    omega
theorem fwN_mono (C : Nat → Nat → Int) (k j a b : Nat) : fwN C (k + j) a b ≤ fwN C k a b := by
  induction j with
  | zero => exact Int.le_refl _
  | succ j ih => rw [← Nat.add_assoc, fwN_succ]; omega
theorem fwN_tri (C : Nat → Nat → Int) : ∀ k i a b, i < k → fwN C k a b ≤ fwN C k a i + fwN C k i b := by
  intro k
  induction k with
  | zero => intro i a b h; omega
  | succ k ih =>
    intro i a b h
    simp only [fwN_succ]
    have d := fwN_diag C k k
    by_cases hi : i = k
    · subst hi
      have h1 := fwN_nonneg C i a i
      have h2 := fwN_nonneg C i i b
      omega
    · have t1 := ih i a b (by omega)
      have t2 := ih i k b (by omega)
      have t3 := ih i a k (by omega)
      have n1 := fwN_nonneg C k k i
      have n2 := fwN_nonneg C k i k
      omega
theorem dist_tri (C : Nat → Nat → Int) (i a b : Nat) (h : i < 5) : dist C a b ≤ dist C a i + dist C i b := fwN_tri C 5 i a b h
theorem dist_le (C : Nat → Nat → Int) (k a b : Nat) (h : k ≤ 5) : dist C a b ≤ fwN C k a b := by
  have := fwN_mono C k (5 - k) a b
  rwa [show k + (5 - k) = 5 by omega] at this
theorem dist_self (C : Nat → Nat → Int) (a : Nat) : dist C a a = 0 := fwN_diag C 5 a
theorem dist_nonneg (C : Nat → Nat → Int) (a b : Nat) : 0 ≤ dist C a b := fwN_nonneg C 5 a b
theorem fwN_real (C : Nat → Nat → Int) : ∀ k, k ≤ 5 → ∀ a b, fwN C k a b < 1000 → a = b ∨ ∃ x, 0 < C a x ∧ C a x + dist C x b ≤ fwN C k a b := by
  intro k
  induction k with
  | zero =>
    intro _ a b h
    have h' : (if a = b then 0 else if 0 < C a b then C a b else 1000) < (1000 : Int) := h
    by_cases e : a = b
    · exact .inl e
    · rw [if_neg e] at h'
      by_cases c : 0 < C a b
      · refine .inr ⟨b, c, ?_⟩
        show _ ≤ (if a = b then 0 else if 0 < C a b then C a b else 1000)
        rw [if_neg e, if_pos c, dist_self]; omega
      · rw [if_neg c] at h'; omega
  | succ k ih =>
    intro hk a b h
    rw [fwN_succ] at h ⊢
    have n1 := fwN_nonneg C k a k
    have n2 := fwN_nonneg C k k b
    by_cases c : fwN C k a b ≤ fwN C k a k + fwN C k k b
    · rcases ih (by omega) a b (by omega) with e | ⟨x, e1, e2⟩
      · exact .inl e
      · exact .inr ⟨x, e1, by omega⟩
    · by_cases e : a = k
      · subst e
        have d := fwN_diag C a a
        omega
      · rcases ih (by omega) a k (by omega) with e' | ⟨x, e1, e2⟩
        · exact absurd e' e
        · refine .inr ⟨x, e1, ?_⟩
          have t := dist_tri C k x b (by omega)
          have l := dist_le C k k b (by omega)
          omega
theorem dist_step (C : Nat → Nat → Int) (a x b : Nat) (hx : x < 5) (hax : a ≠ x) (h : 0 < C a x) : dist C a b ≤ C a x + dist C x b := by
  have t := dist_tri C x a b hx
  have l := dist_le C 0 a x (by omega)
  have e : fwN C 0 a x = C a x := by
    show (if a = x then 0 else if 0 < C a x then C a x else 1000) = _
    rw [if_neg hax, if_pos h]
  omega
theorem dist_pos (C : Nat → Nat → Int) (a b : Nat) (h : a ≠ b) : 0 < dist C a b := by
  by_cases hd : dist C a b < 1000
  · rcases fwN_real C 5 (Nat.le_refl _) a b hd with e | ⟨x, e1, e2⟩
    · exact absurd e h
    · have := dist_nonneg C x b
      have e2 : C a x + dist C x b ≤ dist C a b := e2
      omega
  · omega
/-- The way goes on by a neighbour that is nearer. -/
theorem dist_next (C : Nat → Nat → Int) (a b : Nat) (hab : a ≠ b) (h : dist C a b < 1000) : ∃ x, 0 < C a x ∧ C a x + dist C x b ≤ dist C a b := by
  rcases fwN_real C 5 (Nat.le_refl _) a b h with e | e
  · exact absurd e hab
  · exact e
/-! How many are nearer -/
def cnt (p : Nat → Bool) : Nat → Nat
  | 0 => 0
  | n + 1 => cnt p n + (if p n = true then 1 else 0)
theorem cnt_le (p : Nat → Bool) (n : Nat) : cnt p n ≤ n := by
  induction n with
  | zero => exact Nat.le_refl _
  | succ n ih => unfold cnt; split <;> omega
theorem cnt_mono (p q : Nat → Bool) (h : ∀ x, p x = true → q x = true) (n : Nat) : cnt p n ≤ cnt q n := by
  induction n with
  | zero => exact Nat.le_refl _
  | succ n ih =>
    unfold cnt
    have := h n
    by_cases hp : p n = true
    · rw [if_pos hp, if_pos (this hp)]; omega
    · rw [if_neg hp]; split <;> omega
theorem cnt_lt (p q : Nat → Bool) (h : ∀ x, p x = true → q x = true) (x n : Nat) (hx : x < n) (h1 : p x = false) (h2 : q x = true) : cnt p n < cnt q n := by
  induction n with
  | zero => omega
  | succ n ih =>
    unfold cnt
    by_cases e : x = n
    · subst e
      have := cnt_mono p q h x
      rw [if_neg (by simp [h1]), if_pos h2]; omega
    · have := ih (by omega)
      have := h n
      by_cases hp : p n = true
      · rw [if_pos hp, if_pos (this hp)]; omega
      · rw [if_neg hp]; split <;> omega
def rank (C : Nat → Nat → Int) (n d r : Nat) : Nat := cnt (fun x => decide (dist C x d < dist C r d)) n
theorem rank_lt (C : Nat → Nat → Int) (n d x r : Nat) (hx : x < n) (h : dist C x d < dist C r d) : rank C n d x < rank C n d r :=
  cnt_lt _ _ (fun y hy => by simp at hy ⊢; omega) x n hx (by simp) (by simpa using h)
theorem rank_le (C : Nat → Nat → Int) (n d r : Nat) (hr : r < n) : rank C n d r + 1 ≤ n := by
  have h1 := cnt_lt (fun x => decide (dist C x d < dist C r d)) (fun _ => true) (fun _ _ => rfl) r n hr (by simp) rfl
  have h2 := cnt_le (fun _ => true) n
  unfold rank
  omega
theorem dist_rank (C : Nat → Nat → Int) (n d : Nat) (h5 : n ≤ 5) (hC : ∀ a b, C a b ≤ 5) (hn : ∀ a b, 0 < C a b → a < n ∧ b < n) : ∀ k r, rank C n d r ≤ k → dist C r d < 1000 → dist C r d ≤ 5 * k := by
  intro k
  induction k with
  | zero =>
    intro r hk h
    by_cases e : r = d
    · subst e; rw [dist_self]; omega
    · obtain ⟨x, h1, h2⟩ := dist_next C r d e h
      have := rank_lt C n d x r (hn r x h1).2 (by omega)
      omega
  | succ k ih =>
    intro r hk h
    by_cases e : r = d
    · subst e; rw [dist_self]; omega
    · obtain ⟨x, h1, h2⟩ := dist_next C r d e h
      have h3 := rank_lt C n d x r (hn r x h1).2 (by omega)
      have h4 := ih x (by omega) (by omega)
      by_cases hx : r = x
      · subst hx; omega
      · have h6 := dist_step C r x d (by have := (hn r x h1).2; omega) hx h1
        have := hC r x
        omega
theorem dist_20 (C : Nat → Nat → Int) (n d r : Nat) (h5 : n ≤ 5) (hC : ∀ a b, C a b ≤ 5) (hn : ∀ a b, 0 < C a b → a < n ∧ b < n) (hr : r < n) (h : dist C r d < 1000) : dist C r d ≤ 20 := by
  have h1 := rank_le C n d r hr
  have h2 := dist_rank C n d h5 hC hn (rank C n d r) r (Nat.le_refl _) h
  omega
end Go.Proofs.Ytdoodnbobpijoaa
