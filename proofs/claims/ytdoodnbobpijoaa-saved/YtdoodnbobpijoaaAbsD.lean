import Derived.Test.YtdoodnbobpijoaaAbsC
namespace Go.Proofs.Ytdoodnbobpijoaa

def blankT : Tb := ⟨0, fun _ => noRt, fun _ => noBs⟩
def newN (n : Nat) : Nt := ⟨n, fun _ => ⟨blankT, blankT, 0, false⟩, fun _ _ => 0, fun _ _ => []⟩
theorem blankT_tg (n r : Nat) : TG n r blankT := ⟨Int.le_refl _, by show (0 : Int) ≤ 1000; decide, fun _ => .inl rfl, fun _ => .inl rfl, fun d h => absurd h (by show ¬ 0 ≤ (-1 : Int); decide)⟩
theorem Good.new (n : Nat) (h2 : 2 ≤ n) (h5 : n ≤ 5) : Good (newN n) where
  n2 := h2
  n5 := h5
  t := fun r _ => blankT_tg n r
  dk := fun r _ => blankT_tg n r
  nb := fun r d _ _ h => absurd h (by show ¬ 0 ≤ (-1 : Int); decide)
  sq := fun _ _ => Int.le_refl _
  bq := fun _ _ _ => rfl
  cs := fun _ _ => rfl
  c0 := fun _ _ => Int.le_refl _
  c9 := fun _ _ => by show (0 : Int) ≤ 9; decide
  ca := fun _ => rfl
  cn := fun _ _ h => absurd h (by show ¬ (0 : Int) < 0; decide)
  wl := fun _ _ => Nat.zero_le _
  wn := fun _ _ _ h => by cases h
  wm := fun _ _ _ h => by cases h
  rt := fun r d _ h => absurd h (by show ¬ 0 ≤ (-1 : Int); decide)
  rk := fun r d _ h => absurd h (by show ¬ 0 ≤ (-1 : Int); decide)
  os := fun _ _ _ _ => by show (-1 : Int) ≤ 0; decide
  fa0 := fun _ _ => Int.le_refl _
  fa3 := fun _ _ => by show (0 : Int) ≤ 3; decide

/-! ### The way of a packet -/
def ends (A : Nt) (d r : Nat) : Prop := r = d ∨ (A.rs r).dn = true ∨ ((A.rs r).t.ro d).nx < 0
def trF (A : Nt) (d : Nat) : Nat → Nat → List Nat
  | 0, r => [r]
  | k + 1, r => if r = d ∨ (A.rs r).dn = true ∨ ((A.rs r).t.ro d).nx < 0 then [r] else r :: trF A d k ((A.rs r).t.ro d).nx.toNat
theorem trF_end {A : Nt} {d r : Nat} (h : ends A d r) (k : Nat) : trF A d k r = [r] := by
  cases k with
  | zero => rfl
  | succ k => unfold trF; exact if_pos h
theorem trF_go {A : Nt} {d r : Nat} (h : ¬ ends A d r) (k : Nat) : trF A d (k + 1) r = r :: trF A d k ((A.rs r).t.ro d).nx.toNat := by
  conv => lhs; unfold trF
  exact if_neg h
theorem trF_head (A : Nt) (d k r : Nat) : ∃ l, trF A d k r = r :: l := by
  cases k with
  | zero => exact ⟨[], rfl⟩
  | succ k =>
    by_cases h : ends A d r
    · exact ⟨[], trF_end h _⟩
    · exact ⟨_, trF_go h k⟩
theorem trF_more (A : Nt) (d : Nat) : ∀ (k r j : Nat), (trF A d k r).length ≤ k → trF A d (k + j) r = trF A d k r := by
  intro k
  induction k with
  | zero => intro r j h; simp [trF] at h
  | succ k ih =>
    intro r j h
    by_cases he : ends A d r
    · rw [trF_end he, trF_end he]
    · rw [show k + 1 + j = (k + j) + 1 by omega, trF_go he, trF_go he]
      rw [trF_go he] at h
      rw [ih _ _ (by simpa using h)]
/-- Bests get better all along a way. -/
theorem better_next {A : Nt} (g : Good A) (r d : Nat) (hr : r < A.n) (h0 : 0 ≤ ((A.rs r).t.ro d).nx) (hx : ((A.rs r).t.ro d).nx.toNat ≠ d) :
    bet ((A.rs ((A.rs r).t.ro d).nx.toNat).t.be d) ((A.rs r).t.be d) := by
  have h1 := (g.t r hr).fe d h0
  have h2 := g.rt r d hr h0
  have h3 := g.bb ((A.rs r).t.ro d).nx.toNat d ((g.t r hr).toNat d h0).1
  unfold Tells at h2
  rw [if_neg hx] at h2
  exact geB_bet (geB_trans h3 h2) h1
theorem trF_ok {A : Nt} (g : Good A) (d : Nat) : ∀ (k r : Nat), r < A.n → (∀ x, x ∈ trF A d k r → x < A.n) ∧ (trF A d k r).Nodup ∧ (∀ x, x ∈ (trF A d k r).tail → x = d ∨ bet ((A.rs x).t.be d) ((A.rs r).t.be d)) := by
  intro k
  induction k with
  | zero => intro r hr; simp [trF, hr]
  | succ k ih =>
    intro r hr
    by_cases he : ends A d r
    · rw [trF_end he]; simp [hr]
    · have hrd : r ≠ d := fun h => he (.inl h)
      have h0 : 0 ≤ ((A.rs r).t.ro d).nx := by
        rcases Int.lt_or_le ((A.rs r).t.ro d).nx 0 with h | h
        · exact absurd (.inr (.inr h)) he
        · exact h
      rw [trF_go he]
      have hy := ((g.t r hr).toNat d h0).1
      obtain ⟨i1, i2, i3⟩ := ih _ hy
      have key : ∀ x, x ∈ trF A d k ((A.rs r).t.ro d).nx.toNat → x = d ∨ bet ((A.rs x).t.be d) ((A.rs r).t.be d) := by
        intro x hx
        by_cases hyd : ((A.rs r).t.ro d).nx.toNat = d
        · rw [hyd, trF_end (.inl rfl)] at hx
          exact .inl (by simpa using hx)
        · have hb := better_next g r d hr h0 hyd
          obtain ⟨l, hl⟩ := trF_head A d k ((A.rs r).t.ro d).nx.toNat
          rw [hl] at hx i3
          rcases List.mem_cons.1 hx with h | h
          · rw [h]; exact .inr hb
          · rcases i3 x h with h | h
            · exact .inl h
            · exact .inr (bet_trans h hb)
      refine ⟨fun x hx => ?_, ?_, fun x hx => key x hx⟩
      · rcases List.mem_cons.1 hx with h | h
        · rw [h]; exact hr
        · exact i1 x h
      · rw [List.nodup_cons]
        refine ⟨fun h => ?_, i2⟩
        rcases key r h with h | h
        · exact hrd h
        · exact bet_irrefl h
theorem nodup_length : ∀ (n : Nat) (l : List Nat), (∀ x, x ∈ l → x < n) → l.Nodup → l.length ≤ n := by
  intro n
  induction n with
  | zero => intro l h _; cases l with
    | nil => exact Nat.le_refl _
    | cons a l => exact absurd (h a (by simp)) (by omega)
  | succ n ih =>
    intro l h hn
    have h1 : (l.filter (· ≠ n)).length ≤ n := ih _ (fun x hx => by
      have := List.mem_filter.1 hx
      have h2 := h x this.1
      have h3 : x ≠ n := by simpa using this.2
      omega) (hn.filter _)
    have h2 : l.length ≤ (l.filter (· ≠ n)).length + 1 := by
      clear h h1
      induction l with
      | nil => simp
      | cons a l ihl =>
        rw [List.nodup_cons] at hn
        by_cases ha : a = n
        · have : l.filter (· ≠ n) = l := List.filter_eq_self.2 fun x hx => by
            have : x ≠ n := fun e => hn.1 (by rw [ha, ← e]; exact hx)
            simpa using this
          rw [List.filter_cons_of_neg (by simp [ha]), this]
          simp
        · have := ihl hn.2
          rw [List.filter_cons_of_pos (by simpa using ha)]
          simp only [List.length_cons]
          omega
    omega
theorem trF_length {A : Nt} (g : Good A) (d k r : Nat) (hr : r < A.n) : (trF A d k r).length ≤ A.n := by
  obtain ⟨h1, h2, _⟩ := trF_ok g d k r hr
  exact nodup_length _ _ h1 h2
/-- With as many steps as there are routers, or more, the way is whole. -/
theorem trF_whole {A : Nt} (g : Good A) (d k r : Nat) (hr : r < A.n) (hk : A.n ≤ k) : trF A d k r = trF A d A.n r := by
  have := trF_more A d A.n r (k - A.n) (trF_length g d _ r hr)
  rwa [show A.n + (k - A.n) = k by omega] at this
def trace (A : Nt) (r d : Nat) : List Nat := trF A d A.n r
theorem trF_step (A : Nt) (d : Nat) : ∀ (k r i : Nat) (h : i + 1 < (trF A d k r).length), ¬ ends A d ((trF A d k r)[i]'(by omega)) ∧ (trF A d k r)[i + 1] = ((A.rs ((trF A d k r)[i]'(by omega))).t.ro d).nx.toNat := by
  intro k
  induction k with
  | zero => intro r i h; simp [trF] at h
  | succ k ih =>
    intro r i h
    by_cases he : ends A d r
    · simp only [trF_end he] at h; simp at h
    · have e := trF_go he k
      cases i with
      | zero =>
        simp only [e]
        refine ⟨he, ?_⟩
        obtain ⟨l, hl⟩ := trF_head A d k ((A.rs r).t.ro d).nx.toNat
        simp [hl]
      | succ i =>
        simp only [e] at h ⊢
        have h' : i + 1 < (trF A d k ((A.rs r).t.ro d).nx.toNat).length := by simpa using h
        have := ih _ i h'
        simpa using this
theorem trF_last {A : Nt} (g : Good A) (d : Nat) : ∀ (k r : Nat), r < A.n → (trF A d k r).length ≤ k → ∃ x, (trF A d k r).getLast? = some x ∧ ends A d x := by
  intro k
  induction k with
  | zero => intro r _ h; simp [trF] at h
  | succ k ih =>
    intro r hr h
    by_cases he : ends A d r
    · rw [trF_end he]; exact ⟨r, rfl, he⟩
    · have h0 : 0 ≤ ((A.rs r).t.ro d).nx := by
        rcases Int.lt_or_le ((A.rs r).t.ro d).nx 0 with h | h
        · exact absurd (.inr (.inr h)) he
        · exact h
      rw [trF_go he] at h ⊢
      obtain ⟨x, hx, hx2⟩ := ih _ ((g.t r hr).toNat d h0).1 (by simpa using h)
      refine ⟨x, ?_, hx2⟩
      rw [List.getLast?_cons, hx]; rfl
end Go.Proofs.Ytdoodnbobpijoaa
