import Derived.Test.YtdoodnbobpijoaaRule
namespace Go.Proofs.Ytdoodnbobpijoaa
open Go.RowKit

def upd2 {α : Type} (V : Nat → Nat → α) (x y : Nat) (v : α) : Nat → Nat → α := fun a c => if a = x ∧ c = y then v else V a c
theorem upd2_same {α : Type} (V : Nat → Nat → α) (x y : Nat) (v : α) : upd2 V x y v x y = v := by simp [upd2]
theorem upd2_other {α : Type} (V : Nat → Nat → α) (x y : Nat) (v : α) (a c : Nat) (h : ¬ (a = x ∧ c = y)) : upd2 V x y v a c = V a c := by simp [upd2, h]

/-! ### What waits: a row a link; each block has a part that it plays -/
abbrev Part := Nat × Nat
def flat (l : List (Nat → Bs)) : List Value := l.flatMap mgL
theorem flat_length (l : List (Nat → Bs)) : (flat l).length = l.length * 10 := by
  induction l with
  | nil => rfl
  | cons m l ih =>
    show (mgL m ++ flat l).length = _
    rw [List.length_append, ih, mgL_length, List.length_cons]; omega
theorem flat_append (l k : List (Nat → Bs)) : flat (l ++ k) = flat l ++ flat k := List.flatMap_append
theorem flat_one (m : Nat → Bs) : flat [m] = mgL m := by simp [flat]
theorem flat_take (l : List (Nat → Bs)) (k : Nat) : flat (l.take k) = (flat l).take (k * 10) := by
  induction l generalizing k with
  | nil => simp [flat]
  | cons m l ih =>
    cases k with
    | zero => simp [flat]
    | succ k =>
      show mgL m ++ flat (l.take k) = (mgL m ++ flat l).take ((k + 1) * 10)
      rw [List.take_append, mgL_length, List.take_of_length_le (l := mgL m) (by rw [mgL_length]; omega), ih]
      congr 2; omega
theorem flat_drop (l : List (Nat → Bs)) (k : Nat) : flat (l.drop k) = (flat l).drop (k * 10) := by
  induction l generalizing k with
  | nil => simp [flat]
  | cons m l ih =>
    cases k with
    | zero => simp [flat]
    | succ k =>
      show flat (l.drop k) = (mgL m ++ flat l).drop ((k + 1) * 10)
      rw [List.drop_append, mgL_length, List.drop_of_length_le (l := mgL m) (by rw [mgL_length]; omega), ih, List.nil_append]
      congr 1; omega
theorem flat_one_cells (l : List (Nat → Bs)) : ∀ u ∈ flat l, u.oneCell' = true := by
  intro u hu
  obtain ⟨m, _, hm⟩ := List.mem_flatMap.1 hu
  exact (Array.all_eq_true_iff_forall_mem.1 (mgA_one m)) u (by simpa [mgA] using hm)
theorem flat_at (l : List (Nat → Bs)) (k j : Nat) (m : Nat → Bs) (hk : l[k]? = some m) (hj : j < 10) : (flat l)[k * 10 + j]? = some (mgV m j) := by
  have h1 : (flat l).drop (k * 10) = mgL m ++ flat (l.drop (k + 1)) := by
    rw [← flat_drop]
    have hlt := (List.getElem?_eq_some_iff.1 hk).1
    have : l.drop k = m :: l.drop (k + 1) := by
      rw [List.drop_eq_getElem_cons hlt]
      congr 1
      exact (List.getElem?_eq_some_iff.1 hk).2
    rw [this]; rfl
  have h2 : ((flat l).drop (k * 10))[j]? = some (mgV m j) := by
    rw [h1, List.getElem?_append_left (by rw [mgL_length]; exact hj)]
    exact mgL_at m j hj
  rw [List.getElem?_drop] at h2
  exact h2
structure WR (w : World) (B e : Nat) (ρ : Nat → Part) (tg : Nat → Nat → Part) (V : Nat → Nat → Value) (W : Nat → Nat → List (Nat → Bs)) : Prop where
  own : ∀ a c, a < 5 → c < 5 → w.ownsRow B e 10 (V a c) (W a c).length (flat (W a c))
  part : ∀ a c g, a < 5 → c < 5 → (V a c).ownBlock = some g → ρ g = tg a c

theorem ownsRow_of {w w' : World} {B e s : Nat} {v : Value} {n : Nat} {xs : List Value} (h : w.ownsRow B e s v n xs) (hb : ∀ g, v.ownBlock = some g → w'.heap[g]? = w.heap[g]?) : w'.ownsRow B e s v n xs := by
  refine ⟨h.1, ?_⟩
  rcases h.2 with hn | ⟨g, cap, cur, hv, h1, h2, h3⟩
  · exact .inl hn
  · exact .inr ⟨g, cap, cur, hv, h1, by rw [hb g (by rw [hv]; rfl)]; exact h2, h3⟩
theorem WR.lt {w : World} {B e : Nat} {ρ : Nat → Part} {tg : Nat → Nat → Part} {V : Nat → Nat → Value} {W : Nat → Nat → List (Nat → Bs)} (h : WR w B e ρ tg V W) {a c g : Nat} (ha : a < 5) (hc : c < 5) (hg : (V a c).ownBlock = some g) : g < w.heap.size := ((h.own a c ha hc).lt g hg).2
theorem WR.of {w w' : World} {B e : Nat} {ρ ρ' : Nat → Part} {tg : Nat → Nat → Part} {V : Nat → Nat → Value} {W : Nat → Nat → List (Nat → Bs)} (h : WR w B e ρ tg V W)
    (hb : ∀ k a c, k < w.heap.size → a < 5 → c < 5 → ρ k = tg a c → w'.heap[k]? = w.heap[k]?) (hρ : ∀ k, k < w.heap.size → ρ' k = ρ k) : WR w' B e ρ' tg V W :=
  ⟨fun a c ha hc => ownsRow_of (h.own a c ha hc) fun g hg => hb g a c (h.lt ha hc hg) ha hc (h.part a c g ha hc hg), fun a c g ha hc hg => by rw [hρ g (h.lt ha hc hg)]; exact h.part a c g ha hc hg⟩
theorem WR.form {w : World} {B e : Nat} {ρ : Nat → Part} {tg : Nat → Nat → Part} {V : Nat → Nat → Value} {W : Nat → Nat → List (Nat → Bs)} (h : WR w B e ρ tg V W) (a c : Nat) (ha : a < 5) (hc : c < 5) :
    ∃ ad cap, V a c = .slice ad (W a c).length cap := by
  rcases (h.own a c ha hc).2 with ⟨h1, h2⟩ | ⟨g, cap, cur, hv, _⟩
  · exact ⟨none, 0, by rw [h1, h2]⟩
  · exact ⟨_, cap, hv⟩
/-- The cells of a message that waits. -/
theorem WR.at {w : World} {B e : Nat} {ρ : Nat → Part} {tg : Nat → Nat → Part} {V : Nat → Nat → Value} {W : Nat → Nat → List (Nat → Bs)} (h : WR w B e ρ tg V W) (a c : Nat) (ha : a < 5) (hc : c < 5) (hk : 0 < (W a c).length) :
    ∃ g cap, V a c = .slice (some ⟨g, 0, none⟩) (W a c).length cap ∧ g < w.heap.size ∧ ρ g = tg a c ∧ (W a c).length ≤ cap ∧ (∀ o, w.frozen? ⟨g, o, none⟩ = false) ∧ (∀ j u, (flat (W a c))[j]? = some u → w.cell? ⟨g, j, none⟩ = some u) := by
  have ho := h.own a c ha hc
  rcases ho.2 with ⟨h1, h2⟩ | ⟨g, cap, cur, hv, h1, h2, h3, h4, h5, h6⟩
  · omega
  · refine ⟨g, cap, hv, (Array.getElem?_eq_some_iff.1 h2).1, h.part a c g ha hc (by rw [hv]; rfl), h3, fun o => frozen_of_row w g o cur e h2, fun j u hu => ?_⟩
    rw [cell_of_row w g j cur e (0, 0) h2, ← Array.getElem?_toList]
    rw [← h6, List.getElem?_take] at hu
    split at hu
    · exact hu
    · cases hu

/-- The row of one link turns. -/
theorem WR.put {w w1 : World} {B e : Nat} {ρ ρ' : Nat → Part} {tg : Nat → Nat → Part} {V : Nat → Nat → Value} {W : Nat → Nat → List (Nat → Bs)} (h : WR w B e ρ tg V W)
    (x y : Nat) (nv : Value) (l : List (Nat → Bs)) (hown : w1.ownsRow B e 10 nv l.length (flat l)) (hρ : ∀ k, k < w.heap.size → ρ' k = ρ k) (hp : ∀ g, nv.ownBlock = some g → ρ' g = tg x y)
    (hb : ∀ k a c, k < w.heap.size → a < 5 → c < 5 → ¬ (a = x ∧ c = y) → ρ k = tg a c → w1.heap[k]? = w.heap[k]?) : WR w1 B e ρ' tg (upd2 V x y nv) (setWa W x y l) := by
  refine ⟨fun a c ha hc => ?_, fun a c g ha hc hg => ?_⟩
  · by_cases hac : a = x ∧ c = y
    · obtain ⟨rfl, rfl⟩ := hac
      rw [upd2_same, show setWa W a c l a c = l by unfold setWa; rw [if_pos ⟨rfl, rfl⟩]]
      exact hown
    · rw [upd2_other _ _ _ _ _ _ hac, show setWa W x y l a c = W a c by unfold setWa; rw [if_neg hac]]
      exact ownsRow_of (h.own a c ha hc) fun g hg => hb g a c (h.lt ha hc hg) ha hc hac (h.part a c g ha hc hg)
  · by_cases hac : a = x ∧ c = y
    · obtain ⟨rfl, rfl⟩ := hac
      rw [upd2_same] at hg
      exact hp g hg
    · rw [upd2_other _ _ _ _ _ _ hac] at hg
      rw [hρ g (h.lt ha hc hg)]
      exact h.part a c g ha hc hg
theorem WR.congr {w : World} {B e : Nat} {ρ : Nat → Part} {tg : Nat → Nat → Part} {V : Nat → Nat → Value} {W W' : Nat → Nat → List (Nat → Bs)} (h : WR w B e ρ tg V W) (hw : ∀ a c, a < 5 → c < 5 → W a c = W' a c) : WR w B e ρ tg V W' :=
  ⟨fun a c ha hc => by rw [← hw a c ha hc]; exact h.own a c ha hc, h.part⟩
/-- The parts behind an append, or a new row: the block g plays (x, y). -/
def playG (ρ : Nat → Part) (g : Nat) (p : Part) : Nat → Part := fun k => if k = g then p else ρ k
theorem playG_same (ρ : Nat → Part) (g : Nat) (p : Part) : playG ρ g p g = p := by simp [playG]
theorem playG_other (ρ : Nat → Part) (g : Nat) (p : Part) (k : Nat) (h : k ≠ g) : playG ρ g p k = ρ k := by simp [playG, h]
end Go.Proofs.Ytdoodnbobpijoaa
