import Derived.Test.YtgimhfbpipgoeaaRule
namespace Go.Proofs.Ytgimhfbpipgoeaa
open Go.RowKit

/-! ### What waits: a row a link; each block has a part that it plays -/
abbrev Part := Nat × Nat
structure WR (w : World) (B e : Nat) (ρ : Nat → Part) (tg : Nat → Nat → Part) (V : Nat → Nat → Value) (L : Nat → Nat → Nat) : Prop where
  own : ∀ a c, a < 5 → c < 5 → ∃ xs, w.ownsRow B e 10 (V a c) (L a c) xs
  part : ∀ a c g, a < 5 → c < 5 → (V a c).ownBlock = some g → ρ g = tg a c
  six : ∀ a c, a < 5 → c < 5 → L a c ≤ 6

def upd2 {α : Type} (V : Nat → Nat → α) (x y : Nat) (v : α) : Nat → Nat → α := fun a c => if a = x ∧ c = y then v else V a c
theorem upd2_same {α : Type} (V : Nat → Nat → α) (x y : Nat) (v : α) : upd2 V x y v x y = v := by simp [upd2]
theorem upd2_other {α : Type} (V : Nat → Nat → α) (x y : Nat) (v : α) (a c : Nat) (h : ¬ (a = x ∧ c = y)) : upd2 V x y v a c = V a c := by simp [upd2, h]

theorem ownsRow_of {w w' : World} {B e s : Nat} {v : Value} {n : Nat} {xs : List Value} (h : w.ownsRow B e s v n xs) (hb : ∀ g, v.ownBlock = some g → w'.heap[g]? = w.heap[g]?) : w'.ownsRow B e s v n xs := by
  refine ⟨h.1, ?_⟩
  rcases h.2 with hn | ⟨g, cap, cur, hv, h1, h2, h3⟩
  · exact .inl hn
  · exact .inr ⟨g, cap, cur, hv, h1, by rw [hb g (by rw [hv]; rfl)]; exact h2, h3⟩
theorem WR.of {w w' : World} {B e : Nat} {ρ : Nat → Part} {tg : Nat → Nat → Part} {V : Nat → Nat → Value} {L : Nat → Nat → Nat} (h : WR w B e ρ tg V L)
    (hb : ∀ k a c, k < w.heap.size → a < 5 → c < 5 → ρ k = tg a c → w'.heap[k]? = w.heap[k]?) : WR w' B e ρ tg V L :=
  ⟨fun a c ha hc => let ⟨xs, hx⟩ := h.own a c ha hc; ⟨xs, ownsRow_of hx fun g hg => hb g a c (hx.lt g hg).2 ha hc (h.part a c g ha hc hg)⟩, h.part, h.six⟩
theorem WR.form {w : World} {B e : Nat} {ρ : Nat → Part} {tg : Nat → Nat → Part} {V : Nat → Nat → Value} {L : Nat → Nat → Nat} (h : WR w B e ρ tg V L) (a c : Nat) (ha : a < 5) (hc : c < 5) :
    ∃ ad cap, V a c = .slice ad (L a c) cap := by
  obtain ⟨xs, hx⟩ := h.own a c ha hc
  rcases hx.2 with ⟨h1, h2⟩ | ⟨g, cap, cur, hv, _⟩
  · exact ⟨none, 0, by rw [h1, h2]⟩
  · exact ⟨_, cap, hv⟩

/-- Behind an append to the row of one link. -/
theorem WR.append {w w0 w1 : World} {B e : Nat} {ρ : Nat → Part} {tg : Nat → Nat → Part} {V : Nat → Nat → Value} {L : Nat → Nat → Nat} (h : WR w B e ρ tg V L)
    (inj : ∀ a c a' c', a < 5 → c < 5 → a' < 5 → c' < 5 → tg a c = tg a' c' → a = a' ∧ c = c') (x y : Nat) (hx : x < 5) (hy : y < 5) (h6 : L x y < 6)
    (h0 : Below w.heap.size w w0) (g cap : Nat) (xs : List Value) (H : Nat) (hH : w0.heap.size = H)
    (hown : w1.ownsRow B e 10 (.slice (some ⟨g, 0, none⟩) (L x y + 1) cap) (L x y + 1) xs) (hgrow : w0.grownBy w1 (V x y).ownBlock) (hat : (V x y).ownBlock = some g ∨ g = H) :
    WR w1 B e (fun k => if k = g then tg x y else ρ k) tg (upd2 V x y (.slice (some ⟨g, 0, none⟩) (L x y + 1) cap)) (upd2 L x y (L x y + 1)) := by
  have hlt : ∀ a c k, a < 5 → c < 5 → (V a c).ownBlock = some k → k < w.heap.size := fun a c k ha hc hk => by
    obtain ⟨ys, hys⟩ := h.own a c ha hc
    exact (hys.lt k hk).2
  refine ⟨fun a c ha hc => ?_, fun a c k ha hc hk => ?_, fun a c ha hc => ?_⟩
  · by_cases hac : a = x ∧ c = y
    · obtain ⟨rfl, rfl⟩ := hac
      rw [upd2_same, upd2_same]
      exact ⟨xs, hown⟩
    · rw [upd2_other _ _ _ _ _ _ hac, upd2_other _ _ _ _ _ _ hac]
      obtain ⟨ys, hys⟩ := h.own a c ha hc
      refine ⟨ys, ownsRow_of hys fun k hk => ?_⟩
      have hk' := hlt a c k ha hc hk
      rw [hgrow.block k (Nat.lt_of_lt_of_le hk' h0.size) (fun e => ?_), h0.block k hk']
      have h1 := h.part a c k ha hc hk
      have h2 := h.part x y k hx hy e.symm
      obtain ⟨e1, e2⟩ := inj a c x y ha hc hx hy (h1.symm.trans h2)
      exact hac ⟨e1, e2⟩
  · by_cases hac : a = x ∧ c = y
    · obtain ⟨rfl, rfl⟩ := hac
      rw [upd2_same] at hk
      have : g = k := by simpa [Value.ownBlock] using hk
      simp [this]
    · rw [upd2_other _ _ _ _ _ _ hac] at hk
      have hne : k ≠ g := by
        rintro rfl
        have hk' := hlt a c k ha hc hk
        rcases hat with e | e
        · have h1 := h.part a c k ha hc hk
          have h2 := h.part x y k hx hy e
          obtain ⟨e1, e2⟩ := inj a c x y ha hc hx hy (h1.symm.trans h2)
          exact hac ⟨e1, e2⟩
        · have := h0.size; omega
      simp only [hne, if_false]
      exact h.part a c k ha hc hk
  · by_cases hac : a = x ∧ c = y
    · obtain ⟨rfl, rfl⟩ := hac
      rw [upd2_same]; omega
    · rw [upd2_other _ _ _ _ _ _ hac]; exact h.six a c ha hc

/-- One message more waits: all that a round of sending keeps. -/
theorem send_step {w wr w0 w2 : World} {B e b mb x k o g cap : Nat} {ρ ρ' : Nat → Part} {tg : Nat → Nat → Part} {V : Nat → Nat → Value} {L : Nat → Nat → Nat} {xs : List Value} (nv : Value)
    (K2 : WR wr B e ρ' tg V L) (inj : ∀ a c a' c', a < 5 → c < 5 → a' < 5 → c' < 5 → tg a c = tg a' c' → a = a' ∧ c = c') (hx : x < 5) (hk : k < 5) (h6 : L x k < 6)
    (hb : b < w.heap.size) (hB : ∀ a c, ρ b ≠ tg a c) (hz : ∀ a c, tg a c ≠ (0, 0)) (K3 : ∀ j, j < w.heap.size → ρ' j = ρ j) (K4 : ∀ j, wr.heap.size ≤ j → ρ' j = (0, 0)) (K5 : ρ' mb = (0, 0)) (hm : mb < wr.heap.size) (hmb : mb ≠ b)
    (r7 : Only (fun k => k = b ∨ ∃ c, c < 5 ∧ ρ k = tg x c) w wr) (h0 : Below wr.heap.size wr w0) (hs : w0.heap.size = wr.heap.size + 1)
    (ho : w2.ownsRow B e 10 (.slice (some ⟨g, 0, none⟩) (L x k + 1) cap) (L x k + 1) xs) (hgrow : w0.grownBy w2 (V x k).ownBlock) (hat : (V x k).ownBlock = some g ∨ g = wr.heap.size + 1) (hlt : g < w2.heap.size)
    (hnv : nv = .slice (some ⟨g, 0, none⟩) (L x k + 1) cap) :
    w2.heap[b]? = wr.heap[b]? ∧ WR (w2.setCell ⟨b, o, none⟩ nv) B e (fun j => if j = g then tg x k else ρ' j) tg (upd2 V x k nv) (upd2 L x k (L x k + 1)) ∧
      (∀ j, j < w.heap.size → (if j = g then tg x k else ρ' j) = ρ j) ∧ (∀ j, (w2.setCell ⟨b, o, none⟩ nv).heap.size ≤ j → (if j = g then tg x k else ρ' j) = (0, 0)) ∧ (if mb = g then tg x k else ρ' mb) = (0, 0) ∧
      (w2.setCell ⟨b, o, none⟩ nv).heap[mb]? = wr.heap[mb]? ∧ Only (fun k => k = b ∨ ∃ c, c < 5 ∧ ρ k = tg x c) w (w2.setCell ⟨b, o, none⟩ nv) := by
  have hbr : b < wr.heap.size := Nat.lt_of_lt_of_le hb r7.size
  have hpart : ∀ j, (V x k).ownBlock = some j → ρ' j = tg x k := fun j hj => K2.part x k j hx hk hj
  have hown : ∀ j, (V x k).ownBlock = some j → j < wr.heap.size := fun j hj => by
    obtain ⟨ys, hys⟩ := K2.own x k hx hk
    exact (hys.lt j hj).2
  have nb : some b ≠ (V x k).ownBlock := fun e => hB x k (by rw [← K3 b hb]; exact hpart b e.symm)
  have nm : some mb ≠ (V x k).ownBlock := fun e => hz x k (by rw [← K5]; exact (hpart mb e.symm).symm)
  have gb : b ≠ g := by
    rintro rfl
    rcases hat with e | e
    · exact nb e.symm
    · omega
  have gm : mb ≠ g := by
    rintro rfl
    rcases hat with e | e
    · exact nm e.symm
    · omega
  have hfar : ∀ j, j < wr.heap.size → some j ≠ (V x k).ownBlock → w2.heap[j]? = wr.heap[j]? := fun j hj hn => (hgrow.block j (by omega) hn).trans (h0.block j hj)
  have hsz2 : (w2.setCell ⟨b, o, none⟩ nv).heap.size = w2.heap.size := by simp
  have hgs := hgrow.size
  have hW := WR.append K2 inj x k hx hk h6 h0 g cap xs (wr.heap.size + 1) hs ho hgrow hat
  rw [← hnv] at hW
  refine ⟨hfar b hbr nb, hW.of fun j a c hj ha hc hp => heap_setCell_other _ _ _ _ ?_, fun j hj => ?_, fun j hj => ?_, ?_, ?_, ?_⟩
  · intro e
    have e : j = b := e
    rw [e] at hp
    simp only [gb, if_false] at hp
    rw [K3 b hb] at hp
    exact hB a c hp
  · by_cases hjg : j = g
    · subst hjg
      rcases hat with e | e
      · simp only [if_true]; rw [← K3 j hj]; exact (hpart j e).symm
      · have := r7.size; omega
    · simp only [hjg, if_false]; exact K3 j hj
  · have : j ≠ g := by omega
    simp only [this, if_false]
    exact K4 j (by omega)
  · simp only [gm, if_false]; exact K5
  · rw [heap_setCell_other _ _ _ _ hmb]; exact hfar mb hm nm
  · refine ⟨hgrow.os.trans (h0.os.trans r7.os), hgrow.tape.trans (h0.tape.trans r7.tape), hgrow.output.trans (h0.output.trans r7.output), by have := r7.size; omega, fun j hj hn => ?_⟩
    have hjb : j ≠ b := fun e => hn (.inl e)
    rw [heap_setCell_other _ _ _ _ hjb, hfar j (Nat.lt_of_lt_of_le hj r7.size) (fun e => hn (.inr ⟨k, hk, by rw [← K3 j hj]; exact hpart j e.symm⟩))]
    exact r7.block j hj hn

/-! A slice of one, made of a value of ten cells. -/
theorem bsl98 (a0 a1 a2 a3 a4 a5 a6 a7 a8 a9 : Value) (w : World) : (Instr.buildSlice 98 1 #[(0, .agg #[a0, a1, a2, a3, a4, a5, a6, a7, a8, a9])]).run Try.prog w = .ok (.slice (some ⟨w.heap.size, 0, none⟩) 1 1) (w.alloc (.cells #[a0, a1, a2, a3, a4, a5, a6, a7, a8, a9] 105)) := by kernel_rfl
theorem bs98 (w : World) (ρ : Operand → Value) (x : Operand) (ds : Option Tmp) (ty : TypeId) (ps : String) (af : Array Edge) (g : Option (Nat × Bool)) (h3 : AggOk 10 (ρ x)) :
    (execOp ρ { dst := ds, op := .buildSlice 98 1 #[(0, x)], type := ty, pos := ps, after := af, guard := g }).run Try.prog w = .ok (.value (.slice (some ⟨w.heap.size, 0, none⟩) 1 1)) (w.alloc (.cells (ρ x).cells 105)) := by
  have hr : (Instr.buildSlice 98 1 #[(0, ρ x)]).run Try.prog w = .ok (.slice (some ⟨w.heap.size, 0, none⟩) 1 1) (w.alloc (.cells (ρ x).cells 105)) := by
    rw [h3.form]
    have hs := h3.size
    generalize (ρ x).cells = T at hs
    obtain ⟨l⟩ := T
    simp only [List.size_toArray] at hs
    match l, hs with
    | [a0, a1, a2, a3, a4, a5, a6, a7, a8, a9], _ => exact bsl98 a0 a1 a2 a3 a4 a5 a6 a7 a8 a9 w
  simp only [execOp, Sem.run_bind, List.map_toArray, List.map_cons, List.map_nil, hr, Result.andThen_ok, Sem.run_pure]
theorem bsl74 (a0 a1 a2 a3 a4 a5 a6 a7 a8 a9 : Value) (w : World) : (Instr.buildSlice 74 1 #[(0, .agg #[a0, a1, a2, a3, a4, a5, a6, a7, a8, a9])]).run Try.prog w = .ok (.slice (some ⟨w.heap.size, 0, none⟩) 1 1) (w.alloc (.cells #[a0, a1, a2, a3, a4, a5, a6, a7, a8, a9] 114)) := by kernel_rfl
theorem bs74 (w : World) (ρ : Operand → Value) (x : Operand) (ds : Option Tmp) (ty : TypeId) (ps : String) (af : Array Edge) (g : Option (Nat × Bool)) (h3 : AggOk 10 (ρ x)) :
    (execOp ρ { dst := ds, op := .buildSlice 74 1 #[(0, x)], type := ty, pos := ps, after := af, guard := g }).run Try.prog w = .ok (.value (.slice (some ⟨w.heap.size, 0, none⟩) 1 1)) (w.alloc (.cells (ρ x).cells 114)) := by
  have hr : (Instr.buildSlice 74 1 #[(0, ρ x)]).run Try.prog w = .ok (.slice (some ⟨w.heap.size, 0, none⟩) 1 1) (w.alloc (.cells (ρ x).cells 114)) := by
    rw [h3.form]
    have hs := h3.size
    generalize (ρ x).cells = T at hs
    obtain ⟨l⟩ := T
    simp only [List.size_toArray] at hs
    match l, hs with
    | [a0, a1, a2, a3, a4, a5, a6, a7, a8, a9], _ => exact bsl74 a0 a1 a2 a3 a4 a5 a6 a7 a8 a9 w
  simp only [execOp, Sem.run_bind, List.map_toArray, List.map_cons, List.map_nil, hr, Result.andThen_ok, Sem.run_pure]
/-! info10 -/
theorem info105 : ∃ i z, Try.prog.info? 105 = some i ∧ i.zero = some z ∧ i.size = 10 ∧ i.bytes = 80 ∧ z.cells.size = 10 := by
  have h : (match Try.prog.info? 105 with | some i => (match i.zero with | some z => i.size == 10 && i.bytes == 80 && z.cells.size == 10 | none => false) | none => false) = true := by kernel_rfl
  cases hi : Try.prog.info? 105 with
  | none => simp [hi] at h
  | some i =>
    cases hz : i.zero with
    | none => simp [hi, hz] at h
    | some z => simp [hi, hz] at h; exact ⟨i, z, rfl, hz, h.1.1, h.1.2, h.2⟩
theorem info114 : ∃ i z, Try.prog.info? 114 = some i ∧ i.zero = some z ∧ i.size = 10 ∧ i.bytes = 80 ∧ z.cells.size = 10 := by
  have h : (match Try.prog.info? 114 with | some i => (match i.zero with | some z => i.size == 10 && i.bytes == 80 && z.cells.size == 10 | none => false) | none => false) = true := by kernel_rfl
  cases hi : Try.prog.info? 114 with
  | none => simp [hi] at h
  | some i =>
    cases hz : i.zero with
    | none => simp [hi, hz] at h
    | some z => simp [hi, hz] at h; exact ⟨i, z, rfl, hz, h.1.1, h.1.2, h.2⟩
end Go.Proofs.Ytgimhfbpipgoeaa
