import Derived.Test.YtgimhfbpipgoeaaHarE
namespace Go.Proofs.Ytgimhfbpipgoeaa
open Go.RowKit

def newN (bx bs br n : Nat) : NetD := ⟨bx, bs, br, n, fun _ _ => 0, fun _ _ => 0, fun _ _ => .slice none 0 0, fun _ _ => .slice none 0 0⟩
theorem WR.nil (w : World) (B e : Nat) (ρ : Nat → Part) (tg : Nat → Nat → Part) : WR w B e ρ tg (fun _ _ => .slice none 0 0) (fun _ _ => 0) :=
  ⟨fun _ _ _ _ => ⟨[], World.ownsRow_nil w B e 10⟩, fun _ _ g _ _ hg => by simp [Value.ownBlock] at hg, fun _ _ _ _ => by omega⟩

/-- One net more. -/
theorem Inv.opened {w w2 w0 w3 : World} {B yb bx bs br n g cap : Nat} {ρ : Nat → Part} {ns : List NetD} {v : Value} (h : Inv w B ρ yb ns) (h2 : 2 ≤ n) (h5 : n ≤ 5) (lx : w.heap.size ≤ bx) (ls : w.heap.size ≤ bs) (lr : w.heap.size ≤ br) (nxr : bx ≠ br) (nsr : bs ≠ br)
    (hP : PN w2 bx bs n (fun _ _ => 0) (fun _ _ => .slice none 0 0)) (hR : RN w2 br n (fun _ _ => 0) (fun _ _ => .slice none 0 0)) (b2 : Below w.heap.size w w2)
    (y1 : Whole w yb 32 #[v, .slice none 0 0]) (y2 : w.ownsRow B 42 2 v ns.length (ptrs ns)) (y3 : ∀ k, v.ownBlock = some k → ρ k = (0, 2))
    (b0 : Below w2.heap.size w2 w0) (hs : w0.heap.size = w2.heap.size + 1)
    (ho : w3.ownsRow B 42 2 (.slice (some ⟨g, 0, none⟩) (ns.length + 1) cap) (ns.length + 1) (ptrs ns ++ [.pointer (some ⟨bx, 0, none⟩), .pointer (some ⟨br, 0, none⟩)])) (hgrow : w0.grownBy w3 v.ownBlock) (hat : v.ownBlock = some g ∨ g = w2.heap.size + 1) (hlt : g < w3.heap.size) :
    ∃ ρ', Inv (w3.setCell ⟨yb, 0, none⟩ (.slice (some ⟨g, 0, none⟩) (ns.length + 1) cap)) B ρ' yb (ns ++ [newN bx bs br n]) ∧ Below B w (w3.setCell ⟨yb, 0, none⟩ (.slice (some ⟨g, 0, none⟩) (ns.length + 1) cap)) ∧ (∀ k, k < w.heap.size → ρ' k = ρ k) ∧
      (∀ k, k < w.heap.size → (ρ k).1 = 0 → ρ k ≠ (0, 1) → ρ k ≠ (0, 2) → (w3.setCell ⟨yb, 0, none⟩ (.slice (some ⟨g, 0, none⟩) (ns.length + 1) cap)).heap[k]? = w.heap[k]?) := by
  have nxs := hP.ne
  have l2x := hP.lt
  have l2s := hP.lts (by omega)
  have l2r := hR.lt
  have zy := y1.lt
  have z2 := b2.size
  have z3 := hgrow.size
  have hv : ∀ k, v.ownBlock = some k → k < w.heap.size := fun k hk => (y2.lt k hk).2
  have hgo : g < w.heap.size → ρ g = (0, 2) := fun hg => by
    rcases hat with e | e
    · exact y3 g e
    · omega
  have hgn : ∀ k, k < w2.heap.size → k = g → v.ownBlock = some k := fun k hk e => by
    rcases hat with e' | e'
    · rw [e]; exact e'
    · omega
  -- what stays
  have keep : ∀ k, k < w2.heap.size → some k ≠ v.ownBlock → k ≠ yb → (w3.setCell ⟨yb, 0, none⟩ (.slice (some ⟨g, 0, none⟩) (ns.length + 1) cap)).heap[k]? = w2.heap[k]? := fun k hk h1 h2 => by
    rw [heap_setCell_other _ _ _ _ h2, hgrow.block k (by omega) h1, b0.block k hk]
  refine ⟨fun k => if k = g then (0, 2) else if k = bx then (ns.length + 1, 0) else if k = bs then (ns.length + 1, 1) else if k = br then (ns.length + 1, 2) else ρ k, ?_, ?_, ?_, ?_⟩
  rotate_left
  · refine ⟨hgrow.os.trans (b0.os.trans b2.os), hgrow.tape.trans (b0.tape.trans b2.tape), hgrow.output.trans (b0.output.trans b2.output), by simp; omega, fun k hk => ?_⟩
    have hk' := h.hB
    rw [keep k (by omega) (fun e => by have := (y2.lt k e.symm).1; omega) (by have := h.yB; omega), b2.block k (by omega)]
  · intro k hk
    by_cases e : k = g
    · subst e; simp only [if_true]; exact (hgo hk).symm
    · simp only [e, if_false]
      rw [if_neg (by omega), if_neg (by omega), if_neg (by omega)]
  · intro k hk _ h1 h2
    rw [keep k (by omega) (fun e => h2 (y3 k e.symm)) (fun e => h1 (by rw [e]; exact h.py)), b2.block k hk]
  · have old : ∀ k, k < w.heap.size → (if k = g then ((0, 2) : Part) else if k = bx then (ns.length + 1, 0) else if k = bs then (ns.length + 1, 1) else if k = br then (ns.length + 1, 2) else ρ k) = ρ k := fun k hk => by
      by_cases e : k = g
      · subst e; simp only [if_true]; exact (hgo hk).symm
      · simp only [e, if_false]
        rw [if_neg (by omega), if_neg (by omega), if_neg (by omega)]
    have gx : bx ≠ g := fun e => by have := hv _ (hgn bx l2x e); omega
    have gs : bs ≠ g := fun e => by have := hv _ (hgn bs l2s e); omega
    have gr : br ≠ g := fun e => by have := hv _ (hgn br l2r e); omega
    have kx := keep bx l2x (fun e => by have := hv _ e.symm; omega) (by omega)
    have ks := keep bs l2s (fun e => by have := hv _ e.symm; omega) (by omega)
    have kr := keep br l2r (fun e => by have := hv _ e.symm; omega) (by omega)
    refine ⟨fun i N hi => ?_, fun k hk => ?_, fun k hk => ?_, ?_, ⟨.slice (some ⟨g, 0, none⟩) (ns.length + 1) cap, ?_, ?_, ?_⟩, ?_, h.yB⟩
    · by_cases hin : i < ns.length
      · rw [List.getElem?_append_left hin] at hi
        refine (h.nets i N hi).of (fun k hk hp => ?_) old
        rw [keep k (by omega) (fun e => by rw [y3 k e.symm] at hp; simp at hp) (fun e => by rw [e, h.py] at hp; simp at hp), b2.block k hk]
      · have hil := (List.getElem?_eq_some_iff.1 hi).1
        simp at hil
        have e : i = ns.length := by omega
        subst e
        have : newN bx bs br n = N := by simpa using hi
        subst this
        exact ⟨h2, h5, hP.of kx ks, hR.of kr, WR.nil _ _ _ _ _, WR.nil _ _ _ _ _, by simp only [newN, gx, if_false, if_true], by simp only [newN, gs, nxs.symm, if_false, if_true], by simp only [newN, gr, nxr.symm, nsr.symm, if_false, if_true], fun _ _ _ => rfl⟩
    · have hk' : w3.heap.size ≤ k := by simpa using hk
      rw [if_neg (by omega), if_neg (by omega), if_neg (by omega), if_neg (by omega)]
      exact h.new k (by omega)
    · rw [old k (by have := h.hB; omega)]; exact h.low k hk
    · have := h.hB; simp; omega
    · have yw : Whole w3 yb 32 #[v, .slice none 0 0] := by
        refine y1.of ?_
        rw [hgrow.block yb (by omega) (fun e => by have h1 := y3 yb e.symm; rw [h.py] at h1; simp at h1), b0.block yb (by omega), b2.block yb zy]
      have := yw.is
      exact ⟨by rw [heap_setCell_same w3 yb 0 _ 32 _ this]; rfl⟩
    · rw [ptrs_append, List.length_append]
      refine ownsRow_of ho fun k hk => heap_setCell_other _ _ _ _ ?_
      intro e
      have ek : g = k := by simpa [Value.ownBlock] using hk
      have e : k = yb := e
      rcases hat with e' | e'
      · have h1 := y3 g e'; rw [ek, e, h.py] at h1; simp at h1
      · omega
    · intro k hk
      have ek : g = k := by simpa [Value.ownBlock] using hk
      simp [ek]
    · rw [old yb zy]; exact h.py
theorem infoB : ∃ i z, Try.prog.info? 42 = some i ∧ i.zero = some z ∧ i.size = 2 ∧ i.bytes = 16 ∧ z.cells.size = 2 := by
  have h : (match Try.prog.info? 42 with | some i => (match i.zero with | some z => i.size == 2 && i.bytes == 16 && z.cells.size == 2 | none => false) | none => false) = true := by kernel_rfl
  cases hi : Try.prog.info? 42 with
  | none => simp [hi] at h
  | some i =>
    cases hz : i.zero with
    | none => simp [hi, hz] at h
    | some z => simp [hi, hz] at h; exact ⟨i, z, rfl, hz, h.1.1, h.1.2, h.2⟩
end Go.Proofs.Ytgimhfbpipgoeaa
