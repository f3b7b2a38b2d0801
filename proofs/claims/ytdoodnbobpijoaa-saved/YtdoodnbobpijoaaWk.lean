import Derived.Test.YtdoodnbobpijoaaProG
import Derived.Test.YtdoodnbobpijoaaProR
namespace Go.Proofs.Ytdoodnbobpijoaa
open Go.RowKit

/-! ### Walks by hand through a region, in worlds of which something is held -/
section
variable {P : Program} {md : Region.Mode} {ops : Array Oper} {Q : Exit → Act → World → Prop} {S : World → Prop}
theorem held_hq {fuel : Nat} {listed : Array Bool} {a : Act} {w : World} (hQ : ∀ c a x v w, Q (.panic c) (a.put x v) w → Q (.panic c) a w)
    (h : (∀ c a x v w, Q (.panic c) (a.put x v) w → Q (.panic c) a w) → wpAnyH P md ops Q S fuel listed a w) : wpAnyH P md ops Q S fuel listed a w := h hQ
theorem held_un {fuel : Nat} {listed : Array Bool} {a : Act} {w : World} {oi : Oper} (i : Nat) (x : Option Nat) (hQ : ∀ c a x v w, Q (.panic c) (a.put x v) w → Q (.panic c) a w) (hS : S w) (hi : ops[i]? = some oi) (hx : oi.dst = x)
    (hs : Region.noSelect ops = true) (hf : Region.free md ops listed i = true) (hr : (Region.ready md ops listed).contains i = true) (hw : Region.wanted oi (yielded ops a.tmps) = false)
    (h : wpAnyH P md ops Q S fuel (listed.setIfInBounds i true) (a.put x undef) w) : wpAnyH P md ops Q S (fuel + 1) listed a w :=
  wpAnyH_take hi hs hf hr (fun c _ w h => hQ c _ _ _ w h) (.inr ⟨hw, rfl⟩) hS (by rw [hx]; exact h)
theorem held_to {fuel : Nat} {listed : Array Bool} {a : Act} {w : World} {oi : Oper} (i : Nat) (x : Option Nat) (v : Value) (hQ : ∀ c a x v w, Q (.panic c) (a.put x v) w → Q (.panic c) a w) (hS : S w) (hi : ops[i]? = some oi) (hx : oi.dst = x)
    (hs : Region.noSelect ops = true) (hf : Region.free md ops listed i = true) (hr : (Region.ready md ops listed).contains i = true) (hw : Region.wanted oi (yielded ops a.tmps) = true)
    (hv : ∀ w, S w → (execOp a.eval oi).run P w = .ok (.value v) w)
    (h : wpAnyH P md ops Q S fuel (listed.setIfInBounds i true) (a.put x v) w) : wpAnyH P md ops Q S (fuel + 1) listed a w :=
  wpAnyH_take hi hs hf hr (fun c _ w h => hQ c _ _ _ w h) (.inl ⟨hw, hv⟩) hS (by rw [hx]; exact h)
end
/-- A row of cells is loaded. -/
theorem held_row {md : Region.Mode} {ops : Array Oper} {Q : Exit → Act → World → Prop} {S : World → Prop} {fuel : Nat} {listed : Array Bool} {a : Act} {w : World} {oi : Oper} {t : TypeId} {n : Nat} {d : TypeDesc} (hu : Try.prog.underlying t = some d) (hd : d.isRow = true) (hn : (Try.prog.info? t).map (·.size) = some n)
    (i : Nat) (x : Option Nat) (T : Array Value) (b o : Nat) (y : Operand) (hQ : ∀ c a x v w, Q (.panic c) (a.put x v) w → Q (.panic c) a w) (hS : S w) (hi : ops[i]? = some oi) (hx : oi.dst = x)
    (hs : Region.noSelect ops = true) (hf : Region.free md ops listed i = true) (hr : (Region.ready md ops listed).contains i = true) (hw : Region.wanted oi (yielded ops a.tmps) = true)
    (ho : oi.op = .load t y) (hy : a.eval y = .pointer (some ⟨b, o, none⟩)) (hv : ∀ w, S w → midA w b o n = T ∧ MidOk w b o n)
    (h : wpAnyH Try.prog md ops Q S fuel (listed.setIfInBounds i true) (a.put x (.agg T)) w) : wpAnyH Try.prog md ops Q S (fuel + 1) listed a w := by
  refine held_to i x (.agg T) hQ hS hi hx hs hf hr hw (fun w hS => ?_) h
  obtain ⟨ds, op, ty, ps, af, g⟩ := oi
  simp only at ho
  subst ho
  have hvb : vb (a.eval y) = b := by rw [hy]; rfl
  have hvo : vo (a.eval y) = o := by rw [hy]; rfl
  have := load_rule hu hd hn w a.eval y ds ty ps af g (by rw [hvb, hvo]; exact hy) (by rw [hvb, hvo]; exact (hv w hS).2)
  rw [this, hvb, hvo, (hv w hS).1]
end Go.Proofs.Ytdoodnbobpijoaa
