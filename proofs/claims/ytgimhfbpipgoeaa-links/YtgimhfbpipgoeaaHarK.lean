import Derived.Test.YtgimhfbpipgoeaaHarJ
import Derived.Deep.QuietTactic
import Derived.BigQuiet
namespace Go.Proofs.Ytgimhfbpipgoeaa
open Go.RowKit

theorem step_all (yb B : Nat) (k u a b c : Int) (ρ : Nat → Part) (ns : List NetD) (w : World) (hI : Inv w B ρ yb ns) (hk : k = 1 ∨ k = 2 ∨ k = 3 ∨ k = 4 ∨ k = 6 ∨ k = 7) (hu0 : -9223372036854775808 ≤ u) (hu1 : u ≤ 9223372036854775807) (hL : ns.length + 1 ≤ maxLen) (hY : (ns.length + 1) * 16 ≤ 140737488355328) :
    Calls Try.prog 6 #[.pointer (some ⟨yb, 0, none⟩), opV k u a b c] w fun e w' => e = .returned (.bool true) ∧ ∃ ρ' ns', Inv w' B ρ' yb ns' ∧ Below B w w' ∧ ns.length ≤ ns'.length ∧ ns'.length ≤ ns.length + 1 ∧ Stays ρ ρ' w w' := by
  rcases hk with rfl | hk
  · exact step_new yb B a u b c ρ ns w hI hL hY
  · by_cases hne : ns = []
    · subst hne
      refine (step_empty yb B k u a b c ρ w hI (by omega)).mono fun e w' ⟨h1, h2⟩ => ?_
      exact ⟨h1, ρ, [], hI.below h2, h2.mono hI.hB, Nat.le_refl _, Nat.le_succ _, Stays.below h2⟩
    · rcases hk with rfl | rfl | rfl | rfl | rfl
      · exact step_link yb B u a b c ρ ns w hI hne hu0 hu1
      · exact step_dump yb B u a b c ρ ns w hI hne hu0 hu1
      · exact step_wait yb B u a b c ρ ns w hI hne hu0 hu1
      · exact step_route yb B u a b c ρ ns w hI hne hu0 hu1
      · exact step_best yb B u a b c ρ ns w hI hne hu0 hu1

/-- The kinds of this law, and whether one is among the first of them. -/
def kq : Nat → Int
  | 0 => 1 | 1 => 2 | 2 => 3 | 3 => 4 | 4 => 6 | _ => 7
def inB (κ : Int) : Nat → Bool
  | 0 => false
  | m + 1 => inB κ m || (κ == kq m)
theorem inB_six (κ : Int) (h : inB κ 6 = true) : κ = 1 ∨ κ = 2 ∨ κ = 3 ∨ κ = 4 ∨ κ = 6 ∨ κ = 7 := by
  simp [inB, kq] at h
  omega
def kindA : Array Value := #[I 1, I 2, I 3, I 4, I 6, I 7]
theorem kindA_at (m : Nat) (h : m < 6) : kindA[m]? = some (I (kq m)) := by
  rcases m with _ | _ | _ | _ | _ | _ | m
  · rfl
  · rfl
  · rfl
  · rfl
  · rfl
  · rfl
  · omega

/-- All but the draws is as it was. -/
structure Sim (w w' : World) : Prop where
  heap : w'.heap = w.heap
  os : w'.os = w.os
  tape : w'.tape = w.tape
  output : w'.output = w.output
theorem Sim.cell {w w' : World} (h : Sim w w') (p : Addr) : w'.cell? p = w.cell? p := World.cell?_of_block (w := w) (by rw [h.heap])
theorem Sim.below {w w' : World} (h : Sim w w') (B : Nat) : Below B w w' := ⟨h.os, h.tape, h.output, by rw [h.heap]; exact Nat.le_refl _, fun k _ => by rw [h.heap]⟩

/-- The script, as it lies in memory. -/
structure Scr (w : World) (sb so len : Nat) (kf uf af bf cf : Nat → Int) : Prop where
  k : ∀ i, i < len → w.cell? ⟨sb, so + i * 5, none⟩ = some (.int .i64 (kf i))
  u : ∀ i, i < len → w.cell? ⟨sb, so + i * 5 + 1, none⟩ = some (.int .i64 (uf i))
  a : ∀ i, i < len → w.cell? ⟨sb, so + i * 5 + 2, none⟩ = some (.int .i64 (af i))
  b : ∀ i, i < len → w.cell? ⟨sb, so + i * 5 + 3, none⟩ = some (.int .i64 (bf i))
  c : ∀ i, i < len → w.cell? ⟨sb, so + i * 5 + 4, none⟩ = some (.int .i64 (cf i))
  ok : ∀ i, i < len → -9223372036854775808 ≤ uf i ∧ uf i ≤ 9223372036854775807
theorem Scr.of {w w' : World} {sb so len : Nat} {kf uf af bf cf : Nat → Int} (h : Scr w sb so len kf uf af bf cf) (hb : w'.heap[sb]? = w.heap[sb]?) : Scr w' sb so len kf uf af bf cf := by
  have hc : ∀ o, w'.cell? ⟨sb, o, none⟩ = w.cell? ⟨sb, o, none⟩ := fun o => World.cell?_of_block (w := w) hb
  exact ⟨fun i hi => by rw [hc]; exact h.k i hi, fun i hi => by rw [hc]; exact h.u i hi, fun i hi => by rw [hc]; exact h.a i hi, fun i hi => by rw [hc]; exact h.b i hi, fun i hi => by rw [hc]; exact h.c i hi, h.ok⟩

/-- All that the play keeps from step to step. -/
structure Pl (w0 w : World) (B kb yb sb so len : Nat) (kf uf af bf cf : Nat → Int) (ρ : Nat → Part) (ns : List NetD) : Prop where
  inv : Inv w B ρ yb ns
  low : Below B w0 w
  kinds : Whole w kb 3 kindA
  pk : ρ kb = (0, 0)
  scr : Scr w sb so len kf uf af bf cf
theorem Pl.step {w0 w w' : World} {B kb yb sb so len : Nat} {kf uf af bf cf : Nat → Int} {ρ ρ' : Nat → Part} {ns ns' : List NetD} (h : Pl w0 w B kb yb sb so len kf uf af bf cf ρ ns) (hi : Inv w' B ρ' yb ns') (hb : Below B w w') (hs : Stays ρ ρ' w w') (hsb : sb < B) : Pl w0 w' B kb yb sb so len kf uf af bf cf ρ' ns' :=
  ⟨hi, h.low.trans hb, h.kinds.of (hs.2.1 kb h.kinds.lt (by rw [h.pk]) (by rw [h.pk]; simp) (by rw [h.pk]; simp)), by rw [hs.1 kb h.kinds.lt]; exact h.pk, h.scr.of (hb.block sb hsb)⟩
theorem Pl.sim {w0 w w' : World} {B kb yb sb so len : Nat} {kf uf af bf cf : Nat → Int} {ρ : Nat → Part} {ns : List NetD} (h : Pl w0 w B kb yb sb so len kf uf af bf cf ρ ns) (hs : Sim w w') : Pl w0 w' B kb yb sb so len kf uf af bf cf ρ ns :=
  ⟨h.inv.same hs.heap, h.low.trans (hs.below B), h.kinds.of (by rw [hs.heap]), h.pk, h.scr.of (by rw [hs.heap])⟩
end Go.Proofs.Ytgimhfbpipgoeaa
