import Derived.Test.YtgimhfbpipgoeaaRows
import Derived.WalkKit
import Derived.WalkSpells
import Derived.WalkLawsBesides
import Derived.LoopN
import Derived.Deep.QuietTactic
import Derived.BigQuiet
import Derived.Deep.RegionHeld3
import Derived.Deep.AppendLies
import Derived.Deep.MidRow
namespace Go.Proofs.Ytgimhfbpipgoeaa
open Go.RowKit

/-- An int of Go. -/
abbrev I (n : Int) : Value := .int .i64 n

/-- Nothing but the blocks of S, and new ones, has turned. -/
structure Only (S : Nat → Prop) (w w' : World) : Prop where
  os : w'.os = w.os
  tape : w'.tape = w.tape
  output : w'.output = w.output
  size : w.heap.size ≤ w'.heap.size
  block : ∀ k, k < w.heap.size → ¬ S k → w'.heap[k]? = w.heap[k]?

theorem Only.refl (S : Nat → Prop) (w : World) : Only S w w := ⟨rfl, rfl, rfl, Nat.le_refl _, fun _ _ _ => rfl⟩
theorem Only.trans {S T : Nat → Prop} {a b c : World} (h : Only S a b) (k : Only T b c) (hT : ∀ i, i < a.heap.size → T i → S i) : Only S a c :=
  ⟨k.os.trans h.os, k.tape.trans h.tape, k.output.trans h.output, Nat.le_trans h.size k.size, fun i hi hs => (k.block i (Nat.lt_of_lt_of_le hi h.size) (fun ht => hs (hT i hi ht))).trans (h.block i hi hs)⟩
theorem Only.ofBelow {S : Nat → Prop} {w w' : World} (h : Below w.heap.size w w') : Only S w w' := ⟨h.os, h.tape, h.output, h.size, fun k hk _ => h.block k hk⟩
theorem Only.cell {S : Nat → Prop} {w w' : World} (h : Only S w w') {p : Addr} (hp : p.block < w.heap.size) (hs : ¬ S p.block) : w'.cell? p = w.cell? p := World.cell?_of_block (w := w) (h.block p.block hp hs)
theorem Only.frozen {S : Nat → Prop} {w w' : World} (h : Only S w w') {p : Addr} (hp : p.block < w.heap.size) (hs : ¬ S p.block) : w'.frozen? p = w.frozen? p := World.frozen?_of_block (w := w) (h.block p.block hp hs)
theorem Only.drew {S : Nat → Prop} {a w : World} (h : Only S a w) : Only S a w.drew := ⟨h.os, h.tape, h.output, h.size, h.block⟩
theorem Only.drewN {S : Nat → Prop} {a w : World} (h : Only S a w) (n : Nat) : Only S a (w.drewN n) := ⟨h.os, h.tape, h.output, h.size, h.block⟩
theorem Only.alloc {S : Nat → Prop} {a w : World} (h : Only S a w) (o : Obj) : Only S a (w.alloc o) :=
  ⟨h.os, h.tape, h.output, by have := h.size; simp; omega, fun k hk hs => (Below.heap_alloc w o k (Nat.lt_of_lt_of_le hk h.size)).trans (h.block k hk hs)⟩
theorem Only.setCell {S : Nat → Prop} {a w : World} (h : Only S a w) {p : Addr} (hp : S p.block ∨ a.heap.size ≤ p.block) (u : Value) : Only S a (w.setCell p u) :=
  ⟨h.os, h.tape, h.output, by have := h.size; simp; omega, fun k hk hs => (Below.heap_setCell w p u k (fun e => by rcases hp with hp | hp; exact hs (e ▸ hp); omega)).trans (h.block k hk hs)⟩

theorem lt_of_cell {w : World} {b o : Nat} {v : Value} (h : w.cell? ⟨b, o, none⟩ = some v) : b < w.heap.size := by
  rcases Nat.lt_or_ge b w.heap.size with hlt | hge
  · exact hlt
  · simp [World.cell?, Array.getElem?_eq_none hge] at h

theorem rangeAt_head {w : World} {b : Nat} {C : Array Value} {t : TypeId} {fr : Nat × Nat} (hb : w.heap[b]? = some (.cells C t fr)) : w.rangeAt b 0 C.toList := fun j v hv => by
  rw [Nat.zero_add, cell_of_row w b j C t fr hb]; simpa using hv
theorem there_head {w : World} {b : Nat} {C : Array Value} {t : TypeId} (hb : w.heap[b]? = some (.cells C t (0, 0))) (n : Nat) (hn : n ≤ C.size) : w.there b 0 n := fun j hj => by
  rw [Nat.zero_add, cell_of_row w b j C t (0, 0) hb, frozen_of_row w b j C t hb]
  refine ⟨?_, rfl⟩
  rw [Array.getElem?_eq_getElem (by omega)]; rfl

/-- An operation whose run is known. -/
theorem wpList_run {P : Program} {ops : Array Oper} {rest : List Oper} {o : Oper} {a : Act} {w : World} {Q : Exit → Act → World → Prop} (hgd : o.guard = none) (v : Value) (w' : World)
    (hr : (execOp a.eval o).run P w = .ok (.value v) w') (h : wpList P ops Q rest (a.put o.dst v) w') : wpList P ops Q (o :: rest) a w :=
  wpList_plain hgd fun _ hK => by unfold Oper.wp; rw [hr]; exact hK _ _ h

/-- A new variable, its zero value under a name. -/
theorem wpList_alloc_z {P : Program} {ops : Array Oper} {rest : List Oper} {o : Oper} {a : Act} {w : World} {Q : Exit → Act → World → Prop} (hgd : o.guard = none) (t : TypeId) (ho : o.op = .alloc t) (Z : Array Value)
    (hz : ∀ w, (Instr.alloc t true (.tuple #[])).run P w = .ok (.pointer (some ⟨w.heap.size, 0, none⟩)) (w.alloc (.cells Z t)))
    (h : wpList P ops Q rest (a.put o.dst (.pointer (some ⟨w.heap.size, 0, none⟩))) (w.alloc (.cells Z t))) : wpList P ops Q (o :: rest) a w :=
  wpList_run hgd _ _ (by simp only [execOp, ho, Sem.run_bind, hz, Result.andThen_ok, Sem.run_pure]) h

/-- A store over the whole of a block. -/
theorem wpList_store_row {P : Program} {ops : Array Oper} {rest : List Oper} {op : Oper} {a : Act} {w : World} {Q : Exit → Act → World → Prop} (hgd : op.guard = none) (ty : TypeId) (x y : Operand) (ho : op.op = .store ty x y)
    (b : Nat) (cells C : Array Value) (t : TypeId) (hx : a.eval x = .pointer (some ⟨b, 0, none⟩)) (hy : a.eval y = .agg cells)
    (hb : w.heap[b]? = some (.cells C t (0, 0))) (hs : C.size = cells.size) (hi : (P.info? ty).map (·.size) = some cells.size) (h1 : cells.all (·.oneCell') = true)
    (h : ∀ w1 : World, w1.heap[b]? = some (.cells cells t (0, 0)) → w1.heap.size = w.heap.size → (∀ k, k ≠ b → w1.heap[k]? = w.heap[k]?) → w1.os = w.os → w1.tape = w.tape → w1.output = w.output → wpList P ops Q rest (a.put op.dst undef) w1) : wpList P ops Q (op :: rest) a w := by
  refine wpList_store_mid hgd ty x y ho b 0 cells hx hy (there_head hb _ (by omega)) hi h1 ?_
  have hsz : ∀ (vs : List Value) (o : Nat) (w : World), (w.setCells b o vs).heap.size = w.heap.size := fun vs => by
    induction vs with
    | nil => intro o w; rfl
    | cons v r ih => intro o w; rw [World.setCells, ih]; simp
  have hot : ∀ (vs : List Value) (o : Nat) (w : World) (k : Nat), k ≠ b → (w.setCells b o vs).heap[k]? = w.heap[k]? := fun vs => by
    induction vs with
    | nil => intro o w k _; rfl
    | cons v r ih => intro o w k hk; rw [World.setCells, ih _ _ _ hk, heap_setCell_other _ _ _ _ hk]
  have hsh : ∀ (vs : List Value) (o : Nat) (w : World) (C : Array Value), w.heap[b]? = some (.cells C t (0, 0)) → ∃ C', (w.setCells b o vs).heap[b]? = some (.cells C' t (0, 0)) ∧ C'.size = C.size := fun vs => by
    induction vs with
    | nil => intro o w C hC; exact ⟨C, hC, rfl⟩
    | cons v r ih =>
      intro o w C hC
      rw [World.setCells]
      obtain ⟨C', h1, h2⟩ := ih (o + 1) (w.setCell ⟨b, o, none⟩ v) (C.setIfInBounds o v) (by rw [heap_setCell_same w b o C t v hC])
      exact ⟨C', h1, by simpa using h2⟩
  have hos : ∀ (vs : List Value) (o : Nat) (w : World), (w.setCells b o vs).os = w.os ∧ (w.setCells b o vs).tape = w.tape ∧ (w.setCells b o vs).output = w.output := fun vs => by
    induction vs with
    | nil => intro o w; exact ⟨rfl, rfl, rfl⟩
    | cons v r ih => intro o w; rw [World.setCells]; exact ⟨(ih _ _).1, (ih _ _).2.1, (ih _ _).2.2⟩
  obtain ⟨C', hC', hC's⟩ := hsh cells.toList 0 w C hb
  refine h _ ?_ (hsz _ _ _) (hot _ _ _) (hos _ _ _).1 (hos _ _ _).2.1 (hos _ _ _).2.2
  rw [hC']
  have hr := World.rangeAt_setCells_same w b 0 cells.toList (there_head hb _ (by simp; omega))
  have : C' = cells := by
    apply Array.ext (by omega)
    intro i h1 h2
    have := hr i cells[i] (by simp [h2])
    rw [Nat.zero_add, cell_of_row _ b i C' t (0, 0) hC'] at this
    rw [Array.getElem?_eq_getElem h1] at this
    exact Option.some.inj this
  rw [this]

/-- Behind a store into a new block. -/
theorem below_row {B : Nat} {w w1 w2 : World} {b : Nat} (h : Below B w w1) (hb : B ≤ b) (g2 : w2.heap.size = w1.heap.size) (g3 : ∀ k, k ≠ b → w2.heap[k]? = w1.heap[k]?) (g4 : w2.os = w1.os) (g5 : w2.tape = w1.tape) (g6 : w2.output = w1.output) : Below B w w2 :=
  ⟨g4.trans h.os, g5.trans h.tape, g6.trans h.output, by have := h.size; omega, fun k hk => (g3 k (by omega)).trans (h.block k hk)⟩

def isB (n r : Int) : Bool := decide (0 ≤ r) && decide (r < n)
/-- What 'a pair of routers' answers. -/
def pairE (n a b : Int) : Int := if isB n a = true ∧ isB n b = true then (if a = b then 3 else 0) else 2
def upE (n r : Int) : Int := if isB n r = true then 0 else 2
theorem isB_true {n r : Int} (h : isB n r = true) : 0 ≤ r ∧ r < n := by simpa [isB] using h
theorem isB_false {n r : Int} (h : isB n r = false) : r < 0 ∨ n ≤ r := by
  by_cases h0 : 0 ≤ r
  · by_cases h1 : r < n
    · simp [isB, h0, h1] at h
    · right; omega
  · left; omega

def noneV : Array Value := #[I (-1), I 0, I 0, I 0, I 0]
def nothingV : Array Value := #[I (-1), I 0]
/-- The cells of what a router knows that learned nothing. -/
def blankLit : List Value := [I 0, I (-1), I 0, I 0, I 0, I 0, I (-1), I 0, I 0, I 0, I 0, I (-1), I 0, I 0, I 0, I 0, I (-1), I 0, I 0, I 0, I 0, I (-1), I 0, I 0, I 0, I 0, I (-1), I 0, I (-1), I 0, I (-1), I 0, I (-1), I 0, I (-1), I 0]
/-- The same, under a name that nothing lays open by itself. -/
def blankW (n : Nat) : List Value := if n = 0 then blankLit else blankW (n - 1)
def blankL : List Value := blankW 0
theorem blankL_eq : blankL = blankLit := by unfold blankL; rw [blankW]; rfl
theorem blankL_length : blankL.length = 36 := by rw [blankL_eq]; rfl
def blankA : Array Value := blankL.toArray
/-- The cells of such a router. -/
def bkL : List Value := blankLit ++ blankLit ++ [I 0, .bool false]
def bk (j : Nat) : Value := bkL.getD j (I 0)
theorem bk_next (d : Nat) (h : d < 5) : bk (1 + d * 5) = I (-1) := by
  rcases d with _ | _ | _ | _ | _ | d <;> first | rfl | omega
theorem bk_route (d k : Nat) (h : d < 5) (h0 : 0 < k) (h1 : k < 5) : bk (1 + d * 5 + k) = I 0 := by
  rcases d with _ | _ | _ | _ | _ | d <;> rcases k with _ | _ | _ | _ | _ | k <;> first | rfl | omega
theorem bk_best (d : Nat) (h : d < 5) : bk (26 + d * 2) = I (-1) ∧ bk (26 + d * 2 + 1) = I 0 := by
  rcases d with _ | _ | _ | _ | _ | d <;> first | exact ⟨rfl, rfl⟩ | omega
theorem bk_low (j : Nat) (h : j < 36) : blankL[j]? = some (bk j) ∧ bk (36 + j) = bk j := by
  rw [blankL_eq]
  have : ∀ j : Fin 36, blankLit[j.val]? = some (bk j.val) ∧ bk (36 + j.val) = bk j.val := by
    intro ⟨j, hj⟩
    (rcases j with _ | _ | _ | _ | _ | _ | _ | _ | _ | _ | _ | _ | _ | _ | _ | _ | _ | _ | _ | _ | _ | _ | _ | _ | _ | _ | _ | _ | _ | _ | _ | _ | _ | _ | _ | _ | j) <;> first | exact ⟨rfl, rfl⟩ | omega
  exact this ⟨j, h⟩
theorem blankA_size : blankA.size = 36 := by simp [blankA, blankL_length]
theorem blankA_one : blankA.all (·.oneCell') = true := by unfold blankA; rw [blankL_eq]; decide +kernel
theorem blankA_at (j : Nat) (h : j < 36) : blankA[j]? = some (bk j) := by have := (bk_low j h).1; simpa [blankA] using this

/-- The reference's net, as it lies in memory. -/
structure RN (w : World) (br n : Nat) (C : Nat → Nat → Int) (V : Nat → Nat → Value) : Prop where
  n : w.cell? ⟨br, 0, none⟩ = some (I n)
  r : ∀ i j, i < 5 → j < 74 → w.cell? ⟨br, 1 + i * 74 + j, none⟩ = some (bk j)
  c : ∀ a b, a < 5 → b < 5 → w.cell? ⟨br, 371 + a * 5 + b, none⟩ = some (I (C a b))
  v : ∀ a b, a < 5 → b < 5 → w.cell? ⟨br, 396 + a * 5 + b, none⟩ = some (V a b)
  fz : ∀ o, w.frozen? ⟨br, o, none⟩ = false
theorem RN.lt {w : World} {br n : Nat} {C : Nat → Nat → Int} {V : Nat → Nat → Value} (h : RN w br n C V) : br < w.heap.size := lt_of_cell h.n
theorem RN.of {w w' : World} {br n : Nat} {C : Nat → Nat → Int} {V : Nat → Nat → Value} (h : RN w br n C V) (hb : w'.heap[br]? = w.heap[br]?) : RN w' br n C V := by
  have hc : ∀ o, w'.cell? ⟨br, o, none⟩ = w.cell? ⟨br, o, none⟩ := fun o => World.cell?_of_block (w := w) hb
  have hf : ∀ o, w'.frozen? ⟨br, o, none⟩ = w.frozen? ⟨br, o, none⟩ := fun o => World.frozen?_of_block (w := w) hb
  exact ⟨by rw [hc]; exact h.n, fun i j hi hj => by rw [hc]; exact h.r i j hi hj, fun a b ha hb => by rw [hc]; exact h.c a b ha hb, fun a b ha hb => by rw [hc]; exact h.v a b ha hb, fun o => by rw [hf]; exact h.fz o⟩

end Go.Proofs.Ytgimhfbpipgoeaa
