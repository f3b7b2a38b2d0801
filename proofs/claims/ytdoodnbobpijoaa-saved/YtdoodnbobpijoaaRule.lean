import Derived.Test.YtdoodnbobpijoaaRefA
import Derived.Deep.DrawnRows
namespace Go.Proofs.Ytdoodnbobpijoaa
open Go.RowKit

theorem addr_ne {b o o' : Nat} (h : o ≠ o') : (⟨b, o, none⟩ : Addr) ≠ ⟨b, o', none⟩ := fun e => h (congrArg Addr.off e)
theorem setCells_block (b : Nat) : ∀ (vs : List Value) (o : Nat) (w : World), (w.setCells b o vs).heap.size = w.heap.size ∧ (∀ k, k ≠ b → (w.setCells b o vs).heap[k]? = w.heap[k]?) ∧ (w.setCells b o vs).os = w.os ∧ (w.setCells b o vs).tape = w.tape ∧ (w.setCells b o vs).output = w.output := fun vs => by
  induction vs with
  | nil => intro o w; exact ⟨rfl, fun _ _ => rfl, rfl, rfl, rfl⟩
  | cons v r ih =>
    intro o w
    rw [World.setCells]
    obtain ⟨h1, h2, h3, h4, h5⟩ := ih (o + 1) (w.setCell ⟨b, o, none⟩ v)
    exact ⟨by rw [h1]; simp, fun k hk => by rw [h2 k hk, heap_setCell_other _ _ _ _ hk], h3, h4, h5⟩
theorem Only.setCells {S : Nat → Prop} {a w : World} (h : Only S a w) {b : Nat} (hp : S b ∨ a.heap.size ≤ b) (o : Nat) (vs : List Value) : Only S a (w.setCells b o vs) := by
  obtain ⟨h1, h2, h3, h4, h5⟩ := setCells_block b vs o w
  refine ⟨h3.trans h.os, h4.trans h.tape, h5.trans h.output, by have := h.size; omega, fun k hk hs => ?_⟩
  rw [h2 k (by rintro rfl; rcases hp with hp | hp; exact hs hp; omega)]
  exact h.block k hk hs
def vb : Value → Nat
  | .pointer (some a) => a.block
  | _ => 0
def vo : Value → Nat
  | .pointer (some a) => a.off
  | _ => 0
theorem vb_ptr (a : Addr) : vb (.pointer (some a)) = a.block := rfl
theorem vo_ptr (a : Addr) : vo (.pointer (some a)) = a.off := rfl
/-! ### Rules for operations on values of many cells, at the operation's own level -/
/-- The n cells from an offset on, as an array. -/
def midA (w : World) (b o n : Nat) : Array Value := ((List.range n).map fun j => (w.cell? ⟨b, o + j, none⟩).getD undef).toArray
/-- They are all there. -/
def MidOk (w : World) (b o n : Nat) : Prop := ∀ j, j < n → (w.cell? ⟨b, o + j, none⟩).isSome = true
/-- A value of n cells. -/
structure AggOk (n : Nat) (v : Value) : Prop where
  form : v = .agg v.cells
  size : v.cells.size = n
  one : v.cells.all (·.oneCell') = true
def cellsL (v : Value) : List Value := v.cells.toList
theorem cellsL_agg (T : Array Value) : cellsL (.agg T) = T.toList := rfl
theorem MidOk.range {w : World} {b o n : Nat} (h : MidOk w b o n) : w.rangeAt b o (midA w b o n).toList := fun j v hv => by
  have hj : j < n := by have := (List.getElem?_eq_some_iff.1 hv).1; simpa [midA] using this
  obtain ⟨u, hu⟩ := Option.isSome_iff_exists.1 (h j hj)
  have : v = u := by simpa [midA, List.getElem?_map, List.getElem?_range hj, hu] using hv.symm
  rw [hu, this]
theorem midA_size (w : World) (b o n : Nat) : (midA w b o n).size = n := by simp [midA]
theorem midA_eq {w : World} {b o n : Nat} {T : Array Value} (hs : T.size = n) (hr : w.rangeAt b o T.toList) : midA w b o n = T ∧ MidOk w b o n := by
  constructor
  · apply Array.ext (by rw [midA_size, hs])
    intro i h1 h2
    have := hr i T[i] (by simp [h2])
    simp [midA, this]
  · intro j hj
    have h2 : j < T.size := by omega
    rw [hr j T[j] (by simp [h2])]; rfl
theorem load_rule {t : TypeId} {n : Nat} {d : TypeDesc} (hu : Try.prog.underlying t = some d) (hd : d.isRow = true) (hi : (Try.prog.info? t).map (·.size) = some n)
    (w : World) (ρ : Operand → Value) (x : Operand) (ds : Option Tmp) (ty : TypeId) (ps : String) (af : Array Edge) (g : Option (Nat × Bool))
    (h1 : ρ x = .pointer (some ⟨vb (ρ x), vo (ρ x), none⟩)) (h2 : MidOk w (vb (ρ x)) (vo (ρ x)) n) :
    (execOp ρ { dst := ds, op := .load t x, type := ty, pos := ps, after := af, guard := g }).run Try.prog w = .ok (.value (.agg (midA w (vb (ρ x)) (vo (ρ x)) n))) w := by
  have := run_loadAt_mid (P := Try.prog) w _ _ t _ d h2.range hu hd (by rw [hi]; simp [midA_size])
  rw [← h1] at this
  simp only [execOp, Sem.run_bind, this, Result.andThen_ok, Sem.run_pure]
theorem store_rule {t : TypeId} {n : Nat} (hi : (Try.prog.info? t).map (·.size) = some n)
    (w : World) (ρ : Operand → Value) (x y : Operand) (ds : Option Tmp) (ty : TypeId) (ps : String) (af : Array Edge) (g : Option (Nat × Bool))
    (h1 : ρ x = .pointer (some ⟨vb (ρ x), vo (ρ x), none⟩)) (h3 : AggOk n (ρ y)) (h2 : w.there (vb (ρ x)) (vo (ρ x)) n) :
    (execOp ρ { dst := ds, op := .store t x y, type := ty, pos := ps, after := af, guard := g }).run Try.prog w = .ok .skip (w.setCells (vb (ρ x)) (vo (ρ x)) (cellsL (ρ y))) := by
  have := run_storeAt_mid (P := Try.prog) w _ _ t (ρ y).cells (by rw [h3.size]; exact h2) (by rw [hi, h3.size]) h3.one
  rw [← h1, ← h3.form] at this
  simp only [execOp, Sem.run_bind, this, Result.andThen_ok, Sem.run_pure]
  rfl
theorem alloc_rule {t : TypeId} {Z : Array Value} (hz : ∀ w, (Instr.alloc t true (.tuple #[])).run Try.prog w = .ok (.pointer (some ⟨w.heap.size, 0, none⟩)) (w.alloc (.cells Z t)))
    (w : World) (ρ : Operand → Value) (ds : Option Tmp) (ty : TypeId) (ps : String) (af : Array Edge) (g : Option (Nat × Bool)) :
    (execOp ρ { dst := ds, op := .alloc t, type := ty, pos := ps, after := af, guard := g }).run Try.prog w = .ok (.value (.pointer (some ⟨w.heap.size, 0, none⟩))) (w.alloc (.cells Z t)) := by
  simp only [execOp, Sem.run_bind, hz, Result.andThen_ok, Sem.run_pure]

theorem midA_of {w w' : World} {b : Nat} (hb : w'.heap[b]? = w.heap[b]?) (o n : Nat) : midA w' b o n = midA w b o n := by
  unfold midA
  simp only [World.cell?_of_block (w := w) (a := ⟨b, _, none⟩) hb]
theorem MidOk.of {w w' : World} {b o n : Nat} (h : MidOk w b o n) (hb : w'.heap[b]? = w.heap[b]?) : MidOk w' b o n := fun j hj => by
  rw [World.cell?_of_block (w := w) (a := ⟨b, _, none⟩) hb]; exact h j hj
/-! ### Blocks -/
/-- A block, whole. -/
structure Whole (w : World) (b : Nat) (t : TypeId) (C : Array Value) : Prop where
  is : w.heap[b]? = some (.cells C t (0, 0))
theorem Whole.lt {w : World} {b : Nat} {t : TypeId} {C : Array Value} (h : Whole w b t C) : b < w.heap.size := (Array.getElem?_eq_some_iff.1 h.is).1
theorem Whole.of {w w' : World} {b : Nat} {t : TypeId} {C : Array Value} (h : Whole w b t C) (hb : w'.heap[b]? = w.heap[b]?) : Whole w' b t C := ⟨hb.trans h.is⟩
theorem Whole.new (w : World) (t : TypeId) (C : Array Value) : Whole (w.alloc (.cells C t)) w.heap.size t C := ⟨heap_alloc_new w _⟩
theorem Whole.alloc {w : World} {b : Nat} {t : TypeId} {C : Array Value} (h : Whole w b t C) (o : Obj) : Whole (w.alloc o) b t C := h.of (Below.heap_alloc w o b h.lt)
theorem Whole.drew {w : World} {b : Nat} {t : TypeId} {C : Array Value} (h : Whole w b t C) : Whole w.drew b t C := h.of rfl
theorem Whole.setCell {w : World} {b : Nat} {t : TypeId} {C : Array Value} (h : Whole w b t C) {p : Addr} (hp : b ≠ p.block) (v : Value) : Whole (w.setCell p v) b t C := h.of (heap_setCell_other w p b v hp)
theorem Whole.setCells {w : World} {b : Nat} {t : TypeId} {C : Array Value} (h : Whole w b t C) {g : Nat} (hp : b ≠ g) (o : Nat) (vs : List Value) : Whole (w.setCells g o vs) b t C := h.of ((setCells_block g vs o w).2.1 b hp)
theorem Whole.below {w w' : World} {b : Nat} {t : TypeId} {C : Array Value} (h : Whole w b t C) (hb : Below w.heap.size w w') : Whole w' b t C := h.of (hb.block b h.lt)
theorem Whole.cell {w : World} {b : Nat} {t : TypeId} {C : Array Value} (h : Whole w b t C) (o : Nat) : w.cell? ⟨b, o, none⟩ = C[o]? := cell_of_row w b o C t (0, 0) h.is
theorem Whole.frozen {w : World} {b : Nat} {t : TypeId} {C : Array Value} (h : Whole w b t C) (o : Nat) : w.frozen? ⟨b, o, none⟩ = false := frozen_of_row w b o C t h.is
theorem Whole.mid {w : World} {b : Nat} {t : TypeId} {C : Array Value} (h : Whole w b t C) {n : Nat} (hs : C.size = n) : midA w b 0 n = C ∧ MidOk w b 0 n := midA_eq hs (rangeAt_head h.is)
theorem Whole.there {w : World} {b : Nat} {t : TypeId} {C : Array Value} (h : Whole w b t C) {n : Nat} (hs : C.size = n) : w.there b 0 n := there_head h.is n (by omega)
theorem Whole.over {w : World} {b : Nat} {t : TypeId} {C : Array Value} (h : Whole w b t C) (vs : Array Value) (hs : vs.size = C.size) : Whole (w.setCells b 0 vs.toList) b t vs := by
  have hsh : ∀ (l : List Value) (o : Nat) (w : World) (C : Array Value), w.heap[b]? = some (.cells C t (0, 0)) → ∃ C', (w.setCells b o l).heap[b]? = some (.cells C' t (0, 0)) ∧ C'.size = C.size := fun l => by
    induction l with
    | nil => intro o w C hC; exact ⟨C, hC, rfl⟩
    | cons v r ih =>
      intro o w C hC
      rw [World.setCells]
      obtain ⟨C', h1, h2⟩ := ih (o + 1) (w.setCell ⟨b, o, none⟩ v) (C.setIfInBounds o v) (by rw [heap_setCell_same w b o C t v hC])
      exact ⟨C', h1, by simpa using h2⟩
  obtain ⟨C', hC', hC's⟩ := hsh vs.toList 0 w C h.is
  have hr := World.rangeAt_setCells_same w b 0 vs.toList (there_head h.is _ (by simp; omega))
  have : C' = vs := by
    apply Array.ext (by omega)
    intro i h1 h2
    have := hr i vs[i] (by simp [h2])
    rw [Nat.zero_add, cell_of_row _ b i C' t (0, 0) hC'] at this
    rw [Array.getElem?_eq_getElem h1] at this
    exact Option.some.inj this
  exact ⟨by rw [hC', this]⟩
/-- A block of n cells, whatever they hold. -/
structure Row (w : World) (b : Nat) (t : TypeId) (n : Nat) : Prop where
  is : ∃ C, Whole w b t C ∧ C.size = n ∧ C.all (·.oneCell') = true
theorem Row.lt {w : World} {b : Nat} {t : TypeId} {n : Nat} (h : Row w b t n) : b < w.heap.size := let ⟨_, h, _⟩ := h.is; h.lt
theorem Row.of {w w' : World} {b : Nat} {t : TypeId} {n : Nat} (h : Row w b t n) (hb : w'.heap[b]? = w.heap[b]?) : Row w' b t n := let ⟨C, h1, h2⟩ := h.is; ⟨C, h1.of hb, h2⟩
theorem Row.alloc {w : World} {b : Nat} {t : TypeId} {n : Nat} (h : Row w b t n) (o : Obj) : Row (w.alloc o) b t n := h.of (Below.heap_alloc w o b h.lt)
theorem Row.drew {w : World} {b : Nat} {t : TypeId} {n : Nat} (h : Row w b t n) : Row w.drew b t n := h.of rfl
theorem Row.below {w w' : World} {b : Nat} {t : TypeId} {n : Nat} (h : Row w b t n) (hb : Below w.heap.size w w') : Row w' b t n := h.of (hb.block b h.lt)
theorem Row.setCell {w : World} {b : Nat} {t : TypeId} {n : Nat} (h : Row w b t n) (p : Addr) (v : Value) (hv : v.oneCell' = true) : Row (w.setCell p v) b t n := by
  by_cases hp : b = p.block
  · obtain ⟨C, h1, h2, h3⟩ := h.is
    obtain ⟨pb, po, ps⟩ := p
    simp only at hp
    subst hp
    cases ps with
    | none =>
      refine ⟨C.setIfInBounds po v, ⟨by rw [heap_setCell_same w b po C t v h1.is]⟩, by simpa using h2, ?_⟩
      rw [Array.all_eq_true_iff_forall_mem] at h3 ⊢
      intro u hu
      rcases Array.mem_or_eq_of_mem_setIfInBounds hu with hu | hu
      · exact h3 u hu
      · rw [hu]; exact hv
    | some s =>
      refine ⟨C, ⟨?_⟩, h2, h3⟩
      have := h1.is
      simp only [World.setCell, Array.getElem?_modify, if_true, this, Option.map_some, Option.isSome_some]
  · exact h.of (heap_setCell_other w p b v hp)
theorem Row.frozen {w : World} {b : Nat} {t : TypeId} {n : Nat} (h : Row w b t n) (o : Nat) : w.frozen? ⟨b, o, none⟩ = false := let ⟨_, h, _⟩ := h.is; h.frozen o
theorem Row.cell {w : World} {b : Nat} {t : TypeId} {n : Nat} (h : Row w b t n) (o : Nat) (ho : o < n) : ∃ v, w.cell? ⟨b, o, none⟩ = some v := by
  obtain ⟨C, h1, h2, _⟩ := h.is
  rw [h1.cell o]
  exact ⟨C[o], by rw [Array.getElem?_eq_getElem (by omega)]⟩
theorem Whole.row {w : World} {b : Nat} {t : TypeId} {C : Array Value} (h : Whole w b t C) {n : Nat} (hs : C.size = n) (h1 : C.all (·.oneCell') = true) : Row w b t n := ⟨C, h, hs, h1⟩

theorem Below.setCells {B : Nat} {a w : World} (h : Below B a w) {b : Nat} (hp : B ≤ b) (o : Nat) (vs : List Value) : Below B a (w.setCells b o vs) := by
  obtain ⟨h1, h2, h3, h4, h5⟩ := setCells_block b vs o w
  exact ⟨h3.trans h.os, h4.trans h.tape, h5.trans h.output, by have := h.size; omega, fun k hk => (h2 k (by omega)).trans (h.block k hk)⟩
theorem size_setCells (b o : Nat) (vs : List Value) (w : World) : (w.setCells b o vs).heap.size = w.heap.size := (setCells_block b vs o w).1

theorem Whole.setAt {w : World} {b : Nat} {t : TypeId} {C : Array Value} (h : Whole w b t C) (o : Nat) (v : Value) : Whole (w.setCell ⟨b, o, none⟩ v) b t (C.setIfInBounds o v) := ⟨by rw [heap_setCell_same w b o C t v h.is]⟩
theorem Whole.drewN {w : World} {b : Nat} {t : TypeId} {C : Array Value} (h : Whole w b t C) (n : Nat) : Whole (w.drewN n) b t C := ⟨h.is⟩
/-- Ten and thirty-six zeros, under names that nothing lays open by itself. -/
def zerosW (m n : Nat) : List Value := if n = 0 then List.replicate m (I 0) else zerosW m (n - 1)
theorem zerosW_eq (m : Nat) : zerosW m 0 = List.replicate m (I 0) := by rw [zerosW]; rfl
def Zk : Array Value := (zerosW 36 0).toArray
def Zm : Array Value := (zerosW 10 0).toArray
theorem Zk_eq : Zk = Array.replicate 36 (I 0) := by unfold Zk; rw [zerosW_eq]; rfl
theorem Zm_eq : Zm = Array.replicate 10 (I 0) := by unfold Zm; rw [zerosW_eq]; rfl
theorem Zk_size : Zk.size = 36 := by rw [Zk_eq]; rfl
theorem Zm_size : Zm.size = 10 := by rw [Zm_eq]; rfl
theorem Zk_one : Zk.all (·.oneCell') = true := by rw [Zk_eq]; decide +kernel
theorem Zm_one : Zm.all (·.oneCell') = true := by rw [Zm_eq]; decide +kernel
theorem alT (w : World) : (Instr.alloc 153 true (.tuple #[])).run Try.prog w = .ok (.pointer (some ⟨w.heap.size, 0, none⟩)) (w.alloc (.cells Zk 153)) := by rw [Zk_eq]; kernel_rfl
theorem alM (w : World) : (Instr.alloc 164 true (.tuple #[])).run Try.prog w = .ok (.pointer (some ⟨w.heap.size, 0, none⟩)) (w.alloc (.cells Zm 164)) := by rw [Zm_eq]; kernel_rfl
theorem sizeT : (Try.prog.info? 153).map (·.size) = some 36 := by kernel_rfl
theorem sizeM : (Try.prog.info? 164).map (·.size) = some 10 := by kernel_rfl
theorem aggOk_tb (T : Tb) : AggOk 36 (.agg (tbA T)) := ⟨rfl, tbA_size T, tbA_one T⟩
theorem aggOk_mg (m : Nat → Bs) : AggOk 10 (.agg (mgA m)) := ⟨rfl, mgA_size m, mgA_one m⟩
theorem ldT (w : World) (ρ : Operand → Value) (x : Operand) (ds : Option Tmp) (ty : TypeId) (ps : String) (af : Array Edge) (g : Option (Nat × Bool))
    (h1 : ρ x = .pointer (some ⟨vb (ρ x), vo (ρ x), none⟩)) (h2 : MidOk w (vb (ρ x)) (vo (ρ x)) 36) :
    (execOp ρ { dst := ds, op := .load 153 x, type := ty, pos := ps, after := af, guard := g }).run Try.prog w = .ok (.value (.agg (midA w (vb (ρ x)) (vo (ρ x)) 36))) w :=
  load_rule Try.underlying153 rfl sizeT w ρ x ds ty ps af g h1 h2
theorem stT (w : World) (ρ : Operand → Value) (x y : Operand) (ds : Option Tmp) (ty : TypeId) (ps : String) (af : Array Edge) (g : Option (Nat × Bool))
    (h1 : ρ x = .pointer (some ⟨vb (ρ x), vo (ρ x), none⟩)) (h3 : AggOk 36 (ρ y)) (h2 : w.there (vb (ρ x)) (vo (ρ x)) 36) :
    (execOp ρ { dst := ds, op := .store 153 x y, type := ty, pos := ps, after := af, guard := g }).run Try.prog w = .ok .skip (w.setCells (vb (ρ x)) (vo (ρ x)) (cellsL (ρ y))) :=
  store_rule sizeT w ρ x y ds ty ps af g h1 h3 h2
theorem alcT (w : World) (ρ : Operand → Value) (ds : Option Tmp) (ty : TypeId) (ps : String) (af : Array Edge) (g : Option (Nat × Bool)) :
    (execOp ρ { dst := ds, op := .alloc 153, type := ty, pos := ps, after := af, guard := g }).run Try.prog w = .ok (.value (.pointer (some ⟨w.heap.size, 0, none⟩))) (w.alloc (.cells Zk 153)) :=
  alloc_rule alT w ρ ds ty ps af g
theorem ldM (w : World) (ρ : Operand → Value) (x : Operand) (ds : Option Tmp) (ty : TypeId) (ps : String) (af : Array Edge) (g : Option (Nat × Bool))
    (h1 : ρ x = .pointer (some ⟨vb (ρ x), vo (ρ x), none⟩)) (h2 : MidOk w (vb (ρ x)) (vo (ρ x)) 10) :
    (execOp ρ { dst := ds, op := .load 164 x, type := ty, pos := ps, after := af, guard := g }).run Try.prog w = .ok (.value (.agg (midA w (vb (ρ x)) (vo (ρ x)) 10))) w :=
  load_rule Try.underlying164 rfl sizeM w ρ x ds ty ps af g h1 h2
theorem stM (w : World) (ρ : Operand → Value) (x y : Operand) (ds : Option Tmp) (ty : TypeId) (ps : String) (af : Array Edge) (g : Option (Nat × Bool))
    (h1 : ρ x = .pointer (some ⟨vb (ρ x), vo (ρ x), none⟩)) (h3 : AggOk 10 (ρ y)) (h2 : w.there (vb (ρ x)) (vo (ρ x)) 10) :
    (execOp ρ { dst := ds, op := .store 164 x y, type := ty, pos := ps, after := af, guard := g }).run Try.prog w = .ok .skip (w.setCells (vb (ρ x)) (vo (ρ x)) (cellsL (ρ y))) :=
  store_rule sizeM w ρ x y ds ty ps af g h1 h3 h2
theorem alcM (w : World) (ρ : Operand → Value) (ds : Option Tmp) (ty : TypeId) (ps : String) (af : Array Edge) (g : Option (Nat × Bool)) :
    (execOp ρ { dst := ds, op := .alloc 164, type := ty, pos := ps, after := af, guard := g }).run Try.prog w = .ok (.value (.pointer (some ⟨w.heap.size, 0, none⟩))) (w.alloc (.cells Zm 164)) :=
  alloc_rule alM w ρ ds ty ps af g
/-! A slice of one, made of a value of ten cells. -/
theorem bslM (a0 a1 a2 a3 a4 a5 a6 a7 a8 a9 : Value) (w : World) : (Instr.buildSlice 158 1 #[(0, .agg #[a0, a1, a2, a3, a4, a5, a6, a7, a8, a9])]).run Try.prog w = .ok (.slice (some ⟨w.heap.size, 0, none⟩) 1 1) (w.alloc (.cells #[a0, a1, a2, a3, a4, a5, a6, a7, a8, a9] 164)) := by kernel_rfl
theorem bsM (w : World) (ρ : Operand → Value) (x : Operand) (ds : Option Tmp) (ty : TypeId) (ps : String) (af : Array Edge) (g : Option (Nat × Bool)) (h3 : AggOk 10 (ρ x)) :
    (execOp ρ { dst := ds, op := .buildSlice 158 1 #[(0, x)], type := ty, pos := ps, after := af, guard := g }).run Try.prog w = .ok (.value (.slice (some ⟨w.heap.size, 0, none⟩) 1 1)) (w.alloc (.cells (ρ x).cells 164)) := by
  have hr : (Instr.buildSlice 158 1 #[(0, ρ x)]).run Try.prog w = .ok (.slice (some ⟨w.heap.size, 0, none⟩) 1 1) (w.alloc (.cells (ρ x).cells 164)) := by
    rw [h3.form]
    have hs := h3.size
    generalize (ρ x).cells = T at hs
    obtain ⟨l⟩ := T
    simp only [List.size_toArray] at hs
    match l, hs with
    | [a0, a1, a2, a3, a4, a5, a6, a7, a8, a9], _ => exact bslM a0 a1 a2 a3 a4 a5 a6 a7 a8 a9 w
  simp only [execOp, Sem.run_bind, List.map_toArray, List.map_cons, List.map_nil, hr, Result.andThen_ok, Sem.run_pure]
theorem infoM : ∃ i z, Try.prog.info? 164 = some i ∧ i.zero = some z ∧ i.size = 10 ∧ i.bytes = 80 ∧ z.cells.size = 10 := by
  have h : (match Try.prog.info? 164 with | some i => (match i.zero with | some z => i.size == 10 && i.bytes == 80 && z.cells.size == 10 | none => false) | none => false) = true := by kernel_rfl
  cases hi : Try.prog.info? 164 with
  | none => simp [hi] at h
  | some i =>
    cases hz : i.zero with
    | none => simp [hi, hz] at h
    | some z => simp [hi, hz] at h; exact ⟨i, z, rfl, hz, h.1.1, h.1.2, h.2⟩
theorem results_cell2 {fn : Func} {p q : Tmp} {t u : TypeId} (h : fn.results = #[.cell p t, .cell q u]) (tmps : Array Value) (w : World) (g g' : Nat) (T U : Array Value)
    (hp : tmps.getD p undef = .pointer (some ⟨g, 0, none⟩)) (hq : tmps.getD q undef = .pointer (some ⟨g', 0, none⟩)) (hg : Whole w g t T) (hg' : Whole w g' u U) (d d' : TypeDesc)
    (hu : Try.prog.underlying t = some d) (hd : d.isRow = true) (hi : (Try.prog.info? t).map (·.size) = some T.size)
    (hu' : Try.prog.underlying u = some d') (hd' : d'.isRow = true) (hi' : (Try.prog.info? u).map (·.size) = some U.size) :
    (results fn tmps).run Try.prog w = .ok (.tuple #[.agg T, .agg U]) w := by
  have hp' : tmps[p]?.getD undef = .pointer (some ⟨g, 0, none⟩) := by simpa using hp
  have hq' : tmps[q]?.getD undef = .pointer (some ⟨g', 0, none⟩) := by simpa using hq
  have e1 := run_loadVar_row (P := Try.prog) w g t t T (0, 0) d hg.is hu (by cases d <;> simp_all [TypeDesc.isRow]) hi
  have e2 := run_loadVar_row (P := Try.prog) w g' u u U (0, 0) d' hg'.is hu' (by cases d' <;> simp_all [TypeDesc.isRow]) hi'
  simp [results, h, hp', hq', asAddr, e1, e2]

end Go.Proofs.Ytdoodnbobpijoaa
