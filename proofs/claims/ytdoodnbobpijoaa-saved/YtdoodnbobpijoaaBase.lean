import Derived.Test.YtdoodnbobpijoaaRows
import Derived.Test.YtdoodnbobpijoaaAbsL
import Derived.WalkKit
import Derived.WalkSpells
import Derived.WalkLawsBesides
import Derived.LoopN
import Derived.Deep.QuietTactic
import Derived.BigQuiet
import Derived.Deep.RegionHeld3
import Derived.Deep.AppendLies
import Derived.Deep.MidRow
namespace Go.Proofs.Ytdoodnbobpijoaa
open Go.RowKit

/-- An int of Go. -/
abbrev I (n : Int) : Value := .int .i64 n

/-- Nothing but the blocks of S, and new ones, has turned. -/
structure Only (S : Nat → Prop) (w w' : World) : Prop where
  os : w'.os = w.os
  tape : w'.tape = w.tape
  output : w'.output = w.output
  size : w.heap.size ≤ w'.heap.size
  block : ∀ k, k < w.heap.size → ¬ S k → w'.heap[k]? = w.heap[k]?

theorem Only.refl (S : Nat → Prop) (w : World) : Only S w w := ⟨rfl, rfl, rfl, Nat.le_refl _, fun _ _ _ => rfl⟩
theorem Only.trans {S T : Nat → Prop} {a b c : World} (h : Only S a b) (k : Only T b c) (hT : ∀ i, i < a.heap.size → T i → S i) : Only S a c :=
  ⟨k.os.trans h.os, k.tape.trans h.tape, k.output.trans h.output, Nat.le_trans h.size k.size, fun i hi hs => (k.block i (Nat.lt_of_lt_of_le hi h.size) (fun ht => hs (hT i hi ht))).trans (h.block i hi hs)⟩
theorem Only.ofBelow {S : Nat → Prop} {w w' : World} (h : Below w.heap.size w w') : Only S w w' := ⟨h.os, h.tape, h.output, h.size, fun k hk _ => h.block k hk⟩
theorem Only.cell {S : Nat → Prop} {w w' : World} (h : Only S w w') {p : Addr} (hp : p.block < w.heap.size) (hs : ¬ S p.block) : w'.cell? p = w.cell? p := World.cell?_of_block (w := w) (h.block p.block hp hs)
theorem Only.frozen {S : Nat → Prop} {w w' : World} (h : Only S w w') {p : Addr} (hp : p.block < w.heap.size) (hs : ¬ S p.block) : w'.frozen? p = w.frozen? p := World.frozen?_of_block (w := w) (h.block p.block hp hs)
theorem Only.drew {S : Nat → Prop} {a w : World} (h : Only S a w) : Only S a w.drew := ⟨h.os, h.tape, h.output, h.size, h.block⟩
theorem Only.drewN {S : Nat → Prop} {a w : World} (h : Only S a w) (n : Nat) : Only S a (w.drewN n) := ⟨h.os, h.tape, h.output, h.size, h.block⟩
theorem Only.alloc {S : Nat → Prop} {a w : World} (h : Only S a w) (o : Obj) : Only S a (w.alloc o) :=
  ⟨h.os, h.tape, h.output, by have := h.size; simp; omega, fun k hk hs => (Below.heap_alloc w o k (Nat.lt_of_lt_of_le hk h.size)).trans (h.block k hk hs)⟩
theorem Only.setCell {S : Nat → Prop} {a w : World} (h : Only S a w) {p : Addr} (hp : S p.block ∨ a.heap.size ≤ p.block) (u : Value) : Only S a (w.setCell p u) :=
  ⟨h.os, h.tape, h.output, by have := h.size; simp; omega, fun k hk hs => (Below.heap_setCell w p u k (fun e => by rcases hp with hp | hp; exact hs (e ▸ hp); omega)).trans (h.block k hk hs)⟩

theorem lt_of_cell {w : World} {b o : Nat} {v : Value} (h : w.cell? ⟨b, o, none⟩ = some v) : b < w.heap.size := by
  rcases Nat.lt_or_ge b w.heap.size with hlt | hge
  · exact hlt
  · simp [World.cell?, Array.getElem?_eq_none hge] at h

theorem rangeAt_head {w : World} {b : Nat} {C : Array Value} {t : TypeId} {fr : Nat × Nat} (hb : w.heap[b]? = some (.cells C t fr)) : w.rangeAt b 0 C.toList := fun j v hv => by
  rw [Nat.zero_add, cell_of_row w b j C t fr hb]; simpa using hv
theorem there_head {w : World} {b : Nat} {C : Array Value} {t : TypeId} (hb : w.heap[b]? = some (.cells C t (0, 0))) (n : Nat) (hn : n ≤ C.size) : w.there b 0 n := fun j hj => by
  rw [Nat.zero_add, cell_of_row w b j C t (0, 0) hb, frozen_of_row w b j C t hb]
  refine ⟨?_, rfl⟩
  rw [Array.getElem?_eq_getElem (by omega)]; rfl

/-- An operation whose run is known. -/
theorem wpList_run {P : Program} {ops : Array Oper} {rest : List Oper} {o : Oper} {a : Act} {w : World} {Q : Exit → Act → World → Prop} (hgd : o.guard = none) (v : Value) (w' : World)
    (hr : (execOp a.eval o).run P w = .ok (.value v) w') (h : wpList P ops Q rest (a.put o.dst v) w') : wpList P ops Q (o :: rest) a w :=
  wpList_plain hgd fun _ hK => by unfold Oper.wp; rw [hr]; exact hK _ _ h

/-- A new variable, its zero value under a name. -/
theorem wpList_alloc_z {P : Program} {ops : Array Oper} {rest : List Oper} {o : Oper} {a : Act} {w : World} {Q : Exit → Act → World → Prop} (hgd : o.guard = none) (t : TypeId) (ho : o.op = .alloc t) (Z : Array Value)
    (hz : ∀ w, (Instr.alloc t true (.tuple #[])).run P w = .ok (.pointer (some ⟨w.heap.size, 0, none⟩)) (w.alloc (.cells Z t)))
    (h : wpList P ops Q rest (a.put o.dst (.pointer (some ⟨w.heap.size, 0, none⟩))) (w.alloc (.cells Z t))) : wpList P ops Q (o :: rest) a w :=
  wpList_run hgd _ _ (by simp only [execOp, ho, Sem.run_bind, hz, Result.andThen_ok, Sem.run_pure]) h

/-- A store over the whole of a block. -/
theorem wpList_store_row {P : Program} {ops : Array Oper} {rest : List Oper} {op : Oper} {a : Act} {w : World} {Q : Exit → Act → World → Prop} (hgd : op.guard = none) (ty : TypeId) (x y : Operand) (ho : op.op = .store ty x y)
    (b : Nat) (cells C : Array Value) (t : TypeId) (hx : a.eval x = .pointer (some ⟨b, 0, none⟩)) (hy : a.eval y = .agg cells)
    (hb : w.heap[b]? = some (.cells C t (0, 0))) (hs : C.size = cells.size) (hi : (P.info? ty).map (·.size) = some cells.size) (h1 : cells.all (·.oneCell') = true)
    (h : ∀ w1 : World, w1.heap[b]? = some (.cells cells t (0, 0)) → w1.heap.size = w.heap.size → (∀ k, k ≠ b → w1.heap[k]? = w.heap[k]?) → w1.os = w.os → w1.tape = w.tape → w1.output = w.output → wpList P ops Q rest (a.put op.dst undef) w1) : wpList P ops Q (op :: rest) a w := by
  refine wpList_store_mid hgd ty x y ho b 0 cells hx hy (there_head hb _ (by omega)) hi h1 ?_
  have hsz : ∀ (vs : List Value) (o : Nat) (w : World), (w.setCells b o vs).heap.size = w.heap.size := fun vs => by
    induction vs with
    | nil => intro o w; rfl
    | cons v r ih => intro o w; rw [World.setCells, ih]; simp
  have hot : ∀ (vs : List Value) (o : Nat) (w : World) (k : Nat), k ≠ b → (w.setCells b o vs).heap[k]? = w.heap[k]? := fun vs => by
    induction vs with
    | nil => intro o w k _; rfl
    | cons v r ih => intro o w k hk; rw [World.setCells, ih _ _ _ hk, heap_setCell_other _ _ _ _ hk]
  have hsh : ∀ (vs : List Value) (o : Nat) (w : World) (C : Array Value), w.heap[b]? = some (.cells C t (0, 0)) → ∃ C', (w.setCells b o vs).heap[b]? = some (.cells C' t (0, 0)) ∧ C'.size = C.size := fun vs => by
    induction vs with
    | nil => intro o w C hC; exact ⟨C, hC, rfl⟩
    | cons v r ih =>
      intro o w C hC
      rw [World.setCells]
      obtain ⟨C', h1, h2⟩ := ih (o + 1) (w.setCell ⟨b, o, none⟩ v) (C.setIfInBounds o v) (by rw [heap_setCell_same w b o C t v hC])
      exact ⟨C', h1, by simpa using h2⟩
  have hos : ∀ (vs : List Value) (o : Nat) (w : World), (w.setCells b o vs).os = w.os ∧ (w.setCells b o vs).tape = w.tape ∧ (w.setCells b o vs).output = w.output := fun vs => by
    induction vs with
    | nil => intro o w; exact ⟨rfl, rfl, rfl⟩
    | cons v r ih => intro o w; rw [World.setCells]; exact ⟨(ih _ _).1, (ih _ _).2.1, (ih _ _).2.2⟩
  obtain ⟨C', hC', hC's⟩ := hsh cells.toList 0 w C hb
  refine h _ ?_ (hsz _ _ _) (hot _ _ _) (hos _ _ _).1 (hos _ _ _).2.1 (hos _ _ _).2.2
  rw [hC']
  have hr := World.rangeAt_setCells_same w b 0 cells.toList (there_head hb _ (by simp; omega))
  have : C' = cells := by
    apply Array.ext (by omega)
    intro i h1 h2
    have := hr i cells[i] (by simp [h2])
    rw [Nat.zero_add, cell_of_row _ b i C' t (0, 0) hC'] at this
    rw [Array.getElem?_eq_getElem h1] at this
    exact Option.some.inj this
  rw [this]

/-- Behind a store into a new block. -/
theorem below_row {B : Nat} {w w1 w2 : World} {b : Nat} (h : Below B w w1) (hb : B ≤ b) (g2 : w2.heap.size = w1.heap.size) (g3 : ∀ k, k ≠ b → w2.heap[k]? = w1.heap[k]?) (g4 : w2.os = w1.os) (g5 : w2.tape = w1.tape) (g6 : w2.output = w1.output) : Below B w w2 :=
  ⟨g4.trans h.os, g5.trans h.tape, g6.trans h.output, by have := h.size; omega, fun k hk => (g3 k (by omega)).trans (h.block k hk)⟩

theorem below_drewN {B : Nat} {a w : World} (h : Below B a w) (n : Nat) : Below B a (w.drewN n) := ⟨h.os, h.tape, h.output, h.size, h.block⟩
/-! ### Values as they lie in memory -/
abbrev rtA (x : Rt) : Array Value := #[I x.nx, I x.sq, I x.mt, I x.ag, I x.st]
abbrev bsA (b : Bs) : Array Value := #[I b.sq, I b.mt]
def rtV (x : Rt) (k : Nat) : Value := if k = 0 then I x.nx else if k = 1 then I x.sq else if k = 2 then I x.mt else if k = 3 then I x.ag else I x.st
def bsV (b : Bs) (k : Nat) : Value := if k = 0 then I b.sq else I b.mt
/-- The cells of a table: its own seq, routes, bests. -/
def tbV (T : Tb) (j : Nat) : Value := if j = 0 then I T.sq else if j < 26 then rtV (T.ro ((j - 1) / 5)) ((j - 1) % 5) else bsV (T.be ((j - 26) / 2)) ((j - 26) % 2)
/-- The cells of a router: its table, its disk, how often that fails, is it down. -/
def roV (R : Ro) (j : Nat) : Value := if j < 36 then tbV R.t j else if j < 72 then tbV R.dk (j - 36) else if j = 72 then I R.fa else .bool R.dn
/-- The cells of a message. -/
def mgV (m : Nat → Bs) (j : Nat) : Value := bsV (m (j / 2)) (j % 2)
theorem rtV_one (x : Rt) (k : Nat) : (rtV x k).oneCell' = true := by unfold rtV; (repeat' split) <;> rfl
theorem bsV_one (b : Bs) (k : Nat) : (bsV b k).oneCell' = true := by unfold bsV; split <;> rfl
theorem tbV_one (T : Tb) (j : Nat) : (tbV T j).oneCell' = true := by
  unfold tbV
  split
  · rfl
  · split
    · exact rtV_one _ _
    · exact bsV_one _ _
theorem tbV_sq (T : Tb) : tbV T 0 = I T.sq := rfl
theorem tbV_ro (T : Tb) (d k : Nat) (hd : d < 5) (hk : k < 5) : tbV T (1 + d * 5 + k) = rtV (T.ro d) k := by
  unfold tbV
  rw [if_neg (by omega), if_pos (by omega), show (1 + d * 5 + k - 1) / 5 = d by omega, show (1 + d * 5 + k - 1) % 5 = k by omega]
theorem tbV_be (T : Tb) (d k : Nat) (hk : k < 2) : tbV T (26 + d * 2 + k) = bsV (T.be d) k := by
  unfold tbV
  rw [if_neg (by omega), if_neg (by omega), show (26 + d * 2 + k - 26) / 2 = d by omega, show (26 + d * 2 + k - 26) % 2 = k by omega]
theorem roV_t (R : Ro) (j : Nat) (h : j < 36) : roV R j = tbV R.t j := by unfold roV; rw [if_pos h]
theorem roV_dk (R : Ro) (j : Nat) (h : j < 36) : roV R (36 + j) = tbV R.dk j := by
  unfold roV; rw [if_neg (by omega), if_pos (by omega), show 36 + j - 36 = j by omega]
theorem roV_fa (R : Ro) : roV R 72 = I R.fa := rfl
theorem roV_dn (R : Ro) : roV R 73 = .bool R.dn := rfl
theorem mgV_at (m : Nat → Bs) (d k : Nat) (hk : k < 2) : mgV m (d * 2 + k) = bsV (m d) k := by
  unfold mgV
  rw [show (d * 2 + k) / 2 = d by omega, show (d * 2 + k) % 2 = k by omega]
/-- Rows of cells under names that nothing lays open by itself. -/
def rowW (f : Nat → Value) (m n : Nat) : List Value := if n = 0 then (List.range m).map f else rowW f m (n - 1)
theorem rowW_eq (f : Nat → Value) (m : Nat) : rowW f m 0 = (List.range m).map f := by rw [rowW]; rfl
def tbL (T : Tb) : List Value := rowW (tbV T) 36 0
def mgL (m : Nat → Bs) : List Value := rowW (mgV m) 10 0
def tbA (T : Tb) : Array Value := (tbL T).toArray
def mgA (m : Nat → Bs) : Array Value := (mgL m).toArray
theorem tbL_length (T : Tb) : (tbL T).length = 36 := by unfold tbL; rw [rowW_eq]; simp
theorem mgL_length (m : Nat → Bs) : (mgL m).length = 10 := by unfold mgL; rw [rowW_eq]; simp
theorem tbL_at (T : Tb) (j : Nat) (h : j < 36) : (tbL T)[j]? = some (tbV T j) := by unfold tbL; rw [rowW_eq]; simp [List.getElem?_map, List.getElem?_range h]
theorem mgL_at (m : Nat → Bs) (j : Nat) (h : j < 10) : (mgL m)[j]? = some (mgV m j) := by unfold mgL; rw [rowW_eq]; simp [List.getElem?_map, List.getElem?_range h]
theorem tbA_size (T : Tb) : (tbA T).size = 36 := by simp [tbA, tbL_length]
theorem mgA_size (m : Nat → Bs) : (mgA m).size = 10 := by simp [mgA, mgL_length]
theorem tbA_at (T : Tb) (j : Nat) (h : j < 36) : (tbA T)[j]? = some (tbV T j) := by have := tbL_at T j h; simpa [tbA] using this
theorem mgA_at (m : Nat → Bs) (j : Nat) (h : j < 10) : (mgA m)[j]? = some (mgV m j) := by have := mgL_at m j h; simpa [mgA] using this
theorem tbA_one (T : Tb) : (tbA T).all (·.oneCell') = true := by
  rw [Array.all_eq_true_iff_forall_mem]
  intro u hu
  have : u ∈ tbL T := by simpa [tbA] using hu
  unfold tbL at this
  rw [rowW_eq, List.mem_map] at this
  obtain ⟨j, _, rfl⟩ := this
  exact tbV_one T j
theorem mgA_one (m : Nat → Bs) : (mgA m).all (·.oneCell') = true := by
  rw [Array.all_eq_true_iff_forall_mem]
  intro u hu
  have : u ∈ mgL m := by simpa [mgA] using hu
  unfold mgL at this
  rw [rowW_eq, List.mem_map] at this
  obtain ⟨j, _, rfl⟩ := this
  exact bsV_one _ _
theorem tbA_eq (T : Tb) (C : Array Value) (hs : C.size = 36) (h : ∀ j, j < 36 → C[j]? = some (tbV T j)) : C = tbA T := by
  apply Array.ext (by rw [hs, tbA_size])
  intro i h1 h2
  have a := h i (by omega)
  have b := tbA_at T i (by omega)
  rw [Array.getElem?_eq_getElem h1] at a
  rw [Array.getElem?_eq_getElem h2] at b
  exact Option.some.inj (a.trans b.symm)
theorem mgA_eq (m : Nat → Bs) (C : Array Value) (hs : C.size = 10) (h : ∀ j, j < 10 → C[j]? = some (mgV m j)) : C = mgA m := by
  apply Array.ext (by rw [hs, mgA_size])
  intro i h1 h2
  have a := h i (by omega)
  have b := mgA_at m i (by omega)
  rw [Array.getElem?_eq_getElem h1] at a
  rw [Array.getElem?_eq_getElem h2] at b
  exact Option.some.inj (a.trans b.symm)
/-- A route is laid into a table. -/
def setRo (T : Tb) (d : Nat) (x : Rt) : Tb := { T with ro := fun j => if j = d then x else T.ro j }
def setBe (T : Tb) (d : Nat) (b : Bs) : Tb := { T with be := fun j => if j = d then b else T.be j }
def setMg (m : Nat → Bs) (d : Nat) (b : Bs) : Nat → Bs := fun j => if j = d then b else m j
theorem getElem?_set5 (C : Array Value) (o : Nat) (a b c d e : Value) (ho : o + 4 < C.size) (j : Nat) :
    ((((((C.setIfInBounds o a).setIfInBounds (o + 1) b).setIfInBounds (o + 2) c).setIfInBounds (o + 3) d).setIfInBounds (o + 4) e)[j]?) = if j = o then some a else if j = o + 1 then some b else if j = o + 2 then some c else if j = o + 3 then some d else if j = o + 4 then some e else C[j]? := by
  simp only [Array.getElem?_setIfInBounds, Array.size_setIfInBounds]
  repeat' split
  all_goals first | rfl | omega
theorem getElem?_set2 (C : Array Value) (o : Nat) (a b : Value) (ho : o + 1 < C.size) (j : Nat) :
    (((C.setIfInBounds o a).setIfInBounds (o + 1) b)[j]?) = if j = o then some a else if j = o + 1 then some b else C[j]? := by
  simp only [Array.getElem?_setIfInBounds, Array.size_setIfInBounds]
  repeat' split
  all_goals first | rfl | omega
theorem tbA_setRo (T : Tb) (d : Nat) (x : Rt) (hd : d < 5) : ((((((tbA T).setIfInBounds (1 + d * 5) (I x.nx)).setIfInBounds (1 + d * 5 + 1) (I x.sq)).setIfInBounds (1 + d * 5 + 2) (I x.mt)).setIfInBounds (1 + d * 5 + 3) (I x.ag)).setIfInBounds (1 + d * 5 + 4) (I x.st)) = tbA (setRo T d x) := by
  refine tbA_eq _ _ (by simp [tbA_size]) fun j hj => ?_
  rw [getElem?_set5 _ _ _ _ _ _ _ (by rw [tbA_size]; omega)]
  by_cases h : 1 + d * 5 ≤ j ∧ j < 1 + d * 5 + 5
  · have e : j = 1 + d * 5 + (j - (1 + d * 5)) := by omega
    rw [e, tbV_ro _ _ _ hd (by omega)]
    have : (setRo T d x).ro d = x := by show (if d = d then x else _) = x; rw [if_pos rfl]
    rw [this]
    unfold rtV
    generalize hk : j - (1 + d * 5) = k
    have hk5 : k < 5 := by omega
    rcases k with _ | _ | _ | _ | _ | k
    · rw [if_pos rfl, if_pos (by omega)]
    · rw [if_neg (by omega), if_pos rfl]; rfl
    · rw [if_neg (by omega), if_neg (by omega), if_pos rfl]; rfl
    · rw [if_neg (by omega), if_neg (by omega), if_neg (by omega), if_pos rfl]; rfl
    · rw [if_neg (by omega), if_neg (by omega), if_neg (by omega), if_neg (by omega), if_pos rfl]; rfl
    · omega
  · rw [if_neg (by omega), if_neg (by omega), if_neg (by omega), if_neg (by omega), if_neg (by omega), tbA_at _ _ hj]
    unfold tbV
    by_cases h0 : j = 0
    · rw [if_pos h0, if_pos h0]; rfl
    · rw [if_neg h0, if_neg h0]
      by_cases h26 : j < 26
      · rw [if_pos h26, if_pos h26]
        have : (setRo T d x).ro ((j - 1) / 5) = T.ro ((j - 1) / 5) := by show (if (j - 1) / 5 = d then x else _) = _; rw [if_neg (by omega)]
        rw [this]
      · rw [if_neg h26, if_neg h26]; rfl
theorem tbA_setBe (T : Tb) (d : Nat) (b : Bs) (hd : d < 5) : (((tbA T).setIfInBounds (26 + d * 2) (I b.sq)).setIfInBounds (26 + d * 2 + 1) (I b.mt)) = tbA (setBe T d b) := by
  refine tbA_eq _ _ (by simp [tbA_size]) fun j hj => ?_
  rw [getElem?_set2 _ _ _ _ (by rw [tbA_size]; omega)]
  by_cases h : 26 + d * 2 ≤ j ∧ j < 26 + d * 2 + 2
  · have e : j = 26 + d * 2 + (j - (26 + d * 2)) := by omega
    rw [e, tbV_be _ _ _ (by omega)]
    have : (setBe T d b).be d = b := by show (if d = d then b else _) = b; rw [if_pos rfl]
    rw [this]
    unfold bsV
    generalize hk : j - (26 + d * 2) = k
    have hk5 : k < 2 := by omega
    rcases k with _ | _ | k
    · rw [if_pos rfl, if_pos (by omega)]
    · rw [if_neg (by omega), if_pos rfl]; rfl
    · omega
  · rw [if_neg (by omega), if_neg (by omega), tbA_at _ _ hj]
    unfold tbV
    by_cases h0 : j = 0
    · rw [if_pos h0, if_pos h0]; rfl
    · rw [if_neg h0, if_neg h0]
      by_cases h26 : j < 26
      · rw [if_pos h26, if_pos h26]; rfl
      · rw [if_neg h26, if_neg h26]
        have : (setBe T d b).be ((j - 26) / 2) = T.be ((j - 26) / 2) := by show (if (j - 26) / 2 = d then b else _) = _; rw [if_neg (by omega)]
        rw [this]
theorem mgA_set (m : Nat → Bs) (d : Nat) (b : Bs) (hd : d < 5) : (((mgA m).setIfInBounds (d * 2) (I b.sq)).setIfInBounds (d * 2 + 1) (I b.mt)) = mgA (setMg m d b) := by
  refine mgA_eq _ _ (by simp [mgA_size]) fun j hj => ?_
  rw [getElem?_set2 _ _ _ _ (by rw [mgA_size]; omega)]
  by_cases h : d * 2 ≤ j ∧ j < d * 2 + 2
  · have e : j = d * 2 + (j - d * 2) := by omega
    rw [e, mgV_at _ _ _ (by omega)]
    have : setMg m d b d = b := by show (if d = d then b else _) = b; rw [if_pos rfl]
    rw [this]
    unfold bsV
    generalize hk : j - d * 2 = k
    have hk5 : k < 2 := by omega
    rcases k with _ | _ | k
    · rw [if_pos rfl, if_pos (by omega)]
    · rw [if_neg (by omega), if_pos rfl]; rfl
    · omega
  · rw [if_neg (by omega), if_neg (by omega), mgA_at _ _ hj]
    unfold mgV
    have : setMg m d b (j / 2) = m (j / 2) := by show (if j / 2 = d then b else _) = _; rw [if_neg (by omega)]
    rw [this]
/-- Tables are alike where they are seen. -/
theorem tbA_congr {T U : Tb} (hs : T.sq = U.sq) (hr : ∀ d, d < 5 → T.ro d = U.ro d) (hb : ∀ d, d < 5 → T.be d = U.be d) : tbA T = tbA U := by
  refine tbA_eq _ _ (tbA_size _) fun j hj => ?_
  rw [tbA_at _ _ hj]
  unfold tbV
  rw [hs]
  by_cases h0 : j = 0
  · rw [if_pos h0, if_pos h0]
  · rw [if_neg h0, if_neg h0]
    by_cases h26 : j < 26
    · rw [if_pos h26, if_pos h26, hr _ (by omega)]
    · rw [if_neg h26, if_neg h26, hb _ (by omega)]
theorem mgA_congr {m u : Nat → Bs} (h : ∀ d, d < 5 → m d = u d) : mgA m = mgA u := by
  refine mgA_eq _ _ (mgA_size _) fun j hj => ?_
  rw [mgA_at _ _ hj]
  unfold mgV
  rw [h _ (by omega)]

/-- The reference's net, as it lies in memory. -/
structure RN (w : World) (br : Nat) (A : Nt) (V : Nat → Nat → Value) : Prop where
  n : w.cell? ⟨br, 0, none⟩ = some (I A.n)
  r : ∀ i j, i < 5 → j < 74 → w.cell? ⟨br, 1 + i * 74 + j, none⟩ = some (roV (A.rs i) j)
  c : ∀ a b, a < 5 → b < 5 → w.cell? ⟨br, 371 + a * 5 + b, none⟩ = some (I (A.co a b))
  v : ∀ a b, a < 5 → b < 5 → w.cell? ⟨br, 396 + a * 5 + b, none⟩ = some (V a b)
  fz : ∀ o, w.frozen? ⟨br, o, none⟩ = false
theorem RN.lt {w : World} {br : Nat} {A : Nt} {V : Nat → Nat → Value} (h : RN w br A V) : br < w.heap.size := lt_of_cell h.n
theorem RN.of {w w' : World} {br : Nat} {A : Nt} {V : Nat → Nat → Value} (h : RN w br A V) (hb : w'.heap[br]? = w.heap[br]?) : RN w' br A V := by
  have hc : ∀ o, w'.cell? ⟨br, o, none⟩ = w.cell? ⟨br, o, none⟩ := fun o => World.cell?_of_block (w := w) hb
  have hf : ∀ o, w'.frozen? ⟨br, o, none⟩ = w.frozen? ⟨br, o, none⟩ := fun o => World.frozen?_of_block (w := w) hb
  exact ⟨by rw [hc]; exact h.n, fun i j hi hj => by rw [hc]; exact h.r i j hi hj, fun a b ha hb => by rw [hc]; exact h.c a b ha hb, fun a b ha hb => by rw [hc]; exact h.v a b ha hb, fun o => by rw [hf]; exact h.fz o⟩
/-- What is in a router's cells. -/
theorem RN.sq {w : World} {br : Nat} {A : Nt} {V : Nat → Nat → Value} (h : RN w br A V) (i : Nat) (hi : i < 5) : w.cell? ⟨br, 1 + i * 74, none⟩ = some (I (A.rs i).t.sq) := h.r i 0 hi (by omega)
theorem RN.ro {w : World} {br : Nat} {A : Nt} {V : Nat → Nat → Value} (h : RN w br A V) (i d k : Nat) (hi : i < 5) (hd : d < 5) (hk : k < 5) : w.cell? ⟨br, 1 + i * 74 + 1 + d * 5 + k, none⟩ = some (rtV ((A.rs i).t.ro d) k) := by
  have := h.r i (1 + d * 5 + k) hi (by omega)
  rw [roV_t _ _ (by omega), tbV_ro _ _ _ hd hk] at this
  rw [← this]
  congr 2
  omega
theorem RN.be {w : World} {br : Nat} {A : Nt} {V : Nat → Nat → Value} (h : RN w br A V) (i d k : Nat) (hi : i < 5) (hd : d < 5) (hk : k < 2) : w.cell? ⟨br, 1 + i * 74 + 26 + d * 2 + k, none⟩ = some (bsV ((A.rs i).t.be d) k) := by
  have := h.r i (26 + d * 2 + k) hi (by omega)
  rw [roV_t _ _ (by omega), tbV_be _ _ _ hk] at this
  rw [← this]
  congr 2
  omega
theorem RN.fa {w : World} {br : Nat} {A : Nt} {V : Nat → Nat → Value} (h : RN w br A V) (i : Nat) (hi : i < 5) : w.cell? ⟨br, 1 + i * 74 + 72, none⟩ = some (I (A.rs i).fa) := h.r i 72 hi (by omega)
theorem RN.dn {w : World} {br : Nat} {A : Nt} {V : Nat → Nat → Value} (h : RN w br A V) (i : Nat) (hi : i < 5) : w.cell? ⟨br, 1 + i * 74 + 73, none⟩ = some (.bool (A.rs i).dn) := h.r i 73 hi (by omega)

end Go.Proofs.Ytdoodnbobpijoaa
