import Derived.Test.YtgimhfbpipgoeaaProC
import Derived.Deep.DrawnRows
namespace Go.Proofs.Ytgimhfbpipgoeaa
open Go.RowKit

structure MkOk (m : Int) : Prop where
  lo : 2 ≤ m
  hi : m ≤ 5
theorem mk70 (n : Nat) (h2 : 2 ≤ n) (h5 : n ≤ 5) (w : World) : (Instr.makeSlice 70 (.int .i64 n) (.int .i64 n)).run Try.prog w = .ok (.slice (some ⟨w.heap.size, 0, none⟩) n n) (w.alloc (.cells (rzA (n * 74)) 87)) := by
  rw [rzA_eq]
  rcases n with _ | _ | _ | _ | _ | _ | n
  · omega
  · omega
  · kernel_rfl
  · kernel_rfl
  · kernel_rfl
  · kernel_rfl
  · omega
theorem mks70 (w : World) (ρ : Operand → Value) (x : Operand) (ds : Option Tmp) (ty : TypeId) (ps : String) (af : Array Edge) (g : Option (Nat × Bool)) (h3 : ρ x = .int .i64 (intOf (ρ x))) (h4 : MkOk (intOf (ρ x))) :
    (execOp ρ { dst := ds, op := .makeSlice 70 x x, type := ty, pos := ps, after := af, guard := g }).run Try.prog w = .ok (.value (.slice (some ⟨w.heap.size, 0, none⟩) (intOf (ρ x)).toNat (intOf (ρ x)).toNat)) (w.alloc (.cells (rzA ((intOf (ρ x)).toNat * 74)) 87)) := by
  have hl := h4.lo
  have hh := h4.hi
  have hr := mk70 (intOf (ρ x)).toNat (by omega) (by omega) w
  rw [show (((intOf (ρ x)).toNat : Nat) : Int) = intOf (ρ x) from by omega, ← h3] at hr
  simp only [execOp, Sem.run_bind, hr, Result.andThen_ok, Sem.run_pure]
/-- The program's net, as it is made. -/
def pz (v : Value) (o : Nat) : Value := if o = 0 then v else if o < 26 then I 0 else .slice none 0 0
def pzW (v : Value) (n : Nat) : List Value := if n = 0 then (List.range 51).map (pz v) else pzW v (n - 1)
def pzA (v : Value) : Array Value := (pzW v 0).toArray
theorem pzA_eq (v : Value) : pzA v = ((List.range 51).map (pz v)).toArray := by unfold pzA; rw [pzW]; rfl
theorem pzA_at (v : Value) (o : Nat) (h : o < 51) : (pzA v)[o]? = some (pz v o) := by rw [pzA_eq]; simp [h]
theorem bl78 (a : Option Addr) (n c : Nat) (w : World) : (Instr.build 78 #[(0, .slice a n c)]).run Try.prog w = .ok (.agg (pzA (.slice a n c))) w := by rw [pzA_eq]; kernel_rfl
def isSl : Value → Bool
  | .slice _ _ _ => true
  | _ => false
theorem isSl_slice (a : Option Addr) (n c : Nat) : isSl (.slice a n c) = true := rfl
theorem bld78 (w : World) (ρ : Operand → Value) (x : Operand) (ds : Option Tmp) (ty : TypeId) (ps : String) (af : Array Edge) (g : Option (Nat × Bool)) (h3 : isSl (ρ x) = true) :
    (execOp ρ { dst := ds, op := .build 78 #[(0, x)], type := ty, pos := ps, after := af, guard := g }).run Try.prog w = .ok (.value (.agg (pzA (ρ x)))) w := by
  obtain ⟨a, n, c, h⟩ : ∃ a n c, ρ x = .slice a n c := by
    cases hv : ρ x with
    | slice a n c => exact ⟨a, n, c, rfl⟩
    | _ => rw [hv] at h3; simp [isSl] at h3
  have hr := bl78 a n c w
  rw [← h] at hr
  simp only [execOp, Sem.run_bind, List.map_toArray, List.map_cons, List.map_nil, hr, Result.andThen_ok, Sem.run_pure]

set_option maxHeartbeats 400000 in
theorem pnew_no (n : Int) (w : World) (h : n < 2 ∨ 5 < n) :
    Calls Try.prog 13 #[.int .i64 n] w fun e w' => e = .returned (.tuple #[.pointer none, .int .i64 1]) ∧ w = w' := by
  rcases h with h | h
  · go_enter Try.func13, Try.ntmps13
    go_wp2
    go_ret2
    exact ⟨rfl, rfl⟩
  · have : ¬ n < 2 := by omega
    go_enter Try.func13, Try.ntmps13
    go_wp2
    go_ret2
    exact ⟨rfl, rfl⟩

/-- The routers behind k rounds. -/
structure PK (w : World) (bs n k : Nat) : Prop where
  lo : ∀ i j, i < k → j < 74 → w.cell? ⟨bs, i * 74 + j, none⟩ = some (bk j)
  all : ∀ o, o < n * 74 → (w.cell? ⟨bs, o, none⟩).isSome = true
  fz : ∀ o, w.frozen? ⟨bs, o, none⟩ = false
theorem PK.of {w w' : World} {bs n k : Nat} (h : PK w bs n k) (hb : w'.heap[bs]? = w.heap[bs]?) : PK w' bs n k := by
  have hc : ∀ o, w'.cell? ⟨bs, o, none⟩ = w.cell? ⟨bs, o, none⟩ := fun o => World.cell?_of_block (w := w) hb
  have hf : ∀ o, w'.frozen? ⟨bs, o, none⟩ = w.frozen? ⟨bs, o, none⟩ := fun o => World.frozen?_of_block (w := w) hb
  exact ⟨fun i j hi hj => by rw [hc]; exact h.lo i j hi hj, fun o h1 => by rw [hc]; exact h.all o h1, fun o => by rw [hf]; exact h.fz o⟩
theorem PK.there {w : World} {bs n k : Nat} (h : PK w bs n k) (o m : Nat) (hm : o + m ≤ n * 74) : w.there bs o m := fun j hj => ⟨h.all _ (by omega), h.fz _⟩
theorem PK.step {w : World} {bs n k : Nat} (h : PK w bs n k) (hk : k < n) : PK (w.setCells bs (k * 74) rtA.toList) bs n (k + 1) := by
  have hlen : rtA.toList.length = 74 := by simp [rtA_size]
  refine ⟨fun i j hi hj => ?_, fun o ho => World.isSome_setCells _ _ _ _ _ (h.all o ho), fun o => by rw [World.frozen?_setCells]; exact h.fz o⟩
  by_cases hik : i = k
  · subst hik
    rw [World.cell?_setCells_in bs _ _ w (fun m hm => h.all _ (by omega)) j (by omega)]
    have := rtA_at j hj
    rw [List.getElem?_eq_getElem (by omega)] at this
    exact this
  · rw [World.cell?_setCells_out _ _ _ _ _ (fun _ _ => by rw [hlen]; show i * 74 + j < _ ∨ _ ≤ i * 74 + j; omega)]
    exact h.lo i j (by omega) hj
theorem PK.zero (w : World) (n : Nat) : PK (w.alloc (.cells (rzA (n * 74)) 87)) w.heap.size n 0 := by
  have h := Whole.new w 87 (rzA (n * 74))
  exact ⟨fun i j hi => by omega, fun o ho => by rw [h.cell o, rzA_at _ o ho]; rfl, h.frozen⟩
theorem PK.pn {w : World} {bx bs n : Nat} (h : PK w bs n n) (hx : Whole w bx 78 (pzA (.slice (some ⟨bs, 0, none⟩) n n))) (hne : bx ≠ bs) : PN w bx bs n (fun _ _ => 0) (fun _ _ => .slice none 0 0) := by
  have hc : ∀ o, o < 51 → w.cell? ⟨bx, o, none⟩ = some (pz (.slice (some ⟨bs, 0, none⟩) n n) o) := fun o ho => by rw [hx.cell o, pzA_at _ o ho]
  refine ⟨by rw [hc 0 (by omega)]; rfl, fun a b ha hb => ?_, fun a b ha hb => ?_, hx.frozen, h.lo, h.fz, hne⟩
  · rw [hc _ (by omega)]; unfold pz; rw [if_neg (by omega), if_pos (by omega)]
  · rw [hc _ (by omega)]; unfold pz; rw [if_neg (by omega), if_neg (by omega)]

def S7 (bx bs n o : Nat) (w' : World) : Prop := w'.cell? ⟨bx, 0, none⟩ = some (.slice (some ⟨bs, 0, none⟩) n n) ∧ w'.there bs o 74
theorem S7_drew {bx bs n o : Nat} {w : World} (h : S7 bx bs n o w) : S7 bx bs n o w.drew := h
theorem S7_below {bx bs n o : Nat} {w w' : World} (h : S7 bx bs n o w) (hb : Below w.heap.size w w') : S7 bx bs n o w' := by
  refine ⟨by rw [hb.cell (p := ⟨bx, 0, none⟩) (lt_of_cell h.1)]; exact h.1, fun j hj => ?_⟩
  have := h.2 j hj
  obtain ⟨v, hv⟩ := Option.isSome_iff_exists.1 this.1
  have hlt : bs < w.heap.size := lt_of_cell hv
  rw [hb.cell (p := ⟨bs, o + j, none⟩) hlt, hb.frozen (p := ⟨bs, o + j, none⟩) hlt]
  exact this
theorem S7_store {bx bs n o : Nat} {w : World} (h : S7 bx bs n o w) (hne : bx ≠ bs) (l : List Value) : S7 bx bs n o (w.setCells bs o l) := by
  have e : (w.setCells bs o l).heap[bx]? = w.heap[bx]? := (setCells_block bs l o w).2.1 _ hne
  exact ⟨by rw [World.cell?_of_block (w := w) (a := ⟨bx, 0, none⟩) e]; exact h.1, World.there_setCells h.2 _ _ _⟩

end Go.Proofs.Ytgimhfbpipgoeaa
