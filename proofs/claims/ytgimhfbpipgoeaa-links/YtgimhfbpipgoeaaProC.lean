import Derived.Test.YtgimhfbpipgoeaaRefF
import Derived.Test.YtgimhfbpipgoeaaProA
import Derived.Deep.DrawnRows
namespace Go.Proofs.Ytgimhfbpipgoeaa
open Go.RowKit

theorem size83 : (Try.prog.info? 83).map (·.size) = some 36 := by kernel_rfl
theorem size87 : (Try.prog.info? 87).map (·.size) = some 74 := by kernel_rfl
theorem al83 (w : World) : (Instr.alloc 83 true (.tuple #[])).run Try.prog w = .ok (.pointer (some ⟨w.heap.size, 0, none⟩)) (w.alloc (.cells Zk 83)) := by rw [Zk_eq]; kernel_rfl
/-- A router's cells, as they are made; those of a disk and of a router that learned nothing. -/
def rz (o : Nat) : Value := if o % 74 = 73 then .bool false else I 0
def rzW (m n : Nat) : List Value := if n = 0 then (List.range m).map rz else rzW m (n - 1)
def rzA (m : Nat) : Array Value := (rzW m 0).toArray
theorem rzA_eq (m : Nat) : rzA m = ((List.range m).map rz).toArray := by unfold rzA; rw [rzW]; rfl
theorem rzA_size (m : Nat) : (rzA m).size = m := by rw [rzA_eq]; simp
theorem rzA_at (m o : Nat) (h : o < m) : (rzA m)[o]? = some (rz o) := by rw [rzA_eq]; simp [h]
theorem al87 (w : World) : (Instr.alloc 87 true (.tuple #[])).run Try.prog w = .ok (.pointer (some ⟨w.heap.size, 0, none⟩)) (w.alloc (.cells (rzA 74) 87)) := by rw [rzA_eq]; kernel_rfl
def dkW (n : Nat) : List Value := if n = 0 then blankLit ++ [I 0] else dkW (n - 1)
def dkA : Array Value := (dkW 0).toArray
theorem dkA_eq : dkA = (blankLit ++ [I 0]).toArray := by unfold dkA; rw [dkW]; rfl
def rtW (n : Nat) : List Value := if n = 0 then bkL else rtW (n - 1)
def rtA : Array Value := (rtW 0).toArray
theorem rtA_eq : rtA = bkL.toArray := by unfold rtA; rw [rtW]; rfl
theorem rtA_size : rtA.size = 74 := by rw [rtA_eq]; rfl
theorem rtA_one : rtA.all (·.oneCell') = true := by rw [rtA_eq]; decide +kernel
theorem rtA_at (j : Nat) (h : j < 74) : rtA.toList[j]? = some (bk j) := by
  rw [rtA_eq]
  have hl : bkL.length = 74 := rfl
  unfold bk
  simp [List.getElem?_eq_getElem (by omega : j < bkL.length)]
theorem blankA_lit : blankA = blankLit.toArray := by unfold blankA; rw [blankL_eq]
theorem bl85 (w : World) : (Instr.build 85 #[(0, .agg blankA)]).run Try.prog w = .ok (.agg dkA) w := by rw [dkA_eq, blankA_lit]; kernel_rfl
theorem bl87 (w : World) : (Instr.build 87 #[(0, .agg blankA), (1, .agg dkA)]).run Try.prog w = .ok (.agg rtA) w := by rw [dkA_eq, blankA_lit, rtA_eq]; kernel_rfl
theorem bld85 (w : World) (ρ : Operand → Value) (x : Operand) (ds : Option Tmp) (ty : TypeId) (ps : String) (af : Array Edge) (g : Option (Nat × Bool)) (h3 : ρ x = .agg blankA) :
    (execOp ρ { dst := ds, op := .build 85 #[(0, x)], type := ty, pos := ps, after := af, guard := g }).run Try.prog w = .ok (.value (.agg dkA)) w := by
  have hr := bl85 w
  rw [← h3] at hr
  simp only [execOp, Sem.run_bind, List.map_toArray, List.map_cons, List.map_nil, hr, Result.andThen_ok, Sem.run_pure]
theorem bld87 (w : World) (ρ : Operand → Value) (x y : Operand) (ds : Option Tmp) (ty : TypeId) (ps : String) (af : Array Edge) (g : Option (Nat × Bool)) (h3 : ρ x = .agg blankA) (h4 : ρ y = .agg dkA) :
    (execOp ρ { dst := ds, op := .build 87 #[(0, x), (1, y)], type := ty, pos := ps, after := af, guard := g }).run Try.prog w = .ok (.value (.agg rtA)) w := by
  have hr := bl87 w
  rw [← h3, ← h4] at hr
  simp only [execOp, Sem.run_bind, List.map_toArray, List.map_cons, List.map_nil, hr, Result.andThen_ok, Sem.run_pure]
theorem aggOk_rt : AggOk 74 (.agg rtA) := ⟨rfl, rtA_size, rtA_one⟩
theorem ld83 (w : World) (ρ : Operand → Value) (x : Operand) (ds : Option Tmp) (ty : TypeId) (ps : String) (af : Array Edge) (g : Option (Nat × Bool))
    (h1 : ρ x = .pointer (some ⟨vb (ρ x), vo (ρ x), none⟩)) (h2 : MidOk w (vb (ρ x)) (vo (ρ x)) 36) :
    (execOp ρ { dst := ds, op := .load 83 x, type := ty, pos := ps, after := af, guard := g }).run Try.prog w = .ok (.value (.agg (midA w (vb (ρ x)) (vo (ρ x)) 36))) w :=
  load_rule Try.underlying83 rfl size83 w ρ x ds ty ps af g h1 h2
theorem st83 (w : World) (ρ : Operand → Value) (x y : Operand) (ds : Option Tmp) (ty : TypeId) (ps : String) (af : Array Edge) (g : Option (Nat × Bool))
    (h1 : ρ x = .pointer (some ⟨vb (ρ x), vo (ρ x), none⟩)) (h3 : AggOk 36 (ρ y)) (h2 : w.there (vb (ρ x)) (vo (ρ x)) 36) :
    (execOp ρ { dst := ds, op := .store 83 x y, type := ty, pos := ps, after := af, guard := g }).run Try.prog w = .ok .skip (w.setCells (vb (ρ x)) (vo (ρ x)) (cellsL (ρ y))) :=
  store_rule size83 w ρ x y ds ty ps af g h1 h3 h2
theorem alc83 (w : World) (ρ : Operand → Value) (ds : Option Tmp) (ty : TypeId) (ps : String) (af : Array Edge) (g : Option (Nat × Bool)) :
    (execOp ρ { dst := ds, op := .alloc 83, type := ty, pos := ps, after := af, guard := g }).run Try.prog w = .ok (.value (.pointer (some ⟨w.heap.size, 0, none⟩))) (w.alloc (.cells Zk 83)) :=
  alloc_rule al83 w ρ ds ty ps af g
theorem ld87 (w : World) (ρ : Operand → Value) (x : Operand) (ds : Option Tmp) (ty : TypeId) (ps : String) (af : Array Edge) (g : Option (Nat × Bool))
    (h1 : ρ x = .pointer (some ⟨vb (ρ x), vo (ρ x), none⟩)) (h2 : MidOk w (vb (ρ x)) (vo (ρ x)) 74) :
    (execOp ρ { dst := ds, op := .load 87 x, type := ty, pos := ps, after := af, guard := g }).run Try.prog w = .ok (.value (.agg (midA w (vb (ρ x)) (vo (ρ x)) 74))) w :=
  load_rule Try.underlying87 rfl size87 w ρ x ds ty ps af g h1 h2
theorem st87 (w : World) (ρ : Operand → Value) (x y : Operand) (ds : Option Tmp) (ty : TypeId) (ps : String) (af : Array Edge) (g : Option (Nat × Bool))
    (h1 : ρ x = .pointer (some ⟨vb (ρ x), vo (ρ x), none⟩)) (h3 : AggOk 74 (ρ y)) (h2 : w.there (vb (ρ x)) (vo (ρ x)) 74) :
    (execOp ρ { dst := ds, op := .store 87 x y, type := ty, pos := ps, after := af, guard := g }).run Try.prog w = .ok .skip (w.setCells (vb (ρ x)) (vo (ρ x)) (cellsL (ρ y))) :=
  store_rule size87 w ρ x y ds ty ps af g h1 h3 h2
theorem alc87 (w : World) (ρ : Operand → Value) (ds : Option Tmp) (ty : TypeId) (ps : String) (af : Array Edge) (g : Option (Nat × Bool)) :
    (execOp ρ { dst := ds, op := .alloc 87, type := ty, pos := ps, after := af, guard := g }).run Try.prog w = .ok (.value (.pointer (some ⟨w.heap.size, 0, none⟩))) (w.alloc (.cells (rzA 74) 87)) :=
  alloc_rule al87 w ρ ds ty ps af g

attribute [local go_sem ↓] Go.wp_at_zero Go.wp_at_succ ld83 st83 alc83 ld87 st87 alc87 bld85 bld87
attribute [local go_sem] vb_ptr vo_ptr cellsL_agg size_setCells intOf_int

set_option maxHeartbeats 1000000 in
theorem blank_any (w : World) : Calls Try.prog 65 #[] w fun e w' => e = .returned (.agg blankA) ∧ Below w.heap.size w w' := by
  go_enter Try.func65, Try.ntmps65
  go_wp2
  have hS := (Whole.new w 83 Zk).alloc (.cells Zk 83)
  have hS1 := Whole.new (w.alloc (.cells Zk 83)) 83 Zk
  simp only [World.size_alloc] at hS1
  have hBel : Below w.heap.size w ((w.alloc (.cells Zk 83)).alloc (.cells Zk 83)) := ((Below.refl _ _).alloc (Nat.le_refl _) _).alloc (by simp) _
  go_loopw [3] (fun i wr => ∃ k : Nat, k ≤ 5 ∧ i = .int .i64 k ∧ Whole wr w.heap.size 83 Zk ∧ Whole wr (w.heap.size + 1) 83 (tkA k) ∧ Below w.heap.size w wr) (fun i _ => 5 - (intOf i).toNat)
  case atStart => exact ⟨0, by omega, rfl, hS, by rw [tkA_zero]; exact hS1, hBel⟩
  case round =>
    clear hS hS1 hBel
    obtain ⟨k, hk, rfl, q0, q1, q4⟩ := hrel
    by_cases hk5 : k < 5
    · have hk' : (k : Int) < 5 := by omega
      go_wp2_with (first | (go_at_call 67; refine (pnone_b _).mono ?_; rintro e w1 ⟨rfl, hb1⟩; have p1 := (q1.below hb1).row (tkA_size k) (tkA_one k); obtain ⟨v0, e0⟩ := p1.cell (1 + k * 5) (by omega); obtain ⟨v1, e1⟩ := p1.cell (1 + k * 5 + 1) (by omega); obtain ⟨v2, e2⟩ := p1.cell (1 + k * 5 + 2) (by omega); obtain ⟨v3, e3⟩ := p1.cell (1 + k * 5 + 3) (by omega); obtain ⟨v4, e4⟩ := p1.cell (1 + k * 5 + 4) (by omega); have f1 := p1.frozen) |
        (go_at_call 76; refine (pnothing_b _).mono ?_; rintro e w2 ⟨rfl, hb2⟩; have p2 := Row.below (((((p1.setCell _ _ rfl).setCell _ _ rfl).setCell _ _ rfl).setCell _ _ rfl).setCell _ _ rfl) hb2; obtain ⟨v5, e5⟩ := p2.cell (26 + k * 2) (by omega); obtain ⟨v6, e6⟩ := p2.cell (26 + k * 2 + 1) (by omega); have f2 := p2.frozen))
      have z1 := q4.size
      have z2 := hb1.size
      have z3 := hb2.size
      have P1 := q1.below hb1
      have P2 := Whole.below (((((P1.set (1 + k * 5) (I (-1))).set (1 + k * 5 + 1) (I 0)).set (1 + k * 5 + 2) (I 0)).set (1 + k * 5 + 3) (I 0)).set (1 + k * 5 + 4) (I 0)) hb2
      have P3 := (P2.set (26 + k * 2) (I (-1))).set (26 + k * 2 + 1) (I 0)
      rw [tkA_step k hk5] at P3
      have hne : w.heap.size ≠ w.heap.size + 1 := by omega
      have O1 := q0.below hb1
      have O2 := Whole.below (((((O1.setCell (p := ⟨w.heap.size + 1, 1 + k * 5, none⟩) hne (I (-1))).setCell (p := ⟨w.heap.size + 1, 1 + k * 5 + 1, none⟩) hne (I 0)).setCell (p := ⟨w.heap.size + 1, 1 + k * 5 + 2, none⟩) hne (I 0)).setCell (p := ⟨w.heap.size + 1, 1 + k * 5 + 3, none⟩) hne (I 0)).setCell (p := ⟨w.heap.size + 1, 1 + k * 5 + 4, none⟩) hne (I 0)) hb2
      have O3 := (O2.setCell (p := ⟨w.heap.size + 1, 26 + k * 2, none⟩) hne (I (-1))).setCell (p := ⟨w.heap.size + 1, 26 + k * 2 + 1, none⟩) hne (I 0)
      have hle : w.heap.size ≤ w.heap.size + 1 := by omega
      have B1 := q4.trans (hb1.mono q4.size)
      have B2 := ((((((B1.setCell (p := ⟨w.heap.size + 1, 1 + k * 5, none⟩) hle (I (-1))).setCell (p := ⟨w.heap.size + 1, 1 + k * 5 + 1, none⟩) hle (I 0)).setCell (p := ⟨w.heap.size + 1, 1 + k * 5 + 2, none⟩) hle (I 0)).setCell (p := ⟨w.heap.size + 1, 1 + k * 5 + 3, none⟩) hle (I 0)).setCell (p := ⟨w.heap.size + 1, 1 + k * 5 + 4, none⟩) hle (I 0))).trans (hb2.mono (by simp; omega))
      go_roundw
      case rel => exact ⟨k + 1, by omega, by go_num, O3, P3, (B2.setCell (p := ⟨w.heap.size + 1, 26 + k * 2, none⟩) hle (I (-1))).setCell (p := ⟨w.heap.size + 1, 26 + k * 2 + 1, none⟩) hle (I 0)⟩
      case measure => simp [intOf]; omega
    · have hk6 : k = 5 := by omega
      subst hk6
      rw [tkA_five] at q1
      have k1 := q1.mid blankA_size
      have t1 := q0.there Zk_size
      have hag := aggOk_blank
      go_wp2
      refine bodyPost_ret (v := .agg blankA) (results_cell_row rfl _ _ _ _ _ _ _ rfl (q0.over blankA (by rw [blankA_size, Zk_size])).is Try.underlying83 rfl (by rw [size83, blankA_size])) rfl ⟨rfl, Below.setCells q4 (Nat.le_refl _) _ _⟩

set_option maxHeartbeats 1000000 in
theorem fresh_any (w : World) : Calls Try.prog 45 #[] w fun e w' => e = .returned (.agg rtA) ∧ Below w.heap.size w w' := by
  have n0 := Whole.new w 87 (rzA 74)
  have b0 : Below w.heap.size w (w.alloc (.cells (rzA 74) 87)) := (Below.refl _ _).alloc (Nat.le_refl _) _
  have hag := aggOk_rt
  go_enter Try.func45, Try.ntmps45
  go_wp2_with fail
  refine (blank_any _).mono ?_
  rintro e w1 ⟨rfl, hb1⟩
  go_wp2_with fail
  refine (blank_any _).mono ?_
  rintro e w2 ⟨rfl, hb2⟩
  have n2 := (n0.below hb1).below hb2
  have t2 := n2.there (rzA_size 74)
  have z1 := hb1.size
  have z2 := hb2.size
  have B2 : Below w.heap.size w w2 := (b0.trans (hb1.mono (by simp))).trans (hb2.mono (by simp at z1; omega))
  go_wp2
  refine bodyPost_ret (v := .agg rtA) (results_cell_row rfl _ _ _ _ _ _ _ rfl (n2.over rtA (by rw [rtA_size, rzA_size])).is Try.underlying87 rfl (by rw [size87, rtA_size])) rfl ⟨rfl, Below.setCells B2 (Nat.le_refl _) _ _⟩
end Go.Proofs.Ytgimhfbpipgoeaa
