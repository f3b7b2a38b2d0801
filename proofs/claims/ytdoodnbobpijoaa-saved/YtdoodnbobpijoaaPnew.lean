import Derived.Test.YtdoodnbobpijoaaProE
import Derived.Test.YtdoodnbobpijoaaProR
import Derived.Test.YtdoodnbobpijoaaRefN
import Derived.Deep.DrawnRows
namespace Go.Proofs.Ytdoodnbobpijoaa
open Go.RowKit

/-! ### New -/
theorem sizePR : (Try.prog.info? 99).map (·.size) = some 74 := by kernel_rfl
def rz (o : Nat) : Value := if o % 74 = 73 then .bool false else I 0
def rzA (m : Nat) : Array Value := (rowW rz m 0).toArray
theorem rzA_eq (m : Nat) : rzA m = ((List.range m).map rz).toArray := by unfold rzA; rw [rowW_eq]
theorem rzA_size (m : Nat) : (rzA m).size = m := by rw [rzA_eq]; simp
theorem rzA_at (m o : Nat) (h : o < m) : (rzA m)[o]? = some (rz o) := by rw [rzA_eq]; simp [h]
theorem alPR (w : World) : (Instr.alloc 99 true (.tuple #[])).run Try.prog w = .ok (.pointer (some ⟨w.heap.size, 0, none⟩)) (w.alloc (.cells (rzA 74) 99)) := by rw [rzA_eq]; kernel_rfl
def dkA : Array Value := (rowW (fun j => if j < 36 then tbV blankT j else I 0) 37 0).toArray
theorem dkA_eq : dkA = ((List.range 37).map fun j => if j < 36 then tbV blankT j else I 0).toArray := by unfold dkA; rw [rowW_eq]
def frA : Array Value := (rowW (roV freshR) 74 0).toArray
theorem frA_eq : frA = ((List.range 74).map (roV freshR)).toArray := by unfold frA; rw [rowW_eq]
theorem frA_size : frA.size = 74 := by rw [frA_eq]; simp
theorem frA_one : frA.all (·.oneCell') = true := by rw [frA_eq]; decide +kernel
theorem frA_at (j : Nat) (h : j < 74) : frA.toList[j]? = some (roV freshR j) := by rw [frA_eq]; simp [h]
theorem blankA_lit : tbA blankT = ((List.range 36).map (tbV blankT)).toArray := by unfold tbA tbL; rw [rowW_eq]
theorem blPD (w : World) : (Instr.build 97 #[(0, .agg (tbA blankT))]).run Try.prog w = .ok (.agg dkA) w := by rw [dkA_eq, blankA_lit]; kernel_rfl
theorem blPR (w : World) : (Instr.build 99 #[(0, .agg (tbA blankT)), (1, .agg dkA)]).run Try.prog w = .ok (.agg frA) w := by rw [dkA_eq, blankA_lit, frA_eq]; kernel_rfl
theorem bldPD (w : World) (ρ : Operand → Value) (x : Operand) (ds : Option Tmp) (ty : TypeId) (ps : String) (af : Array Edge) (g : Option (Nat × Bool)) (h3 : ρ x = .agg (tbA blankT)) :
    (execOp ρ { dst := ds, op := .build 97 #[(0, x)], type := ty, pos := ps, after := af, guard := g }).run Try.prog w = .ok (.value (.agg dkA)) w := by
  simp only [execOp, Sem.run_bind, List.map_toArray, List.map_cons, List.map_nil, h3, blPD, Result.andThen_ok, Sem.run_pure]
theorem bldPR (w : World) (ρ : Operand → Value) (x y : Operand) (ds : Option Tmp) (ty : TypeId) (ps : String) (af : Array Edge) (g : Option (Nat × Bool)) (h3 : ρ x = .agg (tbA blankT)) (h4 : ρ y = .agg dkA) :
    (execOp ρ { dst := ds, op := .build 99 #[(0, x), (1, y)], type := ty, pos := ps, after := af, guard := g }).run Try.prog w = .ok (.value (.agg frA)) w := by
  simp only [execOp, Sem.run_bind, List.map_toArray, List.map_cons, List.map_nil, h3, h4, blPR, Result.andThen_ok, Sem.run_pure]
theorem aggOk_fr : AggOk 74 (.agg frA) := ⟨rfl, frA_size, frA_one⟩
theorem stPR (w : World) (ρ : Operand → Value) (x y : Operand) (ds : Option Tmp) (ty : TypeId) (ps : String) (af : Array Edge) (g : Option (Nat × Bool))
    (h1 : ρ x = .pointer (some ⟨vb (ρ x), vo (ρ x), none⟩)) (h3 : AggOk 74 (ρ y)) (h2 : w.there (vb (ρ x)) (vo (ρ x)) 74) :
    (execOp ρ { dst := ds, op := .store 99 x y, type := ty, pos := ps, after := af, guard := g }).run Try.prog w = .ok .skip (w.setCells (vb (ρ x)) (vo (ρ x)) (cellsL (ρ y))) :=
  store_rule sizePR w ρ x y ds ty ps af g h1 h3 h2
theorem alcPR (w : World) (ρ : Operand → Value) (ds : Option Tmp) (ty : TypeId) (ps : String) (af : Array Edge) (g : Option (Nat × Bool)) :
    (execOp ρ { dst := ds, op := .alloc 99, type := ty, pos := ps, after := af, guard := g }).run Try.prog w = .ok (.value (.pointer (some ⟨w.heap.size, 0, none⟩))) (w.alloc (.cells (rzA 74) 99)) :=
  alloc_rule alPR w ρ ds ty ps af g
section
attribute [local go_sem ↓] Go.wp_at_zero Go.wp_at_succ ldPK stPK alcPK stPR alcPR bldPD bldPR
attribute [local go_sem] vb_ptr vo_ptr cellsL_agg size_setCells intOf_int
set_option maxHeartbeats 1000000 in
theorem pblank_any (w : World) : Calls Try.prog 78 #[] w fun e w' => e = .returned (.agg (tbA blankT)) ∧ Below w.heap.size w w' := by
  go_enter Try.func78, Try.ntmps78
  go_wp2
  have hS := (Whole.new w 95 Zk).alloc (.cells Zk 95)
  have hS1 := Whole.new (w.alloc (.cells Zk 95)) 95 Zk
  simp only [World.size_alloc] at hS1
  have hBel : Below w.heap.size w ((w.alloc (.cells Zk 95)).alloc (.cells Zk 95)) := ((Below.refl _ _).alloc (Nat.le_refl _) _).alloc (by simp) _
  go_loopw [3] (fun i wr => ∃ k : Nat, k ≤ 5 ∧ i = .int .i64 k ∧ Whole wr w.heap.size 95 Zk ∧ Whole wr (w.heap.size + 1) 95 (tbA (nkT k)) ∧ Below w.heap.size w wr) (fun i _ => 5 - (intOf i).toNat)
  case atStart => exact ⟨0, by omega, rfl, hS, by rw [nkT_zero]; exact hS1, hBel⟩
  case round =>
    clear hS hS1 hBel
    obtain ⟨k, hk, rfl, q0, q1, q4⟩ := hrel
    by_cases hk5 : k < 5
    · have hk' : (k : Int) < 5 := by omega
      have z1 := q4.size
      go_wp2_with (first | (go_at_call 80; refine (pnone_any _).mono ?_; rintro e w1 ⟨rfl, hb1⟩; have p1 := q1.below hb1; obtain ⟨e0, e1, e2, e3, e4⟩ := tbA_ro5 (nkT k) k hk5; have f1 := p1.frozen; have c1 := p1.cell; have z2 := hb1.size) |
        (go_at_call 105; refine (pnothing_any _).mono ?_; rintro e w2 ⟨rfl, hb2⟩; have p2 := Whole.below (p1.setRo k hk5 noRt) hb2; obtain ⟨e5, e6⟩ := tbA_be2 (setRo (nkT k) k noRt) k hk5; have f2 := p2.frozen; have c2 := p2.cell; have z3 := hb2.size))
      have hne : w.heap.size ≠ w.heap.size + 1 := by omega
      have hle : w.heap.size ≤ w.heap.size + 1 := by omega
      have O1 := q0.below hb1
      have O2 := Whole.below (((((O1.setCell (p := ⟨w.heap.size + 1, 1 + k * 5, none⟩) hne (I noRt.nx)).setCell (p := ⟨w.heap.size + 1, 1 + k * 5 + 1, none⟩) hne (I noRt.sq)).setCell (p := ⟨w.heap.size + 1, 1 + k * 5 + 2, none⟩) hne (I noRt.mt)).setCell (p := ⟨w.heap.size + 1, 1 + k * 5 + 3, none⟩) hne (I noRt.ag)).setCell (p := ⟨w.heap.size + 1, 1 + k * 5 + 4, none⟩) hne (I noRt.st)) hb2
      have O3 := (O2.setCell (p := ⟨w.heap.size + 1, 26 + k * 2, none⟩) hne (I noBs.sq)).setCell (p := ⟨w.heap.size + 1, 26 + k * 2 + 1, none⟩) hne (I noBs.mt)
      have B1 := q4.trans (hb1.mono q4.size)
      have B2 := ((((((B1.setCell (p := ⟨w.heap.size + 1, 1 + k * 5, none⟩) hle (I noRt.nx)).setCell (p := ⟨w.heap.size + 1, 1 + k * 5 + 1, none⟩) hle (I noRt.sq)).setCell (p := ⟨w.heap.size + 1, 1 + k * 5 + 2, none⟩) hle (I noRt.mt)).setCell (p := ⟨w.heap.size + 1, 1 + k * 5 + 3, none⟩) hle (I noRt.ag)).setCell (p := ⟨w.heap.size + 1, 1 + k * 5 + 4, none⟩) hle (I noRt.st))).trans (hb2.mono (by simp; omega))
      go_roundw
      case rel => exact ⟨k + 1, by omega, by go_num, O3, by rw [← nkT_step]; exact p2.setBe k hk5 noBs, (B2.setCell (p := ⟨w.heap.size + 1, 26 + k * 2, none⟩) hle (I noBs.sq)).setCell (p := ⟨w.heap.size + 1, 26 + k * 2 + 1, none⟩) hle (I noBs.mt)⟩
      case measure => simp [intOf]; omega
    · have hk6 : k = 5 := by omega
      subst hk6
      rw [nkT_five] at q1
      have k1 := q1.mid (tbA_size blankT)
      have t1 := q0.there Zk_size
      have hag := aggOk_tb blankT
      go_wp2
      refine bodyPost_ret (v := .agg (tbA blankT)) (results_cell0 (t := 95) rfl _ _ w.heap.size (tbA blankT) rfl (q0.over (tbA blankT) (by rw [tbA_size, Zk_size])) _ Try.underlying95 rfl (by rw [sizePK, tbA_size])) rfl ⟨rfl, Below.setCells q4 (Nat.le_refl _) _ _⟩
set_option maxHeartbeats 1000000 in
theorem fresh_any (w : World) : Calls Try.prog 66 #[] w fun e w' => e = .returned (.agg frA) ∧ Below w.heap.size w w' := by
  have n0 := Whole.new w 99 (rzA 74)
  have b0 : Below w.heap.size w (w.alloc (.cells (rzA 74) 99)) := (Below.refl _ _).alloc (Nat.le_refl _) _
  have hag := aggOk_fr
  go_enter Try.func66, Try.ntmps66
  go_wp2_with fail
  refine (pblank_any _).mono ?_
  rintro e w1 ⟨rfl, hb1⟩
  go_wp2_with fail
  refine (pblank_any _).mono ?_
  rintro e w2 ⟨rfl, hb2⟩
  have n2 := (n0.below hb1).below hb2
  have t2 := n2.there (rzA_size 74)
  have z1 := hb1.size
  have z2 := hb2.size
  have B2 : Below w.heap.size w w2 := (b0.trans (hb1.mono (by simp))).trans (hb2.mono (by simp at z1; omega))
  go_wp2
  refine bodyPost_ret (v := .agg frA) (results_cell0 (t := 99) rfl _ _ w.heap.size frA rfl (n2.over frA (by rw [frA_size, rzA_size])) _ Try.underlying99 rfl (by rw [sizePR, frA_size])) rfl ⟨rfl, Below.setCells B2 (Nat.le_refl _) _ _⟩
end
structure MkOk (m : Int) : Prop where
  lo : 2 ≤ m
  hi : m ≤ 5
theorem mkPR (n : Nat) (h2 : 2 ≤ n) (h5 : n ≤ 5) (w : World) : (Instr.makeSlice 84 (.int .i64 n) (.int .i64 n)).run Try.prog w = .ok (.slice (some ⟨w.heap.size, 0, none⟩) n n) (w.alloc (.cells (rzA (n * 74)) 99)) := by
  rw [rzA_eq]
  rcases n with _ | _ | _ | _ | _ | _ | n
  · omega
  · omega
  · kernel_rfl
  · kernel_rfl
  · kernel_rfl
  · kernel_rfl
  · omega
theorem mksPR (w : World) (ρ : Operand → Value) (x : Operand) (ds : Option Tmp) (ty : TypeId) (ps : String) (af : Array Edge) (g : Option (Nat × Bool)) (h3 : ρ x = .int .i64 (intOf (ρ x))) (h4 : MkOk (intOf (ρ x))) :
    (execOp ρ { dst := ds, op := .makeSlice 84 x x, type := ty, pos := ps, after := af, guard := g }).run Try.prog w = .ok (.value (.slice (some ⟨w.heap.size, 0, none⟩) (intOf (ρ x)).toNat (intOf (ρ x)).toNat)) (w.alloc (.cells (rzA ((intOf (ρ x)).toNat * 74)) 99)) := by
  have hl := h4.lo
  have hh := h4.hi
  have hr := mkPR (intOf (ρ x)).toNat (by omega) (by omega) w
  rw [show (((intOf (ρ x)).toNat : Nat) : Int) = intOf (ρ x) from by omega, ← h3] at hr
  simp only [execOp, Sem.run_bind, hr, Result.andThen_ok, Sem.run_pure]
/-- The program's net, as it is made. -/
def pz (v : Value) (o : Nat) : Value := if o = 0 then v else if o < 26 then I 0 else .slice none 0 0
def pzA (v : Value) : Array Value := (rowW (pz v) 51 0).toArray
theorem pzA_eq (v : Value) : pzA v = ((List.range 51).map (pz v)).toArray := by unfold pzA; rw [rowW_eq]
theorem pzA_at (v : Value) (o : Nat) (h : o < 51) : (pzA v)[o]? = some (pz v o) := by rw [pzA_eq]; simp [h]
theorem blPN (a : Option Addr) (n c : Nat) (w : World) : (Instr.build 91 #[(0, .slice a n c)]).run Try.prog w = .ok (.agg (pzA (.slice a n c))) w := by rw [pzA_eq]; kernel_rfl
def isSl : Value → Bool
  | .slice _ _ _ => true
  | _ => false
theorem isSl_slice (a : Option Addr) (n c : Nat) : isSl (.slice a n c) = true := rfl
theorem bldPN (w : World) (ρ : Operand → Value) (x : Operand) (ds : Option Tmp) (ty : TypeId) (ps : String) (af : Array Edge) (g : Option (Nat × Bool)) (h3 : isSl (ρ x) = true) :
    (execOp ρ { dst := ds, op := .build 91 #[(0, x)], type := ty, pos := ps, after := af, guard := g }).run Try.prog w = .ok (.value (.agg (pzA (ρ x)))) w := by
  obtain ⟨a, n, c, h⟩ : ∃ a n c, ρ x = .slice a n c := by
    cases hv : ρ x with
    | slice a n c => exact ⟨a, n, c, rfl⟩
    | _ => rw [hv] at h3; simp [isSl] at h3
  have hr := blPN a n c w
  rw [← h] at hr
  simp only [execOp, Sem.run_bind, List.map_toArray, List.map_cons, List.map_nil, hr, Result.andThen_ok, Sem.run_pure]
set_option maxHeartbeats 400000 in
theorem pnew_no (n : Int) (w : World) (h : n < 2 ∨ 5 < n) :
    Calls Try.prog 38 #[.int .i64 n] w fun e w' => e = .returned (.tuple #[.pointer none, .int .i64 1]) ∧ w = w' := by
  rcases h with h | h
  · go_enter Try.func38, Try.ntmps38
    go_wp2
    go_ret2
    exact ⟨rfl, rfl⟩
  · have : ¬ n < 2 := by omega
    go_enter Try.func38, Try.ntmps38
    go_wp2
    go_ret2
    exact ⟨rfl, rfl⟩
/-- The routers behind k rounds. -/
structure PK (w : World) (bs n k : Nat) : Prop where
  lo : ∀ i j, i < k → j < 74 → w.cell? ⟨bs, i * 74 + j, none⟩ = some (roV freshR j)
  all : ∀ o, o < n * 74 → (w.cell? ⟨bs, o, none⟩).isSome = true
  fz : ∀ o, w.frozen? ⟨bs, o, none⟩ = false
theorem PK.of {w w' : World} {bs n k : Nat} (h : PK w bs n k) (hb : w'.heap[bs]? = w.heap[bs]?) : PK w' bs n k := by
  have hc : ∀ o, w'.cell? ⟨bs, o, none⟩ = w.cell? ⟨bs, o, none⟩ := fun o => World.cell?_of_block (w := w) hb
  have hf : ∀ o, w'.frozen? ⟨bs, o, none⟩ = w.frozen? ⟨bs, o, none⟩ := fun o => World.frozen?_of_block (w := w) hb
  exact ⟨fun i j hi hj => by rw [hc]; exact h.lo i j hi hj, fun o h1 => by rw [hc]; exact h.all o h1, fun o => by rw [hf]; exact h.fz o⟩
theorem PK.there {w : World} {bs n k : Nat} (h : PK w bs n k) (o m : Nat) (hm : o + m ≤ n * 74) : w.there bs o m := fun j hj => ⟨h.all _ (by omega), h.fz _⟩
theorem PK.step {w : World} {bs n k : Nat} (h : PK w bs n k) (hk : k < n) : PK (w.setCells bs (k * 74) frA.toList) bs n (k + 1) := by
  have hlen : frA.toList.length = 74 := by simp [frA_size]
  refine ⟨fun i j hi hj => ?_, fun o ho => World.isSome_setCells _ _ _ _ _ (h.all o ho), fun o => by rw [World.frozen?_setCells]; exact h.fz o⟩
  by_cases hik : i = k
  · subst hik
    rw [World.cell?_setCells_in bs _ _ w (fun m hm => h.all _ (by omega)) j (by omega)]
    have := frA_at j hj
    rw [List.getElem?_eq_getElem (by omega)] at this
    exact this
  · rw [World.cell?_setCells_out _ _ _ _ _ (fun _ _ => by rw [hlen]; show i * 74 + j < _ ∨ _ ≤ i * 74 + j; omega)]
    exact h.lo i j (by omega) hj
theorem PK.zero (w : World) (n : Nat) : PK (w.alloc (.cells (rzA (n * 74)) 99)) w.heap.size n 0 := by
  have h := Whole.new w 99 (rzA (n * 74))
  exact ⟨fun i j hi => by omega, fun o ho => by rw [h.cell o, rzA_at _ o ho]; rfl, h.frozen⟩
theorem PK.pn {w : World} {bx bs n : Nat} (h : PK w bs n n) (hx : Whole w bx 91 (pzA (.slice (some ⟨bs, 0, none⟩) n n))) (hne : bx ≠ bs) : PN w bx bs (newN n) (fun _ _ => .slice none 0 0) := by
  have hc : ∀ o, o < 51 → w.cell? ⟨bx, o, none⟩ = some (pz (.slice (some ⟨bs, 0, none⟩) n n) o) := fun o ho => by rw [hx.cell o, pzA_at _ o ho]
  refine ⟨by rw [hc 0 (by omega)]; rfl, fun a b ha hb => ?_, fun a b ha hb => ?_, hx.frozen, h.lo, h.fz, hne⟩
  · rw [hc _ (by omega)]; unfold pz; rw [if_neg (by omega), if_pos (by omega)]; rfl
  · rw [hc _ (by omega)]; unfold pz; rw [if_neg (by omega), if_neg (by omega)]
def S7 (bx bs n o : Nat) (w' : World) : Prop := w'.cell? ⟨bx, 0, none⟩ = some (.slice (some ⟨bs, 0, none⟩) n n) ∧ w'.there bs o 74
theorem S7_drew {bx bs n o : Nat} {w : World} (h : S7 bx bs n o w) : S7 bx bs n o w.drew := h
theorem S7_below {bx bs n o : Nat} {w w' : World} (h : S7 bx bs n o w) (hb : Below w.heap.size w w') : S7 bx bs n o w' := by
  refine ⟨by rw [hb.cell (p := ⟨bx, 0, none⟩) (lt_of_cell h.1)]; exact h.1, fun j hj => ?_⟩
  have := h.2 j hj
  obtain ⟨v, hv⟩ := Option.isSome_iff_exists.1 this.1
  have hlt : bs < w.heap.size := lt_of_cell hv
  rw [hb.cell (p := ⟨bs, o + j, none⟩) hlt, hb.frozen (p := ⟨bs, o + j, none⟩) hlt]
  exact this
theorem S7_store {bx bs n o : Nat} {w : World} (h : S7 bx bs n o w) (hne : bx ≠ bs) (l : List Value) : S7 bx bs n o (w.setCells bs o l) := by
  have e : (w.setCells bs o l).heap[bx]? = w.heap[bx]? := (setCells_block bs l o w).2.1 _ hne
  exact ⟨by rw [World.cell?_of_block (w := w) (a := ⟨bx, 0, none⟩) e]; exact h.1, World.there_setCells h.2 _ _ _⟩
attribute [local go_sem ↓] Go.wp_at_zero Go.wp_at_succ stPR alcPR mksPR bldPN
attribute [local go_sem] vb_ptr vo_ptr cellsL_agg size_setCells intOf_int isSl_slice
set_option maxHeartbeats 1000000 in
theorem pnew_ok (n : Nat) (w : World) (h2 : 2 ≤ n) (h5 : n ≤ 5) :
    Calls Try.prog 38 #[.int .i64 n] w fun e w' => ∃ bx bs, w.heap.size ≤ bx ∧ w.heap.size ≤ bs ∧ e = .returned (.tuple #[.pointer (some ⟨bx, 0, none⟩), .int .i64 0]) ∧ PN w' bx bs (newN n) (fun _ _ => .slice none 0 0) ∧ Below w.heap.size w w' := by
  have g2 : ¬ (n : Int) < 2 := by omega
  have g5 : ¬ (5 : Int) < (n : Int) := by omega
  have hmk : MkOk (n : Int) := ⟨by omega, by omega⟩
  have hag := aggOk_fr
  have hp0 : (pzA (.slice (some ⟨w.heap.size, 0, none⟩) n n))[0]? = some (.slice (some ⟨w.heap.size, 0, none⟩) n n) := pzA_at _ 0 (by omega)
  go_enter Try.func38, Try.ntmps38
  go_wp2
  have hS := Whole.new (w.alloc (.cells (rzA (n * 74)) 99)) 91 (pzA (.slice (some ⟨w.heap.size, 0, none⟩) n n))
  have hP := (PK.zero w n).of (Below.heap_alloc (w.alloc (.cells (rzA (n * 74)) 99)) (.cells (pzA (.slice (some ⟨w.heap.size, 0, none⟩) n n)) 91) w.heap.size (by simp))
  have hBel : Below w.heap.size w ((w.alloc (.cells (rzA (n * 74)) 99)).alloc (.cells (pzA (.slice (some ⟨w.heap.size, 0, none⟩) n n)) 91)) := ((Below.refl _ _).alloc (Nat.le_refl _) _).alloc (by simp) _
  simp only [World.size_alloc] at hS
  have hne : w.heap.size + 1 ≠ w.heap.size := by omega
  go_loopw [21] (fun i wr => ∃ k : Nat, k ≤ n ∧ i = .int .i64 k ∧ Whole wr (w.heap.size + 1) 91 (pzA (.slice (some ⟨w.heap.size, 0, none⟩) n n)) ∧ PK wr w.heap.size n k ∧ Below w.heap.size w wr) (fun i _ => n - (intOf i).toNat)
  case atStart => exact ⟨0, by omega, rfl, hS, hP, hBel⟩
  case round =>
    clear hS hP hBel
    obtain ⟨k, hk, rfl, q0, q1, q4⟩ := hrel
    by_cases hkn : k < n
    · have hk' : (k : Int) < (n : Int) := by omega
      have hk0 : (0 : Int) ≤ (k : Int) := by omega
      have hI : S7 (w.heap.size + 1) w.heap.size n (k * 74) wr := ⟨by rw [q0.cell 0, pzA_at _ 0 (by omega)]; rfl, q1.there _ _ (by omega)⟩
      have Q0 : Hid (Whole wr (w.heap.size + 1) 91 (pzA (.slice (some ⟨w.heap.size, 0, none⟩) n n))) := q0; clear q0
      have Q1 : Hid (PK wr w.heap.size n k) := q1; clear q1
      have Q4 : Hid (Below w.heap.size w wr) := q4; clear q4
      go_wp2_with fail
      go_region_held3 (fun w' => w'.cell? ⟨w.heap.size + 1, 0, none⟩ = some (.slice (some ⟨w.heap.size, 0, none⟩) n n) ∧ w'.there w.heap.size (k * 74) 74) (first | exact S7_drew hI | exact S7_below (by assumption) hb | exact S7_store (by assumption) hne _)
        (first | (go_at_call 66; refine (fresh_any _).mono ?_; rintro e w1 ⟨rfl, hb⟩))
      go_wp2
      go_roundw
      case rel =>
        have z1 := Q4.out.size
        have l0 : w.heap.size < wr.drew.heap.size := Nat.lt_of_succ_lt Q0.out.lt
        have P1 : PK w1 w.heap.size n k := (Q1.out.of (w' := wr.drew) rfl).of (hb.block _ l0)
        have X1 : Whole (w1.setCells w.heap.size (k * 74) frA.toList) (w.heap.size + 1) 91 (pzA (.slice (some ⟨w.heap.size, 0, none⟩) n n)) := (Q0.out.drew.below hb).setCells hne _ _
        have B1 : Below w.heap.size w (w1.setCells w.heap.size (k * 74) frA.toList) := Below.setCells (Q4.out.drew.trans (hb.mono z1)) (Nat.le_refl _) _ _
        first
        | exact ⟨k + 1, by omega, by go_num, X1, P1.step hkn, B1⟩
        | ((repeat apply Exists.intro); exact ⟨⟨k + 1, by omega, by go_num, X1, P1.step hkn, B1⟩, rfl⟩)
      case measure => simp [intOf]; omega
    · have hk6 : k = n := by omega
      subst hk6
      go_wp2
      go_ret2
      exact ⟨w.heap.size + 1, w.heap.size, by omega, Nat.le_refl _, rfl, q1.pn q0 hne, q4⟩
end Go.Proofs.Ytdoodnbobpijoaa
