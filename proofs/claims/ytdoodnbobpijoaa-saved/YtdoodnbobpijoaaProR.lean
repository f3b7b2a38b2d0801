import Derived.Test.YtdoodnbobpijoaaProC
namespace Go.Proofs.Ytdoodnbobpijoaa
open Go.RowKit

/-! ### Values of the program's own types: messages, knowledge, routers -/
theorem alPM (w : World) : (Instr.alloc 104 true (.tuple #[])).run Try.prog w = .ok (.pointer (some ⟨w.heap.size, 0, none⟩)) (w.alloc (.cells Zm 104)) := by rw [Zm_eq]; kernel_rfl
theorem alPK (w : World) : (Instr.alloc 95 true (.tuple #[])).run Try.prog w = .ok (.pointer (some ⟨w.heap.size, 0, none⟩)) (w.alloc (.cells Zk 95)) := by rw [Zk_eq]; kernel_rfl
theorem sizePM : (Try.prog.info? 104).map (·.size) = some 10 := by kernel_rfl
theorem sizePK : (Try.prog.info? 95).map (·.size) = some 36 := by kernel_rfl
theorem sizePC : (Try.prog.info? 85).map (·.size) = some 5 := by kernel_rfl
theorem ldPM (w : World) (ρ : Operand → Value) (x : Operand) (ds : Option Tmp) (ty : TypeId) (ps : String) (af : Array Edge) (g : Option (Nat × Bool))
    (h1 : ρ x = .pointer (some ⟨vb (ρ x), vo (ρ x), none⟩)) (h2 : MidOk w (vb (ρ x)) (vo (ρ x)) 10) :
    (execOp ρ { dst := ds, op := .load 104 x, type := ty, pos := ps, after := af, guard := g }).run Try.prog w = .ok (.value (.agg (midA w (vb (ρ x)) (vo (ρ x)) 10))) w :=
  load_rule Try.underlying104 rfl sizePM w ρ x ds ty ps af g h1 h2
theorem stPM (w : World) (ρ : Operand → Value) (x y : Operand) (ds : Option Tmp) (ty : TypeId) (ps : String) (af : Array Edge) (g : Option (Nat × Bool))
    (h1 : ρ x = .pointer (some ⟨vb (ρ x), vo (ρ x), none⟩)) (h3 : AggOk 10 (ρ y)) (h2 : w.there (vb (ρ x)) (vo (ρ x)) 10) :
    (execOp ρ { dst := ds, op := .store 104 x y, type := ty, pos := ps, after := af, guard := g }).run Try.prog w = .ok .skip (w.setCells (vb (ρ x)) (vo (ρ x)) (cellsL (ρ y))) :=
  store_rule sizePM w ρ x y ds ty ps af g h1 h3 h2
theorem alcPM (w : World) (ρ : Operand → Value) (ds : Option Tmp) (ty : TypeId) (ps : String) (af : Array Edge) (g : Option (Nat × Bool)) :
    (execOp ρ { dst := ds, op := .alloc 104, type := ty, pos := ps, after := af, guard := g }).run Try.prog w = .ok (.value (.pointer (some ⟨w.heap.size, 0, none⟩))) (w.alloc (.cells Zm 104)) :=
  alloc_rule alPM w ρ ds ty ps af g
theorem ldPK (w : World) (ρ : Operand → Value) (x : Operand) (ds : Option Tmp) (ty : TypeId) (ps : String) (af : Array Edge) (g : Option (Nat × Bool))
    (h1 : ρ x = .pointer (some ⟨vb (ρ x), vo (ρ x), none⟩)) (h2 : MidOk w (vb (ρ x)) (vo (ρ x)) 36) :
    (execOp ρ { dst := ds, op := .load 95 x, type := ty, pos := ps, after := af, guard := g }).run Try.prog w = .ok (.value (.agg (midA w (vb (ρ x)) (vo (ρ x)) 36))) w :=
  load_rule Try.underlying95 rfl sizePK w ρ x ds ty ps af g h1 h2
theorem stPK (w : World) (ρ : Operand → Value) (x y : Operand) (ds : Option Tmp) (ty : TypeId) (ps : String) (af : Array Edge) (g : Option (Nat × Bool))
    (h1 : ρ x = .pointer (some ⟨vb (ρ x), vo (ρ x), none⟩)) (h3 : AggOk 36 (ρ y)) (h2 : w.there (vb (ρ x)) (vo (ρ x)) 36) :
    (execOp ρ { dst := ds, op := .store 95 x y, type := ty, pos := ps, after := af, guard := g }).run Try.prog w = .ok .skip (w.setCells (vb (ρ x)) (vo (ρ x)) (cellsL (ρ y))) :=
  store_rule sizePK w ρ x y ds ty ps af g h1 h3 h2
theorem alcPK (w : World) (ρ : Operand → Value) (ds : Option Tmp) (ty : TypeId) (ps : String) (af : Array Edge) (g : Option (Nat × Bool)) :
    (execOp ρ { dst := ds, op := .alloc 95, type := ty, pos := ps, after := af, guard := g }).run Try.prog w = .ok (.value (.pointer (some ⟨w.heap.size, 0, none⟩))) (w.alloc (.cells Zk 95)) :=
  alloc_rule alPK w ρ ds ty ps af g
theorem ldPC (w : World) (ρ : Operand → Value) (x : Operand) (ds : Option Tmp) (ty : TypeId) (ps : String) (af : Array Edge) (g : Option (Nat × Bool))
    (h1 : ρ x = .pointer (some ⟨vb (ρ x), vo (ρ x), none⟩)) (h2 : MidOk w (vb (ρ x)) (vo (ρ x)) 5) :
    (execOp ρ { dst := ds, op := .load 85 x, type := ty, pos := ps, after := af, guard := g }).run Try.prog w = .ok (.value (.agg (midA w (vb (ρ x)) (vo (ρ x)) 5))) w :=
  load_rule Try.underlying85 rfl sizePC w ρ x ds ty ps af g h1 h2
theorem infoPM : ∃ i z, Try.prog.info? 104 = some i ∧ i.zero = some z ∧ i.size = 10 ∧ i.bytes = 80 ∧ z.cells.size = 10 := by
  have h : (match Try.prog.info? 104 with | some i => (match i.zero with | some z => i.size == 10 && i.bytes == 80 && z.cells.size == 10 | none => false) | none => false) = true := by kernel_rfl
  cases hi : Try.prog.info? 104 with
  | none => simp [hi] at h
  | some i =>
    cases hz : i.zero with
    | none => simp [hi, hz] at h
    | some z => simp [hi, hz] at h; exact ⟨i, z, rfl, hz, h.1.1, h.1.2, h.2⟩
theorem mgA_lit (m : Nat → Bs) : mgA m = #[I (m 0).sq, I (m 0).mt, I (m 1).sq, I (m 1).mt, I (m 2).sq, I (m 2).mt, I (m 3).sq, I (m 3).mt, I (m 4).sq, I (m 4).mt] := by
  unfold mgA mgL; rw [rowW_eq]; rfl
theorem idx_msg (m : Nat → Bs) (k : Nat) (hk : k < 5) (w : World) : (Instr.index 104 (.agg (mgA m)) (.int .i64 k)).run Try.prog w = .ok (.agg #[.int .i64 (m k).sq, .int .i64 (m k).mt]) w := by
  rw [mgA_lit]
  rcases k with _ | _ | _ | _ | _ | k
  · kernel_rfl
  · kernel_rfl
  · kernel_rfl
  · kernel_rfl
  · kernel_rfl
  · omega
theorem idx_co (f : Nat → Int) (k : Nat) (hk : k < 5) (w : World) : (Instr.index 85 (.agg (coA f)) (.int .i64 k)).run Try.prog w = .ok (I (f k)) w := by
  rcases k with _ | _ | _ | _ | _ | k
  · kernel_rfl
  · kernel_rfl
  · kernel_rfl
  · kernel_rfl
  · kernel_rfl
  · omega
/-- The costs of a router's links, as they lie in the net. -/
theorem coA_mid {w : World} {b o : Nat} {f : Nat → Int} (h : ∀ k, k < 5 → w.cell? ⟨b, o + k, none⟩ = some (I (f k))) : midA w b o 5 = coA f ∧ MidOk w b o 5 := midA_eq rfl fun j v hv => by
  have hj : j < 5 := by
    rcases Nat.lt_or_ge j 5 with h | hge
    · exact h
    · have : (coA f).toList[j]? = none := List.getElem?_eq_none (by simpa using hge)
      rw [this] at hv; cases hv
  have := coA_at f j hj
  rw [h j hj, ← this]; simpa using hv
/-- What a router knows, as a value. -/
theorem KT.mid {w : World} {b o : Nat} {T : Tb} (h : KT w b o T) : midA w b o 36 = tbA T ∧ MidOk w b o 36 := midA_eq (tbA_size T) fun j v hv => by
  have hj : j < 36 := by
    rcases Nat.lt_or_ge j 36 with h | hge
    · exact h
    · have : (tbA T).toList[j]? = none := List.getElem?_eq_none (by rw [Array.length_toList, tbA_size]; exact hge)
      rw [this] at hv; cases hv
  have := tbA_at T j hj
  rw [h.at_ j hj, ← this]; simpa using hv
theorem KT.there {w : World} {b o : Nat} {T : Tb} (h : KT w b o T) : w.there b o 36 := fun j hj => ⟨by rw [h.at_ j hj]; rfl, h.fz _⟩
/-- Knowledge written over. -/
theorem KT.over {w : World} {b o : Nat} {T : Tb} (h : KT w b o T) (U : Tb) : KT (w.setCells b o (tbA U).toList) b o U ∧ Fr w (w.setCells b o (tbA U).toList) b o := by
  have hl : (tbA U).toList.length = 36 := by rw [Array.length_toList, tbA_size]
  have hex : ∀ j, j < (tbA U).toList.length → (w.cell? ⟨b, o + j, none⟩).isSome = true := fun j hj => by rw [h.at_ j (by omega)]; rfl
  refine ⟨⟨fun j hj => ?_, fun j => by rw [World.frozen?_setCells]; exact h.fz j⟩, ⟨(Only.refl (· = b) w).setCells (.inl rfl) _ _, fun p hp => World.cell?_setCells_out b _ _ w ⟨b, p, none⟩ (fun _ _ => by show p < _ ∨ _ ≤ p; rw [hl]; omega)⟩⟩
  rw [World.cell?_setCells_in b _ _ w hex j (by omega)]
  have := tbA_at U j hj
  rw [Array.getElem?_eq_getElem (by rw [tbA_size]; exact hj)] at this
  have e := Option.some.inj this
  simpa using e
end Go.Proofs.Ytdoodnbobpijoaa
