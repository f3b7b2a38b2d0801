import Derived.Test.YtdoodnbobpijoaaBunL
import Derived.Test.YtdoodnbobpijoaaBunJ
import Derived.Laws.StructEq
import Derived.ChangeKeysEq
import Derived.Test.YtdoodnbobpijoaaBunN
namespace Go.Proofs.Ytdoodnbobpijoaa
open Go.RowKit

/-! ### Sheets compared -/
def bestsA (E : Nat → Bs) : Array Value := #[I (E 0).sq, I (E 0).mt, I (E 1).sq, I (E 1).mt, I (E 2).sq, I (E 2).mt, I (E 3).sq, I (E 3).mt, I (E 4).sq, I (E 4).mt]
def routesA (R : Nat → Rt) : Array Value := #[I (R 0).nx, I (R 0).sq, I (R 0).mt, I (R 0).ag, I (R 0).st, I (R 1).nx, I (R 1).sq, I (R 1).mt, I (R 1).ag, I (R 1).st, I (R 2).nx, I (R 2).sq, I (R 2).mt, I (R 2).ag, I (R 2).st, I (R 3).nx, I (R 3).sq, I (R 3).mt, I (R 3).ag, I (R 3).st, I (R 4).nx, I (R 4).sq, I (R 4).mt, I (R 4).ag, I (R 4).st]
section
variable (w : World)
theorem eq_int (d : Nat) (a : Int) : (Op.equalIn (d + 1) 3 (I a) (I a)).run Try.prog w = .ok true w := by
  rw [run_equalIn_int w d 3 .i64 .i64 a a Try.underlying3]
  simp
theorem eq_best (d : Nat) (a b : Int) : (Op.equalIn (d + 2) 50 (.agg #[I a, I b]) (.agg #[I a, I b])).run Try.prog w = .ok true w := by
  rw [run_equalIn_struct w (d + 1) 50 _ _ (by kernel_rfl) (by kernel_rfl)]
  have p1 : (part 3 #[I a, I b] 0).run Try.prog w = .ok (I a) w := by kernel_rfl
  have p2 : (part 3 #[I a, I b] 1).run Try.prog w = .ok (I b) w := by kernel_rfl
  simp [Program.fieldsOf, Try.underlying50, Op.eqFields, p1, p2, eq_int]
theorem eq_route (k : Nat) (a b c d e : Int) : (Op.equalIn (k + 2) 47 (.agg #[I a, I b, I c, I d, I e]) (.agg #[I a, I b, I c, I d, I e])).run Try.prog w = .ok true w := by
  rw [run_equalIn_struct w (k + 1) 47 _ _ (by kernel_rfl) (by kernel_rfl)]
  have p0 : (part 3 #[I a, I b, I c, I d, I e] 0).run Try.prog w = .ok (I a) w := by kernel_rfl
  have p1 : (part 3 #[I a, I b, I c, I d, I e] 1).run Try.prog w = .ok (I b) w := by kernel_rfl
  have p2 : (part 3 #[I a, I b, I c, I d, I e] 2).run Try.prog w = .ok (I c) w := by kernel_rfl
  have p3 : (part 3 #[I a, I b, I c, I d, I e] 3).run Try.prog w = .ok (I d) w := by kernel_rfl
  have p4 : (part 3 #[I a, I b, I c, I d, I e] 4).run Try.prog w = .ok (I e) w := by kernel_rfl
  simp [Program.fieldsOf, Try.underlying47, Op.eqFields, p0, p1, p2, p3, p4, eq_int]
theorem range5 : List.range 5 = [0, 1, 2, 3, 4] := by decide
theorem eq_bests (k : Nat) (E : Nat → Bs) : (Op.equalIn (k + 3) 51 (.agg (bestsA E)) (.agg (bestsA E))).run Try.prog w = .ok true w := by
  obtain ⟨i, hi⟩ := Option.isSome_iff_exists.1 (show (Try.prog.info? 50).isSome = true by kernel_rfl)
  rw [run_equalIn_array w (k + 2) _ _ Try.underlying51 hi, range5, show Try.prog.cellsOf 50 = 2 by kernel_rfl]
  have p0 : (part 50 (bestsA E) (0 * 2)).run Try.prog w = .ok (.agg #[I (E 0).sq, I (E 0).mt]) w := by kernel_rfl
  have p1 : (part 50 (bestsA E) (1 * 2)).run Try.prog w = .ok (.agg #[I (E 1).sq, I (E 1).mt]) w := by kernel_rfl
  have p2 : (part 50 (bestsA E) (2 * 2)).run Try.prog w = .ok (.agg #[I (E 2).sq, I (E 2).mt]) w := by kernel_rfl
  have p3 : (part 50 (bestsA E) (3 * 2)).run Try.prog w = .ok (.agg #[I (E 3).sq, I (E 3).mt]) w := by kernel_rfl
  have p4 : (part 50 (bestsA E) (4 * 2)).run Try.prog w = .ok (.agg #[I (E 4).sq, I (E 4).mt]) w := by kernel_rfl
  simp only [Op.eqItems, Sem.run_bind, p0, p1, p2, p3, p4, Result.andThen_ok, eq_best, Bool.not_true, Bool.false_eq_true, if_false, Sem.run_pure]
theorem eq_routes (k : Nat) (R : Nat → Rt) : (Op.equalIn (k + 3) 48 (.agg (routesA R)) (.agg (routesA R))).run Try.prog w = .ok true w := by
  obtain ⟨i, hi⟩ := Option.isSome_iff_exists.1 (show (Try.prog.info? 47).isSome = true by kernel_rfl)
  rw [run_equalIn_array w (k + 2) _ _ Try.underlying48 hi, range5, show Try.prog.cellsOf 47 = 5 by kernel_rfl]
  have p0 : (part 47 (routesA R) (0 * 5)).run Try.prog w = .ok (.agg #[I (R 0).nx, I (R 0).sq, I (R 0).mt, I (R 0).ag, I (R 0).st]) w := by kernel_rfl
  have p1 : (part 47 (routesA R) (1 * 5)).run Try.prog w = .ok (.agg #[I (R 1).nx, I (R 1).sq, I (R 1).mt, I (R 1).ag, I (R 1).st]) w := by kernel_rfl
  have p2 : (part 47 (routesA R) (2 * 5)).run Try.prog w = .ok (.agg #[I (R 2).nx, I (R 2).sq, I (R 2).mt, I (R 2).ag, I (R 2).st]) w := by kernel_rfl
  have p3 : (part 47 (routesA R) (3 * 5)).run Try.prog w = .ok (.agg #[I (R 3).nx, I (R 3).sq, I (R 3).mt, I (R 3).ag, I (R 3).st]) w := by kernel_rfl
  have p4 : (part 47 (routesA R) (4 * 5)).run Try.prog w = .ok (.agg #[I (R 4).nx, I (R 4).sq, I (R 4).mt, I (R 4).ag, I (R 4).st]) w := by kernel_rfl
  simp only [Op.eqItems, Sem.run_bind, p0, p1, p2, p3, p4, Result.andThen_ok, eq_route, Bool.not_true, Bool.false_eq_true, if_false, Sem.run_pure]
theorem eq_sheet (k : Nat) (R : Nat → Rt) (E : Nat → Bs) : (Op.equalIn (k + 4) 53 (.agg (sheetA R E)) (.agg (sheetA R E))).run Try.prog w = .ok true w := by
  rw [run_equalIn_struct w (k + 3) 53 _ _ (by kernel_rfl) (by kernel_rfl)]
  have p0 : (part 48 (sheetA R E) 0).run Try.prog w = .ok (.agg (routesA R)) w := by kernel_rfl
  have p1 : (part 51 (sheetA R E) 25).run Try.prog w = .ok (.agg (bestsA E)) w := by kernel_rfl
  simp [Program.fieldsOf, Try.underlying53, Op.eqFields, p0, p1, eq_routes, eq_bests]
/-! The rules of a walk -/
structure TwinS (u v : Value) : Prop where
  ex : ∃ R E, u = .agg (sheetA R E) ∧ v = .agg (sheetA R E)
structure TwinB (u v : Value) : Prop where
  ex : ∃ E, u = .agg (bestsA E) ∧ v = .agg (bestsA E)
variable (ρ : Operand → Value) (x y : Operand) (ds : Option Tmp) (ty t' : TypeId) (ps : String) (af : Array Edge) (g : Option (Nat × Bool))
theorem neSheet (h : TwinS (ρ x) (ρ y)) : (execOp ρ { dst := ds, op := .binOp .neq 53 x y t', type := ty, pos := ps, after := af, guard := g }).run Try.prog w = .ok (.value (.bool false)) w := by
  obtain ⟨R, E, h1, h2⟩ := h.ex
  have hg : (eqGuard .neq 53 x y (.agg (sheetA R E)) (.agg (sheetA R E))).run Try.prog w = .ok () w := by kernel_rfl
  have he : (Op.equal 53 (.agg (sheetA R E)) (.agg (sheetA R E))).run Try.prog w = .ok true w := eq_sheet w _ R E
  have hb : (binOp .neq 53 (.agg (sheetA R E)) (.agg (sheetA R E))).run Try.prog w = .ok (.bool false) w := by
    show (Op.equal 53 (.agg (sheetA R E)) (.agg (sheetA R E)) >>= fun b => pure (Value.bool (!b)) : Sem Value).run Try.prog w = _
    rw [Sem.run_bind, he]; rfl
  simp only [execOp, h1, h2, Sem.run_bind, hg, Result.andThen_ok, hb, Sem.run_pure]
theorem eqSheet (h : TwinS (ρ x) (ρ y)) : (execOp ρ { dst := ds, op := .binOp .eql 53 x y t', type := ty, pos := ps, after := af, guard := g }).run Try.prog w = .ok (.value (.bool true)) w := by
  obtain ⟨R, E, h1, h2⟩ := h.ex
  have hg : (eqGuard .eql 53 x y (.agg (sheetA R E)) (.agg (sheetA R E))).run Try.prog w = .ok () w := by kernel_rfl
  have he : (Op.equal 53 (.agg (sheetA R E)) (.agg (sheetA R E))).run Try.prog w = .ok true w := eq_sheet w _ R E
  have hb : (binOp .eql 53 (.agg (sheetA R E)) (.agg (sheetA R E))).run Try.prog w = .ok (.bool true) w := by
    show (Op.equal 53 (.agg (sheetA R E)) (.agg (sheetA R E)) >>= fun b => pure (Value.bool b) : Sem Value).run Try.prog w = _
    rw [Sem.run_bind, he]; rfl
  simp only [execOp, h1, h2, Sem.run_bind, hg, Result.andThen_ok, hb, Sem.run_pure]
theorem neBests (h : TwinB (ρ x) (ρ y)) : (execOp ρ { dst := ds, op := .binOp .neq 51 x y t', type := ty, pos := ps, after := af, guard := g }).run Try.prog w = .ok (.value (.bool false)) w := by
  obtain ⟨E, h1, h2⟩ := h.ex
  have hg : (eqGuard .neq 51 x y (.agg (bestsA E)) (.agg (bestsA E))).run Try.prog w = .ok () w := by kernel_rfl
  have he : (Op.equal 51 (.agg (bestsA E)) (.agg (bestsA E))).run Try.prog w = .ok true w := eq_bests w _ E
  have hb : (binOp .neq 51 (.agg (bestsA E)) (.agg (bestsA E))).run Try.prog w = .ok (.bool false) w := by
    show (Op.equal 51 (.agg (bestsA E)) (.agg (bestsA E)) >>= fun b => pure (Value.bool (!b)) : Sem Value).run Try.prog w = _
    rw [Sem.run_bind, he]; rfl
  simp only [execOp, h1, h2, Sem.run_bind, hg, Result.andThen_ok, hb, Sem.run_pure]
end
end Go.Proofs.Ytdoodnbobpijoaa

namespace Go.Proofs.Ytdoodnbobpijoaa
open Go.RowKit

/-! ### Two nets beside one another, and what else is kept -/
structure Kb where
  b : Nat
  t : TypeId
  C : Array Value
/-- Which blocks the two nets are. -/
structure Ids where
  k1 : Nat
  x1 : Nat
  s1 : Nat
  k2 : Nat
  x2 : Nat
  s2 : Nat
def TwoN (w0 w : World) (d : Ids) (A1 A2 : Nt) (L : List Kb) : Prop :=
  ∃ ρ V1 V2, KI w w0.heap.size ρ 0 d.k1 d.x1 d.s1 A1 V1 ∧ KI w w0.heap.size ρ 1 d.k2 d.x2 d.s2 A2 V2 ∧ (∀ k, w.heap.size ≤ k → ρ k = (0, 0)) ∧ (∀ k, k < w0.heap.size → ρ k = (0, 0)) ∧ Below w0.heap.size w0 w ∧ ∀ x ∈ L, Whole w x.b x.t x.C ∧ ρ x.b = (0, 0)
section
variable {w0 w : World} {d : Ids} {A1 A2 : Nt} {L : List Kb}
theorem TwoN.low (h : TwoN w0 w d A1 A2 L) : Below w0.heap.size w0 w := let ⟨_, _, _, _, _, _, _, b, _⟩ := h; b
theorem TwoN.kept (h : TwoN w0 w d A1 A2 L) (x : Kb) (hx : x ∈ L) : Whole w x.b x.t x.C := let ⟨_, _, _, _, _, _, _, _, l⟩ := h; (l x hx).1
theorem TwoN.cx (h : TwoN w0 w d A1 A2 L) : w.cell? ⟨d.k1, 0, none⟩ = some (.pointer (some ⟨d.x1, 0, none⟩)) ∧ w.cell? ⟨d.k1, 1, none⟩ = some (.int .i64 A1.n) := let ⟨_, _, _, k, _⟩ := h; ⟨k.k0, k.k1⟩
theorem TwoN.cy (h : TwoN w0 w d A1 A2 L) : w.cell? ⟨d.k2, 0, none⟩ = some (.pointer (some ⟨d.x2, 0, none⟩)) ∧ w.cell? ⟨d.k2, 1, none⟩ = some (.int .i64 A2.n) := let ⟨_, _, _, _, k, _⟩ := h; ⟨k.k0, k.k1⟩
theorem TwoN.low_aft {ρ ρ' : Nat → Part} {i : Nat} {w' : World} (hb : Below w0.heap.size w0 w) (hl : ∀ k, k < w0.heap.size → ρ k = (0, 0)) (a : Aft i ρ ρ' w w') : Below w0.heap.size w0 w' :=
  ⟨a.only.os.trans hb.os, a.only.tape.trans hb.tape, a.only.output.trans hb.output, Nat.le_trans hb.size a.only.size, fun k hk => (a.only.block k (Nat.lt_of_lt_of_le hk hb.size) (by rw [hl k hk]; simp)).trans (hb.block k hk)⟩
theorem TwoN.kept_aft {ρ ρ' : Nat → Part} {i : Nat} {w' : World} (l : ∀ x ∈ L, Whole w x.b x.t x.C ∧ ρ x.b = (0, 0)) (a : Aft i ρ ρ' w w') : ∀ x ∈ L, Whole w' x.b x.t x.C ∧ ρ' x.b = (0, 0) := fun x hx =>
  ⟨(l x hx).1.of (a.only.block _ (l x hx).1.lt (by rw [(l x hx).2]; simp)), (a.old _ (l x hx).1.lt).trans (l x hx).2⟩
/-- A call on the first net. -/
theorem TwoN.x (h : TwoN w0 w d A1 A2 L) {A' : Nt} {F : FuncId} {args : Array Value} {E : Ending} (hc : ∀ ρ V, KI w w0.heap.size ρ 0 d.k1 d.x1 d.s1 A1 V → (∀ k, w.heap.size ≤ k → ρ k = (0, 0)) → w0.heap.size ≤ w.heap.size → Calls Try.prog F args w fun e w' => e = E ∧ PostK w0.heap.size 0 ρ d.k1 d.x1 d.s1 A' w w') :
    Calls Try.prog F args w fun e w' => e = E ∧ TwoN w0 w' d A' A2 L := by
  obtain ⟨ρ, V1, V2, hx, hy, hn, hl, hb, l⟩ := h
  refine (hc ρ V1 hx hn hb.size).mono fun e w' ⟨he, ρ', V', k, a⟩ => ⟨he, ρ', V', V2, k, hy.aft a (by omega), a.new, fun j hj => (a.old j (Nat.lt_of_lt_of_le hj hb.size)).trans (hl j hj), TwoN.low_aft hb hl a, TwoN.kept_aft l a⟩
/-- A call on the second net. -/
theorem TwoN.y (h : TwoN w0 w d A1 A2 L) {A' : Nt} {F : FuncId} {args : Array Value} {E : Ending} (hc : ∀ ρ V, KI w w0.heap.size ρ 1 d.k2 d.x2 d.s2 A2 V → (∀ k, w.heap.size ≤ k → ρ k = (0, 0)) → w0.heap.size ≤ w.heap.size → Calls Try.prog F args w fun e w' => e = E ∧ PostK w0.heap.size 1 ρ d.k2 d.x2 d.s2 A' w w') :
    Calls Try.prog F args w fun e w' => e = E ∧ TwoN w0 w' d A1 A' L := by
  obtain ⟨ρ, V1, V2, hx, hy, hn, hl, hb, l⟩ := h
  refine (hc ρ V2 hy hn hb.size).mono fun e w' ⟨he, ρ', V', k, a⟩ => ⟨he, ρ', V1, V', hx.aft a (by omega), k, a.new, fun j hj => (a.old j (Nat.lt_of_lt_of_le hj hb.size)).trans (hl j hj), TwoN.low_aft hb hl a, TwoN.kept_aft l a⟩
theorem TwoN.below {w' : World} (h : TwoN w0 w d A1 A2 L) (b : Below w.heap.size w w') : TwoN w0 w' d A1 A2 L := by
  obtain ⟨ρ, V1, V2, hx, hy, hn, hl, hb, l⟩ := h
  exact ⟨ρ, V1, V2, hx.below b, hy.below b, fun k hk => hn k (Nat.le_trans b.size hk), hl, hb.trans (b.mono hb.size), fun x hx => ⟨(l x hx).1.below b, (l x hx).2⟩⟩
/-- A block more. -/
theorem TwoN.more {w' : World} {t : TypeId} {C : Array Value} (h : TwoN w0 w d A1 A2 L) (b : Below w.heap.size w w') (n : Whole w' w.heap.size t C) : TwoN w0 w' d A1 A2 (⟨w.heap.size, t, C⟩ :: L) := by
  obtain ⟨ρ, V1, V2, hx, hy, hn, hl, hb, l⟩ := h
  refine ⟨ρ, V1, V2, hx.below b, hy.below b, fun k hk => hn k (Nat.le_trans b.size hk), hl, hb.trans (b.mono hb.size), fun x hx => ?_⟩
  rcases List.mem_cons.1 hx with e | e
  · subst e; exact ⟨n, hn _ (Nat.le_refl _)⟩
  · exact ⟨(l x e).1.below b, (l x e).2⟩
theorem TwoN.rx (h : TwoN w0 w d A1 A2 L) : ∃ ρ V, KI w w0.heap.size ρ 0 d.k1 d.x1 d.s1 A1 V := let ⟨ρ, V1, _, k, _⟩ := h; ⟨ρ, V1, k⟩
theorem TwoN.ry (h : TwoN w0 w d A1 A2 L) : ∃ ρ V, KI w w0.heap.size ρ 1 d.k2 d.x2 d.s2 A2 V := let ⟨ρ, _, V2, _, k, _⟩ := h; ⟨ρ, V2, k⟩
theorem TwoN.sheetx (h : TwoN w0 w d A1 A2 L) (r : Nat) : Calls Try.prog 23 #[.pointer (some ⟨d.k1, 0, none⟩), .int .i64 r] w fun e w' => e = .returned (.agg (sheetA (shR A1 r A1.n) (shB A1 r A1.n))) ∧ TwoN w0 w' d A1 A2 L := by
  obtain ⟨ρ, V, k⟩ := h.rx
  exact (ksheet k r).mono fun e w' ⟨he, b⟩ => ⟨he, h.below b⟩
theorem TwoN.sheety (h : TwoN w0 w d A1 A2 L) (r : Nat) : Calls Try.prog 23 #[.pointer (some ⟨d.k2, 0, none⟩), .int .i64 r] w fun e w' => e = .returned (.agg (sheetA (shR A2 r A2.n) (shB A2 r A2.n))) ∧ TwoN w0 w' d A1 A2 L := by
  obtain ⟨ρ, V, k⟩ := h.ry
  exact (ksheet k r).mono fun e w' ⟨he, b⟩ => ⟨he, h.below b⟩
theorem TwoN.waitx (h : TwoN w0 w d A1 A2 L) (r : Nat) : Calls Try.prog 24 #[.pointer (some ⟨d.k1, 0, none⟩), .int .i64 r] w fun e w' => e = .returned (.int .i64 (wsum A1 r A1.n)) ∧ w = w' := by
  obtain ⟨ρ, V, k⟩ := h.rx
  exact kwaiting_all k r
theorem TwoN.waity (h : TwoN w0 w d A1 A2 L) (r : Nat) : Calls Try.prog 24 #[.pointer (some ⟨d.k2, 0, none⟩), .int .i64 r] w fun e w' => e = .returned (.int .i64 (wsum A2 r A2.n)) ∧ w = w' := by
  obtain ⟨ρ, V, k⟩ := h.ry
  exact kwaiting_all k r
end
/-! ### What a failing disk does not turn -/
theorem asksE_fail (A : Nt) (r : Nat) (k a b : Int) : asksE (failN A r k) a b = asksE A a b := by
  unfold asksE; rw [(failN_t A r k a.toNat).2.2]; rfl
theorem shR_fail (A : Nt) (r : Nat) (k : Int) (q n : Nat) : shR (failN A r k) q n = shR A q n := by
  funext d
  unfold shR routeN
  rw [asksE_fail, (failN_t A r k _).1]
theorem shB_fail (A : Nt) (r : Nat) (k : Int) (q n : Nat) : shB (failN A r k) q n = shB A q n := by
  funext d
  unfold shB bestN
  rw [asksE_fail, (failN_t A r k _).1]
theorem wsum_fail (A : Nt) (r : Nat) (k : Int) (q : Nat) : ∀ n, wsum (failN A r k) q n = wsum A q n
  | 0 => rfl
  | n + 1 => by
    show wsum (failN A r k) q n + waitN (failN A r k) q n = wsum A q n + waitN A q n
    rw [wsum_fail A r k q n]; rfl
theorem fail_goes {A : Nt} {r : Nat} (hr : r < A.n) (k : Int) (h0 : 0 ≤ k) (h3 : k ≤ 3) : failE A r k = 0 ∧ failC A r k = failN A r k := by
  have hE : failE A r k = 0 := by unfold failE; rw [if_pos (isB_nat hr), if_neg (by omega)]
  refine ⟨hE, ?_⟩
  unfold failC
  rw [if_pos hE, Int.toNat_natCast]
end Go.Proofs.Ytdoodnbobpijoaa

