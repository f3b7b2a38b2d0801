import Derived.Test.YtdoodnbobpijoaaSend
import Derived.Laws.OwnMore
namespace Go.Proofs.Ytdoodnbobpijoaa
open Go.RowKit

/-! ### A message of a link -/
theorem mgA_zero : mgA (fun _ => ⟨0, 0⟩) = Zm := by
  rw [Zm_eq]
  refine (mgA_eq _ _ (by simp) fun j hj => ?_).symm
  unfold mgV bsV
  simp [hj]
theorem bldM0r (w : World) : (Instr.build 164 #[]).run Try.prog w = .ok (.agg Zm) w := by rw [Zm_eq]; kernel_rfl
theorem bldM0 (w : World) (ρ : Operand → Value) (ds : Option Tmp) (ty : TypeId) (ps : String) (af : Array Edge) (g : Option (Nat × Bool)) :
    (execOp ρ { dst := ds, op := .build 164 #[], type := ty, pos := ps, after := af, guard := g }).run Try.prog w = .ok (.value (.agg Zm)) w := by
  simp only [execOp, Sem.run_bind, List.map_toArray, List.map_nil, bldM0r, Result.andThen_ok, Sem.run_pure]
theorem aggOk_Zm : AggOk 10 (.agg Zm) := ⟨rfl, Zm_size, Zm_one⟩
def msgN (A : Nt) (x y k : Int) : Nat → Bs := if msgE A x y k = 0 then (A.wa x.toNat y.toNat).getD k.toNat (fun _ => noBs) else fun _ => ⟨0, 0⟩
theorem results_cell1 {fn : Func} {p q : Tmp} {t : TypeId} (h : fn.results = #[.cell p t, .tmp q]) (tmps : Array Value) (w : World) (g : Nat) (T : Array Value) (v : Value)
    (hp : tmps.getD p undef = .pointer (some ⟨g, 0, none⟩)) (hq : tmps.getD q undef = v) (hg : Whole w g t T) (d : TypeDesc)
    (hu : Try.prog.underlying t = some d) (hd : d.isRow = true) (hi : (Try.prog.info? t).map (·.size) = some T.size) :
    (results fn tmps).run Try.prog w = .ok (.tuple #[.agg T, v]) w := by
  have hp' : tmps[p]?.getD undef = .pointer (some ⟨g, 0, none⟩) := by simpa using hp
  have hq' : tmps[q]?.getD undef = v := by simpa using hq
  have e1 := run_loadVar_row (P := Try.prog) w g t t T (0, 0) d hg.is hu (by cases d <;> simp_all [TypeDesc.isRow]) hi
  simp [results, h, hp', hq', asAddr, e1]
attribute [local go_sem ↓] Go.wp_at_zero Go.wp_at_succ ldT stT alcT ldM stM alcM bsM bldM0
attribute [local go_sem] vb_ptr vo_ptr cellsL_agg size_setCells
theorem msgE_split (A : Nt) (x y k : Int) : (¬ pairE A.n x y = 0 ∧ msgE A x y k = pairE A.n x y) ∨ (pairE A.n x y = 0 ∧ (k < 0 ∨ ((A.wa x.toNat y.toNat).length : Int) ≤ k) ∧ msgE A x y k = 9) ∨ (pairE A.n x y = 0 ∧ 0 ≤ k ∧ k < ((A.wa x.toNat y.toNat).length : Int) ∧ msgE A x y k = 0) := by
  unfold msgE
  by_cases h : pairE A.n x y = 0
  · by_cases h2 : k < 0 ∨ ((A.wa x.toNat y.toNat).length : Int) ≤ k
    · exact .inr (.inl ⟨h, h2, by simp [h, h2]⟩)
    · exact .inr (.inr ⟨h, by omega, by omega, by rw [if_neg (by simpa using h), if_neg h2]⟩)
  · exact .inl ⟨h, by simp [h]⟩
set_option maxHeartbeats 1000000 in
theorem at_any (b B e : Nat) (x y k : Int) (ρ : Nat → Part) (tg : Nat → Nat → Part) (A : Nt) (V : Nat → Nat → Value) (w : World) (hn : A.n ≤ 5) (hR : RN w b A V) (hW : WR w B e ρ tg V A.wa) :
    Calls Try.prog 115 #[.pointer (some ⟨b, 0, none⟩), .int .i64 x, .int .i64 y, .int .i64 k] w fun e w' => e = .returned (.tuple #[.agg (mgA (msgN A x y k)), .int .i64 (msgE A x y k)]) ∧ Below w.heap.size w w' := by
  have hN := hR.n
  have hlt := hR.lt
  have hN' : (w.alloc (.cells Zm 164)).cell? ⟨b, 0, none⟩ = some (I A.n) := (hR.of (Below.heap_alloc w _ b hlt)).n
  have w8 := Whole.new w 164 Zm
  have t8 := w8.there Zm_size
  have hb : Below w.heap.size w (w.alloc (.cells Zm 164)) := (Below.refl _ _).alloc (Nat.le_refl _) _
  have az := aggOk_Zm
  rcases msgE_split A x y k with ⟨h0, e0⟩ | ⟨h0, h1, e0⟩ | ⟨h0, h1, h2, e0⟩
  · have h0' : (pairE A.n x y != 0) = true := by simp [h0]
    have hm : msgN A x y k = fun _ => ⟨0, 0⟩ := by unfold msgN; rw [if_neg (by rw [e0]; exact h0)]
    rw [e0, hm, mgA_zero]
    go_enter Try.func115, Try.ntmps115
    go_wp2_with (go_at_call 111; refine (pair_any b A.n _ _ _ hN').mono ?_; rintro e w' ⟨rfl, rfl⟩)
    exact bodyPost_ret (v := .tuple #[.agg Zm, .int .i64 (pairE A.n x y)]) (results_cell1 (t := 164) rfl _ _ w.heap.size Zm _ rfl rfl (w8.over Zm rfl) _ Try.underlying164 rfl (by rw [sizeM, Zm_size])) rfl ⟨rfl, Below.setCells hb (Nat.le_refl _) _ _⟩
  · obtain ⟨⟨a1, a3⟩, ⟨a2, a4⟩, _⟩ := pairE_zero h0
    obtain ⟨x, rfl⟩ := Int.eq_ofNat_of_zero_le a1
    obtain ⟨y, rfl⟩ := Int.eq_ofNat_of_zero_le a2
    have hx : x < 5 := by omega
    have hy : y < 5 := by omega
    obtain ⟨ad, cap, hv⟩ := hW.form x y hx hy
    have hd := (hR.of (w' := w.alloc (.cells Zm 164)) (Below.heap_alloc w _ b hlt)).v x y hx hy
    rw [hv] at hd
    have hx' : (x : Int) < 5 := by omega
    have hy' : (y : Int) < 5 := by omega
    have hm : msgN A x y k = fun _ => ⟨0, 0⟩ := by unfold msgN; rw [if_neg (by rw [e0]; decide)]
    rw [e0, hm, mgA_zero]
    simp only [Int.toNat_natCast] at h1
    by_cases hk : k < 0
    · go_enter Try.func115, Try.ntmps115
      go_wp2_with (go_at_call 111; refine (pair_any b A.n _ _ _ hN').mono ?_; rintro e w' ⟨rfl, rfl⟩)
      exact bodyPost_ret (v := .tuple #[.agg Zm, .int .i64 9]) (results_cell1 (t := 164) rfl _ _ w.heap.size Zm _ rfl rfl (w8.over Zm rfl) _ Try.underlying164 rfl (by rw [sizeM, Zm_size])) rfl ⟨rfl, Below.setCells hb (Nat.le_refl _) _ _⟩
    · have h1 : ((A.wa x y).length : Int) ≤ k := by omega
      go_enter Try.func115, Try.ntmps115
      go_wp2_with (go_at_call 111; refine (pair_any b A.n _ _ _ hN').mono ?_; rintro e w' ⟨rfl, rfl⟩)
      exact bodyPost_ret (v := .tuple #[.agg Zm, .int .i64 9]) (results_cell1 (t := 164) rfl _ _ w.heap.size Zm _ rfl rfl (w8.over Zm rfl) _ Try.underlying164 rfl (by rw [sizeM, Zm_size])) rfl ⟨rfl, Below.setCells hb (Nat.le_refl _) _ _⟩
  · obtain ⟨⟨a1, a3⟩, ⟨a2, a4⟩, _⟩ := pairE_zero h0
    obtain ⟨x, rfl⟩ := Int.eq_ofNat_of_zero_le a1
    obtain ⟨y, rfl⟩ := Int.eq_ofNat_of_zero_le a2
    obtain ⟨k, rfl⟩ := Int.eq_ofNat_of_zero_le h1
    simp only [Int.toNat_natCast] at h2
    have hx : x < 5 := by omega
    have hy : y < 5 := by omega
    have hx' : (x : Int) < 5 := by omega
    have hy' : (y : Int) < 5 := by omega
    have hkl : k < (A.wa x y).length := by omega
    obtain ⟨g, cap, hv, g1, g2, g3, g4, g5⟩ := hW.at x y hx hy (by omega)
    have hd := (hR.of (w' := w.alloc (.cells Zm 164)) (Below.heap_alloc w _ b hlt)).v x y hx hy
    rw [hv] at hd
    have hm : msgN A x y k = (A.wa x y).getD k (fun _ => noBs) := by unfold msgN; rw [if_pos e0]; rfl
    rw [e0, hm]
    have hget : (A.wa x y)[k]? = some ((A.wa x y).getD k (fun _ => noBs)) := by rw [List.getD_eq_getElem?_getD, List.getElem?_eq_getElem hkl]; rfl
    generalize (A.wa x y).getD k (fun _ => noBs) = m at hget ⊢
    have mid := midA_eq (w := w.alloc (.cells Zm 164)) (b := g) (o := k * 10) (n := 10) (T := mgA m) (mgA_size m) (fun j v hv => by
      have hj : j < 10 := by have := (List.getElem?_eq_some_iff.1 hv).1; simpa [mgA_size] using this
      rw [Array.getElem?_toList, mgA_at _ _ hj] at hv
      rw [World.cell?_of_block (w := w) (Below.heap_alloc w _ g g1), g5 (k * 10 + j) v (by rw [flat_at _ _ _ _ hget hj, hv])])
    have am := aggOk_mg m
    obtain ⟨md1, md2⟩ := mid
    go_enter Try.func115, Try.ntmps115
    go_wp2_with (go_at_call 111; refine (pair_any b A.n _ _ _ hN').mono ?_; rintro e w' ⟨rfl, rfl⟩)
    exact bodyPost_ret (v := .tuple #[.agg (mgA m), .int .i64 0]) (results_cell1 (t := 164) rfl _ _ w.heap.size (mgA m) _ rfl rfl (w8.over (mgA m) (by rw [mgA_size, Zm_size])) _ Try.underlying164 rfl (by rw [sizeM, mgA_size])) rfl ⟨rfl, Below.setCells hb (Nat.le_refl _) _ _⟩
end Go.Proofs.Ytdoodnbobpijoaa
