import Derived.Test.YtdoodnbobpijoaaProE
import Derived.Test.YtdoodnbobpijoaaProR
import Derived.Test.YtdoodnbobpijoaaRefG
import Derived.Lib.SliceRun
import Derived.Test.YtdoodnbobpijoaaSend
import Derived.Test.YtdoodnbobpijoaaProG
namespace Go.Proofs.Ytdoodnbobpijoaa
open Go.RowKit

/-! ### A message is taken off -/
theorem setCells_shape (b : Nat) (t : TypeId) : ∀ (vs : List Value) (o : Nat) (w : World) (C : Array Value), w.heap[b]? = some (.cells C t (0, 0)) → ∃ C', (w.setCells b o vs).heap[b]? = some (.cells C' t (0, 0)) ∧ C'.size = C.size := fun vs => by
  induction vs with
  | nil => intro o w C hC; exact ⟨C, hC, rfl⟩
  | cons v r ih =>
    intro o w C hC
    rw [World.setCells]
    obtain ⟨C', h1, h2⟩ := ih (o + 1) (w.setCell ⟨b, o, none⟩ v) (C.setIfInBounds o v) (by rw [heap_setCell_same w b o C t v hC])
    exact ⟨C', h1, by simpa using h2⟩
/-- An owned row, written over in its room. -/
theorem own_set {w : World} {B e s g n cap : Nat} {xs : List Value} (h : w.ownsRow B e s (.slice (some ⟨g, 0, none⟩) n cap) n xs) (o : Nat) (vs : List Value) (n' : Nat) (hn : n' ≤ n) (xs' : List Value) (hl : xs'.length = n' * s)
    (hx : ∀ j u, xs'[j]? = some u → (w.setCells g o vs).cell? ⟨g, j, none⟩ = some u) : (w.setCells g o vs).ownsRow B e s (.slice (some ⟨g, 0, none⟩) n' cap) n' xs' := by
  refine ⟨hl, .inr ?_⟩
  rcases h.2 with ⟨h1, _⟩ | ⟨g1, cap1, cur, hv, h1, h2, h3, h4, h5, h6⟩
  · cases h1
  · have e1 : g = g1 ∧ cap = cap1 := by simpa using hv
    obtain ⟨rfl, rfl⟩ := e1
    obtain ⟨C', c1, c2⟩ := setCells_shape g e vs o w cur h2
    refine ⟨g, cap, C', rfl, h1, c1, Nat.le_trans hn h3, h4, by rw [c2, h5], ?_⟩
    have hle : n' * s ≤ cap * s := Nat.mul_le_mul_right _ (Nat.le_trans hn h3)
    apply List.ext_getElem?
    intro j
    by_cases hj : j < n' * s
    · rw [List.getElem?_take, if_pos hj]
      have hj2 : j < xs'.length := by omega
      have := hx j xs'[j] (List.getElem?_eq_getElem hj2)
      rw [cell_of_row _ g j C' e (0, 0) c1] at this
      rw [List.getElem?_eq_getElem hj2, ← this, Array.getElem?_toList]
    · rw [List.getElem?_take, if_neg hj, List.getElem?_eq_none (by omega)]
theorem zeroCells1 : (Builtin.zeroCells (Value.agg #[.int .i64 0, .int .i64 0, .int .i64 0, .int .i64 0, .int .i64 0, .int .i64 0, .int .i64 0, .int .i64 0, .int .i64 0, .int .i64 0]).cells 1).toList = Zm.toList := by rw [Zm_eq]; kernel_rfl
theorem clr1 (w : World) (g o c : Nat) (ty : TypeId) (hc : ∀ j, j < 10 → (w.cell? ⟨g, o + j, none⟩).isSome = true) (hf : ∀ j, j < 10 → w.frozen? ⟨g, o + j, none⟩ = false) :
    (Builtin.clear_ #[87] ty #[.slice (some ⟨g, o, none⟩) 1 c]).run Try.prog w = .ok (.tuple #[]) (w.setCells g o Zm.toList) := by
  have hl : Zm.toList.length = 10 := by rw [Array.length_toList, Zm_size]
  have hst := run_storeCells_cells (P := Try.prog) g o Zm.toList 0 w (by rw [hl]; simpa using hc) (by rw [hl]; simpa using hf) (by intro v hv; exact (Array.all_eq_true_iff_forall_mem.1 Zm_one) v (by simpa using hv))
  simp only [Nat.add_zero] at hst
  simp [Builtin.clear_, run_underlying Try.underlying87, zeroCells1, hst]
theorem flat_erase (l : List (Nat → Bs)) (k : Nat) : flat (l.eraseIdx k) = (flat l).take (k * 10) ++ (flat l).drop ((k + 1) * 10) := by
  rw [List.eraseIdx_eq_take_drop_succ, flat_append, flat_take, flat_drop]
attribute [local go_sem ↓] Go.wp_at_zero Go.wp_at_succ
set_option maxHeartbeats 4000000 in
set_option maxRecDepth 100000 in
theorem del_any (g cap k B : Nat) (l : List (Nat → Bs)) (w : World) (ho : w.ownsRow B 104 10 (.slice (some ⟨g, 0, none⟩) l.length cap) l.length (flat l)) (hk : k < l.length) (h6 : l.length ≤ 6) :
    Calls Try.prog 81 #[.slice (some ⟨g, 0, none⟩) l.length cap, .int .i64 k, .int .i64 ((k : Int) + 1)] w fun e w' => e = .returned (.slice (some ⟨g, 0, none⟩) (l.length - 1) cap) ∧
      w'.ownsRow B 104 10 (.slice (some ⟨g, 0, none⟩) (l.length - 1) cap) (l.eraseIdx k).length (flat (l.eraseIdx k)) ∧ Only (· = g) w w' := by
  obtain ⟨i0, z0, hi0, hz0, hz1, hz2, hz3⟩ := infoPM
  have hlen := flat_length l
  obtain ⟨hcap, hcells, hsome, hfz⟩ : l.length ≤ cap ∧ (∀ j u, (flat l)[j]? = some u → w.cell? ⟨g, j, none⟩ = some u) ∧ (∀ j, j < cap * 10 → (w.cell? ⟨g, j, none⟩).isSome = true) ∧ (∀ j, w.frozen? ⟨g, j, none⟩ = false) := by
    rcases ho.2 with ⟨h1, _⟩ | ⟨g1, cap1, cur, hv, h1, h2, h3, h4, h5, h6⟩
    · cases h1
    · have e1 : g = g1 ∧ cap = cap1 := by simpa using hv
      obtain ⟨rfl, rfl⟩ := e1
      refine ⟨h3, fun j u hu => ?_, fun j hj => ?_, fun j => frozen_of_row w g j cur _ h2⟩
      · rw [cell_of_row w g j cur _ (0, 0) h2, ← Array.getElem?_toList]
        rw [← h6, List.getElem?_take] at hu
        split at hu
        · exact hu
        · cases hu
      · rw [cell_of_row w g j cur _ (0, 0) h2, Array.getElem?_eq_getElem (by omega)]; rfl
  obtain ⟨news, hnews⟩ : ∃ news, news = (flat l).drop ((k + 1) * 10) := ⟨_, rfl⟩
  have hnl : news.length = (l.length - (k + 1)) * 10 := by rw [hnews, List.length_drop, hlen]; omega
  have s1 : Hid (news.length = (l.length - (k + 1)) * 10) := hnl
  have s2 : Hid (∀ u ∈ news, u.oneCell' = true) := (show ∀ u ∈ news, u.oneCell' = true from fun u hu => flat_one_cells l u (by rw [hnews] at hu; exact List.mem_of_mem_drop hu))
  have s3 : Hid (∀ t, t < news.length → (w.drew.cell? ⟨g, k * 10 + t, none⟩).isSome = true ∧ w.drew.frozen? ⟨g, k * 10 + t, none⟩ = false) := (show ∀ t, t < news.length → (w.drew.cell? ⟨g, k * 10 + t, none⟩).isSome = true ∧ w.drew.frozen? ⟨g, k * 10 + t, none⟩ = false from fun t ht => ⟨hsome _ (by omega), hfz _⟩)
  obtain ⟨W1, hW1⟩ : ∃ W1, W1 = w.drew.setCells g (k * 10) news := ⟨_, rfl⟩
  have o1 : W1.ownsRow B 104 10 (.slice (some ⟨g, 0, none⟩) (l.length - 1) cap) (l.length - 1) (flat (l.eraseIdx k)) := by
    rw [hW1]
    refine own_set ho.drew _ _ _ (by omega) _ (by rw [flat_length, List.length_eraseIdx, if_pos hk]) fun j u hu => ?_
    rw [flat_erase] at hu
    by_cases hj : j < k * 10
    · rw [World.cell?_setCells_out g _ _ _ ⟨g, j, none⟩ (fun _ _ => by show j < _ ∨ _ ≤ j; omega)]
      rw [List.getElem?_append_left (by rw [List.length_take, hlen]; omega), List.getElem?_take, if_pos hj] at hu
      exact hcells j u hu
    · rw [List.getElem?_append_right (by rw [List.length_take, hlen]; omega), List.length_take, hlen, ← hnews] at hu
      have hlt := (List.getElem?_eq_some_iff.1 hu).1
      have := World.cell?_setCells_in g news (k * 10) w.drew (fun t ht => (s3.out t ht).1) (j - min (k * 10) (l.length * 10)) hlt
      rw [show k * 10 + (j - min (k * 10) (l.length * 10)) = j by omega] at this
      rw [this, ← hu, List.getElem?_eq_getElem hlt]
  have f1 : ∀ j, W1.frozen? ⟨g, j, none⟩ = false := fun j => by rw [hW1, World.frozen?_setCells]; exact hfz j
  have m1 : ∀ j, j < cap * 10 → (W1.cell? ⟨g, j, none⟩).isSome = true := fun j hj => by
    rcases o1.2 with ⟨h1, _⟩ | ⟨g1, cap1, cur, hv, h1, h2, h3, h4, h5, h6⟩
    · cases h1
    · have e1 : g = g1 ∧ cap = cap1 := by simpa using hv
      obtain ⟨rfl, rfl⟩ := e1
      rw [cell_of_row _ g j cur _ (0, 0) h2, Array.getElem?_eq_getElem (by omega)]; rfl
  have hcl : ∀ ty, (Builtin.clear_ #[87] ty #[.slice (some ⟨g, (l.length - 1) * 10, none⟩) 1 (cap - (l.length - 1))]).run Try.prog W1 = .ok (.tuple #[]) (W1.setCells g ((l.length - 1) * 10) Zm.toList) := fun ty => clr1 W1 g _ _ ty (fun j hj => m1 _ (by omega)) (fun j _ => f1 _)
  have o2 : (W1.setCells g ((l.length - 1) * 10) Zm.toList).ownsRow B 104 10 (.slice (some ⟨g, 0, none⟩) (l.length - 1) cap) (l.length - 1) (flat (l.eraseIdx k)) := by
    refine own_set o1 _ _ _ (Nat.le_refl _) _ o1.1 fun j u hu => ?_
    have hlt := (List.getElem?_eq_some_iff.1 hu).1
    rw [o1.1] at hlt
    rw [World.cell?_setCells_out g _ _ _ ⟨g, j, none⟩ (fun _ _ => by show j < _ ∨ _ ≤ j; omega)]
    rcases o1.2 with ⟨h1, _⟩ | ⟨g1, cap1, cur, hv, h1, h2, h3, h4, h5, h6⟩
    · cases h1
    · have e1 : g = g1 ∧ cap = cap1 := by simpa using hv
      obtain ⟨rfl, rfl⟩ := e1
      rw [cell_of_row _ g j cur _ (0, 0) h2, ← Array.getElem?_toList]
      rw [← h6, List.getElem?_take, if_pos hlt] at hu
      exact hu
  have HO : Hid (Only (· = g) w W1) := (show Only (· = g) w W1 by rw [hW1]; exact (Only.refl (· = g) w).drew.setCells (.inl rfl) _ _)
  have HO2 : Hid ((W1.setCells g ((l.length - 1) * 10) Zm.toList).ownsRow B 104 10 (.slice (some ⟨g, 0, none⟩) (l.length - 1) cap) (l.length - 1) (flat (l.eraseIdx k))) := o2
  have hW : Hid (W1 = w.drew.setCells g (k * 10) news) := hW1
  obtain ⟨ad, hA, hsrc⟩ : ∃ ad : Addr, (if cap = k + 1 then some (⟨g, 0, none⟩ : Addr) else some ⟨g, (k + 1) * 10, none⟩) = some ad ∧ Hid (∀ t u, news[t]? = some u → w.drew.cell? (ad.add t) = some u) := by
    by_cases h : cap = k + 1
    · refine ⟨⟨g, 0, none⟩, by simp [h], fun t u hu => ?_⟩
      have h0 : news.length = 0 := by rw [hnl]; omega
      rw [List.length_eq_zero_iff.1 h0] at hu
      simp at hu
    · refine ⟨⟨g, (k + 1) * 10, none⟩, by simp [h], fun t u hu => ?_⟩
      rw [hnews, List.getElem?_drop] at hu
      rw [addr_add]
      exact hcells _ u hu
  have hle : Hid ((l.eraseIdx k).length = l.length - 1) := (show (l.eraseIdx k).length = l.length - 1 by rw [List.length_eraseIdx, if_pos hk])
  clear ho hlen hcells hsome hfz hnews hnl o1 f1 m1 o2 hW1
  generalize l.length = n at *
  obtain ⟨p, rfl⟩ : ∃ p, n = p + 1 := ⟨n - 1, by omega⟩
  simp only [Nat.add_sub_cancel] at hcl HO2 hle ⊢
  have hkc0 : k ≤ cap := by omega
  have hkp : k ≤ p := by omega
  rw [show p + 1 - (k + 1) = p - k by omega] at s1
  have hpc : p ≤ cap := by omega
  have hp1c : p + 1 ≤ cap := by omega
  have hkc : k + 1 ≤ cap := by omega
  have hkc' : (k : Int) + 1 ≤ (cap : Int) := by omega
  have hkn' : (k : Int) + 1 ≤ ((p + 1 : Nat) : Int) := by omega
  have hk0 : 0 ≤ (k : Int) + 1 := by omega
  have hkk : (k : Int) ≤ (k : Int) + 1 := by omega
  have hk1 : ((k : Int) == (k : Int) + 1) = false := by rw [beq_eq_false_iff_ne]; omega
  go_enter Try.func81, Try.ntmps81
  go_wp2_with fail
  go_region_law (refine step_append_room rfl (.tmp 22) (.tmp 25) 87 rfl 104 i0 10 Try.underlying87 hi0 hz1 g 0 k cap (by simp [Act.eval, Act.put]) ad (p - k) (cap - (k + 1)) news (by simp [Act.eval, Act.put]) s1.out hsrc.out s2.out (by omega) (by rw [Nat.zero_add]; exact s3.out) ?_; rw [Nat.zero_add, ← hW.out, show k + (p - k) = p by omega])
  go_wp2
  go_ret
  exact ⟨rfl, by rw [hle.out]; exact HO2.out, HO.out.setCells (.inl rfl) _ _⟩
end Go.Proofs.Ytdoodnbobpijoaa

namespace Go.Proofs.Ytdoodnbobpijoaa
open Go.RowKit

/-! ### What a call of the program leaves -/
def MineP (bx bs : Nat) (ρ : Nat → Part) (tg : Nat → Nat → Part) : Nat → Prop := fun k => k = bs ∨ Mine bx ρ tg k
structure TurnP (bx bs : Nat) (tg : Nat → Nat → Part) (ρ ρ' : Nat → Part) (w w' : World) : Prop where
  only : Only (MineP bx bs ρ tg) w w'
  old : ∀ k, k < w.heap.size → ρ' k = ρ k
  new : ∀ k, w'.heap.size ≤ k → ρ' k = (0, 0)
theorem Turn.p {bx bs : Nat} {tg : Nat → Nat → Part} {ρ ρ' : Nat → Part} {w w' : World} (h : Turn bx tg ρ ρ' w w') : TurnP bx bs tg ρ ρ' w w' :=
  ⟨⟨h.only.os, h.only.tape, h.only.output, h.only.size, fun k hk hs => h.only.block k hk (fun e => hs (.inr e))⟩, h.old, h.new⟩
theorem TurnP.trans {bx bs : Nat} {tg : Nat → Nat → Part} {ρ ρ1 ρ2 : Nat → Part} {u v w : World} (h : TurnP bx bs tg ρ ρ1 u v) (k : TurnP bx bs tg ρ1 ρ2 v w) : TurnP bx bs tg ρ ρ2 u w :=
  ⟨h.only.trans k.only (fun j hj hT => by unfold MineP Mine at hT ⊢; rw [h.old j hj] at hT; exact hT), fun j hj => (k.old j (Nat.lt_of_lt_of_le hj h.only.size)).trans (h.old j hj), k.new⟩
theorem TurnP.two {bx bs : Nat} {tg : Nat → Nat → Part} {ρ : Nat → Part} {w w' : World} (hn : ∀ k, w.heap.size ≤ k → ρ k = (0, 0)) (h : Only (Two bx bs) w w') : TurnP bx bs tg ρ ρ w w' :=
  ⟨⟨h.os, h.tape, h.output, h.size, fun k hk hs => h.block k hk (fun e => hs (e.elim (fun e => .inr (.inl e)) .inl))⟩, fun _ _ => rfl, fun k hk => hn k (Nat.le_trans h.size hk)⟩
theorem TurnP.below {bx bs : Nat} {tg : Nat → Nat → Part} {ρ : Nat → Part} {w w' : World} (hn : ∀ k, w.heap.size ≤ k → ρ k = (0, 0)) (h : Below w.heap.size w w') : TurnP bx bs tg ρ ρ w w' := (Turn.below hn h).p
theorem TurnP.refl {bx bs : Nat} {tg : Nat → Nat → Part} {ρ : Nat → Part} {w : World} (hn : ∀ k, w.heap.size ≤ k → ρ k = (0, 0)) : TurnP bx bs tg ρ ρ w w := (Turn.refl hn).p
theorem WR.two {w w' : World} {B e bx bs : Nat} {ρ : Nat → Part} {tg : Nat → Nat → Part} {V : Nat → Nat → Value} {W : Nat → Nat → List (Nat → Bs)} (h : WR w B e ρ tg V W) (hx : ∀ a c, ρ bx ≠ tg a c) (hs : ∀ a c, ρ bs ≠ tg a c) (ho : Only (Two bx bs) w w') : WR w' B e ρ tg V W :=
  h.of (fun k a c hk _ _ hp => ho.block k hk (fun e => e.elim (fun e => hx a c (e ▸ hp)) (fun e => hs a c (e ▸ hp)))) (fun _ _ => rfl)
theorem PN.wa {w : World} {bx bs : Nat} {A : Nt} {V : Nat → Nat → Value} (h : PN w bx bs A V) (W : Nat → Nat → List (Nat → Bs)) : PN w bx bs { A with wa := W } V := ⟨h.rs, h.c, h.v, h.fz, h.r, h.rfz, h.ne⟩

/-! ### takeOff -/
attribute [local go_sem ↓] Go.wp_at_zero Go.wp_at_succ ldPM stPM alcPM
attribute [local go_sem] vb_ptr vo_ptr cellsL_agg size_setCells
/-- What takeOff leaves. -/
structure OffP (bx bs B x y k : Nat) (A : Nt) (ρ : Nat → Part) (tg : Nat → Nat → Part) (V' : Nat → Nat → Value) (w w' : World) : Prop where
  pn : PN w' bx bs (offN A x y k) V'
  wr : WR w' B 104 ρ tg V' (offN A x y k).wa
  turn : TurnP bx bs tg ρ ρ w w'
theorem WR.msg {w : World} {B e : Nat} {ρ : Nat → Part} {tg : Nat → Nat → Part} {V : Nat → Nat → Value} {W : Nat → Nat → List (Nat → Bs)} (h : WR w B e ρ tg V W) (a c k g cap : Nat) (ha : a < 5) (hc : c < 5) (hk : k < (W a c).length) (hv : V a c = .slice (some ⟨g, 0, none⟩) (W a c).length cap) :
    midA w g (k * 10) 10 = mgA ((W a c).getD k fun _ => noBs) ∧ MidOk w g (k * 10) 10 := by
  obtain ⟨g1, cap1, hv1, h1, h2, h3, h4, h5⟩ := h.at a c ha hc (by omega)
  have e1 : g = g1 ∧ cap = cap1 := by rw [hv] at hv1; simpa using hv1
  obtain ⟨rfl, rfl⟩ := e1
  have hm : (W a c)[k]? = some ((W a c).getD k fun _ => noBs) := by rw [List.getD_eq_getElem?_getD, List.getElem?_eq_getElem hk]; rfl
  refine midA_eq (mgA_size _) fun j v hv => ?_
  have hj : j < 10 := by
    rcases Nat.lt_or_ge j 10 with h | hge
    · exact h
    · have : (mgA ((W a c).getD k fun _ => noBs)).toList[j]? = none := List.getElem?_eq_none (by rw [Array.length_toList, mgA_size]; exact hge)
      rw [this] at hv; cases hv
  have := h5 _ _ (flat_at (W a c) k j _ hm hj)
  rw [this, ← mgA_at _ j hj]; simpa using hv
set_option maxHeartbeats 4000000 in
set_option maxRecDepth 100000 in
theorem takeoff_any (bx bs x y k B : Nat) (ρ : Nat → Part) (tg : Nat → Nat → Part) (A : Nt) (V : Nat → Nat → Value) (w : World) (hx : x < 5) (hy : y < 5) (hk : k < (A.wa x y).length) (h6 : (A.wa x y).length ≤ 6) (hn0 : 0 < A.n) (hR : PN w bx bs A V) (hW : WR w B 104 ρ tg V A.wa)
    (tz : TgOk tg) (hbx : ∀ a c, ρ bx ≠ tg a c) (hbs : ∀ a c, ρ bs ≠ tg a c) (hnew : ∀ j, w.heap.size ≤ j → ρ j = (0, 0)) :
    Calls Try.prog 58 #[.pointer (some ⟨bx, 0, none⟩), .int .i64 x, .int .i64 y, .int .i64 k] w fun e w' => e = .returned (.agg (mgA ((A.wa x y).getD k fun _ => noBs))) ∧ ∃ V', OffP bx bs B x y k A ρ tg V' w w' := by
  have hx' : (x : Int) < 5 := by omega
  have hy' : (y : Int) < 5 := by omega
  have hk' : (k : Int) < ((A.wa x y).length : Int) := by omega
  have hwk : IntKind.i64.wrap ((k : Int) + 1) = (k : Int) + 1 := IntWalk.i64_in _ (by omega)
  obtain ⟨g, cap, hv, hg, hp, hcap, hfz, hcells⟩ := hW.at x y hx hy (by omega)
  have hgx : g ≠ bx := by rintro rfl; exact hbx x y hp
  have hgs : g ≠ bs := by rintro rfl; exact hbs x y hp
  have hlx := hR.lt
  have hls := hR.lts hn0
  obtain ⟨m, hm⟩ : ∃ m, ((A.wa x y).getD k fun _ => noBs) = m := ⟨_, rfl⟩
  have c1 := hR.v x y hx hy
  rw [hv] at c1
  -- the two new blocks, with what is laid into the second one
  have b1 : Below w.heap.size w ((w.alloc (.cells Zm 104)).alloc (.cells Zm 104)) := ((Below.refl _ _).alloc (Nat.le_refl _) _).alloc (by simp) _
  have n1 : Whole ((w.alloc (.cells Zm 104)).alloc (.cells Zm 104)) (w.heap.size + 1) 104 Zm := by
    have := Whole.new (w.alloc (.cells Zm 104)) 104 Zm
    simp only [World.size_alloc] at this
    exact this
  have n0 : Whole ((w.alloc (.cells Zm 104)).alloc (.cells Zm 104)) w.heap.size 104 Zm := (Whole.new w 104 Zm).alloc _
  have km : midA (w.alloc (.cells Zm 104)) g (k * 10) 10 = mgA m ∧ MidOk (w.alloc (.cells Zm 104)) g (k * 10) 10 := by
    have := (hW.below ((Below.refl _ _).alloc (Nat.le_refl _) (.cells Zm 104))).msg x y k g cap hx hy hk hv
    rw [hm] at this; exact this
  obtain ⟨km1, km2⟩ := km
  have t1 := n1.there Zm_size
  have ag := aggOk_mg m
  have b2 : Below w.heap.size w (((w.alloc (.cells Zm 104)).alloc (.cells Zm 104)).setCells (w.heap.size + 1) 0 (mgA m).toList) := Below.setCells b1 (by omega) _ _
  have n2 : Whole (((w.alloc (.cells Zm 104)).alloc (.cells Zm 104)).setCells (w.heap.size + 1) 0 (mgA m).toList) (w.heap.size + 1) 104 (mgA m) := n1.over (mgA m) (by rw [mgA_size, Zm_size])
  have n3 : Whole (((w.alloc (.cells Zm 104)).alloc (.cells Zm 104)).setCells (w.heap.size + 1) 0 (mgA m).toList) w.heap.size 104 Zm := n0.setCells (by omega) _ _
  have c0 : (w.alloc (.cells Zm 104)).cell? ⟨bx, 26 + x * 5 + y, none⟩ = some (.slice (some ⟨g, 0, none⟩) (A.wa x y).length cap) := cell_below c1 ((Below.refl _ _).alloc (Nat.le_refl _) _)
  have B2 : Hid (Below w.heap.size w (((w.alloc (.cells Zm 104)).alloc (.cells Zm 104)).setCells (w.heap.size + 1) 0 (mgA m).toList)) := b2
  have N2 : Hid (Whole (((w.alloc (.cells Zm 104)).alloc (.cells Zm 104)).setCells (w.heap.size + 1) 0 (mgA m).toList) (w.heap.size + 1) 104 (mgA m)) := n2
  have N3 : Hid (Whole (((w.alloc (.cells Zm 104)).alloc (.cells Zm 104)).setCells (w.heap.size + 1) 0 (mgA m).toList) w.heap.size 104 Zm) := n3
  have PW : Hid (PN (((w.alloc (.cells Zm 104)).alloc (.cells Zm 104)).setCells (w.heap.size + 1) 0 (mgA m).toList) bx bs A V) := hR.below hn0 b2
  have WW : Hid (WR (((w.alloc (.cells Zm 104)).alloc (.cells Zm 104)).setCells (w.heap.size + 1) 0 (mgA m).toList) B 104 ρ tg V A.wa) := hW.below b2
  have HV : Hid (V x y = .slice (some ⟨g, 0, none⟩) (A.wa x y).length cap) := hv
  have HJ : Hid (TgOk tg) := tz
  have HBX : Hid (∀ a c, ρ bx ≠ tg a c) := hbx
  have HBS : Hid (∀ a c, ρ bs ≠ tg a c) := hbs
  have HN : Hid (∀ j, w.heap.size ≤ j → ρ j = (0, 0)) := hnew
  have HP : Hid (ρ g = tg x y) := hp
  have HLE : Hid ((offN A x y k).wa = setWa A.wa x y ((A.wa x y).eraseIdx k)) := (show (offN A x y k).wa = setWa A.wa x y ((A.wa x y).eraseIdx k) from rfl)
  rw [hm]
  clear hR hW hv b1 b2 n0 n1 n2 n3 hcells hfz hm tz hbx hbs hnew hp
  go_enter Try.func58, Try.ntmps58
  go_wp2_with fail
  generalize (((w.alloc (.cells Zm 104)).alloc (.cells Zm 104)).setCells (w.heap.size + 1) 0 (mgA m).toList) = W at *
  have c2 : W.drew.cell? ⟨bx, 26 + x * 5 + y, none⟩ = some (.slice (some ⟨g, 0, none⟩) (A.wa x y).length cap) := by rw [← HV.out]; exact PW.out.v x y hx hy
  have OWN : Hid (W.drew.ownsRow B 104 10 (.slice (some ⟨g, 0, none⟩) (A.wa x y).length cap) (A.wa x y).length (flat (A.wa x y))) := (show W.drew.ownsRow B 104 10 (.slice (some ⟨g, 0, none⟩) (A.wa x y).length cap) (A.wa x y).length (flat (A.wa x y)) by have := (WW.out.own x y hx hy).drew; rw [HV.out] at this; exact this)
  have zW := B2.out.size
  have zx := PW.out.lt
  refine wp_region_any (by kernel_rfl) ?_
  change wpAny _ _ _ _ _ _ _ (World.drew _)
  refine any_hq (fun _ _ x _ _ h => by cases x <;> exact h) ?_
  intro hQ
  refine take_to 0 (some 21) (.pointer (some ⟨bx, 0, none⟩)) hQ rfl rfl (by kernel_rfl) (by kernel_rfl) (by kernel_rfl) (by kernel_rfl) (fun w => by go_simp) ?_
  refine take_to 1 (some 22) (.int .i64 x) hQ rfl rfl (by kernel_rfl) (by kernel_rfl) (by kernel_rfl) (by kernel_rfl) (fun w => by go_simp) ?_
  refine take_to 2 (some 23) (.int .i64 y) hQ rfl rfl (by kernel_rfl) (by kernel_rfl) (by kernel_rfl) (by kernel_rfl) (fun w => by go_simp) ?_
  refine take_to 3 (some 24) (.pointer (some ⟨bx, 0, none⟩)) hQ rfl rfl (by kernel_rfl) (by kernel_rfl) (by kernel_rfl) (by kernel_rfl) (fun w => by go_simp) ?_
  refine take_to 4 (some 25) (.int .i64 x) hQ rfl rfl (by kernel_rfl) (by kernel_rfl) (by kernel_rfl) (by kernel_rfl) (fun w => by go_simp) ?_
  refine take_to 5 (some 26) (.int .i64 y) hQ rfl rfl (by kernel_rfl) (by kernel_rfl) (by kernel_rfl) (by kernel_rfl) (fun w => by go_simp) ?_
  refine take_to 6 (some 27) (.pointer (some ⟨bx, 0, none⟩)) hQ rfl rfl (by kernel_rfl) (by kernel_rfl) (by kernel_rfl) (by kernel_rfl) (fun w => by go_simp) ?_
  refine take_to 7 (some 28) (.pointer (some ⟨bx, 26, none⟩)) hQ rfl rfl (by kernel_rfl) (by kernel_rfl) (by kernel_rfl) (by kernel_rfl) (fun w => by go_simp) ?_
  refine take_to 8 (some 29) (.pointer (some ⟨bx, 26 + x * 5, none⟩)) hQ rfl rfl (by kernel_rfl) (by kernel_rfl) (by kernel_rfl) (by kernel_rfl) (fun w => by go_simp) ?_
  refine take_to 9 (some 30) (.pointer (some ⟨bx, 26 + x * 5 + y, none⟩)) hQ rfl rfl (by kernel_rfl) (by kernel_rfl) (by kernel_rfl) (by kernel_rfl) (fun w => by go_simp) ?_
  refine take_to 11 (some 32) (.int .i64 k) hQ rfl rfl (by kernel_rfl) (by kernel_rfl) (by kernel_rfl) (by kernel_rfl) (fun w => by go_simp) ?_
  refine take_to 12 (some 33) (.int .i64 k) hQ rfl rfl (by kernel_rfl) (by kernel_rfl) (by kernel_rfl) (by kernel_rfl) (fun w => by go_simp) ?_
  refine take_to 13 (some 34) (.int .i64 ((k : Int) + 1)) hQ rfl rfl (by kernel_rfl) (by kernel_rfl) (by kernel_rfl) (by kernel_rfl) (fun w => by go_simp) ?_
  refine take_to 15 (some 36) (.pointer (some ⟨bx, 0, none⟩)) hQ rfl rfl (by kernel_rfl) (by kernel_rfl) (by kernel_rfl) (by kernel_rfl) (fun w => by go_simp) ?_
  refine take_to 16 (some 37) (.pointer (some ⟨bx, 26, none⟩)) hQ rfl rfl (by kernel_rfl) (by kernel_rfl) (by kernel_rfl) (by kernel_rfl) (fun w => by go_simp) ?_
  refine take_to 17 (some 38) (.pointer (some ⟨bx, 26 + x * 5, none⟩)) hQ rfl rfl (by kernel_rfl) (by kernel_rfl) (by kernel_rfl) (by kernel_rfl) (fun w => by go_simp) ?_
  refine wpAny_ready (rs := [10]) (by kernel_rfl) (by simp) ?_
  refine AllReady.cons rfl (fun K hK => ?_) AllReady.nil
  go_simp
  refine hK _ _ ?_
  clear hK K
  refine wpAny_ready (rs := [14]) (by kernel_rfl) (by simp) ?_
  refine AllReady.cons rfl (fun K hK => ?_) AllReady.nil
  go_simp
  go_wp2_with (go_at_call 81; refine (del_any g cap k B (A.wa x y) _ OWN.out hk h6).mono ?_; rintro e w2 ⟨rfl, o2, oo⟩; have c3 : w2.cell? ⟨bx, 26 + x * 5 + y, none⟩ = some (.slice (some ⟨g, 0, none⟩) (A.wa x y).length cap) := (World.cell?_of_block (w := W.drew) (oo.block bx zx (fun e => hgx e.symm))).trans c2; have f3 : w2.frozen? ⟨bx, 26 + x * 5 + y, none⟩ = false := (World.frozen?_of_block (w := W.drew) (oo.block bx zx (fun e => hgx e.symm))).trans (PW.out.fz _))
  refine take_to 18 (some 39) (.pointer (some ⟨bx, 26 + x * 5 + y, none⟩)) hQ rfl rfl (by kernel_rfl) (by kernel_rfl) (by kernel_rfl) (by kernel_rfl) (fun w => by go_simp) ?_
  refine wpAny_ready (rs := [19]) (by kernel_rfl) (by simp) ?_
  refine AllReady.cons rfl (fun K hK => ?_) AllReady.nil
  go_simp
  refine hK _ _ ?_
  clear hK K
  refine wpAny_done (by kernel_rfl) ?_ _
  clear hQ
  go_simp
  have hgn : w.heap.size + 1 ≠ g := by omega
  have hgn0 : w.heap.size ≠ g := by omega
  have p2 : PN w2 bx bs A V := PW.out.of (oo.block bx zx (fun e => hgx e.symm)) (oo.block bs (PW.out.lts hn0) (fun e => hgs e.symm))
  have p3 := (p2.setV x y hx hy (.slice (some ⟨g, 0, none⟩) ((A.wa x y).length - 1) cap)).wa (setWa A.wa x y ((A.wa x y).eraseIdx k))
  have m2 : Whole w2 (w.heap.size + 1) 104 (mgA m) := N2.out.of (oo.block _ N2.out.lt hgn)
  have m3 : Whole w2 w.heap.size 104 Zm := N3.out.of (oo.block _ N3.out.lt hgn0)
  have r2 : WR (w2.setCell ⟨bx, 26 + x * 5 + y, none⟩ (.slice (some ⟨g, 0, none⟩) ((A.wa x y).length - 1) cap)) B 104 ρ tg (upd2 V x y (.slice (some ⟨g, 0, none⟩) ((A.wa x y).length - 1) cap)) (setWa A.wa x y ((A.wa x y).eraseIdx k)) := by
    refine WW.out.put x y _ _ (ownsRow_of o2 fun j hj => heap_setCell_other _ _ _ _ ?_) (fun _ _ => rfl) (fun j hj => ?_) fun j a c hj ha hc hac hpj => ?_
    · have : g = j := by simpa [Value.ownBlock] using hj
      rw [← this]; exact hgx
    · have : g = j := by simpa [Value.ownBlock] using hj
      rw [← this]; exact HP.out
    · have hjx : j ≠ bx := by rintro rfl; exact HBX.out a c hpj
      have hjg : j ≠ g := by
        rintro rfl
        obtain ⟨e1, e2⟩ := HJ.out.inj a c x y ha hc hx hy (hpj.symm.trans HP.out)
        exact hac ⟨e1, e2⟩
      rw [heap_setCell_other _ _ _ _ hjx]
      exact oo.block j hj hjg
  have k2 : Whole (w2.setCell ⟨bx, 26 + x * 5 + y, none⟩ (.slice (some ⟨g, 0, none⟩) ((A.wa x y).length - 1) cap)) (w.heap.size + 1) 104 (mgA m) := m2.setCell (by show w.heap.size + 1 ≠ bx; omega) _
  have k3 : Whole (w2.setCell ⟨bx, 26 + x * 5 + y, none⟩ (.slice (some ⟨g, 0, none⟩) ((A.wa x y).length - 1) cap)) w.heap.size 104 Zm := m3.setCell (by show w.heap.size ≠ bx; omega) _
  have OT : Hid (TurnP bx bs tg ρ ρ w (w2.setCell ⟨bx, 26 + x * 5 + y, none⟩ (.slice (some ⟨g, 0, none⟩) ((A.wa x y).length - 1) cap))) := (show TurnP bx bs tg ρ ρ w (w2.setCell ⟨bx, 26 + x * 5 + y, none⟩ (.slice (some ⟨g, 0, none⟩) ((A.wa x y).length - 1) cap)) by
    have o1 : Only (MineP bx bs ρ tg) w w2 := (Only.ofBelow (S := MineP bx bs ρ tg) B2.out).trans (⟨oo.os, oo.tape, oo.output, oo.size, fun j hj hs => oo.block j hj hs⟩ : Only (· = g) W w2) (fun j hj e => .inr (.inr ⟨x, y, hx, hy, by rw [e]; exact HP.out⟩))
    have o2 := o1.setCell (p := ⟨bx, 26 + x * 5 + y, none⟩) (.inl (.inr (.inl rfl))) (.slice (some ⟨g, 0, none⟩) ((A.wa x y).length - 1) cap)
    exact ⟨o2, fun _ _ => rfl, fun j hj => HN.out j (Nat.le_trans o2.size hj)⟩)
  have P3 : Hid (PN (w2.setCell ⟨bx, 26 + x * 5 + y, none⟩ (.slice (some ⟨g, 0, none⟩) ((A.wa x y).length - 1) cap)) bx bs { A with wa := setWa A.wa x y ((A.wa x y).eraseIdx k) } (upd2 V x y (.slice (some ⟨g, 0, none⟩) ((A.wa x y).length - 1) cap))) := p3
  have R2 : Hid (WR (w2.setCell ⟨bx, 26 + x * 5 + y, none⟩ (.slice (some ⟨g, 0, none⟩) ((A.wa x y).length - 1) cap)) B 104 ρ tg (upd2 V x y (.slice (some ⟨g, 0, none⟩) ((A.wa x y).length - 1) cap)) (setWa A.wa x y ((A.wa x y).eraseIdx k))) := r2
  clear p2 p3 m2 m3 r2 c2 c3 f3 o2 km1 km2 t1
  generalize w2.setCell ⟨bx, 26 + x * 5 + y, none⟩ (.slice (some ⟨g, 0, none⟩) ((A.wa x y).length - 1) cap) = U at *
  obtain ⟨j1, j2⟩ := k2.mid (mgA_size m)
  have j3 := k3.there Zm_size
  have K3 : Hid (Whole U w.heap.size 104 Zm) := k3
  have b5 : Below w.heap.size U (U.setCells w.heap.size 0 (mgA m).toList) := Below.setCells (Below.refl _ _) (Nat.le_refl _) _ _
  go_wp2
  refine bodyPost_ret (v := .agg (mgA m)) (results_cell0 (t := 104) rfl _ _ w.heap.size (mgA m) rfl (K3.out.over (mgA m) (by rw [mgA_size, Zm_size])) _ Try.underlying104 rfl (by rw [sizePM, mgA_size])) rfl ⟨rfl, upd2 V x y (.slice (some ⟨g, 0, none⟩) ((A.wa x y).length - 1) cap), ?_⟩
  have o5 := OT.out.only.setCells (b := w.heap.size) (.inr (Nat.le_refl _)) 0 (mgA m).toList
  exact ⟨P3.out.of (b5.block bx hlx) (b5.block bs hls), R2.out.of (fun j a c hj ha hc hpj => (setCells_block w.heap.size _ 0 U).2.1 j (fun e => by rw [e, HN.out _ (Nat.le_refl _)] at hpj; exact HJ.out.nz a c hpj.symm)) (fun _ _ => rfl), ⟨o5, fun _ _ => rfl, fun j hj => HN.out j (Nat.le_trans o5.size hj)⟩⟩
end Go.Proofs.Ytdoodnbobpijoaa

