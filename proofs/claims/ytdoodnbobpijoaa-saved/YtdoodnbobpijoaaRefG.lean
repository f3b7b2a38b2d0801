import Derived.Test.YtdoodnbobpijoaaRefF
namespace Go.Proofs.Ytdoodnbobpijoaa
open Go.RowKit

/-! ### A message is taken off -/
section
variable {P : Program} {w : World}
theorem run_append_zero (base : Nat) (t ty e : TypeId) (i : TypeInfo) (size : Nat) (ht : P.underlying t = some (.slice e)) (hi : P.info? e = some i)
    (v : Value) (n : Nat) (xs : List Value) (hown : w.ownsRow base e size v n xs) (ad : Option Addr) (c : Nat) :
    (Builtin.append_ #[t, t] ty #[v, .slice ad 0 c]).run P w = .ok v w := by
  rcases hown.2 with ⟨rfl, rfl⟩ | ⟨g, cap, cur, rfl, _, _, hnc, _⟩
  · cases ad <;> simp [Builtin.append_, run_underlying ht, sizeOf, typeInfo, hi, Builtin.lenOf, Builtin.firstCells, loadCells, loadCellsFrom]
  · cases ad <;> simp [Builtin.append_, run_underlying ht, sizeOf, typeInfo, hi, Builtin.lenOf, Builtin.firstCells, hnc, loadCells, loadCellsFrom, storeCells]
theorem wpList_append_any {ops : Array Oper} {rest : List Oper} {o : Oper} {a : Act} {Q : Exit → Act → World → Prop} (hgd : o.guard = none) (s x : Operand) (t : TypeId)
    (ho : o.op = .call { callee := .builtin .append, args := #[s, x], argTypes := #[t, t] })
    (base : Nat) (e : TypeId) (i : TypeInfo) (z : Value) (size bytes : Nat) (ht : P.underlying t = some (.slice e)) (hi : P.info? e = some i) (hz : i.zero = some z)
    (hsize : i.size = size) (hby : i.bytes = bytes) (hzs : z.cells.size = size) (hsz : 0 < size)
    (v : Value) (n : Nat) (xs : List Value) (hs : a.eval s = v) (hown : w.ownsRow base e size v n xs)
    (ad : Addr) (m c : Nat) (news : List Value) (hx : a.eval x = .slice (some ad) m c) (hl : news.length = m * size) (hnews : ∀ j u, news[j]? = some u → w.cell? (ad.add j) = some u) (h1 : ∀ u ∈ news, u.oneCell' = true)
    (h63 : n + m ≤ maxLen) (hbytes : (n + m) * bytes ≤ 140737488355328) (hbase : base ≤ w.heap.size) (H : Nat) (hH : w.heap.size = H)
    (h : ∀ nv w', w'.ownsRow base e size nv (n + m) (xs ++ news) → w.grownBy w' v.ownBlock → (∀ g, nv.ownBlock = some g → v.ownBlock = some g ∨ g = H) → wpList P ops Q rest (a.put o.dst nv) w') : wpList P ops Q (o :: rest) a w := by
  rcases Nat.eq_zero_or_pos m with hm | hm
  · subst hm
    have : news = [] := List.length_eq_zero_iff.1 (by omega)
    subst this
    refine wpList_plain hgd fun K hK => ?_
    have hrun := run_append_zero (P := P) (w := w) base t o.type e i size ht hi v n xs hown (some ad) c
    unfold Oper.wp
    simp [execOp, ho, resolve, invoke, builtin, hs, hx, hrun, Result.andThen]
    exact hK _ _ (h v w (by simpa using hown) ⟨rfl, rfl, rfl, Nat.le_refl _, fun _ _ _ => rfl⟩ (fun g hg => .inl hg))
  · refine wpList_append_lies w hgd s x t ho base e i z size bytes ht hi hz hsize hby hzs hsz v n xs hs hown ad m c news hx hl hnews h1 hm h63 hbytes hbase H hH fun g cap w' h2 h3 h4 _ => ?_
    exact h _ w' h2 h3 fun g' hg => by
      have : g = g' := by simpa [Value.ownBlock] using hg
      rw [← this]; exact h4
end
theorem addr_add (g o j : Nat) : (⟨g, o, none⟩ : Addr).add j = ⟨g, o + j, none⟩ := by unfold Addr.add; split <;> simp_all
theorem owns_form {w : World} {B e s n : Nat} {v : Value} {xs : List Value} (h : w.ownsRow B e s v n xs) : ∃ ad c, v = .slice ad n c := by
  rcases h.2 with ⟨h1, h2⟩ | ⟨g, cap, cur, hv, _⟩
  · exact ⟨none, 0, by rw [h1, h2]⟩
  · exact ⟨_, cap, hv⟩
/-- Who plays a link, behind a new row. -/
def playV (ρ : Nat → Part) (nv : Value) (p : Part) : Nat → Part := fun k => if nv.ownBlock = some k then p else ρ k
attribute [local go_sem ↓] Go.wp_at_zero Go.wp_at_succ
set_option maxHeartbeats 1000000 in
set_option maxRecDepth 100000 in
theorem off_any (b x y k B : Nat) (ρ : Nat → Part) (tg : Nat → Nat → Part) (A : Nt) (V : Nat → Nat → Value) (w : World) (hx : x < 5) (hy : y < 5) (hk : k < (A.wa x y).length) (h6 : (A.wa x y).length ≤ 6) (hR : RN w b A V) (hW : WR w B 164 ρ tg V A.wa) (hB : B ≤ w.heap.size)
    (hb : ∀ a c, ρ b ≠ tg a c) (hnew : ∀ j, w.heap.size ≤ j → ρ j = (0, 0)) :
    Calls Try.prog 116 #[.pointer (some ⟨b, 0, none⟩), .int .i64 x, .int .i64 y, .int .i64 k] w fun e w' => e = .returned (.tuple #[]) ∧ ∃ ρ' V', RN w' b (offN A x y k) V' ∧ WR w' B 164 ρ' tg V' (offN A x y k).wa ∧ Turn b tg ρ ρ' w w' := by
  have hx' : (x : Int) < 5 := by omega
  have hy' : (y : Int) < 5 := by omega
  obtain ⟨g, cap, hv, g1, g2, g3, g4, g5⟩ := hW.at x y hx hy (by omega)
  have hd := hR.v x y hx hy
  rw [hv] at hd
  have hlt := hR.lt
  have hk1 : (k : Int) ≤ (cap : Int) := by omega
  have hk2 : ((k : Int) + 1) ≤ ((A.wa x y).length : Int) := by omega
  obtain ⟨i, z, hi1, hi2, hi3, hi4, hi5⟩ := infoM
  have I1 : Hid (Try.prog.info? 164 = some i) := hi1; have I2 : Hid (i.zero = some z) := hi2; have I3 : Hid (i.size = 10) := hi3; have I4 : Hid (i.bytes = 80) := hi4; have I5 : Hid (z.cells.size = 10) := hi5
  clear hi1 hi2 hi3 hi4 hi5
  have HR : Hid (RN w b A V) := hR; clear hR
  have HW : Hid (WR w B 164 ρ tg V A.wa) := hW; clear hW
  have HV : Hid (V x y = .slice (some ⟨g, 0, none⟩) (A.wa x y).length cap) := hv; clear hv
  have o0 : Hid (w.ownsRow B 164 10 (.slice none 0 0) 0 []) := (show w.ownsRow B 164 10 (.slice none 0 0) 0 [] from ⟨rfl, .inl ⟨rfl, rfl⟩⟩)
  have l1 : Hid ((flat ((A.wa x y).take k)).length = k * 10) := (show (flat ((A.wa x y).take k)).length = k * 10 by rw [flat_length, List.length_take, Nat.min_eq_left (by omega)])
  have nw1 : Hid (∀ j u, (flat ((A.wa x y).take k))[j]? = some u → w.cell? ((⟨g, 0, none⟩ : Addr).add j) = some u) := (show ∀ j u, (flat ((A.wa x y).take k))[j]? = some u → w.cell? ((⟨g, 0, none⟩ : Addr).add j) = some u from fun j u hu => by
    rw [addr_add, Nat.zero_add]
    rw [flat_take, List.getElem?_take] at hu
    split at hu
    · exact g5 j u hu
    · cases hu)
  have mx1 : Hid (0 + k ≤ maxLen) := (show 0 + k ≤ maxLen by unfold maxLen; omega)
  have by1 : Hid ((0 + k) * 80 ≤ 140737488355328) := (show (0 + k) * 80 ≤ 140737488355328 by omega)
  go_enter Try.func116, Try.ntmps116
  have hbn : some b ≠ (Value.slice none 0 0).ownBlock := by simp [Value.ownBlock]
  have hgn : some g ≠ (Value.slice none 0 0).ownBlock := by simp [Value.ownBlock]
  have l2 : Hid ((flat ((A.wa x y).drop (k + 1))).length = ((A.wa x y).length - (k + 1)) * 10) := (show (flat ((A.wa x y).drop (k + 1))).length = ((A.wa x y).length - (k + 1)) * 10 by rw [flat_length, List.length_drop])
  have nw2 : Hid (∀ j u, (flat ((A.wa x y).drop (k + 1)))[j]? = some u → w.cell? ⟨g, (k + 1) * 10 + j, none⟩ = some u) := (show ∀ j u, (flat ((A.wa x y).drop (k + 1)))[j]? = some u → w.cell? ⟨g, (k + 1) * 10 + j, none⟩ = some u from fun j u hu => by
    rw [flat_drop, List.getElem?_drop] at hu
    exact g5 _ u hu)
  have mx2 : Hid (0 + k + ((A.wa x y).length - (k + 1)) ≤ maxLen) := (show 0 + k + ((A.wa x y).length - (k + 1)) ≤ maxLen by unfold maxLen; omega)
  have by2 : Hid ((0 + k + ((A.wa x y).length - (k + 1))) * 80 ≤ 140737488355328) := (show (0 + k + ((A.wa x y).length - (k + 1))) * 80 ≤ 140737488355328 by omega)
  have G4 : Hid (∀ o, w.frozen? ⟨g, o, none⟩ = false) := g4; clear g4
  have G5 : Hid (∀ (j : Nat) (u : Value), (flat (A.wa x y))[j]? = some u → w.cell? ⟨g, j, none⟩ = some u) := g5; clear g5
  have HN : Hid (∀ j, w.heap.size ≤ j → ρ j = (0, 0)) := hnew; clear hnew
  have HB : Hid (∀ a c, ρ b ≠ tg a c) := hb; clear hb
  have fzb : Hid (w.frozen? ⟨b, 396 + x * 5 + y, none⟩ = false) := HR.out.fz _
  go_wp2_with (first
    | (refine wpList_append_any (by rfl) _ _ 158 (by rfl) B 164 i z 10 80 Try.underlying158 I1.out I2.out I3.out I4.out I5.out (by omega) (.slice none 0 0) 0 [] (by rfl) o0.out ⟨g, 0, none⟩ k cap (flat ((A.wa x y).take k)) (by rfl) l1.out nw1.out (flat_one_cells _) mx1.out by1.out hB w.heap.size rfl ?_
       intro nv1 w1 ho1 hg1 ha1
       have cb := (hg1.cell_far ⟨b, 396 + x * 5 + y, none⟩ hlt hbn).trans hd
       have s1 := hg1.size
       have ho1' : Hid (w1.ownsRow B 164 10 nv1 (0 + k) ([] ++ flat ((A.wa x y).take k))) := ho1
       clear ho1
       have hg1' : Hid (w.grownBy w1 (Value.slice none 0 0).ownBlock) := hg1
       clear hg1
       have ha1' : Hid (∀ g', nv1.ownBlock = some g' → (Value.slice none 0 0).ownBlock = some g' ∨ g' = w.heap.size) := ha1
       clear ha1)
    | (refine wpList_append_any (by rfl) _ _ 158 (by rfl) B 164 i z 10 80 Try.underlying158 I1.out I2.out I3.out I4.out I5.out (by omega) nv1 (0 + k) ([] ++ flat ((A.wa x y).take k)) (by rfl) ho1'.out (if cap = k + 1 then (⟨g, 0, none⟩ : Addr) else ⟨g, (k + 1) * 10, none⟩) ((A.wa x y).length - (k + 1)) (cap - (k + 1)) (flat ((A.wa x y).drop (k + 1))) (by show Value.slice (if cap = k + 1 then some _ else some _) _ _ = _; split <;> rfl) l2.out ?_ (flat_one_cells _) mx2.out by2.out (by omega) w1.heap.size rfl ?_
       · intro j u hu
         have hcap : ¬ cap = k + 1 := fun e => by
           have : (A.wa x y).drop (k + 1) = [] := List.drop_eq_nil_of_le (by omega)
           rw [this] at hu
           simp [flat] at hu
         rw [if_neg hcap]
         rw [addr_add, hg1'.out.cell_far ⟨g, (k + 1) * 10 + j, none⟩ g1 hgn]
         exact nw2.out j u hu
       intro nv2 w2 ho2 hg2 ha2
       obtain ⟨ad2, cp2, hnf⟩ := owns_form ho2
       subst hnf
       have hbn2 : some b ≠ nv1.ownBlock := fun e => by
         rcases ha1'.out b e.symm with h | h
         · exact hbn h.symm
         · omega
       have cb2 := (hg2.cell_far ⟨b, 396 + x * 5 + y, none⟩ (by dsimp only; omega) hbn2).trans cb
       have fb2 := (hg2.frozen_far ⟨b, 396 + x * 5 + y, none⟩ (by dsimp only; omega) hbn2).trans ((hg1'.out.frozen_far ⟨b, 396 + x * 5 + y, none⟩ hlt hbn).trans fzb.out)
       have ho2' : Hid (w2.ownsRow B 164 10 (.slice ad2 (0 + k + ((A.wa x y).length - (k + 1))) cp2) (0 + k + ((A.wa x y).length - (k + 1))) ([] ++ flat ((A.wa x y).take k) ++ flat ((A.wa x y).drop (k + 1)))) := ho2
       have hg2' : Hid (w1.grownBy w2 nv1.ownBlock) := hg2
       have ha2' : Hid (∀ g', (Value.slice ad2 (0 + k + ((A.wa x y).length - (k + 1))) cp2).ownBlock = some g' → nv1.ownBlock = some g' ∨ g' = w1.heap.size) := ha2
       clear ho2 hg2 ha2 hbn2))
  all_goals
    have ho2 := ho2'.out
    have hg2 := hg2'.out
    have ha2 := ha2'.out
    clear ho2' hg2' ha2'
    simp only [Nat.zero_add] at ho2 ha2
    generalize hgn2 : Value.slice ad2 (k + ((A.wa x y).length - (k + 1))) cp2 = nv2 at *
    have hnv : ∀ g', nv2.ownBlock = some g' → w.heap.size ≤ g' := fun g' hg' => by
      rcases ha2 g' hg' with h | h
      · rcases ha1'.out g' h with h | h
        · simp [Value.ownBlock] at h
        · omega
      · omega
    have hblk : ∀ j, j < w.heap.size → w2.heap[j]? = w.heap[j]? := fun j hj => by
      rw [hg2.block j (by omega) (fun e => ?_), hg1'.out.block j hj (by simp [Value.ownBlock])]
      rcases ha1'.out j e.symm with h | h
      · simp [Value.ownBlock] at h
      · omega
    have hs2 := hg2.size
    go_end0
    refine ⟨rfl, playV ρ nv2 (tg x y), upd2 V x y nv2, ?_, ?_, ?_⟩
    · exact ((HR.out.of (hblk b hlt)).setV x y hx hy nv2).wa _
    · refine HW.out.put x y nv2 _ ?_ (fun j hj => ?_) (fun g' hg' => ?_) (fun j a c hj ha hc hac hp => ?_)
      · have e : flat ((A.wa x y).eraseIdx k) = [] ++ flat ((A.wa x y).take k) ++ flat ((A.wa x y).drop (k + 1)) := by rw [List.nil_append, ← flat_append, List.eraseIdx_eq_take_drop_succ]
        have el : ((A.wa x y).eraseIdx k).length = k + ((A.wa x y).length - (k + 1)) := by rw [List.length_eraseIdx]; split <;> omega
        rw [e, el]
        exact ownsRow_of ho2 fun g' hg' => heap_setCell_other _ _ _ _ (by have := hnv g' hg'; dsimp only; omega)
      · unfold playV
        rw [if_neg (fun e => by have := hnv j e; omega)]
      · unfold playV; rw [if_pos hg']
      · rw [heap_setCell_other _ _ _ _ (by rintro rfl; exact HB.out a c hp)]
        exact hblk j hj
    · refine ⟨⟨?_, ?_, ?_, ?_, fun j hj hm => ?_⟩, fun j hj => ?_, fun j hj => ?_⟩
      · exact hg2.os.trans hg1'.out.os
      · exact hg2.tape.trans hg1'.out.tape
      · exact hg2.output.trans hg1'.out.output
      · simp; omega
      · rw [heap_setCell_other _ _ _ _ (fun e => hm (.inl e))]; exact hblk j hj
      · unfold playV
        rw [if_neg (fun e => by have := hnv j e; omega)]
      · unfold playV
        simp only [World.size_setCell] at hj
        rw [if_neg (fun e => by have := (ho2.lt j e).2; omega)]
        exact HN.out j (by omega)
end Go.Proofs.Ytdoodnbobpijoaa
