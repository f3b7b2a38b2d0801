import Derived.Test.YtdoodnbobpijoaaRefQ
namespace Go.Proofs.Ytdoodnbobpijoaa
open Go.RowKit

/-! ### The owner's lists -/
/-- The mark of the owner of the list i. -/
def mark (i : Nat) : Int := wrap64 (-7070 - (i : Nat))
/-- A list of the entry i: every place reads as its owner wrote it; its block is of those that Z names. -/
structure BkL (w : World) (Z : Nat → Prop) (i : Nat) (v : Value) : Prop where
  is : ∃ ad L cap, v = .slice ad L cap ∧ (ad = none ∧ L = 0 ∨ ∃ q, ad = some ⟨q, 0, none⟩ ∧ Z q ∧ (∃ cur, w.heap[q]? = some (.cells cur 3 (0, 0))) ∧ L ≤ 1000000 ∧ L ≤ cap ∧ ∀ j, j < L → w.cell? ⟨q, j, none⟩ = some (I (mark i)))
theorem BkL.of {w w' : World} {Z : Nat → Prop} {i : Nat} {v : Value} (h : BkL w Z i v) (hb : ∀ k, Z k → k < w.heap.size → w'.heap[k]? = w.heap[k]?) : BkL w' Z i v := by
  obtain ⟨ad, L, cap, hv, h1⟩ := h.is
  refine ⟨ad, L, cap, hv, ?_⟩
  rcases h1 with h1 | ⟨q, h1, h2, h3, h4, h5, h6⟩
  · exact .inl h1
  · obtain ⟨cur, h3⟩ := h3
    have hq := hb q h2 (Array.getElem?_eq_some_iff.1 h3).1
    exact .inr ⟨q, h1, h2, ⟨cur, hq.trans h3⟩, h4, h5, fun j hj => by rw [World.cell?_of_block (w := w) hq]; exact h6 j hj⟩
/-- An entry. -/
structure BkE (w : World) (Z : Nat → Prop) (i : Nat) (v : Value) : Prop where
  is : ∃ h, v = .slice (some ⟨h, 0, none⟩) 4 4 ∧ Z h ∧ (∃ cur, w.heap[h]? = some (.cells cur 24 (0, 0))) ∧ ∀ k, k < 4 → ∃ l, w.cell? ⟨h, k, none⟩ = some l ∧ BkL w Z i l
theorem BkE.of {w w' : World} {Z : Nat → Prop} {i : Nat} {v : Value} (h : BkE w Z i v) (hb : ∀ k, Z k → k < w.heap.size → w'.heap[k]? = w.heap[k]?) : BkE w' Z i v := by
  obtain ⟨g, hv, hz, ⟨cur, hg⟩, hk⟩ := h.is
  have hq := hb g hz (Array.getElem?_eq_some_iff.1 hg).1
  exact ⟨g, hv, hz, ⟨cur, hq.trans hg⟩, fun k hk4 => let ⟨l, h1, h2⟩ := hk k hk4; ⟨l, by rw [World.cell?_of_block (w := w) hq]; exact h1, h2.of hb⟩⟩
/-- The book: a row of entries. -/
structure Bk (w : World) (B : Nat) (Z : Nat → Prop) (v : Value) (n : Nat) : Prop where
  is : ∃ xs, w.ownsRow B 116 1 v n xs ∧ (∀ g, v.ownBlock = some g → Z g) ∧ ∀ i u, xs[i]? = some u → BkE w Z i u
theorem Bk.of {w w' : World} {B : Nat} {Z : Nat → Prop} {v : Value} {n : Nat} (h : Bk w B Z v n) (hb : ∀ k, Z k → k < w.heap.size → w'.heap[k]? = w.heap[k]?) : Bk w' B Z v n := by
  obtain ⟨xs, h1, h2, h3⟩ := h.is
  exact ⟨xs, ownsRow_of h1 (fun g hg => hb g (h2 g hg) (h1.lt g hg).2), h2, fun i u hu => (h3 i u hu).of hb⟩
theorem Bk.nil (w : World) (B : Nat) (Z : Nat → Prop) : Bk w B Z (.slice none 0 0) 0 := by
  refine ⟨[], ⟨rfl, .inl ⟨rfl, rfl⟩⟩, fun g hg => ?_, fun i u hu => ?_⟩
  · cases hg
  · cases hu
theorem BkL.mono {w : World} {Z Y : Nat → Prop} {i : Nat} {v : Value} (h : BkL w Z i v) (hz : ∀ k, Z k → Y k) : BkL w Y i v := by
  obtain ⟨ad, L, cap, hv, h1⟩ := h.is
  refine ⟨ad, L, cap, hv, ?_⟩
  rcases h1 with h1 | ⟨q, h1, h2, h3⟩
  · exact .inl h1
  · exact .inr ⟨q, h1, hz q h2, h3⟩
theorem BkE.mono {w : World} {Z Y : Nat → Prop} {i : Nat} {v : Value} (h : BkE w Z i v) (hz : ∀ k, Z k → Y k) : BkE w Y i v := by
  obtain ⟨g, hv, h1, h2, h3⟩ := h.is
  exact ⟨g, hv, hz g h1, h2, fun k hk => let ⟨l, a, b⟩ := h3 k hk; ⟨l, a, b.mono hz⟩⟩
theorem Bk.form {w : World} {B : Nat} {Z : Nat → Prop} {v : Value} {n : Nat} (h : Bk w B Z v n) : ∃ ad c, v = .slice ad n c := let ⟨_, h1, _⟩ := h.is; owns_form h1
/-- The entry i of it, as it lies. -/
theorem Bk.at {w : World} {B : Nat} {Z : Nat → Prop} {v : Value} {n i : Nat} (h : Bk w B Z v n) (hi : i < n) : ∃ g cap h', v = .slice (some ⟨g, 0, none⟩) n cap ∧ w.cell? ⟨g, i, none⟩ = some (.slice (some ⟨h', 0, none⟩) 4 4) ∧ ∀ k, k < 4 → ∃ l, w.cell? ⟨h', k, none⟩ = some l ∧ BkL w Z i l := by
  obtain ⟨xs, h1, h2, h3⟩ := h.is
  rcases h1.2 with ⟨_, h4⟩ | ⟨g, cap, cur, hv, _, hg, hc1, hc2, hc3, ht⟩
  · omega
  · have hlen : xs.length = n := by rw [h1.1]; omega
    obtain ⟨h', e1, _, _, e4⟩ := (h3 i xs[i] (List.getElem?_eq_getElem (by omega))).is
    refine ⟨g, cap, h', hv, ?_, e4⟩
    rw [cell_of_row w g i cur _ (0, 0) hg, ← Array.getElem?_toList]
    have : (cur.toList.take (n * 1))[i]? = xs[i]? := by rw [ht]
    rw [List.getElem?_take, if_pos (by omega)] at this
    rw [this, List.getElem?_eq_getElem (by omega), e1]
attribute [local go_sem ↓] Go.wp_at_zero Go.wp_at_succ
set_option maxHeartbeats 2000000 in
/-- Every list reads as its owner wrote it. -/
theorem whole_any (by_ B n : Nat) (Z : Nat → Prop) (v : Value) (w : World) (hv : w.cell? ⟨by_, 1, none⟩ = some v) (hB : Bk w B Z v n) (hn : n ≤ maxLen) :
    Calls Try.prog 37 #[.pointer (some ⟨by_, 1, none⟩)] w fun e w' => e = .returned (.bool true) ∧ w = w' := by
  obtain ⟨ad, c, rfl⟩ := hB.form
  have HB : Hid (Bk w B Z (.slice ad n c) n) := hB; clear hB
  have hn' : n ≤ 9223372036854775807 := by unfold maxLen at hn; omega
  go_enter Try.func37, Try.ntmps37
  go_wp2
  go_loopw [3] (fun i wr => ∃ k : Nat, k ≤ n ∧ i = .int .i64 k ∧ w = wr) (fun i _ => n - (intOf i).toNat)
  case atStart => exact ⟨0, Nat.zero_le _, rfl, rfl⟩
  case round =>
    obtain ⟨i, hi, rfl, rfl⟩ := hrel
    by_cases hin : i < n
    · have hin' : (i : Int) < (n : Int) := by omega
      have hi0 : (0 : Int) ≤ (i : Int) := by omega
      obtain ⟨g, cap, h', e1, e2, e3⟩ := HB.out.at hin
      obtain ⟨rfl, rfl⟩ : ad = some ⟨g, 0, none⟩ ∧ c = cap := by simpa using e1
      clear e1
      have E3 : Hid (∀ k, k < 4 → ∃ l, w.cell? ⟨h', k, none⟩ = some l ∧ BkL w Z i l) := e3; clear e3
      go_wp2
      go_loopw [4] (fun j ws => ∃ k : Nat, k ≤ 4 ∧ j = .int .i64 k ∧ w = ws) (fun j _ => 4 - (intOf j).toNat)
      case atStart => exact ⟨0, by omega, rfl, rfl⟩
      case round =>
        obtain ⟨k, hk, rfl, rfl⟩ := hrel
        by_cases hk4 : k < 4
        · have hk4' : (k : Int) < 4 := by omega
          obtain ⟨l, c1, bl⟩ := E3.out k hk4
          obtain ⟨ad, L, cp, rfl, hl⟩ := bl.is
          have HL : Hid (ad = none ∧ L = 0 ∨ ∃ q, ad = some ⟨q, 0, none⟩ ∧ Z q ∧ (∃ cur, w.heap[q]? = some (.cells cur 3 (0, 0))) ∧ L ≤ 1000000 ∧ L ≤ cp ∧ ∀ j, j < L → w.cell? ⟨q, j, none⟩ = some (I (mark i))) := hl; clear hl bl
          go_wp2
          go_loopw [5] (fun j wt => ∃ p : Nat, p ≤ L ∧ j = .int .i64 p ∧ w = wt) (fun j _ => L - (intOf j).toNat)
          case atStart => exact ⟨0, Nat.zero_le _, rfl, rfl⟩
          case round =>
            obtain ⟨p, hp, rfl, rfl⟩ := hrel
            by_cases hpL : p < L
            · have hpL' : (p : Int) < (L : Int) := by omega
              rcases HL.out with h | ⟨q, rfl, _, _, hmx, hcp, hc⟩
              · omega
              · have c2 := hc p hpL
                have hmk : (mark i != wrap64 (-7070 - (i : Int))) = false := by simp [mark]
                have hpc : (p : Int) < (cp : Int) := by omega
                clear hc
                go_wp2
                go_roundw
                case rel => exact ⟨p + 1, by omega, by go_num, by first | rfl | trivial⟩
                case measure => simp [intOf]; omega
            · have hpe : p = L := by omega
              subst hpe
              go_wp2
              go_roundw
              case rel => exact ⟨k + 1, by omega, by go_num, by first | rfl | trivial⟩
              case measure => simp [intOf]; omega
        · have hke : k = 4 := by omega
          subst hke
          go_wp2
          go_roundw
          case rel => exact ⟨i + 1, by omega, by go_num, by first | rfl | trivial⟩
          case measure => simp [intOf]; omega
    · have hie : i = n := by omega
      subst hie
      go_wp2
      go_ret
      exact ⟨rfl, rfl⟩
end Go.Proofs.Ytdoodnbobpijoaa

namespace Go.Proofs.Ytdoodnbobpijoaa
open Go.RowKit

/-! ### An append to a list that others share -/
/-- Old blocks are as they were, but for that of a row, which is as long as it was. -/
structure Shp (w w' : World) (e : TypeId) (row : Option Nat) : Prop where
  os : w'.os = w.os
  tape : w'.tape = w.tape
  output : w'.output = w.output
  size : w.heap.size ≤ w'.heap.size
  block : ∀ k, k < w.heap.size → w'.heap[k]? = w.heap[k]? ∨ (row = some k ∧ ∃ cur cur', w.heap[k]? = some (.cells cur e (0, 0)) ∧ w'.heap[k]? = some (.cells cur' e (0, 0)) ∧ cur'.size = cur.size)
theorem Shp.refl (w : World) (e : TypeId) (row : Option Nat) : Shp w w e row := ⟨rfl, rfl, rfl, Nat.le_refl _, fun _ _ => .inl rfl⟩
theorem Shp.trans {a b c : World} {e : TypeId} {row : Option Nat} (h : Shp a b e row) (k : Shp b c e row) : Shp a c e row := by
  refine ⟨k.os.trans h.os, k.tape.trans h.tape, k.output.trans h.output, Nat.le_trans h.size k.size, fun j hj => ?_⟩
  rcases k.block j (Nat.lt_of_lt_of_le hj h.size) with e1 | ⟨r1, x, y, e1, e2, e3⟩
  · rcases h.block j hj with f1 | ⟨r2, x, y, f1, f2, f3⟩
    · exact .inl (e1.trans f1)
    · exact .inr ⟨r2, x, y, f1, e1.trans f2, f3⟩
  · rcases h.block j hj with f1 | ⟨r2, x', y', f1, f2, f3⟩
    · exact .inr ⟨r1, x, y, f1 ▸ e1, e2, e3⟩
    · rw [f2] at e1
      have : y' = x := by simpa using e1
      subst this
      exact .inr ⟨r1, x', y, f1, e2, e3.trans f3⟩
theorem Shp.alloc {a b : World} {e : TypeId} {row : Option Nat} (h : Shp a b e row) (o : Obj) : Shp a (b.alloc o) e row :=
  ⟨h.os, h.tape, h.output, by have := h.size; simp; omega, fun j hj => by rw [Below.heap_alloc b o j (Nat.lt_of_lt_of_le hj h.size)]; exact h.block j hj⟩
/-- A row keeps its shape. -/
theorem Shp.owns {w w' : World} {e : TypeId} {row : Option Nat} (h : Shp w w' e row) {B : Nat} {v : Value} {n : Nat} {xs : List Value} (ho : w.ownsRow B e 1 v n xs) : ∃ ys, w'.ownsRow B e 1 v n ys := by
  rcases ho.2 with ⟨h1, h2⟩ | ⟨g, cap, cur, hv, hb, hg, hc1, hc2, hc3, ht⟩
  · exact ⟨xs, ho.1, .inl ⟨h1, h2⟩⟩
  · have hlt := (Array.getElem?_eq_some_iff.1 hg).1
    rcases h.block g hlt with e1 | ⟨_, x, y, e1, e2, e3⟩
    · exact ⟨xs, ho.1, .inr ⟨g, cap, cur, hv, hb, e1.trans hg, hc1, hc2, hc3, ht⟩⟩
    · rw [hg] at e1
      have : cur = x := by simpa using e1
      subst this
      refine ⟨y.toList.take (n * 1), ?_, .inr ⟨g, cap, y, hv, hb, e2, hc1, hc2, e3.trans hc3, rfl⟩⟩
      rw [List.length_take, Array.length_toList, e3, hc3]
      omega
section
variable {P : Program} (w : World)
theorem run_append_sp (base : Nat) (t ty e : TypeId) (i : TypeInfo) (z : Value) (bytes : Nat) (ht : P.underlying t = some (.slice e)) (hi : P.info? e = some i) (hz : i.zero = some z)
    (hsize : i.size = 1) (hby : i.bytes = bytes) (hzs : z.cells.size = 1)
    (v : Value) (n : Nat) (xs : List Value) (hown : w.ownsRow base e 1 v n xs)
    (ad : Addr) (m c : Nat) (news : List Value) (hl : news.length = m * 1) (hnews : ∀ j u, news[j]? = some u → w.cell? (ad.add j) = some u) (h1 : ∀ u ∈ news, u.oneCell' = true)
    (hm : 0 < m) (h63 : n + m ≤ maxLen) (hbytes : (n + m) * bytes ≤ 140737488355328) (hbase : base ≤ w.heap.size) :
    ∃ nv w', (Builtin.append_ #[t, t] ty #[v, .slice (some ad) m c]).run P w = .ok nv w' ∧ w'.ownsRow base e 1 nv (n + m) (xs ++ news) ∧ Shp w w' e v.ownBlock ∧ (∀ g, nv.ownBlock = some g → v.ownBlock = some g ∨ g = w.heap.size) := by
  obtain ⟨g, cap, w', hr, h2, h3, h4, h5⟩ := run_append_lies (P := P) w t ty base e i z 1 bytes ht hi hz hsize hby hzs (by omega) v n xs hown ad m c news hl hnews h1 hm h63 hbytes hbase w.heap.size rfl
  refine ⟨_, w', hr, h2, ?_, fun g' hg' => by
    have : g = g' := by simpa [Value.ownBlock] using hg'
    rw [← this]; exact h4⟩
  rcases hown.2 with ⟨hv, hn0⟩ | ⟨g0, cap0, cur, hv, hb0, hg0, hc1, hc2, hc3, ht0⟩
  · subst hv
    exact ⟨h3.os, h3.tape, h3.output, h3.size, fun k hk => .inl (h3.block k hk (by simp [Value.ownBlock]))⟩
  · subst hv
    by_cases hroom : n + m ≤ cap0
    · obtain ⟨w2, hr2, h6, h7⟩ := run_append_fits (P := P) w base t ty e i 1 ht hi hsize g0 n cap0 xs hown ad m c news hl hnews h1 hroom
      rw [hr] at hr2
      obtain ⟨_, rfl⟩ : _ ∧ w' = w2 := by simpa using hr2
      refine ⟨h7.os, h7.tape, h7.output, h7.size, fun k hk => ?_⟩
      by_cases hk0 : k = g0
      · subst hk0
        rcases h6.2 with ⟨hv, _⟩ | ⟨g1, cap1, cur1, hv, _, hg1, _, _, hs1, _⟩
        · simp at hv
        · obtain ⟨rfl, rfl⟩ : k = g1 ∧ cap0 = cap1 := by simpa using hv
          exact .inr ⟨rfl, cur, cur1, hg0, hg1, by omega⟩
      · exact .inl (h7.block k hk (by simpa using hk0))
    · subst hby
      have holds : ∀ j u, xs[j]? = some u → w.cell? ((⟨g0, 0, none⟩ : Addr).add j) = some u := hown.cells (g := g0) rfl
      have hr2 := run_append_grow (P := P) w t ty e i z ht hi hz ⟨g0, 0, none⟩ n cap0 xs (by rw [hsize]; exact hown.1) holds ad m c news (by rw [hsize]; exact hl) hnews (by omega) (by unfold maxLen at h63; omega) (growslice_fits (by omega) hbytes)
      rw [hr] at hr2
      have e2 := (Result.ok.inj hr2).2
      refine ⟨h3.os, h3.tape, h3.output, h3.size, fun k hk => .inl ?_⟩
      rw [e2]
      exact Below.heap_alloc w.drew _ k hk
theorem wpList_append_sp {ops : Array Oper} {rest : List Oper} {o : Oper} {a : Act} {Q : Exit → Act → World → Prop} (hgd : o.guard = none) (s x : Operand) (t : TypeId)
    (ho : o.op = .call { callee := .builtin .append, args := #[s, x], argTypes := #[t, t] })
    (base : Nat) (e : TypeId) (i : TypeInfo) (z : Value) (bytes : Nat) (ht : P.underlying t = some (.slice e)) (hi : P.info? e = some i) (hz : i.zero = some z)
    (hsize : i.size = 1) (hby : i.bytes = bytes) (hzs : z.cells.size = 1)
    (v : Value) (n : Nat) (xs : List Value) (hs : a.eval s = v) (hown : w.ownsRow base e 1 v n xs)
    (ad : Addr) (m c : Nat) (news : List Value) (hx : a.eval x = .slice (some ad) m c) (hl : news.length = m * 1) (hnews : ∀ j u, news[j]? = some u → w.cell? (ad.add j) = some u) (h1 : ∀ u ∈ news, u.oneCell' = true)
    (hm : 0 < m) (h63 : n + m ≤ maxLen) (hbytes : (n + m) * bytes ≤ 140737488355328) (hbase : base ≤ w.heap.size)
    (h : ∀ nv w', w'.ownsRow base e 1 nv (n + m) (xs ++ news) → Shp w w' e v.ownBlock → (∀ g, nv.ownBlock = some g → v.ownBlock = some g ∨ g = w.heap.size) → wpList P ops Q rest (a.put o.dst nv) w') : wpList P ops Q (o :: rest) a w := by
  obtain ⟨nv, w', hr, h2, h3, h4⟩ := run_append_sp (P := P) w base t o.type e i z bytes ht hi hz hsize hby hzs v n xs hown ad m c news hl hnews h1 hm h63 hbytes hbase
  refine wpList_plain hgd fun K hK => ?_
  unfold Oper.wp execOp
  simp only [ho, resolve, invoke, builtin, Sem.run_bind, Sem.run_pure, Result.andThen_ok, List.map_toArray, List.map_cons, List.map_nil, hs, hx, hr]
  exact hK _ _ (h nv w' h2 h3 h4)
end
end Go.Proofs.Ytdoodnbobpijoaa

namespace Go.Proofs.Ytdoodnbobpijoaa
open Go.RowKit

/-- A row keeps its shape when a cell is written. -/
theorem owns_setCell {w : World} {B e : Nat} {v : Value} {n : Nat} {xs : List Value} (ho : w.ownsRow B e 1 v n xs) (g o : Nat) (u : Value) : ∃ ys, (w.setCell ⟨g, o, none⟩ u).ownsRow B e 1 v n ys := by
  rcases ho.2 with ⟨h1, h2⟩ | ⟨q, cap, cur, hv, hb, hg, hc1, hc2, hc3, ht⟩
  · exact ⟨xs, ho.1, .inl ⟨h1, h2⟩⟩
  · by_cases e1 : q = g
    · subst e1
      refine ⟨(cur.setIfInBounds o u).toList.take (n * 1), ?_, .inr ⟨q, cap, cur.setIfInBounds o u, hv, hb, by rw [heap_setCell_same w q o cur e u hg], hc1, hc2, by simpa using hc3, rfl⟩⟩
      rw [List.length_take, Array.length_toList]
      simp
      omega
    · exact ⟨xs, ho.1, .inr ⟨q, cap, cur, hv, hb, by rw [heap_setCell_other w ⟨g, o, none⟩ q u e1]; exact hg, hc1, hc2, hc3, ht⟩⟩
/-- What the lists of an entry are, while they are written: those below k, and the first i places of the k-th. -/
structure Wr (w0 w : World) (B1 h : Nat) (ll : Nat → Value) (L : Nat) (z : Int) (g0 : Option Nat) (k i : Nat) : Prop where
  os : w.os = w0.os
  tape : w.tape = w0.tape
  output : w.output = w0.output
  size : w0.heap.size ≤ w.heap.size
  old : ∀ j, j < w0.heap.size → g0 ≠ some j → w.heap[j]? = w0.heap[j]?
  four : Whole w h 24 #[ll 0, ll 1, ll 2, ll 3]
  row : ∀ q, q < 4 → ∃ ys, w.ownsRow B1 3 1 (ll q) (L + q) ys
  far : ∀ q g, q < 4 → (ll q).ownBlock = some g → g ≠ h
  mine : ∀ q g, q < 4 → (ll q).ownBlock = some g → g0 = some g ∨ w0.heap.size ≤ g
  set : ∀ q g j, q < 4 → (ll q).ownBlock = some g → j < L + q → (q < k ∨ (q = k ∧ j < i)) → w.cell? ⟨g, j, none⟩ = some (I z)
theorem BkE.ne {w : World} {Z : Nat → Prop} {i r : Nat} {u : Value} (h : BkE w Z i u) (hr : ∃ cur, w.heap[r]? = some (.cells cur 116 (0, 0))) : BkE w (fun k => Z k ∧ k ≠ r) i u := by
  obtain ⟨cr, hr⟩ := hr
  obtain ⟨g, hv, h1, ⟨cg, h2⟩, h3⟩ := h.is
  refine ⟨g, hv, ⟨h1, ?_⟩, ⟨cg, h2⟩, fun k hk => ?_⟩
  · rintro rfl
    rw [hr] at h2
    simp at h2
  · obtain ⟨l, h4, h5⟩ := h3 k hk
    obtain ⟨ad, L, cap, hl, h6⟩ := h5.is
    refine ⟨l, h4, ad, L, cap, hl, ?_⟩
    rcases h6 with h6 | ⟨q, h7, h8, ⟨cq, h9⟩, h10⟩
    · exact .inl h6
    · refine .inr ⟨q, h7, ⟨h8, ?_⟩, ⟨cq, h9⟩, h10⟩
      rintro rfl
      rw [hr] at h9
      simp at h9
theorem BkE.sized {w : World} {Z : Nat → Prop} {i : Nat} {u : Value} (h : BkE w Z i u) : BkE w (fun k => Z k ∧ k < w.heap.size) i u := by
  obtain ⟨g, hv, h1, ⟨cg, h2⟩, h3⟩ := h.is
  refine ⟨g, hv, ⟨h1, (Array.getElem?_eq_some_iff.1 h2).1⟩, ⟨cg, h2⟩, fun k hk => ?_⟩
  obtain ⟨l, h4, h5⟩ := h3 k hk
  obtain ⟨ad, L, cap, hl, h6⟩ := h5.is
  refine ⟨l, h4, ad, L, cap, hl, ?_⟩
  rcases h6 with h6 | ⟨q, h7, h8, ⟨cq, h9⟩, h10⟩
  · exact .inl h6
  · exact .inr ⟨q, h7, ⟨h8, (Array.getElem?_eq_some_iff.1 h9).1⟩, ⟨cq, h9⟩, h10⟩
theorem infoN : ∃ i z, Try.prog.info? 116 = some i ∧ i.zero = some z ∧ i.size = 1 ∧ i.bytes = 24 ∧ z.cells.size = 1 := by
  have h : (match Try.prog.info? 116 with | some i => (match i.zero with | some z => i.size == 1 && i.bytes == 24 && z.cells.size == 1 | none => false) | none => false) = true := by kernel_rfl
  cases hi : Try.prog.info? 116 with
  | none => simp [hi] at h
  | some i =>
    cases hz : i.zero with
    | none => simp [hi, hz] at h
    | some z =>
      simp [hi, hz] at h
      exact ⟨i, z, rfl, hz, h.1.1, h.1.2, h.2⟩
theorem Wr.write {w0 w : World} {B1 h : Nat} {ll : Nat → Value} {L : Nat} {z : Int} {g0 : Option Nat} {k i : Nat} (W : Wr w0 w B1 h ll L z g0 k i) (hk : k < 4) (g : Nat) (hg : (ll k).ownBlock = some g) (hi : i < L + k) : Wr w0 (w.setCell ⟨g, i, none⟩ (I z)) B1 h ll L z g0 k (i + 1) := by
  refine ⟨W.os, W.tape, W.output, by have := W.size; simp; omega, fun j hj hg0 => ?_, W.four.setCell (by dsimp only; exact Ne.symm (W.far k g hk hg)) _, fun q hq => ?_, W.far, W.mine, fun q g' j hq hg' hj hs => ?_⟩
  · rw [heap_setCell_other _ _ _ _ (by
      dsimp only
      rintro rfl
      rcases W.mine k j hk hg with e | e
      · exact hg0 e
      · omega)]
    exact W.old j hj hg0
  · obtain ⟨ys, hy⟩ := W.row q hq
    exact owns_setCell hy g i _
  · by_cases e : g' = g ∧ j = i
    · obtain ⟨rfl, rfl⟩ := e
      obtain ⟨ys, hy⟩ := W.row k hk
      have : ∃ v, w.cell? ⟨g', j, none⟩ = some v := by
        rcases hy.2 with ⟨h1, _⟩ | ⟨q', cap, cur, hv, _, hg2, hc1, _, hc3, _⟩
        · rw [h1] at hg; simp [Value.ownBlock] at hg
        · have : q' = g' := by rw [hv] at hg; simpa [Value.ownBlock] using hg
          subst this
          rw [cell_of_row w q' j cur _ (0, 0) hg2]
          exact ⟨cur[j], Array.getElem?_eq_getElem (by omega)⟩
      obtain ⟨v, hv⟩ := this
      rw [World.cell?_setCell_same _ _ _ hv]
    · rw [World.cell?_setCell_other _ _ _ _ (fun e2 => e ⟨(congrArg Addr.block e2).symm, (congrArg Addr.off e2).symm⟩)]
      refine W.set q g' j hq hg' hj ?_
      rcases hs with hs | ⟨rfl, hs⟩
      · exact .inl hs
      · by_cases hji : j = i
        · subst hji
          rw [hg] at hg'
          have : g = g' := by simpa using hg'
          exact absurd ⟨this.symm, rfl⟩ e
        · exact .inr ⟨rfl, by omega⟩
theorem Wr.next {w0 w : World} {B1 h : Nat} {ll : Nat → Value} {L : Nat} {z : Int} {g0 : Option Nat} {k : Nat} (W : Wr w0 w B1 h ll L z g0 k (L + k)) : Wr w0 w B1 h ll L z g0 (k + 1) 0 :=
  ⟨W.os, W.tape, W.output, W.size, W.old, W.four, W.row, W.far, W.mine, fun q g j hq hg hj hs => W.set q g j hq hg hj (by
    rcases hs with hs | hs
    · by_cases e : q = k
      · subst e; exact .inr ⟨rfl, hj⟩
      · exact .inl (by omega)
    · omega)⟩
/-- Behind all four. -/
theorem Wr.entry {w0 w : World} {B1 h : Nat} {ll : Nat → Value} {L n : Nat} {g0 : Option Nat} {Z : Nat → Prop} (W : Wr w0 w B1 h ll L (mark n) g0 4 0) (hL : L + 4 ≤ 1000000) (hZ : ∀ k, B1 ≤ k → Z k) (hB : B1 ≤ h) : BkE w Z n (.slice (some ⟨h, 0, none⟩) 4 4) := by
  refine ⟨h, rfl, hZ h hB, ⟨_, W.four.is⟩, fun k hk => ⟨ll k, ?_, ?_⟩⟩
  · rw [W.four.cell]
    have : k = 0 ∨ k = 1 ∨ k = 2 ∨ k = 3 := by omega
    rcases this with rfl | rfl | rfl | rfl <;> rfl
  · obtain ⟨ys, hy⟩ := W.row k hk
    rcases hy.2 with ⟨h1, h2⟩ | ⟨g, cap, cur, hv, hb, hg, hc1, hc2, hc3, _⟩
    · exact ⟨none, 0, 0, h1, .inl ⟨rfl, rfl⟩⟩
    · exact ⟨_, L + k, cap, hv, .inr ⟨g, rfl, hZ g hb, ⟨cur, hg⟩, by omega, hc1, fun j hj => W.set k g j hk (by rw [hv]; rfl) hj (.inl hk)⟩⟩
attribute [local go_sem ↓] Go.wp_at_zero Go.wp_at_succ
set_option maxHeartbeats 4000000 in
set_option maxRecDepth 100000 in
theorem ints_any (by_ B B1 n L : Nat) (Z : Nat → Prop) (v lv : Value) (xs : List Value) (w : World) (hv : w.cell? ⟨by_, 1, none⟩ = some v) (hf : w.frozen? ⟨by_, 1, none⟩ = false)
    (hB : Bk w B (fun k => Z k ∧ k < B1) v n) (hl : w.ownsRow B1 3 1 lv L xs) (hZ : ∀ k, B1 ≤ k → Z k) (hB1 : B1 ≤ w.heap.size) (hby : by_ < B1) (hbyZ : ¬ Z by_) (hBB : B ≤ B1) (hL : L + 4 ≤ 1000000) (hn : (n + 1) * 24 ≤ 140737488355328) :
    Calls Try.prog 91 #[.pointer (some ⟨by_, 1, none⟩), lv] w fun e w' => e = .returned (.tuple #[]) ∧ ∃ v', w'.cell? ⟨by_, 1, none⟩ = some v' ∧ Bk w' B (fun k => Z k ∧ k < w'.heap.size) v' (n + 1) ∧ Only (fun k => k = by_ ∨ Z k) w w' ∧ (∀ o, o ≠ 1 → w'.cell? ⟨by_, o, none⟩ = w.cell? ⟨by_, o, none⟩) ∧ (∀ t C, Whole w by_ t C → Whole w' by_ t (C.setIfInBounds 1 v')) := by
  obtain ⟨ad, c, rfl⟩ := hB.form
  obtain ⟨la, lc, rfl⟩ := owns_form hl
  obtain ⟨i, z, hi1, hi2, hi3, hi4, hi5⟩ := infoI
  have I1 : Hid (Try.prog.info? 3 = some i) := hi1; have I2 : Hid (i.zero = some z) := hi2; have I3 : Hid (i.size = 1) := hi3; have I4 : Hid (i.bytes = 8) := hi4; have I5 : Hid (z.cells.size = 1) := hi5
  clear hi1 hi2 hi3 hi4 hi5
  have HB : Hid (Bk w B (fun k => Z k ∧ k < B1) (.slice ad n c) n) := hB; clear hB
  have HL : Hid (w.ownsRow B1 3 1 (.slice la L lc) L xs) := hl; clear hl
  have HZ : Hid (∀ k, B1 ≤ k → Z k) := hZ; clear hZ
  have mx1 : Hid (L + 1 ≤ maxLen) := (show L + 1 ≤ maxLen by unfold maxLen; omega)
  have mx2 : Hid (L + 2 ≤ maxLen) := (show L + 2 ≤ maxLen by unfold maxLen; omega)
  have mx3 : Hid (L + 3 ≤ maxLen) := (show L + 3 ≤ maxLen by unfold maxLen; omega)
  have by1 : Hid ((L + 1) * 8 ≤ 140737488355328) := (show (L + 1) * 8 ≤ 140737488355328 by omega)
  have by2 : Hid ((L + 2) * 8 ≤ 140737488355328) := (show (L + 2) * 8 ≤ 140737488355328 by omega)
  have by3 : Hid ((L + 3) * 8 ≤ 140737488355328) := (show (L + 3) * 8 ≤ 140737488355328 by omega)
  have hmark : mark n = -7070 - (n : Int) := by unfold mark; rw [← IntWalk.i64_left]; exact IntWalk.i64_in _ (by omega)
  obtain ⟨zz, hzz⟩ : ∃ zz, -7070 - (n : Int) = zz := ⟨_, rfl⟩
  rw [hzz] at hmark
  have HMK : Hid (mark n = zz) := hmark; clear hmark
  have one : ∀ l : List Value, (∀ u ∈ l, u = I zz) → ∀ u ∈ l, u.oneCell' = true := fun l h u hu => by rw [h u hu]; rfl
  have ONE : Hid (∀ l : List Value, (∀ u ∈ l, u = I zz) → ∀ u ∈ l, u.oneCell' = true) := one; clear one
  go_enter Try.func91, Try.ntmps91
  go_wp2_with (first
    | (refine wpList_append_sp _ (by rfl) _ _ 24 (by rfl) B1 3 i z 8 Try.underlying24 I1.out I2.out I3.out I4.out I5.out (.slice la L lc) L xs (by rfl) (HL.out.alloc _) ⟨w.heap.size, 0, none⟩ 1 1 [I zz] (by rfl) (by rfl) (World.news_of_block (heap_alloc_new w _)) (ONE.out _ (by simp)) (by omega) mx1.out by1.out (Nat.le_trans hB1 (by simp)) ?_; intro l1 w1 o1 s1 m1; obtain ⟨a1, c1, hf1⟩ := owns_form o1; subst hf1; have S1 : Hid (Shp w w1 3 (Value.slice la L lc).ownBlock) := ((Shp.refl w _ _).alloc _).trans s1; have O1 : Hid (∃ ys, w1.ownsRow B1 3 1 (.slice a1 (L + 1) c1) (L + 1) ys) := ⟨_, o1⟩; obtain ⟨y1, hy1⟩ := S1.out.owns HL.out; have Y1 : Hid (w1.ownsRow B1 3 1 (.slice la L lc) L y1) := hy1; have z1 : Hid (B1 ≤ w1.heap.size) := (show B1 ≤ w1.heap.size from Nat.le_trans hB1 S1.out.size); have T1 : Hid (Shp w w1 3 (Value.slice la L lc).ownBlock) := ((Shp.refl w _ _).alloc _).trans s1; have M1 : Hid (∀ g, (Value.slice a1 (L + 1) c1).ownBlock = some g → (Value.slice la L lc).ownBlock = some g ∨ w.heap.size ≤ g) := (show ∀ g, (Value.slice a1 (L + 1) c1).ownBlock = some g → (Value.slice la L lc).ownBlock = some g ∨ w.heap.size ≤ g from fun g hg => (m1 g hg).imp id (fun e => by rw [e]; exact Nat.le_trans (Nat.le_refl _) (by simp))); clear o1 s1 hy1 m1)
    | (refine wpList_append_sp _ (by rfl) _ _ 24 (by rfl) B1 3 i z 8 Try.underlying24 I1.out I2.out I3.out I4.out I5.out (.slice la L lc) L y1 (by rfl) (Y1.out.alloc _) ⟨w1.heap.size, 0, none⟩ 2 2 [I zz, I zz] (by rfl) (by rfl) (World.news_of_block (heap_alloc_new w1 _)) (ONE.out _ (by simp)) (by omega) mx2.out by2.out (Nat.le_trans z1.out (by simp)) ?_; intro l2 w2 o2 s2 m2; obtain ⟨a2, c2, hf2⟩ := owns_form o2; subst hf2; have S2 : Hid (Shp w w2 3 (Value.slice la L lc).ownBlock) := (S1.out.alloc _).trans s2; have O2 : Hid (∃ ys, w2.ownsRow B1 3 1 (.slice a2 (L + 2) c2) (L + 2) ys) := ⟨_, o2⟩; obtain ⟨y2, hy2⟩ := S2.out.owns HL.out; have Y2 : Hid (w2.ownsRow B1 3 1 (.slice la L lc) L y2) := hy2; have z2 : Hid (B1 ≤ w2.heap.size) := (show B1 ≤ w2.heap.size from Nat.le_trans hB1 S2.out.size); have T2 : Hid (Shp w1 w2 3 (Value.slice la L lc).ownBlock) := ((Shp.refl w1 _ _).alloc _).trans s2; have M2 : Hid (∀ g, (Value.slice a2 (L + 2) c2).ownBlock = some g → (Value.slice la L lc).ownBlock = some g ∨ w.heap.size ≤ g) := (show ∀ g, (Value.slice a2 (L + 2) c2).ownBlock = some g → (Value.slice la L lc).ownBlock = some g ∨ w.heap.size ≤ g from fun g hg => (m2 g hg).imp id (fun e => by rw [e]; exact Nat.le_trans (S1.out.size) (by simp))); clear o2 s2 hy2 m2)
    | (refine wpList_append_sp _ (by rfl) _ _ 24 (by rfl) B1 3 i z 8 Try.underlying24 I1.out I2.out I3.out I4.out I5.out (.slice la L lc) L y2 (by rfl) (Y2.out.alloc _) ⟨w2.heap.size, 0, none⟩ 3 3 [I zz, I zz, I zz] (by rfl) (by rfl) (World.news_of_block (heap_alloc_new w2 _)) (ONE.out _ (by simp)) (by omega) mx3.out by3.out (Nat.le_trans z2.out (by simp)) ?_; intro l3 w3 o3 s3 m3; obtain ⟨a3, c3, hf3⟩ := owns_form o3; subst hf3; have S3 : Hid (Shp w w3 3 (Value.slice la L lc).ownBlock) := (S2.out.alloc _).trans s3; have O3 : Hid (∃ ys, w3.ownsRow B1 3 1 (.slice a3 (L + 3) c3) (L + 3) ys) := ⟨_, o3⟩; obtain ⟨y3, hy3⟩ := S3.out.owns HL.out; have Y3 : Hid (w3.ownsRow B1 3 1 (.slice la L lc) L y3) := hy3; have z3 : Hid (B1 ≤ w3.heap.size) := (show B1 ≤ w3.heap.size from Nat.le_trans hB1 S3.out.size); have T3 : Hid (Shp w2 w3 3 (Value.slice la L lc).ownBlock) := ((Shp.refl w2 _ _).alloc _).trans s3; have M3 : Hid (∀ g, (Value.slice a3 (L + 3) c3).ownBlock = some g → (Value.slice la L lc).ownBlock = some g ∨ w.heap.size ≤ g) := (show ∀ g, (Value.slice a3 (L + 3) c3).ownBlock = some g → (Value.slice la L lc).ownBlock = some g ∨ w.heap.size ≤ g from fun g hg => (m3 g hg).imp id (fun e => by rw [e]; exact Nat.le_trans (S2.out.size) (by simp))); clear o3 s3 hy3 m3))
  obtain ⟨ll, hll⟩ : ∃ ll : Nat → Value, ll = fun q => if q = 0 then .slice la L lc else if q = 1 then .slice a1 (L + 1) c1 else if q = 2 then .slice a2 (L + 2) c2 else .slice a3 (L + 3) c3 := ⟨_, rfl⟩
  have e0 : ll 0 = .slice la L lc := by rw [hll]; rfl
  have e1 : ll 1 = .slice a1 (L + 1) c1 := by rw [hll]; rfl
  have e2 : ll 2 = .slice a2 (L + 2) c2 := by rw [hll]; rfl
  have e3 : ll 3 = .slice a3 (L + 3) c3 := by rw [hll]; rfl
  have rows : ∀ q, q < 4 → ∃ ys, w3.ownsRow B1 3 1 (ll q) (L + q) ys := fun q hq => by
    have : q = 0 ∨ q = 1 ∨ q = 2 ∨ q = 3 := by omega
    rcases this with rfl | rfl | rfl | rfl
    · rw [e0]; exact ⟨_, Y3.out⟩
    · rw [e1]
      obtain ⟨ys, h⟩ := O1.out
      obtain ⟨ys, h⟩ := T2.out.owns h
      exact T3.out.owns h
    · rw [e2]
      obtain ⟨ys, h⟩ := O2.out
      exact T3.out.owns h
    · rw [e3]; exact O3.out
  have mines : ∀ q g, q < 4 → (ll q).ownBlock = some g → (Value.slice la L lc).ownBlock = some g ∨ w.heap.size ≤ g := fun q g hq hg => by
    have : q = 0 ∨ q = 1 ∨ q = 2 ∨ q = 3 := by omega
    rcases this with rfl | rfl | rfl | rfl
    · rw [e0] at hg; exact .inl hg
    · rw [e1] at hg; exact M1.out g hg
    · rw [e2] at hg; exact M2.out g hg
    · rw [e3] at hg; exact M3.out g hg
  have W0 : Wr w (w3.alloc (.cells #[.slice la L lc, .slice a1 (L + 1) c1, .slice a2 (L + 2) c2, .slice a3 (L + 3) c3] 24)) B1 w3.heap.size ll L zz (Value.slice la L lc).ownBlock 0 0 := by
    refine ⟨S3.out.os, S3.out.tape, S3.out.output, by have := S3.out.size; simp; omega, fun j hj hg => ?_, by rw [e0, e1, e2, e3]; exact Whole.new w3 _ _, fun q hq => ?_, fun q g hq hg => ?_, mines, fun q g j hq hg hj hs => by omega⟩
    · rw [Below.heap_alloc w3 _ j (by have := S3.out.size; omega)]
      rcases S3.out.block j hj with e | ⟨e, _⟩
      · exact e
      · exact absurd e hg
    · obtain ⟨ys, h⟩ := rows q hq
      exact ⟨ys, h.alloc _⟩
    · obtain ⟨ys, h⟩ := rows q hq
      have := (h.lt g hg).2
      omega
  have hh : B1 ≤ w3.heap.size := z3.out
  clear rows mines e0 e1 e2 e3 hll S1 S2 S3 O1 O2 O3 Y1 Y2 Y3 T1 T2 T3 M1 M2 M3
  generalize w3.alloc (.cells #[.slice la L lc, .slice a1 (L + 1) c1, .slice a2 (L + 2) c2, .slice a3 (L + 3) c3] 24) = w4 at W0 ⊢
  generalize hg0 : (Value.slice la L lc).ownBlock = g0 at W0
  have HG0 : Hid ((Value.slice la L lc).ownBlock = g0) := hg0; clear hg0
  generalize w3.heap.size = h at W0 hh ⊢
  have HW0 : Hid (Wr w w4 B1 h ll L zz g0 0 0) := W0; clear W0
  go_loopw [6] (fun kv wr => ∃ k : Nat, k ≤ 4 ∧ kv = .int .i64 k ∧ Wr w wr B1 h ll L zz g0 k 0) (fun kv _ => 4 - (intOf kv).toNat)
  case atStart => exact ⟨0, by omega, rfl, HW0.out⟩
  case round =>
    clear HW0
    obtain ⟨k, hk, rfl, Wk⟩ := hrel
    by_cases hk4 : k < 4
    · have hk4' : (k : Int) < 4 := by omega
      have HWk : Hid (Wr w wr B1 h ll L zz g0 k 0) := Wk; clear Wk
      go_wp2
      go_loopw [7] (fun jv ws => ∃ j : Nat, j ≤ L + k ∧ jv = .int .i64 j ∧ Wr w ws B1 h ll L zz g0 k j) (fun jv _ => L + k - (intOf jv).toNat)
      case atStart => exact ⟨0, by omega, rfl, HWk.out⟩
      case round =>
        clear HWk
        obtain ⟨j, hj, rfl, Wj⟩ := hrel
        obtain ⟨wo, hwo⟩ : ∃ wo, wo = wr := ⟨_, rfl⟩
        subst hwo
        obtain ⟨ys, hy⟩ := Wj.row k hk4
        have ck : wo.cell? ⟨h, k, none⟩ = some (ll k) := by
          rw [Wj.four.cell]
          have : k = 0 ∨ k = 1 ∨ k = 2 ∨ k = 3 := by omega
          rcases this with rfl | rfl | rfl | rfl <;> rfl
        by_cases hjL : j < L + k
        · rcases hy.2 with ⟨h1, h2⟩ | ⟨g, cap, cur, hv2, _, hg2, hc1, hc2, hc3, _⟩
          · omega
          · have hob : (ll k).ownBlock = some g := by rw [hv2]; rfl
            have Wn := Wj.write hk4 g hob hjL
            rw [hv2] at ck
            have cg : ∃ u, wo.cell? ⟨g, j, none⟩ = some u := by
              rw [cell_of_row wo g j cur _ (0, 0) hg2]
              exact ⟨cur[j], Array.getElem?_eq_getElem (by omega)⟩
            obtain ⟨u, cg⟩ := cg
            have fg := frozen_of_row wo g j cur _ hg2
            have hjL' : (j : Int) < ((L + k : Nat) : Int) := by omega
            have hj0 : (0 : Int) ≤ (j : Int) := by omega
            have HWn : Hid (Wr w (wo.setCell ⟨g, j, none⟩ (I zz)) B1 h ll L zz g0 k (j + 1)) := Wn; clear Wn Wj hy hg2
            go_wp2
            go_roundw
            case rel => exact ⟨j + 1, by omega, by go_num, HWn.out⟩
            case measure => simp [intOf]; omega
        · have hje : j = L + k := by omega
          subst hje
          obtain ⟨ad', c', hf'⟩ := owns_form hy
          rw [hf'] at ck
          have HWj : Hid (Wr w wo B1 h ll L zz g0 k (L + k)) := Wj; clear Wj hy
          go_wp2
          go_roundw
          case rel => exact ⟨k + 1, by omega, by go_num, HWj.out.next⟩
          case measure => simp [intOf]; omega
    · have hke : k = 4 := by omega
      subst hke
      have hg0B : ∀ g, g0 = some g → B1 ≤ g := fun g hg => (HL.out.lt g (HG0.out.trans hg)).1
      have hbyg : g0 ≠ some by_ := fun e => by have := hg0B by_ e; omega
      have hbb := Wk.old by_ (by omega) hbyg
      have cb : wr.cell? ⟨by_, 1, none⟩ = some (.slice ad n c) := (World.cell?_of_block (w := w) hbb).trans hv
      have fb : wr.frozen? ⟨by_, 1, none⟩ = false := (World.frozen?_of_block (w := w) hbb).trans hf
      have cbo : ∀ o, wr.cell? ⟨by_, o, none⟩ = w.cell? ⟨by_, o, none⟩ := fun o => World.cell?_of_block (w := w) hbb
      have zk : ∀ k, (Z k ∧ k < B1) → wr.heap[k]? = w.heap[k]? := fun k hk => Wk.old k (by omega) (fun e => by have := hg0B k e; omega)
      obtain ⟨xs', hr, hrz, hre⟩ := HB.out.is
      have hr1 := ownsRow_of (w' := wr) hr (fun g hg => zk g (hrz g hg))
      have Wk' : Wr w wr B1 h ll L (mark n) g0 4 0 := by rw [HMK.out]; exact Wk
      have hent := Wk'.entry (Z := fun k => B1 ≤ k) hL (fun _ h => h) hh
      have zs := Wk.size
      obtain ⟨i2, z2', hj1, hj2, hj3, hj4, hj5⟩ := infoN
      have J1 : Hid (Try.prog.info? 116 = some i2) := hj1; have J2 : Hid (i2.zero = some z2') := hj2; have J3 : Hid (i2.size = 1) := hj3; have J4 : Hid (i2.bytes = 24) := hj4; have J5 : Hid (z2'.cells.size = 1) := hj5
      clear hj1 hj2 hj3 hj4 hj5
      have Hown : Hid ((wr.alloc (.cells #[.slice (some ⟨h, 0, none⟩) 4 4] 116)).ownsRow B 116 1 (.slice ad n c) n xs') := hr1.alloc _
      have Hnews : Hid (∀ j u, [Value.slice (some ⟨h, 0, none⟩) 4 4][j]? = some u → (wr.alloc (.cells #[.slice (some ⟨h, 0, none⟩) 4 4] 116)).cell? ((⟨wr.heap.size, 0, none⟩ : Addr).add j) = some u) := World.news_of_block (heap_alloc_new wr _)
      have Hone : Hid (∀ u ∈ [Value.slice (some ⟨h, 0, none⟩) 4 4], u.oneCell' = true) := (show ∀ u ∈ [Value.slice (some ⟨h, 0, none⟩) 4 4], u.oneCell' = true from fun u hu => by rw [List.mem_singleton.1 hu]; rfl)
      have Hmx : Hid (n + 1 ≤ maxLen) := (show n + 1 ≤ maxLen by unfold maxLen; omega)
      have HBw : Hid (B ≤ (wr.alloc (.cells #[.slice (some ⟨h, 0, none⟩) 4 4] 116)).heap.size) := (show B ≤ (wr.alloc (.cells #[.slice (some ⟨h, 0, none⟩) 4 4] 116)).heap.size by simp; omega)
      have Hnb : Hid (some by_ ≠ (Value.slice ad n c).ownBlock) := fun e => hbyZ (hrz by_ e.symm).1
      have Hlb : Hid (by_ < (wr.alloc (.cells #[.slice (some ⟨h, 0, none⟩) 4 4] 116)).heap.size) := (show by_ < (wr.alloc (.cells #[.slice (some ⟨h, 0, none⟩) 4 4] 116)).heap.size by simp; omega)
      have Hcb : Hid ((wr.alloc (.cells #[.slice (some ⟨h, 0, none⟩) 4 4] 116)).cell? ⟨by_, 1, none⟩ = some (.slice ad n c)) := (World.cell?_of_block (w := wr) (Below.heap_alloc wr _ by_ (by omega))).trans cb
      have Hfb : Hid ((wr.alloc (.cells #[.slice (some ⟨h, 0, none⟩) 4 4] 116)).frozen? ⟨by_, 1, none⟩ = false) := (World.frozen?_of_block (w := wr) (Below.heap_alloc wr _ by_ (by omega))).trans fb
      have HWk : Hid (Wr w wr B1 h ll L zz g0 4 0) := Wk; clear Wk Wk'
      have HE : Hid (BkE wr (fun k => B1 ≤ k) n (.slice (some ⟨h, 0, none⟩) 4 4)) := hent; clear hent
      have HR1 : Hid (wr.ownsRow B 116 1 (.slice ad n c) n xs') := hr1; clear hr1 hr
      have HRZ : Hid (∀ g, (Value.slice ad n c).ownBlock = some g → Z g ∧ g < B1) := hrz; clear hrz
      have HRE : Hid (∀ i u, xs'[i]? = some u → BkE w (fun k => Z k ∧ k < B1) i u) := hre; clear hre
      have ZK : Hid (∀ k, (Z k ∧ k < B1) → wr.heap[k]? = w.heap[k]?) := zk; clear zk
      have HG0B : Hid (∀ g, g0 = some g → B1 ≤ g) := hg0B; clear hg0B
      have CBO : Hid (∀ o, wr.cell? ⟨by_, o, none⟩ = w.cell? ⟨by_, o, none⟩) := cbo; clear cbo
      clear HB
      go_wp2_with (first | (refine wpList_append_lies _ (by rfl) _ _ 70 (by rfl) B 116 i2 z2' 1 24 Try.underlying70 J1.out J2.out J3.out J4.out J5.out (by omega) (.slice ad n c) n xs' (by rfl) Hown.out ⟨wr.heap.size, 0, none⟩ 1 1 [.slice (some ⟨h, 0, none⟩) 4 4] (by rfl) (by rfl) Hnews.out Hone.out (by omega) Hmx.out hn HBw.out (wr.heap.size + 1) (by simp) ?_; intro g' cap' w5 ho5 hgrow hat hlt5; have cb5 := (hgrow.cell_far ⟨by_, 1, none⟩ Hlb.out Hnb.out).trans Hcb.out; have fb5 := (hgrow.frozen_far ⟨by_, 1, none⟩ Hlb.out Hnb.out).trans Hfb.out))
      go_end0
      have gs := hgrow.size
      simp only [World.size_alloc] at gs
      have far5 : ∀ k, k < wr.heap.size → some k ≠ (Value.slice ad n c).ownBlock → k ≠ by_ → (w5.setCell ⟨by_, 1, none⟩ (.slice (some ⟨g', 0, none⟩) (n + 1) cap')).heap[k]? = wr.heap[k]? := fun k hk hne hkb => by
        rw [heap_setCell_other _ _ _ _ hkb, hgrow.block k (by simp; omega) hne, Below.heap_alloc wr _ k hk]
      have g'by : g' ≠ by_ := by
        rintro rfl
        rcases hat with e | e
        · exact Hnb.out e.symm
        · omega
      have g'Z : Z g' := by
        rcases hat with e | e
        · exact (HRZ.out g' e).1
        · exact HZ.out g' (by omega)
      have s5 : (w5.setCell ⟨by_, 1, none⟩ (.slice (some ⟨g', 0, none⟩) (n + 1) cap')).heap.size = w5.heap.size := by simp
      have hxl : xs'.length = n := by have := HR1.out.1; omega
      refine ⟨rfl, _, World.cell?_setCell_same _ _ _ cb5, ⟨xs' ++ [.slice (some ⟨h, 0, none⟩) 4 4], ownsRow_of ho5 (fun k hk => heap_setCell_other _ _ _ _ ?_), fun k hk => ?_, fun i u hu => ?_⟩, ?_, fun o ho => ?_, fun t C hC => ?_⟩
      · have : g' = k := by simpa [Value.ownBlock] using hk
        rw [← this]; exact g'by
      · have : g' = k := by simpa [Value.ownBlock] using hk
        rw [← this, s5]; exact ⟨g'Z, hlt5⟩
      · rw [List.getElem?_append] at hu
        split at hu
        · next hi =>
          have hE := HRE.out i u hu
          -- the row's own block is of another kind
          have hE2 : BkE w (fun k => (Z k ∧ k < B1) ∧ some k ≠ (Value.slice ad n c).ownBlock) i u := by
            rcases HR1.out.2 with ⟨h1, h2⟩ | ⟨g, cap, cur, hv2, _, hg2, _⟩
            · omega
            · have hob : (Value.slice ad n c).ownBlock = some g := by rw [hv2]; rfl
              have := hE.ne (r := g) ⟨cur, (ZK.out g (HRZ.out g hob)).symm.trans hg2⟩
              exact this.mono fun k hk => ⟨hk.1, by rw [hob]; simpa using hk.2⟩
          have hE3 := hE2.of (w' := w5.setCell ⟨by_, 1, none⟩ (.slice (some ⟨g', 0, none⟩) (n + 1) cap')) (fun k hk hlt => (far5 k (by omega) hk.2 (fun e => hbyZ (e ▸ hk.1.1))).trans (ZK.out k hk.1))
          exact hE3.sized.mono fun k hk => ⟨hk.1.1.1, hk.2⟩
        · next hi =>
          have hi0 : i - xs'.length = 0 := by
            rcases Nat.eq_zero_or_pos (i - xs'.length) with h | h
            · exact h
            · rw [List.getElem?_eq_none (by simp; omega)] at hu; cases hu
          rw [hi0] at hu
          have hin : i = n := by omega
          subst hin
          have : u = .slice (some ⟨h, 0, none⟩) 4 4 := by simpa using hu.symm
          subst this
          have hE3 := HE.out.of (w' := w5.setCell ⟨by_, 1, none⟩ (.slice (some ⟨g', 0, none⟩) (i + 1) cap')) (fun k hk hlt => far5 k hlt (fun e => by have := (HRZ.out k e.symm).2; omega) (by omega))
          exact hE3.sized.mono fun k hk => ⟨HZ.out k hk.1, hk.2⟩
      · refine ⟨hgrow.os.trans HWk.out.os, hgrow.tape.trans HWk.out.tape, hgrow.output.trans HWk.out.output, by rw [s5]; omega, fun k hk hs => ?_⟩
        rw [far5 k (by omega) (fun e => hs (.inr (HRZ.out k e.symm).1)) (fun e => hs (.inl e))]
        exact HWk.out.old k hk (fun e => hs (.inr (HZ.out k (HG0B.out k e))))
      · rw [World.cell?_setCell_other _ _ _ _ (addr_ne (Ne.symm ho)), hgrow.cell_far ⟨by_, o, none⟩ Hlb.out Hnb.out, World.cell?_of_block (w := wr) (Below.heap_alloc wr _ by_ (by omega))]
        exact CBO.out o
      · have hw5 : w5.heap[by_]? = w.heap[by_]? := (hgrow.block by_ Hlb.out Hnb.out).trans ((Below.heap_alloc wr _ by_ (by omega)).trans (HWk.out.old by_ (by omega) (fun e => hbyZ (HZ.out by_ (HG0B.out by_ e)))))
        exact (hC.of hw5).setAt 1 _
end Go.Proofs.Ytdoodnbobpijoaa

namespace Go.Proofs.Ytdoodnbobpijoaa
open Go.RowKit

theorem owns_ints {w : World} {B : Nat} {v : Value} {l : List Nat} (h : w.ownsRow B 3 1 v l.length (ints l)) (j : Nat) (hj : j < l.length) : ∃ g cap, v = .slice (some ⟨g, 0, none⟩) l.length cap ∧ w.cell? ⟨g, j, none⟩ = some (I (l[j] : Nat)) := by
  rcases h.2 with ⟨_, h2⟩ | ⟨g, cap, cur, hv, _, hg, hc1, _, hc3, ht⟩
  · omega
  · refine ⟨g, cap, hv, ?_⟩
    rw [cell_of_row w g j cur _ (0, 0) hg, ← Array.getElem?_toList]
    have : (cur.toList.take (l.length * 1))[j]? = (ints l)[j]? := by rw [ht]
    rw [List.getElem?_take, if_pos (by omega)] at this
    rw [this]
    simp [ints, hj]
attribute [local go_sem ↓] Go.wp_at_zero Go.wp_at_succ
set_option maxHeartbeats 1000000 in
/-- Two lists that are alike. -/
theorem same_any (l : List Nat) (v u : Value) (B B' : Nat) (w : World) (h1 : w.ownsRow B 3 1 v l.length (ints l)) (h2 : w.ownsRow B' 3 1 u l.length (ints l)) (hl : l.length ≤ 1000000) :
    Calls Try.prog 90 #[v, u] w fun e w' => e = .returned (.bool true) ∧ Below w.heap.size w w' := by
  obtain ⟨a1, c1, rfl⟩ := owns_form h1
  obtain ⟨a2, c2, rfl⟩ := owns_form h2
  have H1 : Hid (w.ownsRow B 3 1 (.slice a1 l.length c1) l.length (ints l)) := h1; clear h1
  have H2 : Hid (w.ownsRow B' 3 1 (.slice a2 l.length c2) l.length (ints l)) := h2; clear h2
  go_enter Try.func90, Try.ntmps90
  go_wp2
  go_loopw [5] (fun iv wr => ∃ k : Nat, k ≤ l.length ∧ iv = .int .i64 k ∧ Below w.heap.size w wr) (fun iv _ => l.length - (intOf iv).toNat)
  case atStart => exact ⟨0, Nat.zero_le _, rfl, Below.refl _ _⟩
  case round =>
    obtain ⟨k, hk, rfl, hb⟩ := hrel
    by_cases hkl : k < l.length
    · have hkl' : (k : Int) < (l.length : Int) := by omega
      have hk0 : (0 : Int) ≤ (k : Int) := by omega
      obtain ⟨g, cap, e1, e2⟩ := owns_ints (ownsRow_of (w' := wr) H1.out (fun g hg => hb.block g (H1.out.lt g hg).2)) k hkl
      obtain ⟨rfl, rfl⟩ : a1 = some ⟨g, 0, none⟩ ∧ c1 = cap := by simpa using e1
      obtain ⟨g', cap', e3, e4⟩ := owns_ints (ownsRow_of (w' := wr) H2.out (fun g hg => hb.block g (H2.out.lt g hg).2)) k hkl
      obtain ⟨rfl, rfl⟩ : a2 = some ⟨g', 0, none⟩ ∧ c2 = cap' := by simpa using e3
      clear e1 e3
      have hne : (((l[k] : Nat) : Int) != ((l[k] : Nat) : Int)) = false := by simp
      go_wp2_with fail
      go_quiet (fail)
      go_wp2
      go_roundw
      case rel => exact ⟨k + 1, by omega, by go_num, below_drewN hb _⟩
      case measure => simp [intOf]; omega
    · have hke : k = l.length := by omega
      subst hke
      go_wp2
      go_ret
      exact ⟨rfl, hb⟩
end Go.Proofs.Ytdoodnbobpijoaa

