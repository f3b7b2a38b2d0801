import Derived.Test.YtdoodnbobpijoaaBunN
import Derived.Test.YtdoodnbobpijoaaBunH
import Derived.Test.YtdoodnbobpijoaaWk
import Derived.Test.YtdoodnbobpijoaaRows
import Derived.Carry
namespace Go.Proofs.Ytdoodnbobpijoaa
open Go.RowKit

/-- A number of Go. -/
def Fits (k : Int) : Prop := -9223372036854775808 ≤ k ∧ k ≤ 9223372036854775807
/-- What the walk of a step wants. -/
theorem does_head {w : World} {B : Nat} {ρ : Nat → Part} {i bk bx bs : Nat} {A : Nt} {V : Nat → Nat → Value} (h : KI w B ρ i bk bx bs A V) (hn : ∀ k, w.heap.size ≤ k → ρ k = (0, 0)) (hB : B ≤ w.heap.size) (k a b c : Int) (fk : Fits k) (fa : Fits a) (fb : Fits b) (fc : Fits c) :
    ∃ kk x y, DoH w B ρ i bk bx bs A V k a b c kk x y ∧ (0 ≤ kk ∧ kk < 20) ∧ doesN A ⟨k, a, b, c⟩ = stepN A kk (x : Nat) (y : Nat) c := by
  have b0 := WS_below w k a b c
  have n0 : (0 : Int) < (A.n : Int) := by have := h.g.n2; omega
  have pa := pickI_ok a A.n n0
  have pb := pickI_ok b A.n n0
  have ea : pickI a A.n = ((pickI a A.n).toNat : Int) := by omega
  have eb : pickI b A.n = ((pickI b A.n).toNat : Int) := by omega
  refine ⟨pickI k 20, (pickI a A.n).toNat, (pickI b A.n).toNat, ⟨h.below b0, fun j hj => hn j (Nat.le_trans b0.size hj), hn, Nat.le_trans hB b0.size, rfl, ea, eb, by omega, by omega, fk, fa, fb, fc⟩, pickI_ok k 20 (by omega), ?_⟩
  unfold doesN
  rw [← ea, ← eb]
end Go.Proofs.Ytdoodnbobpijoaa

namespace Go.Proofs.Ytdoodnbobpijoaa
open Go.ChangeShapes Go.WideShapes Go.ChangeAt Go.RowKit Go.Deep

theorem Try.cellsStep : Try.prog.cellsOf 31 = 4 := by kernel_rfl
theorem list_four {α : Type} : ∀ (l : List α), l.length = 4 → ∃ a b c d, l = [a, b, c, d]
  | [a, b, c, d], _ => ⟨a, b, c, d, rfl⟩
  | [], h => by simp at h
  | [_], h => by simp at h
  | [_, _], h => by simp at h
  | [_, _, _], h => by simp at h
  | _ :: _ :: _ :: _ :: _ :: _, h => by simp at h
theorem fieldsStep : ∃ fs : Array Field, Try.prog.underlying 31 = some (.struct fs) ∧ fs.size = 4 ∧ ∀ i, i < 4 → ∃ f, fs[i]? = some f ∧ f.type = 3 ∧ f.offset = i := by
  refine ⟨_, Try.underlying31, rfl, fun i hi => ?_⟩
  rcases i with _ | _ | _ | _ | i
  · exact ⟨_, rfl, rfl, rfl⟩
  · exact ⟨_, rfl, rfl, rfl⟩
  · exact ⟨_, rfl, rfl, rfl⟩
  · exact ⟨_, rfl, rfl, rfl⟩
  · omega
/-- A raw step, opened: four numbers. -/
theorem open_step {H : Type} {enc : TypeId × Value → H} {w : World} {base : Nat} {spare : Nat → Bool} {held : Bool} {n : Nat} {cs : List Value} {x : DataW H × List MemPlace}
    (h : DataW.trod enc Try.prog w base spare held n 31 cs = some x) : ∃ s : St, cs = [.int .i64 s.k, .int .i64 s.a, .int .i64 s.b, .int .i64 s.c] ∧ Fits s.k ∧ Fits s.a ∧ Fits s.b ∧ Fits s.c := by
  obtain ⟨fs, hu, hsz, hfs⟩ := fieldsStep
  obtain ⟨xs, m, _, _, hl, hx, hf⟩ := DataW.trod_struct hu h
  rw [Try.cellsStep] at hl
  obtain ⟨c0, c1, c2, c3, rfl⟩ := list_four cs hl
  have g : ∀ i, i < 4 → ∃ v : Int, (([c0, c1, c2, c3] : List Value).drop i).take 1 = [.int .i64 v] ∧ Fits v := fun i hi => by
    obtain ⟨f, h1, h2, h3⟩ := hfs i hi
    have := hf i f h1
    rw [h2, h3, Try.cellsI, List.getElem?_eq_getElem (by omega)] at this
    obtain ⟨v, e, _, wv⟩ := DataW.trod_int Try.underlying3 this
    exact ⟨v, e, bounds_i64 wv⟩
  obtain ⟨k, e0, w0⟩ := g 0 (by omega)
  obtain ⟨a, e1, w1⟩ := g 1 (by omega)
  obtain ⟨b, e2, w2⟩ := g 2 (by omega)
  obtain ⟨c, e3, w3⟩ := g 3 (by omega)
  simp at e0 e1 e2 e3
  subst e0 e1 e2 e3
  exact ⟨⟨k, a, b, c⟩, rfl, w0, w1, w2, w3⟩
/-- Raw steps, as they lie in memory. -/
structure Ste (w : World) (sb so len : Nat) (f : Nat → St) : Prop where
  at_ : ∀ i, i < len → w.cell? ⟨sb, so + i * 4, none⟩ = some (.int .i64 (f i).k) ∧ w.cell? ⟨sb, so + i * 4 + 1, none⟩ = some (.int .i64 (f i).a) ∧ w.cell? ⟨sb, so + i * 4 + 2, none⟩ = some (.int .i64 (f i).b) ∧ w.cell? ⟨sb, so + i * 4 + 3, none⟩ = some (.int .i64 (f i).c)
  fits : ∀ i, i < len → Fits (f i).k ∧ Fits (f i).a ∧ Fits (f i).b ∧ Fits (f i).c
theorem Ste.of {w w' : World} {sb so len : Nat} {f : Nat → St} (h : Ste w sb so len f) (hb : w'.heap[sb]? = w.heap[sb]?) : Ste w' sb so len f :=
  ⟨fun i hi => by
    have hc : ∀ o, w'.cell? ⟨sb, o, none⟩ = w.cell? ⟨sb, o, none⟩ := fun o => World.cell?_of_block (w := w) hb
    rw [hc, hc, hc, hc]; exact h.at_ i hi, h.fits⟩
theorem open_steps {H : Type} {enc : TypeId × Value → H} {W : World} {spare : Nat → Bool} {held : Bool} {a0 : Option Addr} {len cap : Nat} {d0 : DataW H} {p : List MemPlace} (h0 : ∃ n, DataW.trod enc Try.prog W 0 spare held n 26 (Value.slice a0 len cap).cells.toList = some (d0, p)) :
    len = 0 ∨ ∃ ab ao, a0 = some ⟨ab, ao, none⟩ ∧ ∃ f, Ste W ab ao len f := by
  obtain ⟨fuel, hf⟩ := h0
  rcases open_slice Try.underlying26 hf with ⟨hcs, _⟩ | ⟨a, l, c, m, n, D, Pq, hcs, _, hl, hm, hmm, hx, hel⟩
  · simp [Value.cells] at hcs
    exact .inl hcs.2.1
  · simp [Value.cells] at hcs
    obtain ⟨rfl, rfl, rfl⟩ := hcs
    by_cases hl0 : len = 0
    · exact .inl hl0
    · refine .inr ?_
      obtain ⟨ab, ao, asp⟩ := a
      rw [Try.cellsStep] at hel
      have hlm : len ≤ m := by
        have hq : m = if spare ab = true then cap else len := by simpa using hmm
        rw [hq]; split <;> omega
      have hops : ∀ i, i < len → ∃ t : St, (∀ j, j < 4 → W.cell? (((⟨ab, ao, asp⟩ : Addr).add (i * 4)).add j) = ([.int .i64 t.k, .int .i64 t.a, .int .i64 t.b, .int .i64 t.c] : List Value)[j]?) ∧ Fits t.k ∧ Fits t.a ∧ Fits t.b ∧ Fits t.c := fun i hi => by
        obtain ⟨cs', h1, h2⟩ := hel i (by omega)
        obtain ⟨s, rfl, ws⟩ := open_step h2
        exact ⟨s, (World.cells?_some h1).2.2, ws⟩
      have hin : Inhabited St := ⟨⟨0, 0, 0, 0⟩⟩
      obtain ⟨F, hF⟩ := choose_lt hops
      have hsp : asp = none := by
        have := (hF 0 (by omega)).1 0 (by omega)
        have := World.cell?_spot (this.trans rfl)
        simpa [Addr.add] using this
      subst hsp
      have hc : ∀ i, i < len → ∀ j, j < 4 → W.cell? ⟨ab, ao + i * 4 + j, none⟩ = ([.int .i64 (F i).k, .int .i64 (F i).a, .int .i64 (F i).b, .int .i64 (F i).c] : List Value)[j]? := fun i hi j hj => by
        have := (hF i hi).1 j hj
        rw [Addr.add_mid, Addr.add_mid] at this
        exact this
      exact ⟨ab, ao, rfl, F, fun i hi => ⟨(hc i hi 0 (by omega)).trans rfl, (hc i hi 1 (by omega)).trans rfl, (hc i hi 2 (by omega)).trans rfl, (hc i hi 3 (by omega)).trans rfl⟩, fun i hi => (hF i hi).2⟩
end Go.Proofs.Ytdoodnbobpijoaa

namespace Go.Proofs.Ytdoodnbobpijoaa
open Go.ChangeShapes Go.WideShapes Go.ChangeAt Go.RowKit Go.Deep

/-! ### A script of raw steps, played -/
def playF (A : Nt) (f : Nat → St) : Nat → Nt
  | 0 => A
  | k + 1 => doesN (playF A f k) (f k)
theorem playF_tame {A : Nt} {s : Int} (h : Tame A s) (f : Nat → St) : ∀ k : Nat, Tame (playF A f k) (s + k)
  | 0 => by simpa [playF] using h
  | k + 1 => by
    have := (playF_tame h f k).does (f k)
    rw [show s + ((k + 1 : Nat) : Int) = s + (k : Int) + 1 by omega]
    exact this
theorem playF_n {A : Nt} (g : Good A) (f : Nat → St) : ∀ k, Good (playF A f k) ∧ (playF A f k).n = A.n
  | 0 => ⟨g, rfl⟩
  | k + 1 => by
    have ih := playF_n g f k
    have s := Steps.does ih.1 (f k)
    exact ⟨s.good, s.n.trans ih.2⟩
section
variable {w : World} {B : Nat} {ρ : Nat → Part} {i bk bx bs : Nat} {A : Nt} {V : Nat → Nat → Value}
theorem kdoes (h : KI w B ρ i bk bx bs A V) (hn : ∀ k, w.heap.size ≤ k → ρ k = (0, 0)) (hB : B ≤ w.heap.size) (s : St) (fs : Fits s.k ∧ Fits s.a ∧ Fits s.b ∧ Fits s.c) :
    Calls Try.prog 15 #[.pointer (some ⟨bk, 0, none⟩), .agg #[.int .i64 s.k, .int .i64 s.a, .int .i64 s.b, .int .i64 s.c]] w fun e w' => e = .returned (.tuple #[]) ∧ PostK B i ρ bk bx bs (doesN A s) w w' := by
  obtain ⟨kk, x, y, h1, h2, h3⟩ := does_head h hn hB s.k s.a s.b s.c fs.1 fs.2.1 fs.2.2.1 fs.2.2.2
  have e : doesN A s = stepN A kk (x : Nat) (y : Nat) s.c := h3
  rw [e]
  exact does_some h1 h2.2
end
/-- No block is a net's: what was there stays. -/
theorem Aft.all {i : Nat} {ρ' : Nat → Part} {w w' : World} (h : Aft i (fun _ => (0, 0)) ρ' w w') : Below w.heap.size w w' :=
  ⟨h.only.os, h.only.tape, h.only.output, h.only.size, fun k hk => h.only.block k hk (by simp)⟩
/-- The net at the head of a script, with its number of routers. -/
theorem size_pick (size : Int) : ∃ n : Nat, 2 + pickI size 4 = (n : Int) ∧ 2 ≤ n ∧ n ≤ 5 := by
  have hp := pickI_ok size 4 (by omega)
  exact ⟨(2 + pickI size 4).toNat, by omega, by omega, by omega⟩
theorem who_pick (who : Int) (n : Nat) (h : 0 < n) : ∃ r : Nat, pickI who n = (r : Int) ∧ r < n := by
  have hp := pickI_ok who n (by omega)
  exact ⟨(pickI who n).toNat, by omega, by omega⟩
/-- The script: nothing, or raw steps that lie in memory. -/
def Scp (w : World) (sa : Option Addr) (len : Nat) (f : Nat → St) : Prop := len = 0 ∨ ∃ sb so, sa = some ⟨sb, so, none⟩ ∧ sb < w.heap.size ∧ Ste w sb so len f
theorem Scp.at {w w' : World} {sa : Option Addr} {len k : Nat} {f : Nat → St} (h : Scp w sa len f) (hb : Below w.heap.size w w') (hk : k < len) : ∃ sb so, sa = some ⟨sb, so, none⟩ ∧ (w'.cell? ⟨sb, so + k * 4, none⟩ = some (.int .i64 (f k).k) ∧ w'.cell? ⟨sb, so + k * 4 + 1, none⟩ = some (.int .i64 (f k).a) ∧ w'.cell? ⟨sb, so + k * 4 + 2, none⟩ = some (.int .i64 (f k).b) ∧ w'.cell? ⟨sb, so + k * 4 + 3, none⟩ = some (.int .i64 (f k).c)) ∧ (Fits (f k).k ∧ Fits (f k).a ∧ Fits (f k).b ∧ Fits (f k).c) := by
  rcases h with h | ⟨sb, so, e, hsb, h⟩
  · omega
  · exact ⟨sb, so, e, (h.of (hb.block sb hsb)).at_ k hk, h.fits k hk⟩
theorem open_int {H : Type} {enc : TypeId × Value → H} {W : World} {spare : Nat → Bool} {held : Bool} {n : Int} {d : DataW H} {p : List MemPlace} (h : DataW.Trod enc Try.prog W 0 spare held 3 (.int .i64 n) d p) : Fits n := by
  obtain ⟨m, hm⟩ := h
  obtain ⟨x, e, _, wf⟩ := DataW.trod_int Try.underlying3 hm
  have hx : n = x := by simpa [Value.cells] using e
  rw [hx]; exact bounds_i64 wf
theorem open_scp {H : Type} {enc : TypeId × Value → H} {W : World} {spare : Nat → Bool} {held : Bool} {a0 : Option Addr} {len cap : Nat} {d0 : DataW H} {p : List MemPlace} (h0 : ∃ n, DataW.trod enc Try.prog W 0 spare held n 26 (Value.slice a0 len cap).cells.toList = some (d0, p)) : ∃ f, Scp W a0 len f := by
  by_cases hl : len = 0
  · exact ⟨fun _ => ⟨0, 0, 0, 0⟩, .inl hl⟩
  · rcases open_steps h0 with h | ⟨ab, ao, e, f, hf⟩
    · exact absurd h hl
    · exact ⟨f, .inr ⟨ab, ao, e, lt_of_cell (hf.at_ 0 (by omega)).1, hf⟩⟩
end Go.Proofs.Ytdoodnbobpijoaa

namespace Go.Proofs.Ytdoodnbobpijoaa
open Go.RowKit

/-! ### A way, as it is looked at -/
structure TrOk (A : Nt) (r d : Nat) (L : List Nat) : Prop where
  pos : 0 < L.length
  len : L.length ≤ A.n
  head : L.getD 0 0 = r
  lt : ∀ k, k < L.length → L.getD k 0 < A.n
  nodup : L.Nodup
  step : ∀ k, k + 1 < L.length → asksE A (L.getD k 0 : Nat) d = 0 ∧ (routeN A (L.getD k 0 : Nat) d).nx = (L.getD (k + 1) 0 : Nat)
theorem getD_at {L : List Nat} {k : Nat} (h : k < L.length) : L.getD k 0 = L[k] := by simp [List.getD_eq_getElem?_getD, h]
theorem trOk {A : Nt} (g : Good A) (r d : Nat) (hr : r < A.n) (hd : d < A.n) : TrOk A r d (trace A r d) := by
  obtain ⟨l, hl⟩ := trF_head A d A.n r
  obtain ⟨h1, h2, _⟩ := trF_ok g d A.n r hr
  have e : trace A r d = r :: l := hl
  refine ⟨by rw [e]; simp, trF_length g d A.n r hr, by rw [e]; rfl, fun k hk => ?_, h2, fun k hk => ?_⟩
  · rw [getD_at hk]; exact h1 _ (List.getElem_mem hk)
  · obtain ⟨s1, s2⟩ := trF_step A d A.n r k hk
    have s2' : (trace A r d)[k + 1] = ((A.rs ((trace A r d)[k]'(by omega))).t.ro d).nx.toNat := s2
    have s1' : ¬ ends A d ((trace A r d)[k]'(by omega)) := s1
    have hk1 : (trace A r d)[k]'(by omega) < A.n := h1 _ (List.getElem_mem (l := trace A r d) (by omega))
    rw [getD_at (by omega : k < (trace A r d).length), getD_at hk, s2']
    generalize ((trace A r d)[k]'(by omega)) = x at *
    unfold ends at s1'
    have e1 : x ≠ d := fun e => s1' (.inl e)
    have e2 : (A.rs x).dn = false := by
      cases hh : (A.rs x).dn with
      | false => rfl
      | true => exact absurd (.inr (.inl hh)) s1'
    have e3 : 0 ≤ ((A.rs x).t.ro d).nx := by
      by_cases hh : ((A.rs x).t.ro d).nx < 0
      · exact absurd (.inr (.inr hh)) s1'
      · omega
    have ha : asksE A (x : Nat) (d : Nat) = 0 := by
      unfold asksE
      rw [if_neg (by rw [pairE_nat hk1 hd e1]; simp), Int.toNat_natCast, e2]; rfl
    refine ⟨ha, ?_⟩
    unfold routeN
    rw [if_pos ha]
    show ((A.rs x).t.ro d).nx = _
    omega
theorem row_at {w : World} {B e n : Nat} {v : Value} {xs : List Value} (h : w.ownsRow B e 1 v n xs) (hn : 0 < n) : ∃ g cap, v = .slice (some ⟨g, 0, none⟩) n cap ∧ B ≤ g ∧ g < w.heap.size ∧ (∀ j u, xs[j]? = some u → w.cell? ⟨g, j, none⟩ = some u) := by
  have hlt := h.lt
  rcases h.2 with ⟨h1, h2⟩ | ⟨g, cap, cur, hv, h1, h2, h3, h4, h5, h6⟩
  · omega
  · have hg := hlt g (by rw [hv]; rfl)
    refine ⟨g, cap, hv, hg.1, hg.2, fun j u hu => ?_⟩
    rw [cell_of_row w g j cur e (0, 0) h2, ← Array.getElem?_toList]
    rw [← h6, List.getElem?_take] at hu
    split at hu
    · exact hu
    · cases hu
/-! ### Which were come by -/
def seenA (L : List Nat) (j : Nat) : Array Value := #[.bool (decide (0 ∈ L.take j)), .bool (decide (1 ∈ L.take j)), .bool (decide (2 ∈ L.take j)), .bool (decide (3 ∈ L.take j)), .bool (decide (4 ∈ L.take j))]
theorem take_mem {L : List Nat} {j x : Nat} (hj : j < L.length) : x ∈ L.take (j + 1) ↔ x ∈ L.take j ∨ x = L.getD j 0 := by
  rw [List.take_succ_eq_append_getElem hj, List.mem_append, getD_at hj]
  simp
theorem not_seen {L : List Nat} (hd : L.Nodup) {j : Nat} (hj : j < L.length) : L.getD j 0 ∉ L.take j := by
  rw [getD_at hj]
  intro hm
  obtain ⟨k, hk, he⟩ := List.getElem_of_mem hm
  simp at hk
  rw [List.getElem_take] at he
  exact List.pairwise_iff_getElem.1 hd k j (by omega) hj (by omega) he
theorem seenA_at {L : List Nat} (hd : L.Nodup) {j : Nat} (hj : j < L.length) (h5 : L.getD j 0 < 5) : (seenA L j)[L.getD j 0]? = some (.bool false) := by
  have hn := not_seen hd hj
  generalize L.getD j 0 = x at *
  rcases (by omega : x = 0 ∨ x = 1 ∨ x = 2 ∨ x = 3 ∨ x = 4) with rfl | rfl | rfl | rfl | rfl <;> simp [seenA, hn]
theorem seenA_next {L : List Nat} {j : Nat} (hj : j < L.length) (h5 : L.getD j 0 < 5) : (seenA L j).setIfInBounds (L.getD j 0) (.bool true) = seenA L (j + 1) := by
  have hm := fun x => take_mem (L := L) (x := x) hj
  unfold seenA
  simp only [hm]
  generalize L.getD j 0 = x at *
  rcases (by omega : x = 0 ∨ x = 1 ∨ x = 2 ∨ x = 3 ∨ x = 4) with rfl | rfl | rfl | rfl | rfl <;> simp
structure Str (w wr : World) (g sb j : Nat) (L : List Nat) : Prop where
  b : Below w.heap.size w wr
  gl : g < wr.heap.size
  row : ∀ k, k < L.length → wr.cell? ⟨g, k, none⟩ = some (I (L.getD k 0 : Nat))
  sn : Whole wr sb 83 (seenA L j)
  ne : g ≠ sb
  lo : w.heap.size ≤ sb
theorem Str.below {w wr w' : World} {g sb j : Nat} {L : List Nat} (h : Str w wr g sb j L) (hb : Below wr.heap.size wr w') : Str w w' g sb j L :=
  ⟨h.b.trans (hb.mono h.b.size), Nat.lt_of_lt_of_le h.gl hb.size, fun k hk => by rw [World.cell?_of_block (w := wr) (hb.block g h.gl)]; exact h.row k hk, h.sn.below hb, h.ne, h.lo⟩
theorem Str.unseen {w wr : World} {g sb j : Nat} {L : List Nat} (h : Str w wr g sb j L) (hd : L.Nodup) (hj : j < L.length) (h5 : L.getD j 0 < 5) : wr.cell? ⟨sb, L.getD j 0, none⟩ = some (.bool false) := by
  rw [h.sn.cell]; exact seenA_at hd hj h5
theorem Str.mark {w wr : World} {g sb j : Nat} {L : List Nat} (h : Str w wr g sb j L) (hj : j < L.length) (h5 : L.getD j 0 < 5) : Str w (wr.setCell ⟨sb, L.getD j 0, none⟩ (.bool true)) g sb (j + 1) L := by
  have hb : (wr.setCell ⟨sb, L.getD j 0, none⟩ (.bool true)).heap[g]? = wr.heap[g]? := heap_setCell_other _ _ _ _ h.ne
  have hs := h.sn.setAt (L.getD j 0) (.bool true)
  rw [seenA_next hj h5] at hs
  exact ⟨h.b.setCell h.lo _, by simpa using h.gl, fun k hk => by rw [World.cell?_of_block (w := wr) hb]; exact h.row k hk, hs, h.ne, h.lo⟩
end Go.Proofs.Ytdoodnbobpijoaa

namespace Go.Proofs.Ytdoodnbobpijoaa
open Go.RowKit

theorem Str.drew {w wr : World} {g sb j : Nat} {L : List Nat} (h : Str w wr g sb j L) : Str w wr.drew g sb j L := ⟨h.b.drew, h.gl, h.row, h.sn.drew, h.ne, h.lo⟩
theorem Str.other {w wr : World} {g sb j : Nat} {L : List Nat} (h : Str w wr g sb j L) (tb o : Nat) (v : Value) (hlo : w.heap.size ≤ tb) (ng : g ≠ tb) (ns : sb ≠ tb) : Str w (wr.setCell ⟨tb, o, none⟩ v) g sb j L :=
  ⟨h.b.setCell hlo _, by simpa using h.gl, fun k hk => by rw [World.cell?_of_block (w := wr) (heap_setCell_other _ _ _ _ ng)]; exact h.row k hk, h.sn.of (heap_setCell_other _ _ _ _ ns), h.ne, h.lo⟩
section
variable {w : World} {B : Nat} {ρ : Nat → Part} {i bk bx bs : Nat} {A : Nt} {C : Nat → Nat → Int} {V : Nat → Nat → Value}
set_option maxRecDepth 4000 in
set_option maxHeartbeats 4000000 in
theorem kstraight (h : KN w B ρ i bk bx bs A C V) :
    Calls Try.prog 16 #[.pointer (some ⟨bk, 0, none⟩)] w fun e w' => e = .returned (.bool true) ∧ Below w.heap.size w w' := by
  have n5 := h.g.n5
  have H : Hid (KN w B ρ i bk bx bs A C V) := h
  clear h
  go_enter Try.func16, Try.ntmps16
  go_wp2
  go_loopw [3] (fun v wr => ∃ r : Nat, r ≤ A.n ∧ v = .int .i64 r ∧ Below w.heap.size w wr) (fun v _ => A.n - (intOf v).toNat)
  case atStart => exact ⟨0, by omega, rfl, Below.refl _ _⟩
  case round =>
    obtain ⟨r, hr, rfl, b1⟩ := hrel
    obtain ⟨wo, rfl⟩ : ∃ wo : World, wo = wr := ⟨_, rfl⟩
    have c1 := (H.out.below b1).k1
    have B1 : Hid (Below w.heap.size w wo) := b1
    clear b1
    by_cases hrn : r < A.n
    · have hrn' : (r : Int) < (A.n : Int) := by omega
      go_wp2
      go_loopw [4] (fun v wr => ∃ d : Nat, d ≤ A.n ∧ v = .int .i64 d ∧ Below w.heap.size w wr) (fun v _ => A.n - (intOf v).toNat)
      case atStart => exact ⟨0, by omega, rfl, B1.out⟩
      case round =>
        obtain ⟨d, hd, rfl, b2⟩ := hrel
        obtain ⟨wp, rfl⟩ : ∃ wp : World, wp = wr := ⟨_, rfl⟩
        have k2 := H.out.below b2
        have d0 := k2.k0
        have d1 := k2.k1
        by_cases hdn : d < A.n
        · have hdn' : (d : Int) < (A.n : Int) := by omega
          have T : Hid (TrOk A r d (trace A r d)) := trOk H.out.g r d hrn hdn
          have hbb : isB A.n (r : Int) = true ∧ isB A.n (d : Int) = true := ⟨isB_nat hrn, isB_nat hdn⟩
          have CT : Hid (Calls Try.prog 19 #[.pointer (some ⟨bx, 0, none⟩), .int .i64 r, .int .i64 d] wp fun e w' => ∃ g cap, e = .returned (.tuple #[.slice (some ⟨g, 0, none⟩) (trace A r d).length cap, .int .i64 0]) ∧ g < w'.heap.size ∧ (∀ k, k < (trace A r d).length → w'.cell? ⟨g, k, none⟩ = some (I ((trace A r d).getD k 0 : Nat))) ∧ Below wp.heap.size wp w') := by
            refine (ktrace k2 r d).mono ?_
            rintro e w' ⟨nv, h1, h2, h3⟩
            have hE : traceE A r d = 0 := by unfold traceE; rw [if_pos hbb]
            have hT : traceL A r d = trace A r d := by unfold traceL; rw [if_pos hbb]; rfl
            rw [hT] at h2
            rw [hE] at h1
            obtain ⟨g, cap, hv, g1, g2, g3⟩ := row_at h2 T.out.pos
            refine ⟨g, cap, by rw [h1, hv], g2, fun k hk => ?_, h3⟩
            refine g3 k _ ?_
            unfold ints
            rw [List.getElem?_map, List.getElem?_eq_getElem hk, getD_at hk]; rfl
          have hlen1 : ¬ (((trace A r d).length : Nat) : Int) < 1 := by have := T.out.pos; omega
          have hlenn : ¬ (A.n : Int) < (((trace A r d).length : Nat) : Int) := by have := T.out.len; omega
          have B2 : Hid (Below w.heap.size w wp) := b2
          clear b2 k2 hbb
          generalize hL : trace A r d = L at *
          clear hL
          have hrr : ((r : Int) != (r : Int)) = false := by simp
          go_wp2_with (go_at_call 19; refine (CT.out).mono ?_; rintro e w1 ⟨g, cap, rfl, g1, g2, b3⟩; have g0 : w1.cell? ⟨g, 0, none⟩ = some (.int .i64 (r : Int)) := (by rw [← T.out.head]; exact g2 0 T.out.pos); have d2 : w1.cell? ⟨bk, 1, none⟩ = some (.int .i64 A.n) := ((H.out.below B2.out).below b3).k1; have G : Hid (g < w1.heap.size ∧ (∀ k, k < L.length → w1.cell? ⟨g, k, none⟩ = some (I (L.getD k 0 : Nat))) ∧ Below wp.heap.size wp w1) := ⟨g1, g2, b3⟩; clear g1 g2 b3)
          have ST : Hid (Str w (w1.alloc (.cells #[.bool false, .bool false, .bool false, .bool false, .bool false] 83)) g w1.heap.size 0 L) := by
            obtain ⟨g1, g2, b3⟩ := G.out
            have b4 : Below w1.heap.size w1 (w1.alloc (.cells #[.bool false, .bool false, .bool false, .bool false, .bool false] 83)) := (Below.refl _ _).alloc (Nat.le_refl _) _
            have b5 := B2.out.trans (b3.mono B2.out.size)
            refine ⟨b5.trans (b4.mono b5.size), Nat.lt_of_lt_of_le g1 b4.size, fun k hk => by rw [World.cell?_of_block (w := w1) (b4.block g g1)]; exact g2 k hk, ?_, Nat.ne_of_lt g1, b5.size⟩
            have := Whole.new w1 83 #[.bool false, .bool false, .bool false, .bool false, .bool false]
            rw [show seenA L 0 = #[.bool false, .bool false, .bool false, .bool false, .bool false] by simp [seenA]]
            exact this
          clear G CT g0 d2
          generalize hsb : w1.heap.size = sb at *
          clear hsb
          have hb1 : decide (((L.length : Nat) : Int) < 1) = false := decide_eq_false (by omega)
          have hb2 : decide (A.n < L.length) = false := decide_eq_false (by omega)
          try simp only [hb1, hb2, Bool.or_self]
          clear hb1 hb2
          obtain ⟨wq, hwq⟩ : ∃ wq : World, wq = w1 := ⟨_, rfl⟩
          go_loopw [8] (fun v wr => ∃ j : Nat, j ≤ L.length ∧ v = .int .i64 j ∧ Str w wr g sb j L) (fun v _ => L.length - (intOf v).toNat)
          case atStart => exact ⟨0, by omega, rfl, ST.out⟩
          case round =>
            clear ST hwq
            obtain ⟨j, hj, rfl, s1⟩ := hrel
            by_cases hjl : j < L.length
            · have hjl' : (j : Int) < ((L.length : Nat) : Int) := by omega
              have x5 : L.getD j 0 < 5 := by have := T.out.lt j hjl; omega
              have xn : ¬ (A.n : Int) ≤ ((L.getD j 0 : Nat) : Int) := by have := T.out.lt j hjl; omega
              have x5' : ((L.getD j 0 : Nat) : Int) < 5 := by omega
              have x0 : ¬ ((L.getD j 0 : Nat) : Int) < 0 := by omega
              have xnn : L.getD j 0 < A.n := T.out.lt j hjl
              have sS : (fun v : World => v.cell? ⟨g, j, none⟩ = some (.int .i64 (L.getD j 0 : Nat)) ∧ v.cell? ⟨bk, 1, none⟩ = some (.int .i64 A.n) ∧ v.cell? ⟨sb, L.getD j 0, none⟩ = some (.bool false)) wr.drew := ⟨s1.row j hjl, (H.out.below s1.b).k1, s1.unseen T.out.nodup hjl x5⟩
              have M1 : Hid (Str w (wr.setCell ⟨sb, L.getD j 0, none⟩ (.bool true)) g sb (j + 1) L) := s1.mark hjl x5
              have sc : wr.drew.cell? ⟨sb, L.getD j 0, none⟩ = some (.bool false) := s1.unseen T.out.nodup hjl x5
              have sf : wr.drew.frozen? ⟨sb, L.getD j 0, none⟩ = false := s1.sn.drew.frozen _
              have sr : wr.drew.cell? ⟨g, j, none⟩ = some (.int .i64 (L.getD j 0 : Nat)) := s1.row j hjl
              clear s1
              generalize hx : L.getD j 0 = x at *
              go_wp2_with fail
              refine wp_region_held_drew (S := (fun v => v.cell? ⟨g, j, none⟩ = some (.int .i64 (x : Nat)) ∧ v.cell? ⟨bk, 1, none⟩ = some (.int .i64 A.n) ∧ v.cell? ⟨sb, x, none⟩ = some (.bool false))) (by kernel_rfl) sS (fun _ => ?_)
              change wpAnyH _ _ _ _ _ _ _ _ (World.drew _)
              refine held_hq (fun _ _ x _ _ h => by cases x <;> exact h) ?_
              intro hQ
              refine held_to 0 (some 66) (.slice (some ⟨g, 0, none⟩) L.length cap) hQ sS rfl rfl (by kernel_rfl) (by kernel_rfl) (by kernel_rfl) (by kernel_rfl) (fun w _ => by go_simp) ?_
              refine held_to 1 (some 67) (.int .i64 j) hQ sS rfl rfl (by kernel_rfl) (by kernel_rfl) (by kernel_rfl) (by kernel_rfl) (fun w _ => by go_simp) ?_
              refine held_to 2 (some 68) (.pointer (some ⟨g, j, none⟩)) hQ sS rfl rfl (by kernel_rfl) (by kernel_rfl) (by kernel_rfl) (by kernel_rfl) (fun w _ => by go_simp) ?_
              refine held_to 3 (some 69) (.int .i64 (x : Nat)) hQ sS rfl rfl (by kernel_rfl) (by kernel_rfl) (by kernel_rfl) (by kernel_rfl) (fun w hS => by obtain ⟨h1, h2, h3⟩ := hS; go_simp) ?_
              refine held_to 4 (some 70) (.bool false) hQ sS rfl rfl (by kernel_rfl) (by kernel_rfl) (by kernel_rfl) (by kernel_rfl) (fun w _ => by go_simp) ?_
              refine held_to 5 (some 71) (.bool false) hQ sS rfl rfl (by kernel_rfl) (by kernel_rfl) (by kernel_rfl) (by kernel_rfl) (fun w _ => by go_simp) ?_
              refine held_to 6 (some 72) (.slice (some ⟨g, 0, none⟩) L.length cap) hQ sS rfl rfl (by kernel_rfl) (by kernel_rfl) (by kernel_rfl) (by kernel_rfl) (fun w _ => by go_simp) ?_
              refine held_to 7 (some 73) (.int .i64 j) hQ sS rfl rfl (by kernel_rfl) (by kernel_rfl) (by kernel_rfl) (by kernel_rfl) (fun w _ => by go_simp) ?_
              refine held_to 8 (some 74) (.pointer (some ⟨g, j, none⟩)) hQ sS rfl rfl (by kernel_rfl) (by kernel_rfl) (by kernel_rfl) (by kernel_rfl) (fun w _ => by go_simp) ?_
              refine held_to 9 (some 75) (.int .i64 (x : Nat)) hQ sS rfl rfl (by kernel_rfl) (by kernel_rfl) (by kernel_rfl) (by kernel_rfl) (fun w hS => by obtain ⟨h1, h2, h3⟩ := hS; go_simp) ?_
              refine held_to 10 (some 76) (.pointer (some ⟨bk, 0, none⟩)) hQ sS rfl rfl (by kernel_rfl) (by kernel_rfl) (by kernel_rfl) (by kernel_rfl) (fun w _ => by go_simp) ?_
              refine held_to 11 (some 77) (.pointer (some ⟨bk, 0, none⟩)) hQ sS rfl rfl (by kernel_rfl) (by kernel_rfl) (by kernel_rfl) (by kernel_rfl) (fun w _ => by go_simp) ?_
              refine held_to 12 (some 78) (.pointer (some ⟨bk, 1, none⟩)) hQ sS rfl rfl (by kernel_rfl) (by kernel_rfl) (by kernel_rfl) (by kernel_rfl) (fun w _ => by go_simp) ?_
              refine held_to 13 (some 79) (.int .i64 A.n) hQ sS rfl rfl (by kernel_rfl) (by kernel_rfl) (by kernel_rfl) (by kernel_rfl) (fun w hS => by obtain ⟨h1, h2, h3⟩ := hS; go_simp) ?_
              refine held_to 14 (some 80) (.bool false) hQ sS rfl rfl (by kernel_rfl) (by kernel_rfl) (by kernel_rfl) (by kernel_rfl) (fun w _ => by go_simp) ?_
              refine held_to 15 (some 81) (.bool false) hQ sS rfl rfl (by kernel_rfl) (by kernel_rfl) (by kernel_rfl) (by kernel_rfl) (fun w _ => by go_simp) ?_
              refine held_to 16 (some 82) (.bool false) hQ sS rfl rfl (by kernel_rfl) (by kernel_rfl) (by kernel_rfl) (by kernel_rfl) (fun w _ => by go_simp) ?_
              refine held_to 17 (some 83) (.slice (some ⟨g, 0, none⟩) L.length cap) hQ sS rfl rfl (by kernel_rfl) (by kernel_rfl) (by kernel_rfl) (by kernel_rfl) (fun w _ => by go_simp) ?_
              refine held_to 18 (some 84) (.int .i64 j) hQ sS rfl rfl (by kernel_rfl) (by kernel_rfl) (by kernel_rfl) (by kernel_rfl) (fun w _ => by go_simp) ?_
              refine held_to 19 (some 85) (.pointer (some ⟨g, j, none⟩)) hQ sS rfl rfl (by kernel_rfl) (by kernel_rfl) (by kernel_rfl) (by kernel_rfl) (fun w _ => by go_simp) ?_
              refine held_to 20 (some 86) (.int .i64 (x : Nat)) hQ sS rfl rfl (by kernel_rfl) (by kernel_rfl) (by kernel_rfl) (by kernel_rfl) (fun w hS => by obtain ⟨h1, h2, h3⟩ := hS; go_simp) ?_
              refine held_to 21 (some 87) (.pointer (some ⟨sb, x, none⟩)) hQ sS rfl rfl (by kernel_rfl) (by kernel_rfl) (by kernel_rfl) (by kernel_rfl) (fun w _ => by go_simp) ?_
              refine held_to 22 (some 88) (.bool false) hQ sS rfl rfl (by kernel_rfl) (by kernel_rfl) (by kernel_rfl) (by kernel_rfl) (fun w hS => by obtain ⟨h1, h2, h3⟩ := hS; go_simp) ?_
              refine held_to 23 (some 89) (.bool false) hQ sS rfl rfl (by kernel_rfl) (by kernel_rfl) (by kernel_rfl) (by kernel_rfl) (fun w _ => by go_simp) ?_
              refine wpAnyH_done (by kernel_rfl) ?_ _
              clear hQ
              go_simp
              by_cases hj0 : j = 0
              · have hj0' : ¬ (0 : Int) < (j : Int) := by omega
                have hj1 : j + 1 ≤ L.length := by omega
                clear hj0
                go_wp2
                go_roundw
                case rel => exact ⟨j + 1, hj1, by go_num, M1.out.drew⟩
                case measure => simp [intOf]; omega
              · obtain ⟨jj, rfl⟩ : ∃ jj, j = jj + 1 := ⟨j - 1, by omega⟩
                have hj' : (0 : Int) < ((jj + 1 : Nat) : Int) := by omega
                have ej : ((jj + 1 : Nat) : Int) - 1 = (jj : Int) := by omega
                have hl5 : L.length ≤ 5 := by have := T.out.len; omega
                have hjj' : (jj : Int) < ((L.length : Nat) : Int) := by omega
                go_wp2_with fail
                clear sS sc sf sr
                generalize wr.setCell ⟨sb, x, none⟩ (.bool true) = X at *
                obtain ⟨a1, a2⟩ := T.out.step jj hjl
                rw [hx] at a2
                have sS : (fun v : World => v.cell? ⟨bk, 0, none⟩ = some (.pointer (some ⟨bx, 0, none⟩)) ∧ v.cell? ⟨g, jj, none⟩ = some (.int .i64 (L.getD jj 0 : Nat))) X.drew.drew := ⟨(H.out.below M1.out.b).k0, M1.out.row jj (by omega)⟩
                have CR : Hid (∀ W : World, Below w.heap.size w W → Calls Try.prog 28 #[.pointer (some ⟨bx, 0, none⟩), .int .i64 (L.getD jj 0 : Nat), .int .i64 d] W fun e w' => e = .returned (.tuple #[.agg (rtA (routeN A (L.getD jj 0 : Nat) d)), .int .i64 0]) ∧ Below W.heap.size W w') := fun W hW => by
                  have := kroute (H.out.below hW) (L.getD jj 0 : Nat) d
                  rw [a1] at this
                  exact this
                generalize hy : L.getD jj 0 = y at *
                generalize routeN A (y : Nat) d = rt at *
                clear a1
                refine wp_region_held_drew (S := (fun v => v.cell? ⟨bk, 0, none⟩ = some (.pointer (some ⟨bx, 0, none⟩)) ∧ v.cell? ⟨g, jj, none⟩ = some (.int .i64 (y : Nat)))) (by kernel_rfl) sS (fun _ => ?_)
                change wpAnyH _ _ _ _ _ _ _ _ (World.drew _)
                refine held_hq (fun _ _ x _ _ h => by cases x <;> exact h) ?_
                intro hQ
                refine held_to 0 (some 98) (.pointer (some ⟨bk, 0, none⟩)) hQ sS rfl rfl (by kernel_rfl) (by kernel_rfl) (by kernel_rfl) (by kernel_rfl) (fun w _ => by go_simp) ?_
                refine held_to 1 (some 99) (.pointer (some ⟨bk, 0, none⟩)) hQ sS rfl rfl (by kernel_rfl) (by kernel_rfl) (by kernel_rfl) (by kernel_rfl) (fun w _ => by go_simp) ?_
                refine held_to 2 (some 100) (.pointer (some ⟨bk, 0, none⟩)) hQ sS rfl rfl (by kernel_rfl) (by kernel_rfl) (by kernel_rfl) (by kernel_rfl) (fun w _ => by go_simp) ?_
                refine held_to 3 (some 101) (.pointer (some ⟨bx, 0, none⟩)) hQ sS rfl rfl (by kernel_rfl) (by kernel_rfl) (by kernel_rfl) (by kernel_rfl) (fun w hS => by obtain ⟨h1, h2⟩ := hS; go_simp) ?_
                refine held_to 4 (some 102) (.slice (some ⟨g, 0, none⟩) L.length cap) hQ sS rfl rfl (by kernel_rfl) (by kernel_rfl) (by kernel_rfl) (by kernel_rfl) (fun w _ => by go_simp) ?_
                refine held_to 5 (some 103) (.int .i64 (jj + 1 : Nat)) hQ sS rfl rfl (by kernel_rfl) (by kernel_rfl) (by kernel_rfl) (by kernel_rfl) (fun w _ => by go_simp) ?_
                refine held_to 6 (some 104) (.int .i64 jj) hQ sS rfl rfl (by kernel_rfl) (by kernel_rfl) (by kernel_rfl) (by kernel_rfl) (fun w _ => by go_simp; exact IntWalk.i64_in _ ⟨by omega, by omega⟩) ?_
                refine held_to 7 (some 105) (.pointer (some ⟨g, jj, none⟩)) hQ sS rfl rfl (by kernel_rfl) (by kernel_rfl) (by kernel_rfl) (by kernel_rfl) (fun w _ => by go_simp) ?_
                refine held_to 8 (some 106) (.int .i64 (y : Nat)) hQ sS rfl rfl (by kernel_rfl) (by kernel_rfl) (by kernel_rfl) (by kernel_rfl) (fun w hS => by obtain ⟨h1, h2⟩ := hS; go_simp) ?_
                refine held_to 9 (some 107) (.int .i64 d) hQ sS rfl rfl (by kernel_rfl) (by kernel_rfl) (by kernel_rfl) (by kernel_rfl) (fun w _ => by go_simp) ?_
                refine wpAnyH_ready (rs := [10, 14]) (by kernel_rfl) (by simp) ?_
                refine AllReadyH.cons rfl (fun K hK => ?_) (AllReadyH.cons rfl (fun K hK => ?_) AllReadyH.nil)
                · go_simp
                  go_wp2_with (go_at_call 28; refine (CR.out _ (Below.drew (Below.drew M1.out.b))).mono ?_; rintro e w2 ⟨rfl, b2⟩)
                  have M2 : Str w w2 g sb (jj + 1 + 1) L := M1.out.drew.drew.below b2
                  refine hK.out _ _ ⟨(H.out.below M2.b).k0, by rw [← hy]; exact M2.row jj (by omega)⟩ (fun _ => ?_)
                  clear hK K
                  refine held_to 11 (some 97) (.tuple #[.agg (rtA rt), .int .i64 0]) hQ ⟨(H.out.below M2.b).k0, by rw [← hy]; exact M2.row jj (by omega)⟩ rfl rfl (by kernel_rfl) (by kernel_rfl) (by kernel_rfl) (by kernel_rfl) (fun w _ => by go_simp) ?_
                  refine held_to 12 (some 109) (.agg (rtA rt)) hQ ⟨(H.out.below M2.b).k0, by rw [← hy]; exact M2.row jj (by omega)⟩ rfl rfl (by kernel_rfl) (by kernel_rfl) (by kernel_rfl) (by kernel_rfl) (fun w _ => by go_simp) ?_
                  refine held_to 13 (some 110) (.int .i64 0) hQ ⟨(H.out.below M2.b).k0, by rw [← hy]; exact M2.row jj (by omega)⟩ rfl rfl (by kernel_rfl) (by kernel_rfl) (by kernel_rfl) (by kernel_rfl) (fun w _ => by go_simp) ?_
                  refine wpAnyH_ready (rs := [14]) (by kernel_rfl) (by simp) ?_
                  refine AllReadyH.cons rfl (fun K hK => ?_) AllReadyH.nil
                  go_simp
                  have b3 : Below w2.heap.size w2 (w2.alloc (.cells #[.int .i64 0, .int .i64 0, .int .i64 0, .int .i64 0, .int .i64 0] 47)) := (Below.refl _ _).alloc (Nat.le_refl _) _
                  have M3 := M2.below b3
                  refine hK.out _ _ ⟨(H.out.below M3.b).k0, by rw [← hy]; exact M3.row jj (by omega)⟩ (fun _ => ?_)
                  clear hK K
                  have n2 := Whole.new w2 47 #[.int .i64 0, .int .i64 0, .int .i64 0, .int .i64 0, .int .i64 0]
                  have th := n2.there (n := 5) rfl
                  refine wpAnyH_ready (rs := [15]) (by kernel_rfl) (by simp) ?_
                  refine AllReadyH.cons rfl (fun K hK => ?_) AllReadyH.nil
                  go_simp
                  have M4 : Str w (w2.alloc (.cells #[.int .i64 (x : Nat), .int .i64 rt.sq, .int .i64 rt.mt, .int .i64 rt.ag, .int .i64 rt.st] 47)) g sb (jj + 1 + 1) L := M2.below ((Below.refl _ _).alloc (Nat.le_refl _) _)
                  have T4 : Hid ((w2.alloc (.cells #[.int .i64 (x : Nat), .int .i64 rt.sq, .int .i64 rt.mt, .int .i64 rt.ag, .int .i64 rt.st] 47)).cell? ⟨w2.heap.size, 0, none⟩ = some (.int .i64 (x : Nat))) := (Whole.new w2 47 #[.int .i64 (x : Nat), .int .i64 rt.sq, .int .i64 rt.mt, .int .i64 rt.ag, .int .i64 rt.st]).cell 0
                  refine hK.out _ _ ⟨(H.out.below M4.b).k0, by rw [← hy]; exact M4.row jj (by omega)⟩ (fun _ => ?_)
                  clear hK K
                  refine held_to 16 (some 10) (.int .i64 0) hQ ⟨(H.out.below M4.b).k0, by rw [← hy]; exact M4.row jj (by omega)⟩ rfl rfl (by kernel_rfl) (by kernel_rfl) (by kernel_rfl) (by kernel_rfl) (fun w _ => by go_simp) ?_
                  refine wpAnyH_done (by kernel_rfl) ?_ _
                  clear hQ
                  go_simp
                  have M4 : Hid (Str w (w2.alloc (.cells #[.int .i64 (x : Nat), .int .i64 rt.sq, .int .i64 rt.mt, .int .i64 rt.ag, .int .i64 rt.st] 47)) g sb (jj + 1 + 1) L) := M4
                  clear n2 th M3 b3 M2 b2 sS
                  generalize (w2.alloc (.cells #[.int .i64 (x : Nat), .int .i64 rt.sq, .int .i64 rt.mt, .int .i64 rt.ag, .int .i64 rt.st] 47)) = Y at *
                  generalize w2.heap.size = tb at *
                  have sS : (fun v : World => v.cell? ⟨tb, 0, none⟩ = some (.int .i64 (x : Nat)) ∧ v.cell? ⟨g, jj + 1, none⟩ = some (.int .i64 (x : Nat))) Y.drew := ⟨T4.out, by rw [← hx]; exact M4.out.row (jj + 1) hjl⟩
                  go_wp2_with fail
                  refine wp_region_held_drew (S := (fun v => v.cell? ⟨tb, 0, none⟩ = some (.int .i64 (x : Nat)) ∧ v.cell? ⟨g, jj + 1, none⟩ = some (.int .i64 (x : Nat)))) (by kernel_rfl) sS (fun _ => ?_)
                  change wpAnyH _ _ _ _ _ _ _ _ (World.drew _)
                  refine held_hq (fun _ _ x _ _ h => by cases x <;> exact h) ?_
                  intro hQ
                  refine held_to 0 (some 111) (.int .i64 0) hQ sS rfl rfl (by kernel_rfl) (by kernel_rfl) (by kernel_rfl) (by kernel_rfl) (fun w _ => by go_simp) ?_
                  refine held_to 1 (some 112) (.bool false) hQ sS rfl rfl (by kernel_rfl) (by kernel_rfl) (by kernel_rfl) (by kernel_rfl) (fun w _ => by go_simp) ?_
                  refine held_to 2 (some 113) (.bool false) hQ sS rfl rfl (by kernel_rfl) (by kernel_rfl) (by kernel_rfl) (by kernel_rfl) (fun w _ => by go_simp) ?_
                  refine held_to 3 (some 114) (.pointer (some ⟨tb, 0, none⟩)) hQ sS rfl rfl (by kernel_rfl) (by kernel_rfl) (by kernel_rfl) (by kernel_rfl) (fun w _ => by go_simp) ?_
                  refine held_to 4 (some 115) (.int .i64 (x : Nat)) hQ sS rfl rfl (by kernel_rfl) (by kernel_rfl) (by kernel_rfl) (by kernel_rfl) (fun w hS => by obtain ⟨h1, h2⟩ := hS; go_simp) ?_
                  refine held_to 5 (some 116) (.slice (some ⟨g, 0, none⟩) L.length cap) hQ sS rfl rfl (by kernel_rfl) (by kernel_rfl) (by kernel_rfl) (by kernel_rfl) (fun w _ => by go_simp) ?_
                  refine held_to 6 (some 117) (.int .i64 (jj + 1 : Nat)) hQ sS rfl rfl (by kernel_rfl) (by kernel_rfl) (by kernel_rfl) (by kernel_rfl) (fun w _ => by go_simp) ?_
                  refine held_to 7 (some 118) (.pointer (some ⟨g, jj + 1, none⟩)) hQ sS rfl rfl (by kernel_rfl) (by kernel_rfl) (by kernel_rfl) (by kernel_rfl) (fun w _ => by go_simp; intro hh; exact absurd (hh (by omega)) (by omega)) ?_
                  refine held_to 8 (some 119) (.int .i64 (x : Nat)) hQ sS rfl rfl (by kernel_rfl) (by kernel_rfl) (by kernel_rfl) (by kernel_rfl) (fun w hS => by obtain ⟨h1, h2⟩ := hS; go_simp) ?_
                  refine held_to 9 (some 120) (.bool false) hQ sS rfl rfl (by kernel_rfl) (by kernel_rfl) (by kernel_rfl) (by kernel_rfl) (fun w _ => by go_simp) ?_
                  refine held_to 10 (some 121) (.bool false) hQ sS rfl rfl (by kernel_rfl) (by kernel_rfl) (by kernel_rfl) (by kernel_rfl) (fun w _ => by go_simp) ?_
                  refine wpAnyH_done (by kernel_rfl) ?_ _
                  clear hQ
                  go_simp
                  go_wp2
                  go_roundw
                  case rel => first | exact ⟨jj + 1 + 1, by omega, by go_num, M4.out.drew⟩ | ((repeat apply Exists.intro); exact ⟨⟨jj + 1 + 1, by omega, by go_num, M4.out.drew⟩, rfl⟩)
                  case measure => simp [intOf]; omega
                · go_simp
                  have b3 : Below X.drew.drew.heap.size X.drew.drew (X.drew.drew.alloc (.cells #[.int .i64 0, .int .i64 0, .int .i64 0, .int .i64 0, .int .i64 0] 47)) := (Below.refl _ _).alloc (Nat.le_refl _) _
                  have M3 := M1.out.drew.drew.below b3
                  refine hK.out _ _ ⟨(H.out.below M3.b).k0, by rw [← hy]; exact M3.row jj (by omega)⟩ (fun _ => ?_)
                  clear hK K
                  have n2 := Whole.new X.drew.drew 47 #[.int .i64 0, .int .i64 0, .int .i64 0, .int .i64 0, .int .i64 0]
                  refine wpAnyH_ready (rs := [10]) (by kernel_rfl) (by simp) ?_
                  refine AllReadyH.cons rfl (fun K hK => ?_) AllReadyH.nil
                  go_simp
                  go_wp2_with (go_at_call 28; refine (CR.out _ M3.b).mono ?_; rintro e w2 ⟨rfl, b2⟩)
                  have M2 := M3.below b2
                  have n3 : Whole w2 X.heap.size 47 #[.int .i64 0, .int .i64 0, .int .i64 0, .int .i64 0, .int .i64 0] := n2.below b2
                  have th := n3.there (n := 5) rfl
                  refine hK.out _ _ ⟨(H.out.below M2.b).k0, by rw [← hy]; exact M2.row jj (by omega)⟩ (fun _ => ?_)
                  clear hK K
                  refine held_to 11 (some 97) (.tuple #[.agg (rtA rt), .int .i64 0]) hQ ⟨(H.out.below M2.b).k0, by rw [← hy]; exact M2.row jj (by omega)⟩ rfl rfl (by kernel_rfl) (by kernel_rfl) (by kernel_rfl) (by kernel_rfl) (fun w _ => by go_simp) ?_
                  refine held_to 12 (some 109) (.agg (rtA rt)) hQ ⟨(H.out.below M2.b).k0, by rw [← hy]; exact M2.row jj (by omega)⟩ rfl rfl (by kernel_rfl) (by kernel_rfl) (by kernel_rfl) (by kernel_rfl) (fun w _ => by go_simp) ?_
                  refine held_to 13 (some 110) (.int .i64 0) hQ ⟨(H.out.below M2.b).k0, by rw [← hy]; exact M2.row jj (by omega)⟩ rfl rfl (by kernel_rfl) (by kernel_rfl) (by kernel_rfl) (by kernel_rfl) (fun w _ => by go_simp) ?_
                  have q0 : w2.cell? ⟨X.heap.size, 0, none⟩ = some (.int .i64 0) := n3.cell 0
                  have q1 : w2.cell? ⟨X.heap.size, 1, none⟩ = some (.int .i64 0) := n3.cell 1
                  have q2 : w2.cell? ⟨X.heap.size, 2, none⟩ = some (.int .i64 0) := n3.cell 2
                  have q3 : w2.cell? ⟨X.heap.size, 3, none⟩ = some (.int .i64 0) := n3.cell 3
                  have q4 : w2.cell? ⟨X.heap.size, 4, none⟩ = some (.int .i64 0) := n3.cell 4
                  have qf : ∀ o, w2.frozen? ⟨X.heap.size, o, none⟩ = false := fun o => n3.frozen o
                  have e1 : g ≠ X.heap.size := Nat.ne_of_lt M1.out.gl
                  have e2 : sb ≠ X.heap.size := Nat.ne_of_lt M1.out.sn.lt
                  have e3 : w.heap.size ≤ X.heap.size := M1.out.b.size
                  have M4 : Str w (((((w2.setCell ⟨X.heap.size, 0, none⟩ (.int .i64 (x : Nat))).setCell ⟨X.heap.size, 1, none⟩ (.int .i64 rt.sq)).setCell ⟨X.heap.size, 2, none⟩ (.int .i64 rt.mt)).setCell ⟨X.heap.size, 3, none⟩ (.int .i64 rt.ag)).setCell ⟨X.heap.size, 4, none⟩ (.int .i64 rt.st)) g sb (jj + 1 + 1) L := ((((M2.other _ _ _ e3 e1 e2).other _ _ _ e3 e1 e2).other _ _ _ e3 e1 e2).other _ _ _ e3 e1 e2).other _ _ _ e3 e1 e2
                  have T4 : Hid ((((((w2.setCell ⟨X.heap.size, 0, none⟩ (.int .i64 (x : Nat))).setCell ⟨X.heap.size, 1, none⟩ (.int .i64 rt.sq)).setCell ⟨X.heap.size, 2, none⟩ (.int .i64 rt.mt)).setCell ⟨X.heap.size, 3, none⟩ (.int .i64 rt.ag)).setCell ⟨X.heap.size, 4, none⟩ (.int .i64 rt.st)).cell? ⟨X.heap.size, 0, none⟩ = some (.int .i64 (x : Nat))) := by
                    show (((((w2.setCell ⟨X.heap.size, 0, none⟩ (.int .i64 (x : Nat))).setCell ⟨X.heap.size, 1, none⟩ (.int .i64 rt.sq)).setCell ⟨X.heap.size, 2, none⟩ (.int .i64 rt.mt)).setCell ⟨X.heap.size, 3, none⟩ (.int .i64 rt.ag)).setCell ⟨X.heap.size, 4, none⟩ (.int .i64 rt.st)).cell? ⟨X.heap.size, 0, none⟩ = some (.int .i64 (x : Nat))
                    rw [World.cell?_setCell_other _ _ _ _ (addr_ne (by omega)), World.cell?_setCell_other _ _ _ _ (addr_ne (by omega)), World.cell?_setCell_other _ _ _ _ (addr_ne (by omega)), World.cell?_setCell_other _ _ _ _ (addr_ne (by omega)), World.cell?_setCell_same _ _ _ q0]
                  refine wpAnyH_ready (rs := [15]) (by kernel_rfl) (by simp) ?_
                  refine AllReadyH.cons rfl (fun K hK => ?_) AllReadyH.nil
                  go_simp
                  refine hK.out _ _ ⟨(H.out.below M4.b).k0, by rw [← hy]; exact M4.row jj (by omega)⟩ (fun _ => ?_)
                  clear hK K
                  refine held_to 16 (some 10) (.int .i64 0) hQ ⟨(H.out.below M4.b).k0, by rw [← hy]; exact M4.row jj (by omega)⟩ rfl rfl (by kernel_rfl) (by kernel_rfl) (by kernel_rfl) (by kernel_rfl) (fun w _ => by go_simp) ?_
                  refine wpAnyH_done (by kernel_rfl) ?_ _
                  clear hQ
                  go_simp
                  have M4 : Hid (Str w (((((w2.setCell ⟨X.heap.size, 0, none⟩ (.int .i64 (x : Nat))).setCell ⟨X.heap.size, 1, none⟩ (.int .i64 rt.sq)).setCell ⟨X.heap.size, 2, none⟩ (.int .i64 rt.mt)).setCell ⟨X.heap.size, 3, none⟩ (.int .i64 rt.ag)).setCell ⟨X.heap.size, 4, none⟩ (.int .i64 rt.st)) g sb (jj + 1 + 1) L) := M4
                  clear n2 n3 th M3 b3 M2 b2 sS q0 q1 q2 q3 q4 qf e1 e2 e3
                  generalize (((((w2.setCell ⟨X.heap.size, 0, none⟩ (.int .i64 (x : Nat))).setCell ⟨X.heap.size, 1, none⟩ (.int .i64 rt.sq)).setCell ⟨X.heap.size, 2, none⟩ (.int .i64 rt.mt)).setCell ⟨X.heap.size, 3, none⟩ (.int .i64 rt.ag)).setCell ⟨X.heap.size, 4, none⟩ (.int .i64 rt.st)) = Y at *
                  generalize X.heap.size = tb at *
                  have sS : (fun v : World => v.cell? ⟨tb, 0, none⟩ = some (.int .i64 (x : Nat)) ∧ v.cell? ⟨g, jj + 1, none⟩ = some (.int .i64 (x : Nat))) Y.drew := ⟨T4.out, by rw [← hx]; exact M4.out.row (jj + 1) hjl⟩
                  go_wp2_with fail
                  refine wp_region_held_drew (S := (fun v => v.cell? ⟨tb, 0, none⟩ = some (.int .i64 (x : Nat)) ∧ v.cell? ⟨g, jj + 1, none⟩ = some (.int .i64 (x : Nat)))) (by kernel_rfl) sS (fun _ => ?_)
                  change wpAnyH _ _ _ _ _ _ _ _ (World.drew _)
                  refine held_hq (fun _ _ x _ _ h => by cases x <;> exact h) ?_
                  intro hQ
                  refine held_to 0 (some 111) (.int .i64 0) hQ sS rfl rfl (by kernel_rfl) (by kernel_rfl) (by kernel_rfl) (by kernel_rfl) (fun w _ => by go_simp) ?_
                  refine held_to 1 (some 112) (.bool false) hQ sS rfl rfl (by kernel_rfl) (by kernel_rfl) (by kernel_rfl) (by kernel_rfl) (fun w _ => by go_simp) ?_
                  refine held_to 2 (some 113) (.bool false) hQ sS rfl rfl (by kernel_rfl) (by kernel_rfl) (by kernel_rfl) (by kernel_rfl) (fun w _ => by go_simp) ?_
                  refine held_to 3 (some 114) (.pointer (some ⟨tb, 0, none⟩)) hQ sS rfl rfl (by kernel_rfl) (by kernel_rfl) (by kernel_rfl) (by kernel_rfl) (fun w _ => by go_simp) ?_
                  refine held_to 4 (some 115) (.int .i64 (x : Nat)) hQ sS rfl rfl (by kernel_rfl) (by kernel_rfl) (by kernel_rfl) (by kernel_rfl) (fun w hS => by obtain ⟨h1, h2⟩ := hS; go_simp) ?_
                  refine held_to 5 (some 116) (.slice (some ⟨g, 0, none⟩) L.length cap) hQ sS rfl rfl (by kernel_rfl) (by kernel_rfl) (by kernel_rfl) (by kernel_rfl) (fun w _ => by go_simp) ?_
                  refine held_to 6 (some 117) (.int .i64 (jj + 1 : Nat)) hQ sS rfl rfl (by kernel_rfl) (by kernel_rfl) (by kernel_rfl) (by kernel_rfl) (fun w _ => by go_simp) ?_
                  refine held_to 7 (some 118) (.pointer (some ⟨g, jj + 1, none⟩)) hQ sS rfl rfl (by kernel_rfl) (by kernel_rfl) (by kernel_rfl) (by kernel_rfl) (fun w _ => by go_simp; intro hh; exact absurd (hh (by omega)) (by omega)) ?_
                  refine held_to 8 (some 119) (.int .i64 (x : Nat)) hQ sS rfl rfl (by kernel_rfl) (by kernel_rfl) (by kernel_rfl) (by kernel_rfl) (fun w hS => by obtain ⟨h1, h2⟩ := hS; go_simp) ?_
                  refine held_to 9 (some 120) (.bool false) hQ sS rfl rfl (by kernel_rfl) (by kernel_rfl) (by kernel_rfl) (by kernel_rfl) (fun w _ => by go_simp) ?_
                  refine held_to 10 (some 121) (.bool false) hQ sS rfl rfl (by kernel_rfl) (by kernel_rfl) (by kernel_rfl) (by kernel_rfl) (fun w _ => by go_simp) ?_
                  refine wpAnyH_done (by kernel_rfl) ?_ _
                  clear hQ
                  go_simp
                  go_wp2
                  go_roundw
                  case rel => first | exact ⟨jj + 1 + 1, by omega, by go_num, M4.out.drew⟩ | ((repeat apply Exists.intro); exact ⟨⟨jj + 1 + 1, by omega, by go_num, M4.out.drew⟩, rfl⟩)
                  case measure => simp [intOf]; omega
            · have hjl' : ¬ (j : Int) < ((L.length : Nat) : Int) := by omega
              have S2 : Hid (Below w.heap.size w wr) := s1.b
              clear s1
              go_wp2
              go_roundw
              case rel => exact ⟨d + 1, by omega, by go_num, S2.out⟩
              case measure => simp [intOf]; omega
        · have e : ¬ (d : Int) < (A.n : Int) := by omega
          have B2 : Hid (Below w.heap.size w wp) := b2
          clear b2 k2
          go_wp2
          go_roundw
          case rel => exact ⟨r + 1, by omega, by go_num, B2.out⟩
          case measure => simp [intOf]; omega
    · have e : ¬ (r : Int) < (A.n : Int) := by omega
      go_wp2
      go_ret
      exact ⟨rfl, B1.out⟩
end
end Go.Proofs.Ytdoodnbobpijoaa

namespace Go.Proofs.Ytdoodnbobpijoaa
open Go.RowKit

/-! ### Straight -/
set_option maxHeartbeats 2000000 in
theorem straight_any (w : World) (size : Int) (fs : Fits size) (sa : Option Addr) (len cap : Nat) (f : Nat → St) (hS : Scp w sa len f) :
    Calls Try.prog 6 #[.int .i64 size, .slice sa len cap] w fun e w' => e = .returned (.bool true) ∧ Below w.heap.size w w' := by
  obtain ⟨n, hn, n2, n5⟩ := size_pick size
  have KL : Hid (Calls Try.prog 14 #[.int .i64 size] w fun e w' => ∃ bk bx bs, e = .returned (.pointer (some ⟨bk, 0, none⟩)) ∧ PostK w.heap.size 0 (fun _ => (0, 0)) bk bx bs (laidN n) w w') := klaid size n fs.1 fs.2 hn (fun _ _ => rfl) (Nat.le_refl _)
  have HG : Hid (Good (laidN n) ∧ (laidN n).n = n) := laid_good n n2 n5
  have HS : Hid (Scp w sa len f) := hS
  clear hS hn fs
  go_enter Try.func6, Try.ntmps6
  go_wp2_with fail
  refine (KL.out).mono ?_
  rintro e w1 ⟨bk, bx, bs, rfl, ρ1, V1, q1, q2⟩
  clear KL
  have Q1 : Hid (KI w1 w.heap.size ρ1 0 bk bx bs (laidN n) V1) := q1
  have Q2 : Hid (Aft 0 (fun _ => (0, 0)) ρ1 w w1) := q2
  clear q1 q2
  go_wp2_with fail
  go_loopw [6] (fun v wr => ∃ k : Nat, k ≤ len ∧ k ≤ 150 ∧ v = .int .i64 k ∧ ∃ ρ' V', KI wr w.heap.size ρ' 0 bk bx bs (playF (laidN n) f k) V' ∧ Aft 0 (fun _ => (0, 0)) ρ' w wr) (fun v _ => 150 - (intOf v).toNat)
  case atStart => exact ⟨0, by omega, by omega, rfl, ρ1, V1, Q1.out, Q2.out⟩
  case round =>
    clear Q1 Q2
    obtain ⟨k, hk, hk150, rfl, ρ2, V2, q1, q2⟩ := hrel
    by_cases hkl : k < len
    · have hkl' : (k : Int) < (len : Int) := by omega
      by_cases hk1 : k < 150
      · have hk1' : (k : Int) < 150 := by omega
        have hk0 : (0 : Int) ≤ (k : Int) := by omega
        obtain ⟨sb, so, rfl, ⟨s0, s1, s2, s3⟩, ft⟩ := HS.out.at q2.all hkl
        have CX : Hid (Calls Try.prog 15 #[.pointer (some ⟨bk, 0, none⟩), .agg #[.int .i64 (f k).k, .int .i64 (f k).a, .int .i64 (f k).b, .int .i64 (f k).c]] wr fun e w' => e = .returned (.tuple #[]) ∧ PostK w.heap.size 0 ρ2 bk bx bs (playF (laidN n) f (k + 1)) wr w') := kdoes q1 q2.new q2.only.size (f k) ft
        have Q2 : Hid (Aft 0 (fun _ => (0, 0)) ρ2 w wr) := q2
        clear q1 q2 ft
        go_wp2_with (first | (go_at_call 15; refine (CX.out).mono ?_; rintro e w2 ⟨rfl, ρ3, V3, t1, t2⟩; have T1 : Hid (KI w2 w.heap.size ρ3 0 bk bx bs (playF (laidN n) f (k + 1)) V3) := t1; have T2 : Hid (Aft 0 ρ2 ρ3 wr w2) := t2; clear t1 t2) | (go_at_call 16; refine (kstraight T1.out).mono ?_; rintro e w3 ⟨rfl, b3⟩))
        go_roundw
        case rel => exact ⟨k + 1, by omega, by omega, by go_num, ρ3, V3, T1.out.below b3, (Q2.out.trans T2.out).trans (Aft.below b3 T2.out.new)⟩
        case measure => simp [intOf]; omega
      · have hk1' : ¬ (k : Int) < 150 := by omega
        have Q2 : Hid (Below w.heap.size w wr) := q2.all
        clear q1 q2
        go_wp2
        go_ret
        exact ⟨rfl, Q2.out⟩
    · have hkl' : ¬ (k : Int) < (len : Int) := by omega
      have Q2 : Hid (Below w.heap.size w wr) := q2.all
      clear q1 q2
      go_wp2
      go_ret
      exact ⟨rfl, Q2.out⟩
end Go.Proofs.Ytdoodnbobpijoaa

namespace Go.Proofs.Ytdoodnbobpijoaa
open Go.ChangeShapes Go.WideShapes Go.ChangeAt Go.RowKit Go.Deep

set_option maxRecDepth 100000 in
theorem straight_lifted (os : Os) (started : os.Started) (H : Type) (enc : TypeId × Value → H) :
    ReturnsInHanded {} Try.checked os 6 .any (Rows.straightSpec.pre6 enc Try.prog Try.f6 Rows.straightRow.domain false) (Rows.straightSpec.post enc Try.prog Try.f6 false true false false) := by
  refine returnsInHanded_of_change_sized (C := Try.checked) Try.own started (by kernel_rfl) Try.func6
    (ChangeSpec.witness6 (enc := enc) (C := Try.checked) false ⟨#[], #[.int .i64 0, .slice none 0 0], []⟩ 8 (by kernel_rfl) (by kernel_rfl) (by kernel_rfl) (by kernel_rfl)) ?_
  intro W base args ds gs before hval0 hW hcnd hsz0 _
  have hval : ∀ (j : Nat) t v, Try.f6.params[j]? = some t → args[j]? = some v → Value.okWide Try.prog W .any base t v := hval0
  have hW' := hW
  obtain ⟨p, q, hA0, hV, rfl, hfz, hnd⟩ := hW
  have hA : DataW.TrodAll enc Try.prog W 0 (fun _ => true) true Try.f6.params.toList args.toList ds p := hA0
  rw [Try.params6] at hA hval
  obtain ⟨v0, v1, d0, d1, p0, p1, rfl, rfl, rfl, h0, h1⟩ := trodAll_two hA
  obtain ⟨rfl, rfl⟩ := trodVars_none hV
  obtain ⟨x0, rfl⟩ := okWide_int Try.underlying3 (hval 0 3 v0 rfl rfl)
  have fit0 := open_int h0
  have lt0 : ∀ x ∈ p0, x.block < W.heap.size := by obtain ⟨m, hm⟩ := h0; exact DataW.trod_lt m _ _ _ hm
  obtain ⟨a1, len1, cap1, rfl⟩ := okWide_slice Try.underlying26 (hval 1 26 v1 rfl rfl)
  obtain ⟨f1, hS1⟩ := open_scp h1
  have lt1 : ∀ x ∈ p1, x.block < W.heap.size := by obtain ⟨m, hm⟩ := h1; exact DataW.trod_lt m _ _ _ hm
  clear hA0 hval0 hsz0
  have fin : Calls Try.prog 6 #[.int .i64 x0, .slice a1 len1 cap1] W fun e W' => e = .returned (.bool true) ∧ Below W.heap.size W W' := straight_any W x0 fit0 a1 len1 cap1 f1 hS1
  refine fin.mono fun e W' ⟨he, bel⟩ => ?_
  subst he
  exact ⟨_, rfl, _, _, _, [], _, [], hW', trodAll_mk1 (shut_bool Try.underlying4 _), trodAll_mk2 (Below.trod Try.laidOut (by kernel_rfl) (of_decide_eq_true (by kernel_rfl)) h0 bel lt0) (Below.trod Try.laidOut (by kernel_rfl) (of_decide_eq_true (by kernel_rfl)) h1 bel lt1), rfl, bel.frame _, fun h => by cases h⟩
theorem straight_holds : Rows.StraightSaid :=
  OpenClaim.holds_of_wide 6 Try.f6 rfl rfl rfl rfl rfl rfl rfl ⟨rfl, rfl, rfl, rfl, rfl⟩ rfl rfl rfl rfl rfl (by kernel_rfl) Try.func6 (by kernel_rfl)
    (of_decide_eq_true (by kernel_rfl)) (by unfold Func.isWrapper; first | (rw [if_pos (by decide +kernel)]; kernel_rfl) | (rw [if_neg (by decide +kernel)]; exact ⟨rfl, rfl⟩))
    (fun os started H enc _ => straight_lifted os started H enc)
#print axioms straight_holds
end Go.Proofs.Ytdoodnbobpijoaa

