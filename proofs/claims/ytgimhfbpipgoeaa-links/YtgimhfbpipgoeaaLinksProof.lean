import Derived.Test.YtgimhfbpipgoeaaRows
import Derived.Test.YtgimhfbpipgoeaaHarM
import Derived.ProofKit
import Derived.OpenShut
import Derived.ChangeOld
import Derived.Below
import Derived.SizedLaws
import Derived.Deep.Slices
namespace Go.Proofs.Ytgimhfbpipgoeaa
open Go.ChangeShapes Go.WideShapes Go.ChangeAt Go.RowKit Go.Deep

theorem Try.own : ownKnob Try.prog.godebug = none := by kernel_rfl
theorem Try.laidOut : laidOutB Try.prog = true := by kernel_rfl
theorem Try.cells36 : Try.prog.cellsOf 36 = 5 := by kernel_rfl
theorem Try.cells3 : Try.prog.cellsOf 3 = 1 := by kernel_rfl
theorem Try.bytes36 : Try.prog.bytesOf 36 = 40 := by kernel_rfl

theorem list_five {α : Type} : ∀ (l : List α), l.length = 5 → ∃ a b c d e, l = [a, b, c, d, e]
  | [a, b, c, d, e], _ => ⟨a, b, c, d, e, rfl⟩
  | [], h => by simp at h
  | [_], h => by simp at h
  | [_, _], h => by simp at h
  | [_, _, _], h => by simp at h
  | [_, _, _, _], h => by simp at h
  | _ :: _ :: _ :: _ :: _ :: _ :: _, h => by simp at h
theorem fields36 : ∃ fs : Array Field, Try.prog.underlying 36 = some (.struct fs) ∧ fs.size = 5 ∧ ∀ i, i < 5 → ∃ f, fs[i]? = some f ∧ f.type = 3 ∧ f.offset = i := by
  refine ⟨_, Try.underlying36, rfl, fun i hi => ?_⟩
  rcases i with _ | _ | _ | _ | _ | i
  · exact ⟨_, rfl, rfl, rfl⟩
  · exact ⟨_, rfl, rfl, rfl⟩
  · exact ⟨_, rfl, rfl, rfl⟩
  · exact ⟨_, rfl, rfl, rfl⟩
  · exact ⟨_, rfl, rfl, rfl⟩
  · omega
/-- A step of a script, opened: five numbers. -/
theorem open_op {H : Type} {enc : TypeId × Value → H} {w : World} {base : Nat} {spare : Nat → Bool} {held : Bool} {n : Nat} {cs : List Value} {x : DataW H × List MemPlace}
    (h : DataW.trod enc Try.prog w base spare held n 36 cs = some x) : ∃ k u a b c : Int, cs = [.int .i64 k, .int .i64 u, .int .i64 a, .int .i64 b, .int .i64 c] ∧ (Lit.int .i64 u).wf = true := by
  obtain ⟨fs, hu, hsz, hfs⟩ := fields36
  obtain ⟨xs, m, _, _, hl, hx, hf⟩ := DataW.trod_struct hu h
  rw [Try.cells36] at hl
  obtain ⟨c0, c1, c2, c3, c4, rfl⟩ := list_five cs hl
  have g : ∀ i, i < 5 → ∃ v : Int, (([c0, c1, c2, c3, c4] : List Value).drop i).take 1 = [.int .i64 v] ∧ (Lit.int .i64 v).wf = true := fun i hi => by
    obtain ⟨f, h1, h2, h3⟩ := hfs i hi
    have := hf i f h1
    rw [h2, h3, Try.cells3, List.getElem?_eq_getElem (by omega)] at this
    obtain ⟨v, e, _, wv⟩ := DataW.trod_int Try.underlying3 this
    exact ⟨v, e, wv⟩
  obtain ⟨k, e0, _⟩ := g 0 (by omega)
  obtain ⟨u, e1, wu⟩ := g 1 (by omega)
  obtain ⟨a, e2, _⟩ := g 2 (by omega)
  obtain ⟨b, e3, _⟩ := g 3 (by omega)
  obtain ⟨c, e4, _⟩ := g 4 (by omega)
  simp at e0 e1 e2 e3 e4
  subst e0 e1 e2 e3 e4
  exact ⟨k, u, a, b, c, rfl, wu⟩

set_option maxRecDepth 100000 in
theorem links_lifted (os : Os) (started : os.Started) (H : Type) (enc : TypeId × Value → H) :
    ReturnsInHanded {} Try.checked os 3 .any (Rows.linksSpec.pre6 enc Try.prog Try.f3 Rows.linksRow.domain false) (Rows.linksSpec.post enc Try.prog Try.f3 false true false false) := by
  refine returnsInHanded_of_change_sized (C := Try.checked) Try.own started (by kernel_rfl) Try.func3
    (ChangeSpec.witness6 (enc := enc) (C := Try.checked) false ⟨#[], #[.slice none 0 0], []⟩ 8 (by kernel_rfl) (by kernel_rfl) (by kernel_rfl) (by kernel_rfl)) ?_
  intro W base args ds gs before hval0 hW hcnd hsz0 _
  have hval : ∀ (j : Nat) t v, Try.f3.params[j]? = some t → args[j]? = some v → Value.okWide Try.prog W .any base t v := hval0
  have hsz : (DataW.weightsEach Try.prog (Try.f3.params.toList ++ Rows.linksSpec.plain.varTypes Try.prog) (ds ++ gs)).all (· ≤ reachBytes) = true := hsz0
  have hW' := hW
  obtain ⟨p, q, hA0, hV, rfl, hfz, hnd⟩ := hW
  have hA : DataW.TrodAll enc Try.prog W 0 (fun _ => true) true Try.f3.params.toList args.toList ds p := hA0
  rw [Try.params3] at hA hval hsz
  obtain ⟨v0, d0, rfl, rfl, h0⟩ := trodAll_one hA
  obtain ⟨rfl, rfl⟩ := trodVars_none hV
  obtain ⟨a0, len, cap, rfl⟩ := okWide_slice Try.underlying22 (hval 0 22 v0 rfl rfl)
  have k0 := h0
  have lt0 : ∀ x ∈ p, x.block < W.heap.size := by obtain ⟨m, hm⟩ := k0; exact DataW.trod_lt m _ _ _ hm
  clear hA0 hval0 hsz0
  have fin : Calls Try.prog 3 #[.slice a0 len cap] W fun e W' => e = .returned (.bool true) ∧ Below W.heap.size W W' := by
    obtain ⟨fuel, hf⟩ := h0
    rcases open_slice Try.underlying22 hf with ⟨hcs, _⟩ | ⟨a, l, c, m, n, D, Pq, hcs, _, hl, hm, hmm, hx, hel⟩
    · simp [Value.cells] at hcs
      obtain ⟨rfl, rfl, rfl⟩ := hcs
      exact links_nil 0 none W
    · simp [Value.cells] at hcs
      obtain ⟨rfl, rfl, rfl⟩ := hcs
      by_cases hl0 : len = 0
      · subst hl0
        exact links_nil cap _ W
      · obtain ⟨ab, ao, asp⟩ := a
        have hm' : m = cap := by simpa using hmm
        subst hm'
        rw [Try.cells36] at hel
        have hops : ∀ i, i < len → ∃ t : Int × Int × Int × Int × Int, (∀ j, j < 5 → W.cell? (((⟨ab, ao, asp⟩ : Addr).add (i * 5)).add j) = ([.int .i64 t.1, .int .i64 t.2.1, .int .i64 t.2.2.1, .int .i64 t.2.2.2.1, .int .i64 t.2.2.2.2] : List Value)[j]?) ∧ -9223372036854775808 ≤ t.2.1 ∧ t.2.1 ≤ 9223372036854775807 := fun i hi => by
          obtain ⟨cs', h1, h2⟩ := hel i (by omega)
          obtain ⟨k, u, aa, bb, cc, rfl, wu⟩ := open_op h2
          have hb := bounds_i64 wu
          exact ⟨(k, u, aa, bb, cc), (World.cells?_some h1).2.2, hb.1, hb.2⟩
        obtain ⟨F, hF⟩ := choose_lt hops
        have hsp : asp = none := by
          have := (hF 0 (by omega)).1 0 (by omega)
          have := World.cell?_spot (this.trans rfl)
          simpa [Addr.add] using this
        subst hsp
        have hc : ∀ i, i < len → ∀ j, j < 5 → W.cell? ⟨ab, ao + i * 5 + j, none⟩ = ([.int .i64 (F i).1, .int .i64 (F i).2.1, .int .i64 (F i).2.2.1, .int .i64 (F i).2.2.2.1, .int .i64 (F i).2.2.2.2] : List Value)[j]? := fun i hi j hj => by
          have := (hF i hi).1 j hj
          rw [Addr.add_mid, Addr.add_mid] at this
          exact this
        have hS : Scr W ab ao len (fun i => (F i).1) (fun i => (F i).2.1) (fun i => (F i).2.2.1) (fun i => (F i).2.2.2.1) (fun i => (F i).2.2.2.2) :=
          ⟨fun i hi => (hc i hi 0 (by omega)).trans rfl, fun i hi => (hc i hi 1 (by omega)).trans rfl, fun i hi => (hc i hi 2 (by omega)).trans rfl, fun i hi => (hc i hi 3 (by omega)).trans rfl, fun i hi => (hc i hi 4 (by omega)).trans rfl, fun i hi => (hF i hi).2⟩
        have hw : d0 = .slice ((List.range len).map D) ((List.range (m - len)).map fun j => D (len + j)) := congrArg Prod.fst hx
        have hbound := sized_slice hsz (j := 0) (t := 22) (e := 36) (elems := (List.range len).map D) (spare := (List.range (m - len)).map fun j => D (len + j)) rfl (by rw [hw]; rfl) Try.underlying22
        rw [Try.bytes36] at hbound
        simp only [List.length_map, List.length_range, reachBytes] at hbound
        exact links_some ab ao len m _ _ _ _ _ W (lt_of_cell (hS.k 0 (by omega))) hS (by omega) (by omega)
  refine fin.mono fun e W' ⟨he, bel⟩ => ?_
  subst he
  exact ⟨_, rfl, _, _, _, [], _, [], hW', trodAll_mk1 (shut_bool Try.underlying4 _), trodAll_mk1 (Below.trod Try.laidOut (by kernel_rfl) (of_decide_eq_true (by kernel_rfl)) k0 bel lt0), rfl, bel.frame _, fun h => by cases h⟩

theorem links_holds : Rows.LinksSaid :=
  OpenClaim.holds_of_wide 3 Try.f3 rfl rfl rfl rfl rfl rfl rfl ⟨rfl, rfl, rfl, rfl, rfl⟩ rfl rfl rfl rfl rfl (by kernel_rfl) Try.func3 (by kernel_rfl)
    (of_decide_eq_true (by kernel_rfl)) (by unfold Func.isWrapper; first | (rw [if_pos (by decide +kernel)]; kernel_rfl) | (rw [if_neg (by decide +kernel)]; exact ⟨rfl, rfl⟩))
    (fun os started H enc _ => links_lifted os started H enc)
#print axioms links_holds
end Go.Proofs.Ytgimhfbpipgoeaa
