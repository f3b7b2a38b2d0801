import Derived.Test.YtdoodnbobpijoaaBunN
import Derived.Test.YtdoodnbobpijoaaBunH
namespace Go.Proofs.Ytdoodnbobpijoaa
open Go.RowKit

/-- Is a best as good as another one? -/
def leastB (a b : Bs) : Bool := decide (b.sq < a.sq) || (a.sq == b.sq && decide (a.mt ≤ b.mt))
set_option maxHeartbeats 1000000 in
theorem kleast (a b : Bs) (w : World) :
    Calls Try.prog 30 #[.agg (bsA a), .agg (bsA b)] w fun e w' => e = .returned (.bool (leastB a b)) ∧ Below w.heap.size w w' := by
  obtain ⟨p, q⟩ := a
  obtain ⟨r, s⟩ := b
  have b0 : Hid (Below w.heap.size w ((w.alloc (.cells #[.int .i64 p, .int .i64 q] 50)).alloc (.cells #[.int .i64 r, .int .i64 s] 50))) := ((Below.refl _ _).alloc (Nat.le_refl _) _).alloc (by simp) _
  show Calls Try.prog 30 #[.agg #[.int .i64 p, .int .i64 q], .agg #[.int .i64 r, .int .i64 s]] w fun e w' => e = .returned (.bool (decide (r < p) || (p == r && decide (q ≤ s)))) ∧ Below w.heap.size w w'
  by_cases h1 : r < p
  · have e1 : decide (r < p) = true := decide_eq_true h1
    rw [e1, Bool.true_or]
    go_enter Try.func30, Try.ntmps30
    go_wp2
    go_ret
    exact ⟨rfl, b0.out⟩
  · have e1 : decide (r < p) = false := decide_eq_false h1
    rw [e1, Bool.false_or]
    by_cases h2 : p = r
    · subst h2
      rw [beq_self_eq_true, Bool.true_and]
      by_cases h3 : q ≤ s
      · rw [decide_eq_true h3]
        go_enter Try.func30, Try.ntmps30
        go_wp2
        go_ret
        exact ⟨rfl, b0.out⟩
      · rw [decide_eq_false h3]
        go_enter Try.func30, Try.ntmps30
        go_wp2
        go_ret
        exact ⟨rfl, b0.out⟩
    · have e2 : (p == r) = false := by rw [beq_eq_false_iff_ne]; exact h2
      rw [e2, Bool.false_and]
      go_enter Try.func30, Try.ntmps30
      go_wp2
      go_ret
      exact ⟨rfl, b0.out⟩
end Go.Proofs.Ytdoodnbobpijoaa

namespace Go.Proofs.Ytdoodnbobpijoaa
open Go.RowKit

/-- A number of Go. -/
def Fits (k : Int) : Prop := -9223372036854775808 ≤ k ∧ k ≤ 9223372036854775807
/-- What the walk of a step wants. -/
theorem does_head {w : World} {B : Nat} {ρ : Nat → Part} {i bk bx bs : Nat} {A : Nt} {V : Nat → Nat → Value} (h : KI w B ρ i bk bx bs A V) (hn : ∀ k, w.heap.size ≤ k → ρ k = (0, 0)) (hB : B ≤ w.heap.size) (k a b c : Int) (fk : Fits k) (fa : Fits a) (fb : Fits b) (fc : Fits c) :
    ∃ kk x y, DoH w B ρ i bk bx bs A V k a b c kk x y ∧ (0 ≤ kk ∧ kk < 20) ∧ doesN A ⟨k, a, b, c⟩ = stepN A kk (x : Nat) (y : Nat) c := by
  have b0 := WS_below w k a b c
  have n0 : (0 : Int) < (A.n : Int) := by have := h.g.n2; omega
  have pa := pickI_ok a A.n n0
  have pb := pickI_ok b A.n n0
  have ea : pickI a A.n = ((pickI a A.n).toNat : Int) := by omega
  have eb : pickI b A.n = ((pickI b A.n).toNat : Int) := by omega
  refine ⟨pickI k 20, (pickI a A.n).toNat, (pickI b A.n).toNat, ⟨h.below b0, fun j hj => hn j (Nat.le_trans b0.size hj), hn, Nat.le_trans hB b0.size, rfl, ea, eb, by omega, by omega, fk, fa, fb, fc⟩, pickI_ok k 20 (by omega), ?_⟩
  unfold doesN
  rw [← ea, ← eb]
end Go.Proofs.Ytdoodnbobpijoaa

namespace Go.Proofs.Ytdoodnbobpijoaa
open Go.ChangeShapes Go.WideShapes Go.ChangeAt Go.RowKit Go.Deep

instance : Inhabited St := ⟨⟨0, 0, 0, 0⟩⟩
theorem Try.cellsStep : Try.prog.cellsOf 31 = 4 := by kernel_rfl
theorem list_four {α : Type} : ∀ (l : List α), l.length = 4 → ∃ a b c d, l = [a, b, c, d]
  | [a, b, c, d], _ => ⟨a, b, c, d, rfl⟩
  | [], h => by simp at h
  | [_], h => by simp at h
  | [_, _], h => by simp at h
  | [_, _, _], h => by simp at h
  | _ :: _ :: _ :: _ :: _ :: _, h => by simp at h
theorem fieldsStep : ∃ fs : Array Field, Try.prog.underlying 31 = some (.struct fs) ∧ fs.size = 4 ∧ ∀ i, i < 4 → ∃ f, fs[i]? = some f ∧ f.type = 3 ∧ f.offset = i := by
  refine ⟨_, Try.underlying31, rfl, fun i hi => ?_⟩
  rcases i with _ | _ | _ | _ | i
  · exact ⟨_, rfl, rfl, rfl⟩
  · exact ⟨_, rfl, rfl, rfl⟩
  · exact ⟨_, rfl, rfl, rfl⟩
  · exact ⟨_, rfl, rfl, rfl⟩
  · omega
/-- A raw step, opened: four numbers. -/
theorem open_step {H : Type} {enc : TypeId × Value → H} {w : World} {base : Nat} {spare : Nat → Bool} {held : Bool} {n : Nat} {cs : List Value} {x : DataW H × List MemPlace}
    (h : DataW.trod enc Try.prog w base spare held n 31 cs = some x) : ∃ s : St, cs = [.int .i64 s.k, .int .i64 s.a, .int .i64 s.b, .int .i64 s.c] ∧ Fits s.k ∧ Fits s.a ∧ Fits s.b ∧ Fits s.c := by
  obtain ⟨fs, hu, hsz, hfs⟩ := fieldsStep
  obtain ⟨xs, m, _, _, hl, hx, hf⟩ := DataW.trod_struct hu h
  rw [Try.cellsStep] at hl
  obtain ⟨c0, c1, c2, c3, rfl⟩ := list_four cs hl
  have g : ∀ i, i < 4 → ∃ v : Int, (([c0, c1, c2, c3] : List Value).drop i).take 1 = [.int .i64 v] ∧ Fits v := fun i hi => by
    obtain ⟨f, h1, h2, h3⟩ := hfs i hi
    have := hf i f h1
    rw [h2, h3, Try.cellsI, List.getElem?_eq_getElem (by omega)] at this
    obtain ⟨v, e, _, wv⟩ := DataW.trod_int Try.underlying3 this
    exact ⟨v, e, bounds_i64 wv⟩
  obtain ⟨k, e0, w0⟩ := g 0 (by omega)
  obtain ⟨a, e1, w1⟩ := g 1 (by omega)
  obtain ⟨b, e2, w2⟩ := g 2 (by omega)
  obtain ⟨c, e3, w3⟩ := g 3 (by omega)
  simp at e0 e1 e2 e3
  subst e0 e1 e2 e3
  exact ⟨⟨k, a, b, c⟩, rfl, w0, w1, w2, w3⟩
/-- Raw steps, as they lie in memory. -/
structure Ste (w : World) (sb so len : Nat) (f : Nat → St) : Prop where
  at_ : ∀ i, i < len → w.cell? ⟨sb, so + i * 4, none⟩ = some (.int .i64 (f i).k) ∧ w.cell? ⟨sb, so + i * 4 + 1, none⟩ = some (.int .i64 (f i).a) ∧ w.cell? ⟨sb, so + i * 4 + 2, none⟩ = some (.int .i64 (f i).b) ∧ w.cell? ⟨sb, so + i * 4 + 3, none⟩ = some (.int .i64 (f i).c)
  fits : ∀ i, i < len → Fits (f i).k ∧ Fits (f i).a ∧ Fits (f i).b ∧ Fits (f i).c
theorem Ste.of {w w' : World} {sb so len : Nat} {f : Nat → St} (h : Ste w sb so len f) (hb : w'.heap[sb]? = w.heap[sb]?) : Ste w' sb so len f :=
  ⟨fun i hi => by
    have hc : ∀ o, w'.cell? ⟨sb, o, none⟩ = w.cell? ⟨sb, o, none⟩ := fun o => World.cell?_of_block (w := w) hb
    rw [hc, hc, hc, hc]; exact h.at_ i hi, h.fits⟩
theorem open_steps {H : Type} {enc : TypeId × Value → H} {W : World} {spare : Nat → Bool} {held : Bool} {a0 : Option Addr} {len cap : Nat} {d0 : DataW H} {p : List MemPlace} (h0 : ∃ n, DataW.trod enc Try.prog W 0 spare held n 26 (Value.slice a0 len cap).cells.toList = some (d0, p)) :
    len = 0 ∨ ∃ ab ao, a0 = some ⟨ab, ao, none⟩ ∧ ∃ f, Ste W ab ao len f := by
  obtain ⟨fuel, hf⟩ := h0
  rcases open_slice Try.underlying26 hf with ⟨hcs, _⟩ | ⟨a, l, c, m, n, D, Pq, hcs, _, hl, hm, hmm, hx, hel⟩
  · simp [Value.cells] at hcs
    exact .inl hcs.2.1
  · simp [Value.cells] at hcs
    obtain ⟨rfl, rfl, rfl⟩ := hcs
    by_cases hl0 : len = 0
    · exact .inl hl0
    · refine .inr ?_
      obtain ⟨ab, ao, asp⟩ := a
      rw [Try.cellsStep] at hel
      have hlm : len ≤ m := by
        have hq : m = if spare ab = true then cap else len := by simpa using hmm
        rw [hq]; split <;> omega
      have hops : ∀ i, i < len → ∃ t : St, (∀ j, j < 4 → W.cell? (((⟨ab, ao, asp⟩ : Addr).add (i * 4)).add j) = ([.int .i64 t.k, .int .i64 t.a, .int .i64 t.b, .int .i64 t.c] : List Value)[j]?) ∧ Fits t.k ∧ Fits t.a ∧ Fits t.b ∧ Fits t.c := fun i hi => by
        obtain ⟨cs', h1, h2⟩ := hel i (by omega)
        obtain ⟨s, rfl, ws⟩ := open_step h2
        exact ⟨s, (World.cells?_some h1).2.2, ws⟩
      obtain ⟨F, hF⟩ := choose_lt hops
      have hsp : asp = none := by
        have := (hF 0 (by omega)).1 0 (by omega)
        have := World.cell?_spot (this.trans rfl)
        simpa [Addr.add] using this
      subst hsp
      have hc : ∀ i, i < len → ∀ j, j < 4 → W.cell? ⟨ab, ao + i * 4 + j, none⟩ = ([.int .i64 (F i).k, .int .i64 (F i).a, .int .i64 (F i).b, .int .i64 (F i).c] : List Value)[j]? := fun i hi j hj => by
        have := (hF i hi).1 j hj
        rw [Addr.add_mid, Addr.add_mid] at this
        exact this
      exact ⟨ab, ao, rfl, F, fun i hi => ⟨(hc i hi 0 (by omega)).trans rfl, (hc i hi 1 (by omega)).trans rfl, (hc i hi 2 (by omega)).trans rfl, (hc i hi 3 (by omega)).trans rfl⟩, fun i hi => (hF i hi).2⟩
end Go.Proofs.Ytdoodnbobpijoaa

namespace Go.Proofs.Ytdoodnbobpijoaa
open Go.ChangeShapes Go.WideShapes Go.ChangeAt Go.RowKit Go.Deep

/-! ### A script of raw steps, played -/
def playF (A : Nt) (f : Nat → St) : Nat → Nt
  | 0 => A
  | k + 1 => doesN (playF A f k) (f k)
theorem playF_tame {A : Nt} {s : Int} (h : Tame A s) (f : Nat → St) : ∀ k : Nat, Tame (playF A f k) (s + k)
  | 0 => by simpa [playF] using h
  | k + 1 => by
    have := (playF_tame h f k).does (f k)
    rw [show s + ((k + 1 : Nat) : Int) = s + (k : Int) + 1 by omega]
    exact this
theorem playF_n {A : Nt} (g : Good A) (f : Nat → St) : ∀ k, Good (playF A f k) ∧ (playF A f k).n = A.n
  | 0 => ⟨g, rfl⟩
  | k + 1 => by
    have ih := playF_n g f k
    have s := Steps.does ih.1 (f k)
    exact ⟨s.good, s.n.trans ih.2⟩
section
variable {w : World} {B : Nat} {ρ : Nat → Part} {i bk bx bs : Nat} {A : Nt} {V : Nat → Nat → Value}
theorem kdoes (h : KI w B ρ i bk bx bs A V) (hn : ∀ k, w.heap.size ≤ k → ρ k = (0, 0)) (hB : B ≤ w.heap.size) (s : St) (fs : Fits s.k ∧ Fits s.a ∧ Fits s.b ∧ Fits s.c) :
    Calls Try.prog 15 #[.pointer (some ⟨bk, 0, none⟩), .agg #[.int .i64 s.k, .int .i64 s.a, .int .i64 s.b, .int .i64 s.c]] w fun e w' => e = .returned (.tuple #[]) ∧ PostK B i ρ bk bx bs (doesN A s) w w' := by
  obtain ⟨kk, x, y, h1, h2, h3⟩ := does_head h hn hB s.k s.a s.b s.c fs.1 fs.2.1 fs.2.2.1 fs.2.2.2
  have e : doesN A s = stepN A kk (x : Nat) (y : Nat) s.c := h3
  rw [e]
  exact does_some h1 h2.2
end
/-- No block is a net's: what was there stays. -/
theorem Aft.all {i : Nat} {ρ' : Nat → Part} {w w' : World} (h : Aft i (fun _ => (0, 0)) ρ' w w') : Below w.heap.size w w' :=
  ⟨h.only.os, h.only.tape, h.only.output, h.only.size, fun k hk => h.only.block k hk (by simp)⟩
/-- The net at the head of a script, with its number of routers. -/
theorem size_pick (size : Int) : ∃ n : Nat, 2 + pickI size 4 = (n : Int) ∧ 2 ≤ n ∧ n ≤ 5 := by
  have hp := pickI_ok size 4 (by omega)
  exact ⟨(2 + pickI size 4).toNat, by omega, by omega, by omega⟩
theorem who_pick (who : Int) (n : Nat) (h : 0 < n) : ∃ r : Nat, pickI who n = (r : Int) ∧ r < n := by
  have hp := pickI_ok who n (by omega)
  exact ⟨(pickI who n).toNat, by omega, by omega⟩
/-- The script: nothing, or raw steps that lie in memory. -/
def Scp (w : World) (sa : Option Addr) (len : Nat) (f : Nat → St) : Prop := len = 0 ∨ ∃ sb so, sa = some ⟨sb, so, none⟩ ∧ sb < w.heap.size ∧ Ste w sb so len f
theorem Scp.at {w w' : World} {sa : Option Addr} {len k : Nat} {f : Nat → St} (h : Scp w sa len f) (hb : Below w.heap.size w w') (hk : k < len) : ∃ sb so, sa = some ⟨sb, so, none⟩ ∧ (w'.cell? ⟨sb, so + k * 4, none⟩ = some (.int .i64 (f k).k) ∧ w'.cell? ⟨sb, so + k * 4 + 1, none⟩ = some (.int .i64 (f k).a) ∧ w'.cell? ⟨sb, so + k * 4 + 2, none⟩ = some (.int .i64 (f k).b) ∧ w'.cell? ⟨sb, so + k * 4 + 3, none⟩ = some (.int .i64 (f k).c)) ∧ (Fits (f k).k ∧ Fits (f k).a ∧ Fits (f k).b ∧ Fits (f k).c) := by
  rcases h with h | ⟨sb, so, e, hsb, h⟩
  · omega
  · exact ⟨sb, so, e, (h.of (hb.block sb hsb)).at_ k hk, h.fits k hk⟩
theorem open_int {H : Type} {enc : TypeId × Value → H} {W : World} {spare : Nat → Bool} {held : Bool} {n : Int} {d : DataW H} {p : List MemPlace} (h : DataW.Trod enc Try.prog W 0 spare held 3 (.int .i64 n) d p) : Fits n := by
  obtain ⟨m, hm⟩ := h
  obtain ⟨x, e, _, wf⟩ := DataW.trod_int Try.underlying3 hm
  have hx : n = x := by simpa [Value.cells] using e
  rw [hx]; exact bounds_i64 wf
theorem open_scp {H : Type} {enc : TypeId × Value → H} {W : World} {spare : Nat → Bool} {held : Bool} {a0 : Option Addr} {len cap : Nat} {d0 : DataW H} {p : List MemPlace} (h0 : ∃ n, DataW.trod enc Try.prog W 0 spare held n 26 (Value.slice a0 len cap).cells.toList = some (d0, p)) : ∃ f, Scp W a0 len f := by
  by_cases hl : len = 0
  · exact ⟨fun _ => default, .inl hl⟩
  · rcases open_steps h0 with h | ⟨ab, ao, e, f, hf⟩
    · exact absurd h hl
    · exact ⟨f, .inr ⟨ab, ao, e, lt_of_cell (hf.at_ 0 (by omega)).1, hf⟩⟩
end Go.Proofs.Ytdoodnbobpijoaa

namespace Go.Proofs.Ytdoodnbobpijoaa
open Go.RowKit

/-! ### What the rows' loops want of the pure half -/
theorem Tame.restart {A : Nt} {s : Int} (h : Tame A s) (r : Nat) : Tame (restartC A r) (s + 1) := by
  have := h.step 18 r 0 0
  simpa [stepN] using this
theorem tick_goes {A : Nt} {r : Nat} (h : Good A ∧ r < A.n ∧ (A.rs r).dn = false) (j : Nat) : upE (tickTo A r j) r = 0 ∧ tickC (tickTo A r j) r = tickTo A r (j + 1) := by
  obtain ⟨g, hr, hd⟩ := h
  obtain ⟨t1, t2, t3, t4, t5⟩ := tickTo_ok g r j
  have hu : upE (tickTo A r j) r = 0 := upE_nat (by rw [t2]; exact hr) (by rw [t5]; exact hd)
  refine ⟨hu, ?_⟩
  unfold tickC
  rw [if_pos hu, Int.toNat_natCast]; rfl
theorem tickTo_sq (A : Nt) (r j : Nat) : ∀ k, ((tickTo A r k).rs j).t.sq = (A.rs j).t.sq
  | 0 => rfl
  | k + 1 => by
    show ((tickN (tickTo A r k) r).rs j).t.sq = _
    by_cases e : j = r
    · subst e; rw [tickN_same]; exact tickTo_sq A j j k
    · rw [tickN_other _ _ _ e]; exact tickTo_sq A r j k
theorem tickTo_tame {A : Nt} {s : Int} (h : Tame A s) (r k : Nat) : Tame (tickTo A r k) s := by
  obtain ⟨t1, t2, t3, t4, t5⟩ := tickTo_ok h.good r k
  exact ⟨t1, fun j hj => by rw [tickTo_sq]; exact h.sq j (by rw [← t2]; exact hj), fun a b => by rw [t3]; exact h.c5 a b⟩
theorem aged_eq {A : Nt} {r n : Nat} (hA : A.n = n) (h3 : (tickTo A r 3).n = n) : agedN A r = lastTo (dumpTill (tickTo (allN (restTo (tickTo A r 3) n)) r 3) r) r n := by
  unfold agedN wokenN
  rw [hA, h3]
theorem aged_facts {A : Nt} {s : Int} {r n : Nat} (h : Tame A s) (hA : A.n = n) (hr : r < n) : (∀ j, j < n → ((agedN A r).rs j).dn = false) ∧ (∀ d, (((agedN A r).rs r).t.ro d).nx < 0) ∧ (∀ y d, y < n → y ≠ r → d ≠ r → (((agedN A r).rs y).t.ro d).nx ≠ r) ∧ (agedN A r).n = n ∧ Good (agedN A r) := by
  subst hA
  obtain ⟨a1, a2, a3, a4, a5⟩ := aged h r hr
  exact ⟨a3, a4, a5, a2, a1⟩
theorem woken_at {M : Nt} {s : Int} {n : Nat} (h : Tame M s) (hn : M.n = n) : Calm (allN (restTo M n)) ∧ (allN (restTo M n)).n = n := by
  subst hn
  obtain ⟨w1, w2, _⟩ := woken_ok h
  exact ⟨w1, w2⟩
theorem last_ok {D : Nt} {r n : Nat} (g : Good D) (hn : D.n = n) : ∀ b, Good (lastTo D r b) ∧ (lastTo D r b).n = n
  | 0 => ⟨g, hn⟩
  | b + 1 => by
    obtain ⟨i1, i2⟩ := last_ok (r := r) g hn b
    have s := Steps.deliver i1 (r : Int) (b : Int) (((lastTo D r b).wa r b).length - 1 : Int)
    exact ⟨s.good, s.n.trans i2⟩
theorem last_zero (D : Nt) (r b : Nat) (h : waitN (lastTo D r b) r b = 0) : lastTo D r (b + 1) = lastTo D r b := by
  show deliverC (lastTo D r b) r (b : Nat) (((lastTo D r b).wa r b).length - 1 : Int) = _
  generalize lastTo D r b = M at *
  unfold deliverC
  rw [if_neg]
  unfold msgE
  unfold waitN at h
  by_cases hp : pairE M.n r b = 0
  · rw [if_pos hp, Int.toNat_natCast, Int.toNat_natCast] at h
    rw [if_neg (by simpa using hp), if_pos (.inl (by omega))]
    omega
  · rw [if_pos hp]; exact hp
theorem last_some (D : Nt) (r b : Nat) (h : waitN (lastTo D r b) r b ≠ 0) : deliverC (lastTo D r b) r b (waitN (lastTo D r b) r b - 1) = lastTo D r (b + 1) := by
  show _ = deliverC (lastTo D r b) r (b : Nat) (((lastTo D r b).wa r b).length - 1 : Int)
  generalize lastTo D r b = M at *
  have e : waitN M r b = ((M.wa r b).length : Nat) := by
    unfold waitN at h ⊢
    by_cases hp : pairE M.n r b = 0
    · rw [if_pos hp, Int.toNat_natCast, Int.toNat_natCast]
    · rw [if_neg hp] at h; exact absurd rfl h
  rw [e]
section
variable {w : World} {B : Nat} {ρ : Nat → Part} {i bk bx bs : Nat} {A : Nt} {C : Nat → Nat → Int} {V : Nat → Nat → Value}
/-- Any trace of routers that there are. -/
theorem some_trace (h : KN w B ρ i bk bx bs A C V) (r d : Nat) (hr : r < A.n) (hd : d < A.n) :
    Calls Try.prog 19 #[.pointer (some ⟨bx, 0, none⟩), .int .i64 r, .int .i64 d] w fun e w' => ∃ nv, e = .returned (.tuple #[nv, .int .i64 0]) ∧ w'.ownsRow w.heap.size 3 1 nv (trace A r d).length (ints (trace A r d)) ∧ Below w.heap.size w w' := by
  have hb : isB A.n (r : Int) = true ∧ isB A.n (d : Int) = true := ⟨isB_nat hr, isB_nat hd⟩
  have := ktrace h r d
  have hE : traceE A r d = 0 := by unfold traceE; rw [if_pos hb]
  have hT : traceL A r d = trace A r d := by unfold traceL; rw [if_pos hb]; rfl
  rw [hE, hT] at this
  exact this
theorem lone_trace (h : KN w B ρ i bk bx bs A C V) (r d : Nat) (hr : r < A.n) (hd : d < A.n) (hx : ((A.rs r).t.ro d).nx < 0) :
    Calls Try.prog 19 #[.pointer (some ⟨bx, 0, none⟩), .int .i64 r, .int .i64 d] w fun e w' => ∃ ad cap, e = .returned (.tuple #[.slice ad 1 cap, .int .i64 0]) ∧ Below w.heap.size w w' := by
  refine (some_trace h r d hr hd).mono ?_
  rintro e w' ⟨nv, h1, h2, h3⟩
  have hT : trace A r d = [r] := trF_end (.inr (.inr hx)) _
  rw [hT] at h2
  obtain ⟨ad, cap, hv⟩ := row_form h2
  exact ⟨ad, cap, by rw [h1, hv]; rfl, h3⟩
theorem asks_up {A : Nt} {y d : Nat} (hy : y < A.n) (hd : d < A.n) (hyd : y ≠ d) (hu : (A.rs y).dn = false) : asksE A y d = 0 := by
  unfold asksE
  rw [if_neg (by rw [pairE_nat hy hd hyd]; simp), Int.toNat_natCast, hu]; rfl
theorem route_by (h : KN w B ρ i bk bx bs A C V) (y d r : Nat) (hy : y < A.n) (hd : d < A.n) (hyd : y ≠ d) (hu : (A.rs y).dn = false) (hx : ((A.rs y).t.ro d).nx ≠ r) :
    Calls Try.prog 28 #[.pointer (some ⟨bx, 0, none⟩), .int .i64 y, .int .i64 d] w fun e w' => ∃ x1 x2 x3 x4 x5, e = .returned (.tuple #[.agg #[.int .i64 x1, .int .i64 x2, .int .i64 x3, .int .i64 x4, .int .i64 x5], .int .i64 0]) ∧ x1 ≠ (r : Int) ∧ Below w.heap.size w w' := by
  refine (kroute h y d).mono ?_
  rintro e w' ⟨h1, h2⟩
  have ha := asks_up hy hd hyd hu
  have hR : routeN A y d = (A.rs y).t.ro d := by unfold routeN; rw [if_pos ha]; rfl
  rw [ha, hR] at h1
  exact ⟨_, _, _, _, _, h1, hx, h2⟩
end
end Go.Proofs.Ytdoodnbobpijoaa

