import Derived.Test.YtdoodnbobpijoaaProJ
import Derived.Test.YtdoodnbobpijoaaWk
import Derived.Test.YtdoodnbobpijoaaProF
import Derived.Test.YtdoodnbobpijoaaRefD
namespace Go.Proofs.Ytdoodnbobpijoaa
open Go.RowKit

/-! ### What was changed, and how to take it back -/
inductive En where
  | ro (d : Nat) (x : Rt)
  | be (d : Nat) (x : Bs)
def undoE : En → Tb → Tb
  | .ro d x, T => setRo T d x
  | .be d x, T => setBe T d x
def back : List En → Tb → Tb
  | [], T => T
  | e :: L, T => undoE e (back L T)
theorem back_snoc (L : List En) (e : En) (T : Tb) : back (L ++ [e]) T = back L (undoE e T) := by
  induction L with
  | nil => rfl
  | cons a L ih => show undoE a (back (L ++ [e]) T) = undoE a (back L (undoE e T)); rw [ih]
theorem back_drop (L : List En) (k : Nat) (e : En) (h : L[k]? = some e) (T : Tb) : back (L.drop k) T = undoE e (back (L.drop (k + 1)) T) := by
  obtain ⟨hlt, he⟩ := List.getElem?_eq_some_iff.1 h
  rw [List.drop_eq_getElem_cons hlt, he]; rfl
theorem setBe_twice (T : Tb) (d : Nat) (x y : Bs) : setBe (setBe T d x) d y = setBe T d y := by
  unfold setBe
  congr 1
  funext j
  by_cases e : j = d
  · rw [if_pos e, if_pos e]
  · rw [if_neg e, if_neg e]
    show (if j = d then x else T.be j) = T.be j
    rw [if_neg e]
theorem setBe_self (T : Tb) (d : Nat) : setBe T d (T.be d) = T := by
  have : (fun j => if j = d then T.be d else T.be j) = T.be := by
    funext j
    by_cases e : j = d
    · rw [if_pos e, e]
    · rw [if_neg e]
  unfold setBe
  rw [this]
/-- A block of function values. -/
def Fty (w : World) (k : Nat) : Prop := ∃ C, w.heap[k]? = some (.cells C 1 (0, 0))
/-- What a change under a log leaves. -/
structure Ch (w w' : World) (b bl o B : Nat) : Prop where
  os : w'.os = w.os
  tape : w'.tape = w.tape
  output : w'.output = w.output
  size : w.heap.size ≤ w'.heap.size
  block : ∀ k, k < w.heap.size → k ≠ b → k ≠ bl → (k < B ∨ ¬ Fty w k) → w'.heap[k]? = w.heap[k]?
  cell : ∀ p, p < o ∨ o + 36 ≤ p → w'.cell? ⟨b, p, none⟩ = w.cell? ⟨b, p, none⟩
theorem Ch.refl (w : World) (b bl o B : Nat) : Ch w w b bl o B := ⟨rfl, rfl, rfl, Nat.le_refl _, fun _ _ _ _ _ => rfl, fun _ _ => rfl⟩
theorem Ch.trans {u v w : World} {b bl o B : Nat} (h : Ch u v b bl o B) (k : Ch v w b bl o B) : Ch u w b bl o B :=
  ⟨k.os.trans h.os, k.tape.trans h.tape, k.output.trans h.output, Nat.le_trans h.size k.size, fun j hj h1 h2 h3 => by
    have e := h.block j hj h1 h2 h3
    refine (k.block j (Nat.lt_of_lt_of_le hj h.size) h1 h2 ?_).trans e
    rcases h3 with h3 | h3
    · exact .inl h3
    · refine .inr fun hf => h3 ?_
      obtain ⟨C, hC⟩ := hf
      exact ⟨C, by rw [← e]; exact hC⟩, fun p hp => (k.cell p hp).trans (h.cell p hp)⟩
theorem Ch.below {w w' : World} {b bl o B : Nat} (hb : b < w.heap.size) (h : Below w.heap.size w w') : Ch w w' b bl o B :=
  ⟨h.os, h.tape, h.output, h.size, fun k hk _ _ _ => h.block k hk, fun _ _ => World.cell?_of_block (w := w) (h.block b hb)⟩
theorem Ch.ofFr {w w' : World} {b bl o B : Nat} (h : Fr w w' b o) : Ch w w' b bl o B :=
  ⟨h.only.os, h.only.tape, h.only.output, h.only.size, fun k hk h1 _ _ => h.only.block k hk h1, h.cell⟩
/-- From before the log was there. -/
theorem Ch.fr {w0 w w' : World} {b bl o : Nat} (h0 : Fr w0 w b o) (hl : w0.heap.size ≤ bl) (h : Ch w w' b bl o w0.heap.size) : Fr w0 w' b o :=
  ⟨⟨h.os.trans h0.only.os, h.tape.trans h0.only.tape, h.output.trans h0.only.output, Nat.le_trans h0.only.size h.size, fun k hk h1 => (h.block k (Nat.lt_of_lt_of_le hk h0.only.size) h1 (by omega) (.inl hk)).trans (h0.only.block k hk h1)⟩, fun p hp => (h.cell p hp).trans (h0.cell p hp)⟩
theorem Ch.whole {w w' : World} {b bl o B : Nat} (h : Ch w w' b bl o B) {p : Nat} {t : TypeId} {C : Array Value} (hp : Whole w p t C) (h1 : p ≠ b) (h2 : p ≠ bl) (ht : t ≠ 1) : Whole w' p t C :=
  hp.of (h.block p hp.lt h1 h2 (.inr fun ⟨C', e⟩ => by rw [hp.is] at e; injection e with e; injection e with _ e2 _; exact ht e2))
def EnAt (w : World) (b o B : Nat) : En → Value → Prop
  | .ro d x, f => d < 5 ∧ ∃ p q, B ≤ p ∧ B ≤ q ∧ f = .func (.func 120) #[] #[.pointer (some ⟨p, 0, none⟩), .pointer (some ⟨q, 0, none⟩)] ∧ Whole w p 47 (rtA x) ∧ Whole w q 145 #[.pointer (some ⟨b, o + 1 + d * 5, none⟩)]
  | .be d x, f => d < 5 ∧ ∃ p q, B ≤ p ∧ B ≤ q ∧ f = .func (.func 121) #[] #[.pointer (some ⟨p, 0, none⟩), .pointer (some ⟨q, 0, none⟩)] ∧ Whole w p 92 (bsA x) ∧ Whole w q 149 #[.pointer (some ⟨b, o + 26 + d * 2, none⟩)]
/-- Whatever leaves the blocks of an entry leaves the entry. -/
theorem EnAt.keep {w w' : World} {b o B : Nat} {e : En} {f : Value} (h : EnAt w b o B e f) (hk : ∀ p t C, B ≤ p → t ≠ 1 → t ≠ 123 → Whole w p t C → Whole w' p t C) : EnAt w' b o B e f := by
  cases e with
  | ro d x =>
    obtain ⟨hd, p, q, h1, h2, h3, h4, h5⟩ := h
    exact ⟨hd, p, q, h1, h2, h3, hk p _ _ h1 (by decide) (by decide) h4, hk q _ _ h2 (by decide) (by decide) h5⟩
  | be d x =>
    obtain ⟨hd, p, q, h1, h2, h3, h4, h5⟩ := h
    exact ⟨hd, p, q, h1, h2, h3, hk p _ _ h1 (by decide) (by decide) h4, hk q _ _ h2 (by decide) (by decide) h5⟩
/-- A log, as it lies in memory. -/
structure Lg (w : World) (bl b o B : Nat) (L : List En) : Prop where
  ex : ∃ (v : Value) (fs : List Value), Whole w bl 123 #[v] ∧ w.ownsRow B 1 1 v L.length fs ∧ ∀ (i : Nat) (e : En), L[i]? = some e → ∃ f, fs[i]? = some f ∧ EnAt w b o B e f
theorem Lg.lt {w : World} {bl b o B : Nat} {L : List En} (h : Lg w bl b o B L) : bl < w.heap.size := let ⟨_, _, h, _⟩ := h.ex; h.lt
theorem Lg.keep {w w' : World} {bl b o B : Nat} {L : List En} (h : Lg w bl b o B L) (hl : B ≤ bl) (hk : ∀ k, k < w.heap.size → B ≤ k → w'.heap[k]? = w.heap[k]?) : Lg w' bl b o B L := by
  obtain ⟨v, fs, h1, h2, h3⟩ := h.ex
  refine ⟨v, fs, h1.of (hk bl h1.lt hl), ownsRow_of h2 (fun g hg => hk g (h2.lt g hg).2 (h2.lt g hg).1), fun i e he => ?_⟩
  obtain ⟨f, f1, f2⟩ := h3 i e he
  exact ⟨f, f1, f2.keep fun p t C hp _ _ hw => hw.of (hk p hw.lt hp)⟩
theorem Lg.below {w w' : World} {bl b o B : Nat} {L : List En} (h : Lg w bl b o B L) (hl : B ≤ bl) (hk : Below w.heap.size w w') : Lg w' bl b o B L := h.keep hl fun k hk' _ => hk.block k hk'
theorem infoF : ∃ i z, Try.prog.info? 1 = some i ∧ i.zero = some z ∧ i.size = 1 ∧ i.bytes = 8 ∧ z.cells.size = 1 := by
  have h : (match Try.prog.info? 1 with | some i => (match i.zero with | some z => i.size == 1 && i.bytes == 8 && z.cells.size == 1 | none => false) | none => false) = true := by kernel_rfl
  cases hi : Try.prog.info? 1 with
  | none => simp [hi] at h
  | some i =>
    cases hz : i.zero with
    | none => simp [hi, hz] at h
    | some z => simp [hi, hz] at h; exact ⟨i, z, rfl, hz, h.1.1, h.1.2, h.2⟩
/-- One entry more. -/
theorem Lg.snoc {w w1 w2 w3 : World} {bl b o B g cap : Nat} {L : List En} {e : En} {f v : Value} {fs : List Value} (hW : Whole w bl 123 #[v]) (hown : w.ownsRow B 1 1 v L.length fs) (hent : ∀ (i : Nat) (e : En), L[i]? = some e → ∃ f, fs[i]? = some f ∧ EnAt w b o B e f)
    (hb : b < B) (hl : B ≤ bl) (h1 : Below w.heap.size w w1) (hg : w1.grownBy w2 v.ownBlock) (ho : w2.ownsRow B 1 1 (.slice (some ⟨g, 0, none⟩) (L.length + 1) cap) (L.length + 1) (fs ++ [f]))
    (h3 : ∀ k, k ≠ bl → k ≠ b → k < w2.heap.size → w3.heap[k]? = w2.heap[k]?) (h4 : Whole w3 bl 123 #[.slice (some ⟨g, 0, none⟩) (L.length + 1) cap]) (hl2 : Whole w2 bl 123 #[v]) (hn : EnAt w3 b o B e f) : Lg w3 bl b o B (L ++ [e]) := by
  have hgb : g ≠ bl := by
    rintro rfl
    rcases ho.2 with ⟨h, _⟩ | ⟨g1, c1, cur, hv, _, hc, _⟩
    · cases h
    · have e1 : g = g1 := by have := hv; simp at this; exact this.1
      subst e1
      rw [hl2.is] at hc
      injection hc with hc; injection hc with _ e2 _
      exact absurd e2 (by decide)
  have hgB : B ≤ g := (ho.lt g rfl).1
  refine ⟨_, fs ++ [f], h4, ?_, fun i e' he => ?_⟩
  · rw [List.length_append, List.length_singleton]
    exact ownsRow_of ho fun j hj => by
      have : g = j := by simpa [Value.ownBlock] using hj
      rw [← this]; exact h3 g hgb (by omega) (ho.lt g rfl).2
  · have hfl : fs.length = L.length := by have := hown.1; omega
    by_cases hi : i < L.length
    · rw [List.getElem?_append_left hi] at he
      obtain ⟨f', f1, f2⟩ := hent i e' he
      refine ⟨f', by rw [List.getElem?_append_left (by omega)]; exact f1, f2.keep fun p t C hp ht htl hw => ?_⟩
      have w1h := hw.below h1
      have hpo : some p ≠ v.ownBlock := fun ep => by
        rcases hown.2 with ⟨h, _⟩ | ⟨g1, c1, cur, hv, _, hc, _⟩
        · rw [h] at ep; cases ep
        · have e1 : p = g1 := by rw [hv] at ep; simpa [Value.ownBlock] using ep
          subst e1
          rw [hw.is] at hc
          injection hc with hc; injection hc with _ e2 _
          exact ht e2
      have hpl : p ≠ bl := by
        rintro rfl
        have := hw.is
        rw [hW.is] at this
        injection this with this; injection this with _ e2 _
        exact htl e2.symm
      have w2h := w1h.of (hg.block p w1h.lt hpo)
      exact w2h.of (h3 p hpl (by omega) w2h.lt)
    · rw [List.getElem?_append_right (by omega)] at he
      have hi0 : i - L.length = 0 := by
        rcases Nat.eq_zero_or_pos (i - L.length) with h | h
        · exact h
        · rw [List.getElem?_eq_none (by rw [List.length_singleton]; exact h)] at he; cases he
      rw [hi0] at he
      have : e = e' := by simpa using he
      subst this
      refine ⟨f, ?_, hn⟩
      rw [List.getElem?_append_right (by omega), hfl, hi0]; rfl
theorem KT.setBe {w : World} {b o : Nat} {T : Tb} (h : KT w b o T) (d : Nat) (hd : d < 5) (x : Bs) :
    KT ((w.setCell ⟨b, o + 26 + d * 2, none⟩ (I x.sq)).setCell ⟨b, o + 26 + d * 2 + 1, none⟩ (I x.mt)) b o (Go.Proofs.Ytdoodnbobpijoaa.setBe T d x) ∧
    Fr w ((w.setCell ⟨b, o + 26 + d * 2, none⟩ (I x.sq)).setCell ⟨b, o + 26 + d * 2 + 1, none⟩ (I x.mt)) b o := by
  have e : ((w.setCell ⟨b, o + 26 + d * 2, none⟩ (I x.sq)).setCell ⟨b, o + 26 + d * 2 + 1, none⟩ (I x.mt)) = w.setCells b (o + 26 + d * 2) [I x.sq, I x.mt] := rfl
  rw [e]
  have hex : ∀ j, j < [I x.sq, I x.mt].length → (w.cell? ⟨b, o + 26 + d * 2 + j, none⟩).isSome = true := fun j hj => by
    have hj : j < 2 := by simpa using hj
    rw [show o + 26 + d * 2 + j = o + (26 + d * 2 + j) by omega, h.at_ _ (by omega)]; rfl
  refine ⟨⟨fun j hj => ?_, fun j => by rw [World.frozen?_setCells]; exact h.fz j⟩, ⟨(Only.refl (· = b) w).setCells (.inl rfl) _ _, fun p hp => ?_⟩⟩
  · by_cases hjd : 26 + d * 2 ≤ j ∧ j < 26 + d * 2 + 2
    · obtain ⟨k, rfl⟩ : ∃ k, j = 26 + d * 2 + k := ⟨j - (26 + d * 2), by omega⟩
      have hk2 : k < 2 := by omega
      rw [show o + (26 + d * 2 + k) = o + 26 + d * 2 + k by omega, World.cell?_setCells_in b _ _ w hex k (by simp; omega), tbV_be _ _ _ hk2]
      have : (Go.Proofs.Ytdoodnbobpijoaa.setBe T d x).be d = x := by show (if d = d then x else _) = x; rw [if_pos rfl]
      rw [this]
      rcases k with _ | _ | k <;> first | rfl | omega
    · rw [World.cell?_setCells_out b _ _ w ⟨b, o + j, none⟩ (fun _ _ => by show o + j < _ ∨ _ ≤ o + j; simp; omega), h.at_ j hj]
      unfold tbV
      by_cases h0 : j = 0
      · rw [if_pos h0, if_pos h0]; rfl
      · rw [if_neg h0, if_neg h0]
        by_cases h26 : j < 26
        · rw [if_pos h26, if_pos h26]; rfl
        · rw [if_neg h26, if_neg h26]
          have : (Go.Proofs.Ytdoodnbobpijoaa.setBe T d x).be ((j - 26) / 2) = T.be ((j - 26) / 2) := by show (if (j - 26) / 2 = d then x else _) = _; rw [if_neg (by omega)]
          rw [this]
  · exact World.cell?_setCells_out b _ _ w ⟨b, p, none⟩ (fun _ _ => by show p < _ ∨ _ ≤ p; simp; omega)
/-- What Set leaves, all in all. -/
theorem set_end {w w4 w2 U : World} {b o bl B g cap : Nat} {L : List En} {e : En} {f v : Value} {fs : List Value} (hW : Whole w bl 123 #[v]) (hown : w.ownsRow B 1 1 v L.length fs) (hent : ∀ (i : Nat) (e : En), L[i]? = some e → ∃ f, fs[i]? = some f ∧ EnAt w b o B e f)
    (hb : b < B) (hl : B ≤ bl) (lb : b < w.heap.size) (h4 : Below w.heap.size w w4) (hg : w4.grownBy w2 v.ownBlock) (ho : w2.ownsRow B 1 1 (.slice (some ⟨g, 0, none⟩) (L.length + 1) cap) (L.length + 1) (fs ++ [f])) (hob : ∀ g, v.ownBlock = some g → g < w.heap.size ∧ B ≤ g ∧ g ≠ bl ∧ Fty w g)
    (hl2 : Whole w2 bl 123 #[v]) (ff : Fr (w2.setCell ⟨bl, 0, none⟩ (.slice (some ⟨g, 0, none⟩) (L.length + 1) cap)) U b o) (hn : EnAt (w2.setCell ⟨bl, 0, none⟩ (.slice (some ⟨g, 0, none⟩) (L.length + 1) cap)) b o B e f) : Lg U bl b o B (L ++ [e]) ∧ Ch w U b bl o B := by
  have hbl : bl ≠ b := by omega
  have hL5 : Whole (w2.setCell ⟨bl, 0, none⟩ (.slice (some ⟨g, 0, none⟩) (L.length + 1) cap)) bl 123 #[.slice (some ⟨g, 0, none⟩) (L.length + 1) cap] := hl2.setAt 0 (.slice (some ⟨g, 0, none⟩) (L.length + 1) cap)
  have hblk : ∀ k, k < w.heap.size → some k ≠ v.ownBlock → w2.heap[k]? = w.heap[k]? := fun k hk hne => (hg.block k (Nat.lt_of_lt_of_le hk h4.size) hne).trans (h4.block k hk)
  have hz : ∀ k, k ≠ bl → k ≠ b → k < w2.heap.size → U.heap[k]? = w2.heap[k]? := fun k h1 h2 hk => (ff.only.block k (by simpa using hk) h2).trans (heap_setCell_other _ _ _ _ h1)
  have s1 := h4.size
  have s2 := hg.size
  have s3 := ff.only.size
  simp only [World.size_setCell] at s3
  refine ⟨?_, ?_⟩
  · refine Lg.snoc (w2 := w2) hW hown hent hb hl h4 hg ho hz (hL5.of (ff.only.block bl hL5.lt hbl)) hl2 (hn.keep fun p t C hp _ _ hw => hw.of (ff.only.block p hw.lt (by omega)))
  · refine ⟨ff.only.os.trans (hg.os.trans h4.os), ff.only.tape.trans (hg.tape.trans h4.tape), ff.only.output.trans (hg.output.trans h4.output), by omega, fun k hk hkb hkl hor => ?_, fun p hp => ?_⟩
    · refine (hz k hkl hkb (by omega)).trans (hblk k hk (fun e => ?_))
      obtain ⟨_, h2, _, h4⟩ := hob k e.symm
      rcases hor with h | h
      · omega
      · exact h h4
    · rw [ff.cell p hp]
      have e1 : (w2.setCell ⟨bl, 0, none⟩ (.slice (some ⟨g, 0, none⟩) (L.length + 1) cap)).heap[b]? = w.heap[b]? := (heap_setCell_other _ _ _ _ (fun e => hbl e.symm)).trans (hblk b lb (fun e => by have := (hob b e.symm).2.1; omega))
      exact World.cell?_of_block (w := w) e1
attribute [local go_sem ↓] Go.wp_at_zero Go.wp_at_succ
set_option maxHeartbeats 2000000 in
set_option maxRecDepth 100000 in
theorem setR_any (b o bl B d : Nat) (L : List En) (T : Tb) (x : Rt) (w : World) (hd : d < 5) (hb : b < B) (hl : B ≤ bl) (hBw : B ≤ w.heap.size) (hn : L.length ≤ 20) (hK : KT w b o T) (hL : Lg w bl b o B L) :
    Calls Try.prog 104 #[.pointer (some ⟨bl, 0, none⟩), .pointer (some ⟨b, o + 1 + d * 5, none⟩), .agg (rtA x)] w fun e w' => e = .returned (.tuple #[]) ∧ KT w' b o (setRo T d x) ∧ Lg w' bl b o B (L ++ [.ro d (T.ro d)]) ∧ Ch w w' b bl o B := by
  have hmf : ∀ (fn : Fn) (first cap : Array Value) (w : World), (Instr.makeFunc fn first cap).run Try.prog w = .ok (.func fn first cap) w := fun _ _ _ _ => rfl
  obtain ⟨d0, d1, d2, d3, d4⟩ := hK.ro5 d hd
  obtain ⟨v, fs, hW, hown, hent⟩ := hL.ex
  have lb := hK.lt
  have ll := hW.lt
  obtain ⟨ad, cap, hv⟩ := owns_form hown
  have hbl : bl ≠ b := by omega
  have c0 : w.cell? ⟨bl, 0, none⟩ = some v := hW.cell 0
  have hob : ∀ g, (Value.slice ad L.length cap).ownBlock = some g → g < w.heap.size ∧ B ≤ g ∧ g ≠ bl ∧ Fty w g := fun g hg => by
    rw [← hv] at hg
    have h1 := hown.lt g hg
    rcases hown.2 with ⟨h, _⟩ | ⟨g1, c1, cur, hv1, _, hc, _⟩
    · rw [h] at hg; cases hg
    · have e1 : g1 = g := by rw [hv1] at hg; simpa [Value.ownBlock] using hg
      subst e1
      refine ⟨h1.2, h1.1, ?_, cur, hc⟩
      rintro rfl
      rw [hW.is] at hc
      injection hc with hc; injection hc with _ e2 _
      exact absurd e2 (by decide)
  have b3 : Below w.heap.size w (((w.alloc (.cells #[.pointer (some ⟨b, o + 1 + d * 5, none⟩)] 145)).alloc (.cells (rtA x) 47)).alloc (.cells #[.int .i64 (T.ro d).nx, .int .i64 (T.ro d).sq, .int .i64 (T.ro d).mt, .int .i64 (T.ro d).ag, .int .i64 (T.ro d).st] 47)) := (((Below.refl _ _).alloc (Nat.le_refl _) _).alloc (by simp) _).alloc (by simp; omega) _
  have n0 : Whole (((w.alloc (.cells #[.pointer (some ⟨b, o + 1 + d * 5, none⟩)] 145)).alloc (.cells (rtA x) 47)).alloc (.cells #[.int .i64 (T.ro d).nx, .int .i64 (T.ro d).sq, .int .i64 (T.ro d).mt, .int .i64 (T.ro d).ag, .int .i64 (T.ro d).st] 47)) w.heap.size 145 #[.pointer (some ⟨b, o + 1 + d * 5, none⟩)] := ((Whole.new w _ _).alloc _).alloc _
  have n1 : Whole (((w.alloc (.cells #[.pointer (some ⟨b, o + 1 + d * 5, none⟩)] 145)).alloc (.cells (rtA x) 47)).alloc (.cells #[.int .i64 (T.ro d).nx, .int .i64 (T.ro d).sq, .int .i64 (T.ro d).mt, .int .i64 (T.ro d).ag, .int .i64 (T.ro d).st] 47)) (w.heap.size + 1) 47 (rtA x) := by
    have := (Whole.new (w.alloc (.cells #[.pointer (some ⟨b, o + 1 + d * 5, none⟩)] 145)) 47 (rtA x)).alloc (.cells #[.int .i64 (T.ro d).nx, .int .i64 (T.ro d).sq, .int .i64 (T.ro d).mt, .int .i64 (T.ro d).ag, .int .i64 (T.ro d).st] 47)
    simp only [World.size_alloc] at this
    exact this
  have n2 : Whole (((w.alloc (.cells #[.pointer (some ⟨b, o + 1 + d * 5, none⟩)] 145)).alloc (.cells (rtA x) 47)).alloc (.cells #[.int .i64 (T.ro d).nx, .int .i64 (T.ro d).sq, .int .i64 (T.ro d).mt, .int .i64 (T.ro d).ag, .int .i64 (T.ro d).st] 47)) (w.heap.size + 1 + 1) 47 (rtA (T.ro d)) := by
    have := Whole.new ((w.alloc (.cells #[.pointer (some ⟨b, o + 1 + d * 5, none⟩)] 145)).alloc (.cells (rtA x) 47)) 47 (rtA (T.ro d))
    simp only [World.size_alloc] at this
    exact this
  have c3 : (((w.alloc (.cells #[.pointer (some ⟨b, o + 1 + d * 5, none⟩)] 145)).alloc (.cells (rtA x) 47)).alloc (.cells #[.int .i64 (T.ro d).nx, .int .i64 (T.ro d).sq, .int .i64 (T.ro d).mt, .int .i64 (T.ro d).ag, .int .i64 (T.ro d).st] 47)).cell? ⟨bl, 0, none⟩ = some (.slice ad L.length cap) := by rw [← hv]; exact cell_below c0 b3
  have own3 := ownsRow_of (w' := (((w.alloc (.cells #[.pointer (some ⟨b, o + 1 + d * 5, none⟩)] 145)).alloc (.cells (rtA x) 47)).alloc (.cells #[.int .i64 (T.ro d).nx, .int .i64 (T.ro d).sq, .int .i64 (T.ro d).mt, .int .i64 (T.ro d).ag, .int .i64 (T.ro d).st] 47))) hown (fun g hg => b3.block g (hown.lt g hg).2)
  rw [hv] at own3
  have z3 : (((w.alloc (.cells #[.pointer (some ⟨b, o + 1 + d * 5, none⟩)] 145)).alloc (.cells (rtA x) 47)).alloc (.cells #[.int .i64 (T.ro d).nx, .int .i64 (T.ro d).sq, .int .i64 (T.ro d).mt, .int .i64 (T.ro d).ag, .int .i64 (T.ro d).st] 47)).heap.size = w.heap.size + 1 + 1 + 1 := by simp
  have news := World.news_of_block (heap_alloc_new (((w.alloc (.cells #[.pointer (some ⟨b, o + 1 + d * 5, none⟩)] 145)).alloc (.cells (rtA x) 47)).alloc (.cells #[.int .i64 (T.ro d).nx, .int .i64 (T.ro d).sq, .int .i64 (T.ro d).mt, .int .i64 (T.ro d).ag, .int .i64 (T.ro d).st] 47)) (.cells #[(Value.func (.func 120) #[] #[.pointer (some ⟨w.heap.size + 1 + 1, 0, none⟩), .pointer (some ⟨w.heap.size, 0, none⟩)])] 1))
  rw [z3] at news
  have b4 : Below w.heap.size w ((((w.alloc (.cells #[.pointer (some ⟨b, o + 1 + d * 5, none⟩)] 145)).alloc (.cells (rtA x) 47)).alloc (.cells #[.int .i64 (T.ro d).nx, .int .i64 (T.ro d).sq, .int .i64 (T.ro d).mt, .int .i64 (T.ro d).ag, .int .i64 (T.ro d).st] 47)).alloc (.cells #[(Value.func (.func 120) #[] #[.pointer (some ⟨w.heap.size + 1 + 1, 0, none⟩), .pointer (some ⟨w.heap.size, 0, none⟩)])] 1)) := b3.alloc (by rw [z3]; omega) _
  have Hown : Hid (((((w.alloc (.cells #[.pointer (some ⟨b, o + 1 + d * 5, none⟩)] 145)).alloc (.cells (rtA x) 47)).alloc (.cells #[.int .i64 (T.ro d).nx, .int .i64 (T.ro d).sq, .int .i64 (T.ro d).mt, .int .i64 (T.ro d).ag, .int .i64 (T.ro d).st] 47)).alloc (.cells #[(Value.func (.func 120) #[] #[.pointer (some ⟨w.heap.size + 1 + 1, 0, none⟩), .pointer (some ⟨w.heap.size, 0, none⟩)])] 1)).ownsRow B 1 1 (.slice ad L.length cap) L.length fs) := own3.alloc _
  have Hnews : Hid (∀ j u, [(Value.func (.func 120) #[] #[.pointer (some ⟨w.heap.size + 1 + 1, 0, none⟩), .pointer (some ⟨w.heap.size, 0, none⟩)])][j]? = some u → ((((w.alloc (.cells #[.pointer (some ⟨b, o + 1 + d * 5, none⟩)] 145)).alloc (.cells (rtA x) 47)).alloc (.cells #[.int .i64 (T.ro d).nx, .int .i64 (T.ro d).sq, .int .i64 (T.ro d).mt, .int .i64 (T.ro d).ag, .int .i64 (T.ro d).st] 47)).alloc (.cells #[(Value.func (.func 120) #[] #[.pointer (some ⟨w.heap.size + 1 + 1, 0, none⟩), .pointer (some ⟨w.heap.size, 0, none⟩)])] 1)).cell? ((⟨w.heap.size + 1 + 1 + 1, 0, none⟩ : Addr).add j) = some u) := news
  have Hone : Hid (∀ u ∈ [(Value.func (.func 120) #[] #[.pointer (some ⟨w.heap.size + 1 + 1, 0, none⟩), .pointer (some ⟨w.heap.size, 0, none⟩)])], u.oneCell' = true) := (show ∀ u ∈ [(Value.func (.func 120) #[] #[.pointer (some ⟨w.heap.size + 1 + 1, 0, none⟩), .pointer (some ⟨w.heap.size, 0, none⟩)])], u.oneCell' = true from fun u hu => by rw [List.mem_singleton.1 hu]; rfl)
  have Hmx : Hid (L.length + 1 ≤ maxLen) := (show L.length + 1 ≤ maxLen by unfold maxLen; omega)
  have Hby : Hid ((L.length + 1) * 8 ≤ 140737488355328) := (show (L.length + 1) * 8 ≤ 140737488355328 by omega)
  have HBw : Hid (B ≤ ((((w.alloc (.cells #[.pointer (some ⟨b, o + 1 + d * 5, none⟩)] 145)).alloc (.cells (rtA x) 47)).alloc (.cells #[.int .i64 (T.ro d).nx, .int .i64 (T.ro d).sq, .int .i64 (T.ro d).mt, .int .i64 (T.ro d).ag, .int .i64 (T.ro d).st] 47)).alloc (.cells #[(Value.func (.func 120) #[] #[.pointer (some ⟨w.heap.size + 1 + 1, 0, none⟩), .pointer (some ⟨w.heap.size, 0, none⟩)])] 1)).heap.size) := Nat.le_trans hBw b4.size
  have B4 : Hid (Below w.heap.size w ((((w.alloc (.cells #[.pointer (some ⟨b, o + 1 + d * 5, none⟩)] 145)).alloc (.cells (rtA x) 47)).alloc (.cells #[.int .i64 (T.ro d).nx, .int .i64 (T.ro d).sq, .int .i64 (T.ro d).mt, .int .i64 (T.ro d).ag, .int .i64 (T.ro d).st] 47)).alloc (.cells #[(Value.func (.func 120) #[] #[.pointer (some ⟨w.heap.size + 1 + 1, 0, none⟩), .pointer (some ⟨w.heap.size, 0, none⟩)])] 1))) := b4
  have M0 : Hid (Whole ((((w.alloc (.cells #[.pointer (some ⟨b, o + 1 + d * 5, none⟩)] 145)).alloc (.cells (rtA x) 47)).alloc (.cells #[.int .i64 (T.ro d).nx, .int .i64 (T.ro d).sq, .int .i64 (T.ro d).mt, .int .i64 (T.ro d).ag, .int .i64 (T.ro d).st] 47)).alloc (.cells #[(Value.func (.func 120) #[] #[.pointer (some ⟨w.heap.size + 1 + 1, 0, none⟩), .pointer (some ⟨w.heap.size, 0, none⟩)])] 1)) w.heap.size 145 #[.pointer (some ⟨b, o + 1 + d * 5, none⟩)]) := n0.alloc _
  have M1 : Hid (Whole ((((w.alloc (.cells #[.pointer (some ⟨b, o + 1 + d * 5, none⟩)] 145)).alloc (.cells (rtA x) 47)).alloc (.cells #[.int .i64 (T.ro d).nx, .int .i64 (T.ro d).sq, .int .i64 (T.ro d).mt, .int .i64 (T.ro d).ag, .int .i64 (T.ro d).st] 47)).alloc (.cells #[(Value.func (.func 120) #[] #[.pointer (some ⟨w.heap.size + 1 + 1, 0, none⟩), .pointer (some ⟨w.heap.size, 0, none⟩)])] 1)) (w.heap.size + 1) 47 (rtA x)) := n1.alloc _
  have M2 : Hid (Whole ((((w.alloc (.cells #[.pointer (some ⟨b, o + 1 + d * 5, none⟩)] 145)).alloc (.cells (rtA x) 47)).alloc (.cells #[.int .i64 (T.ro d).nx, .int .i64 (T.ro d).sq, .int .i64 (T.ro d).mt, .int .i64 (T.ro d).ag, .int .i64 (T.ro d).st] 47)).alloc (.cells #[(Value.func (.func 120) #[] #[.pointer (some ⟨w.heap.size + 1 + 1, 0, none⟩), .pointer (some ⟨w.heap.size, 0, none⟩)])] 1)) (w.heap.size + 1 + 1) 47 (rtA (T.ro d))) := n2.alloc _
  have ML : Hid (Whole ((((w.alloc (.cells #[.pointer (some ⟨b, o + 1 + d * 5, none⟩)] 145)).alloc (.cells (rtA x) 47)).alloc (.cells #[.int .i64 (T.ro d).nx, .int .i64 (T.ro d).sq, .int .i64 (T.ro d).mt, .int .i64 (T.ro d).ag, .int .i64 (T.ro d).st] 47)).alloc (.cells #[(Value.func (.func 120) #[] #[.pointer (some ⟨w.heap.size + 1 + 1, 0, none⟩), .pointer (some ⟨w.heap.size, 0, none⟩)])] 1)) bl 123 #[v]) := hW.below b4
  have MK : Hid (KT ((((w.alloc (.cells #[.pointer (some ⟨b, o + 1 + d * 5, none⟩)] 145)).alloc (.cells (rtA x) 47)).alloc (.cells #[.int .i64 (T.ro d).nx, .int .i64 (T.ro d).sq, .int .i64 (T.ro d).mt, .int .i64 (T.ro d).ag, .int .i64 (T.ro d).st] 47)).alloc (.cells #[(Value.func (.func 120) #[] #[.pointer (some ⟨w.heap.size + 1 + 1, 0, none⟩), .pointer (some ⟨w.heap.size, 0, none⟩)])] 1)) b o T) := hK.below b4
  have HOB : Hid (∀ g, (Value.slice ad L.length cap).ownBlock = some g → g < w.heap.size ∧ B ≤ g ∧ g ≠ bl ∧ Fty w g) := hob
  obtain ⟨i, z, hi1, hi2, hi3, hi4, hi5⟩ := infoF
  have I1 : Hid (Try.prog.info? 1 = some i) := hi1; have I2 : Hid (i.zero = some z) := hi2; have I3 : Hid (i.size = 1) := hi3; have I4 : Hid (i.bytes = 8) := hi4; have I5 : Hid (z.cells.size = 1) := hi5
  have HE : Hid (∀ (i : Nat) (e : En), L[i]? = some e → ∃ f, fs[i]? = some f ∧ EnAt w b o B e f) := hent
  have HW : Hid (Whole w bl 123 #[v]) := hW
  have HO : Hid (w.ownsRow B 1 1 v L.length fs) := hown
  have HV : Hid (v = .slice ad L.length cap) := hv
  clear hi1 hi2 hi3 hi4 hi5 hent hL hW hown hv hK b3 n0 n1 n2 own3 news b4 hob z3
  go_enter Try.func104, Try.ntmps104
  go_wp2_with (refine wpList_append_lies _ (by rfl) _ _ 121 (by rfl) B 1 i z 1 8 Try.underlying121 I1.out I2.out I3.out I4.out I5.out (by omega) (.slice ad L.length cap) L.length fs (by rfl) Hown.out ⟨w.heap.size + 1 + 1 + 1, 0, none⟩ 1 1 [(Value.func (.func 120) #[] #[.pointer (some ⟨w.heap.size + 1 + 1, 0, none⟩), .pointer (some ⟨w.heap.size, 0, none⟩)])] (by rfl) (by rfl) Hnews.out Hone.out (by omega) Hmx.out Hby.out HBw.out (w.heap.size + 1 + 1 + 1 + 1) (by simp) ?_; intro g' cap' w2 ho2 hgrow hat hlt2; have nl : some bl ≠ (Value.slice ad L.length cap).ownBlock := fun e => (HOB.out bl e.symm).2.2.1 rfl; have L2 : Whole w2 bl 123 #[v] := ML.out.of (hgrow.block bl ML.out.lt nl); have cb : w2.cell? ⟨bl, 0, none⟩ = some v := L2.cell 0; have fb := L2.frozen 0; have L5 : Whole (w2.setCell ⟨bl, 0, none⟩ (Value.slice (some ⟨g', 0, none⟩) (L.length + 1) cap')) bl 123 #[(Value.slice (some ⟨g', 0, none⟩) (L.length + 1) cap')] := L2.setAt 0 (Value.slice (some ⟨g', 0, none⟩) (L.length + 1) cap'); have k2 : KT w2 b o T := MK.out.of (hgrow.block b MK.out.lt (fun e => by have := (HOB.out b e.symm).2.1; omega)); have k5 : KT (w2.setCell ⟨bl, 0, none⟩ (Value.slice (some ⟨g', 0, none⟩) (L.length + 1) cap')) b o T := k2.of (heap_setCell_other _ _ _ _ (fun e => hbl e.symm)); have p0 : Whole w2 w.heap.size 145 #[.pointer (some ⟨b, o + 1 + d * 5, none⟩)] := M0.out.of (hgrow.block _ M0.out.lt (fun e => Nat.lt_irrefl _ (HOB.out _ e.symm).1)); have p1 : Whole w2 (w.heap.size + 1) 47 (rtA x) := M1.out.of (hgrow.block _ M1.out.lt (fun e => by have := (HOB.out _ e.symm).1; omega)); have p2 : Whole w2 (w.heap.size + 1 + 1) 47 (rtA (T.ro d)) := M2.out.of (hgrow.block _ M2.out.lt (fun e => by have := (HOB.out _ e.symm).1; omega)); have q0 : Whole (w2.setCell ⟨bl, 0, none⟩ (Value.slice (some ⟨g', 0, none⟩) (L.length + 1) cap')) w.heap.size 145 #[.pointer (some ⟨b, o + 1 + d * 5, none⟩)] := p0.setCell (by show w.heap.size ≠ bl; omega) _; have q1 : Whole (w2.setCell ⟨bl, 0, none⟩ (Value.slice (some ⟨g', 0, none⟩) (L.length + 1) cap')) (w.heap.size + 1) 47 (rtA x) := p1.setCell (by show w.heap.size + 1 ≠ bl; omega) _; have q2 : Whole (w2.setCell ⟨bl, 0, none⟩ (Value.slice (some ⟨g', 0, none⟩) (L.length + 1) cap')) (w.heap.size + 1 + 1) 47 (rtA (T.ro d)) := p2.setCell (by show w.heap.size + 1 + 1 ≠ bl; omega) _; have g0 := q0.cell 0; have g1 := q1.cell; obtain ⟨e0, e1, e2, e3, e4⟩ := k5.ro5 d hd; have fz := k5.fz; have G2 : Hid (w2.ownsRow B 1 1 (Value.slice (some ⟨g', 0, none⟩) (L.length + 1) cap') (L.length + 1) (fs ++ [(Value.func (.func 120) #[] #[.pointer (some ⟨w.heap.size + 1 + 1, 0, none⟩), .pointer (some ⟨w.heap.size, 0, none⟩)])])) := ho2; have HL2 : Hid (Whole w2 bl 123 #[v]) := L2; have HL5 : Hid (Whole (w2.setCell ⟨bl, 0, none⟩ (Value.slice (some ⟨g', 0, none⟩) (L.length + 1) cap')) bl 123 #[(Value.slice (some ⟨g', 0, none⟩) (L.length + 1) cap')]) := L5; have K2 : Hid (KT w2 b o T) := k2; have K5 : Hid (KT (w2.setCell ⟨bl, 0, none⟩ (Value.slice (some ⟨g', 0, none⟩) (L.length + 1) cap')) b o T) := k5; have Q0 : Hid (Whole (w2.setCell ⟨bl, 0, none⟩ (Value.slice (some ⟨g', 0, none⟩) (L.length + 1) cap')) w.heap.size 145 #[.pointer (some ⟨b, o + 1 + d * 5, none⟩)]) := q0; have Q2 : Hid (Whole (w2.setCell ⟨bl, 0, none⟩ (Value.slice (some ⟨g', 0, none⟩) (L.length + 1) cap')) (w.heap.size + 1 + 1) 47 (rtA (T.ro d))) := q2; clear ho2 L2 L5 k2 k5 p0 p1 p2 q0 q1 q2)
  go_end0
  obtain ⟨kf, ff⟩ := KT.setRo K5.out d hd x
  have en : EnAt (w2.setCell ⟨bl, 0, none⟩ (Value.slice (some ⟨g', 0, none⟩) (L.length + 1) cap')) b o B (.ro d (T.ro d)) (Value.func (.func 120) #[] #[.pointer (some ⟨w.heap.size + 1 + 1, 0, none⟩), .pointer (some ⟨w.heap.size, 0, none⟩)]) := ⟨hd, _, _, by omega, by omega, rfl, Q2.out, Q0.out⟩
  have se := set_end HW.out HO.out HE.out hb hl lb B4.out (by rw [HV.out]; exact hgrow) G2.out (by rw [HV.out]; exact HOB.out) HL2.out ff en
  exact ⟨rfl, kf, se.1, se.2⟩
set_option maxHeartbeats 2000000 in
set_option maxRecDepth 100000 in
theorem setB_any (b o bl B d : Nat) (L : List En) (T : Tb) (x : Bs) (w : World) (hd : d < 5) (hb : b < B) (hl : B ≤ bl) (hBw : B ≤ w.heap.size) (hn : L.length ≤ 20) (hK : KT w b o T) (hL : Lg w bl b o B L) :
    Calls Try.prog 107 #[.pointer (some ⟨bl, 0, none⟩), .pointer (some ⟨b, o + 26 + d * 2, none⟩), .agg (bsA x)] w fun e w' => e = .returned (.tuple #[]) ∧ KT w' b o (setBe T d x) ∧ Lg w' bl b o B (L ++ [.be d (T.be d)]) ∧ Ch w w' b bl o B := by
  have hmf : ∀ (fn : Fn) (first cap : Array Value) (w : World), (Instr.makeFunc fn first cap).run Try.prog w = .ok (.func fn first cap) w := fun _ _ _ _ => rfl
  obtain ⟨d0, d1⟩ := hK.be2 d hd
  obtain ⟨v, fs, hW, hown, hent⟩ := hL.ex
  have lb := hK.lt
  have ll := hW.lt
  obtain ⟨ad, cap, hv⟩ := owns_form hown
  have hbl : bl ≠ b := by omega
  have c0 : w.cell? ⟨bl, 0, none⟩ = some v := hW.cell 0
  have hob : ∀ g, (Value.slice ad L.length cap).ownBlock = some g → g < w.heap.size ∧ B ≤ g ∧ g ≠ bl ∧ Fty w g := fun g hg => by
    rw [← hv] at hg
    have h1 := hown.lt g hg
    rcases hown.2 with ⟨h, _⟩ | ⟨g1, c1, cur, hv1, _, hc, _⟩
    · rw [h] at hg; cases hg
    · have e1 : g1 = g := by rw [hv1] at hg; simpa [Value.ownBlock] using hg
      subst e1
      refine ⟨h1.2, h1.1, ?_, cur, hc⟩
      rintro rfl
      rw [hW.is] at hc
      injection hc with hc; injection hc with _ e2 _
      exact absurd e2 (by decide)
  have b3 : Below w.heap.size w (((w.alloc (.cells #[.pointer (some ⟨b, o + 26 + d * 2, none⟩)] 149)).alloc (.cells (bsA x) 92)).alloc (.cells #[.int .i64 (T.be d).sq, .int .i64 (T.be d).mt] 92)) := (((Below.refl _ _).alloc (Nat.le_refl _) _).alloc (by simp) _).alloc (by simp; omega) _
  have n0 : Whole (((w.alloc (.cells #[.pointer (some ⟨b, o + 26 + d * 2, none⟩)] 149)).alloc (.cells (bsA x) 92)).alloc (.cells #[.int .i64 (T.be d).sq, .int .i64 (T.be d).mt] 92)) w.heap.size 149 #[.pointer (some ⟨b, o + 26 + d * 2, none⟩)] := ((Whole.new w _ _).alloc _).alloc _
  have n1 : Whole (((w.alloc (.cells #[.pointer (some ⟨b, o + 26 + d * 2, none⟩)] 149)).alloc (.cells (bsA x) 92)).alloc (.cells #[.int .i64 (T.be d).sq, .int .i64 (T.be d).mt] 92)) (w.heap.size + 1) 92 (bsA x) := by
    have := (Whole.new (w.alloc (.cells #[.pointer (some ⟨b, o + 26 + d * 2, none⟩)] 149)) 92 (bsA x)).alloc (.cells #[.int .i64 (T.be d).sq, .int .i64 (T.be d).mt] 92)
    simp only [World.size_alloc] at this
    exact this
  have n2 : Whole (((w.alloc (.cells #[.pointer (some ⟨b, o + 26 + d * 2, none⟩)] 149)).alloc (.cells (bsA x) 92)).alloc (.cells #[.int .i64 (T.be d).sq, .int .i64 (T.be d).mt] 92)) (w.heap.size + 1 + 1) 92 (bsA (T.be d)) := by
    have := Whole.new ((w.alloc (.cells #[.pointer (some ⟨b, o + 26 + d * 2, none⟩)] 149)).alloc (.cells (bsA x) 92)) 92 (bsA (T.be d))
    simp only [World.size_alloc] at this
    exact this
  have c3 : (((w.alloc (.cells #[.pointer (some ⟨b, o + 26 + d * 2, none⟩)] 149)).alloc (.cells (bsA x) 92)).alloc (.cells #[.int .i64 (T.be d).sq, .int .i64 (T.be d).mt] 92)).cell? ⟨bl, 0, none⟩ = some (.slice ad L.length cap) := by rw [← hv]; exact cell_below c0 b3
  have own3 := ownsRow_of (w' := (((w.alloc (.cells #[.pointer (some ⟨b, o + 26 + d * 2, none⟩)] 149)).alloc (.cells (bsA x) 92)).alloc (.cells #[.int .i64 (T.be d).sq, .int .i64 (T.be d).mt] 92))) hown (fun g hg => b3.block g (hown.lt g hg).2)
  rw [hv] at own3
  have z3 : (((w.alloc (.cells #[.pointer (some ⟨b, o + 26 + d * 2, none⟩)] 149)).alloc (.cells (bsA x) 92)).alloc (.cells #[.int .i64 (T.be d).sq, .int .i64 (T.be d).mt] 92)).heap.size = w.heap.size + 1 + 1 + 1 := by simp
  have news := World.news_of_block (heap_alloc_new (((w.alloc (.cells #[.pointer (some ⟨b, o + 26 + d * 2, none⟩)] 149)).alloc (.cells (bsA x) 92)).alloc (.cells #[.int .i64 (T.be d).sq, .int .i64 (T.be d).mt] 92)) (.cells #[(Value.func (.func 121) #[] #[.pointer (some ⟨w.heap.size + 1 + 1, 0, none⟩), .pointer (some ⟨w.heap.size, 0, none⟩)])] 1))
  rw [z3] at news
  have b4 : Below w.heap.size w ((((w.alloc (.cells #[.pointer (some ⟨b, o + 26 + d * 2, none⟩)] 149)).alloc (.cells (bsA x) 92)).alloc (.cells #[.int .i64 (T.be d).sq, .int .i64 (T.be d).mt] 92)).alloc (.cells #[(Value.func (.func 121) #[] #[.pointer (some ⟨w.heap.size + 1 + 1, 0, none⟩), .pointer (some ⟨w.heap.size, 0, none⟩)])] 1)) := b3.alloc (by rw [z3]; omega) _
  have Hown : Hid (((((w.alloc (.cells #[.pointer (some ⟨b, o + 26 + d * 2, none⟩)] 149)).alloc (.cells (bsA x) 92)).alloc (.cells #[.int .i64 (T.be d).sq, .int .i64 (T.be d).mt] 92)).alloc (.cells #[(Value.func (.func 121) #[] #[.pointer (some ⟨w.heap.size + 1 + 1, 0, none⟩), .pointer (some ⟨w.heap.size, 0, none⟩)])] 1)).ownsRow B 1 1 (.slice ad L.length cap) L.length fs) := own3.alloc _
  have Hnews : Hid (∀ j u, [(Value.func (.func 121) #[] #[.pointer (some ⟨w.heap.size + 1 + 1, 0, none⟩), .pointer (some ⟨w.heap.size, 0, none⟩)])][j]? = some u → ((((w.alloc (.cells #[.pointer (some ⟨b, o + 26 + d * 2, none⟩)] 149)).alloc (.cells (bsA x) 92)).alloc (.cells #[.int .i64 (T.be d).sq, .int .i64 (T.be d).mt] 92)).alloc (.cells #[(Value.func (.func 121) #[] #[.pointer (some ⟨w.heap.size + 1 + 1, 0, none⟩), .pointer (some ⟨w.heap.size, 0, none⟩)])] 1)).cell? ((⟨w.heap.size + 1 + 1 + 1, 0, none⟩ : Addr).add j) = some u) := news
  have Hone : Hid (∀ u ∈ [(Value.func (.func 121) #[] #[.pointer (some ⟨w.heap.size + 1 + 1, 0, none⟩), .pointer (some ⟨w.heap.size, 0, none⟩)])], u.oneCell' = true) := (show ∀ u ∈ [(Value.func (.func 121) #[] #[.pointer (some ⟨w.heap.size + 1 + 1, 0, none⟩), .pointer (some ⟨w.heap.size, 0, none⟩)])], u.oneCell' = true from fun u hu => by rw [List.mem_singleton.1 hu]; rfl)
  have Hmx : Hid (L.length + 1 ≤ maxLen) := (show L.length + 1 ≤ maxLen by unfold maxLen; omega)
  have Hby : Hid ((L.length + 1) * 8 ≤ 140737488355328) := (show (L.length + 1) * 8 ≤ 140737488355328 by omega)
  have HBw : Hid (B ≤ ((((w.alloc (.cells #[.pointer (some ⟨b, o + 26 + d * 2, none⟩)] 149)).alloc (.cells (bsA x) 92)).alloc (.cells #[.int .i64 (T.be d).sq, .int .i64 (T.be d).mt] 92)).alloc (.cells #[(Value.func (.func 121) #[] #[.pointer (some ⟨w.heap.size + 1 + 1, 0, none⟩), .pointer (some ⟨w.heap.size, 0, none⟩)])] 1)).heap.size) := Nat.le_trans hBw b4.size
  have B4 : Hid (Below w.heap.size w ((((w.alloc (.cells #[.pointer (some ⟨b, o + 26 + d * 2, none⟩)] 149)).alloc (.cells (bsA x) 92)).alloc (.cells #[.int .i64 (T.be d).sq, .int .i64 (T.be d).mt] 92)).alloc (.cells #[(Value.func (.func 121) #[] #[.pointer (some ⟨w.heap.size + 1 + 1, 0, none⟩), .pointer (some ⟨w.heap.size, 0, none⟩)])] 1))) := b4
  have M0 : Hid (Whole ((((w.alloc (.cells #[.pointer (some ⟨b, o + 26 + d * 2, none⟩)] 149)).alloc (.cells (bsA x) 92)).alloc (.cells #[.int .i64 (T.be d).sq, .int .i64 (T.be d).mt] 92)).alloc (.cells #[(Value.func (.func 121) #[] #[.pointer (some ⟨w.heap.size + 1 + 1, 0, none⟩), .pointer (some ⟨w.heap.size, 0, none⟩)])] 1)) w.heap.size 149 #[.pointer (some ⟨b, o + 26 + d * 2, none⟩)]) := n0.alloc _
  have M1 : Hid (Whole ((((w.alloc (.cells #[.pointer (some ⟨b, o + 26 + d * 2, none⟩)] 149)).alloc (.cells (bsA x) 92)).alloc (.cells #[.int .i64 (T.be d).sq, .int .i64 (T.be d).mt] 92)).alloc (.cells #[(Value.func (.func 121) #[] #[.pointer (some ⟨w.heap.size + 1 + 1, 0, none⟩), .pointer (some ⟨w.heap.size, 0, none⟩)])] 1)) (w.heap.size + 1) 92 (bsA x)) := n1.alloc _
  have M2 : Hid (Whole ((((w.alloc (.cells #[.pointer (some ⟨b, o + 26 + d * 2, none⟩)] 149)).alloc (.cells (bsA x) 92)).alloc (.cells #[.int .i64 (T.be d).sq, .int .i64 (T.be d).mt] 92)).alloc (.cells #[(Value.func (.func 121) #[] #[.pointer (some ⟨w.heap.size + 1 + 1, 0, none⟩), .pointer (some ⟨w.heap.size, 0, none⟩)])] 1)) (w.heap.size + 1 + 1) 92 (bsA (T.be d))) := n2.alloc _
  have ML : Hid (Whole ((((w.alloc (.cells #[.pointer (some ⟨b, o + 26 + d * 2, none⟩)] 149)).alloc (.cells (bsA x) 92)).alloc (.cells #[.int .i64 (T.be d).sq, .int .i64 (T.be d).mt] 92)).alloc (.cells #[(Value.func (.func 121) #[] #[.pointer (some ⟨w.heap.size + 1 + 1, 0, none⟩), .pointer (some ⟨w.heap.size, 0, none⟩)])] 1)) bl 123 #[v]) := hW.below b4
  have MK : Hid (KT ((((w.alloc (.cells #[.pointer (some ⟨b, o + 26 + d * 2, none⟩)] 149)).alloc (.cells (bsA x) 92)).alloc (.cells #[.int .i64 (T.be d).sq, .int .i64 (T.be d).mt] 92)).alloc (.cells #[(Value.func (.func 121) #[] #[.pointer (some ⟨w.heap.size + 1 + 1, 0, none⟩), .pointer (some ⟨w.heap.size, 0, none⟩)])] 1)) b o T) := hK.below b4
  have HOB : Hid (∀ g, (Value.slice ad L.length cap).ownBlock = some g → g < w.heap.size ∧ B ≤ g ∧ g ≠ bl ∧ Fty w g) := hob
  obtain ⟨i, z, hi1, hi2, hi3, hi4, hi5⟩ := infoF
  have I1 : Hid (Try.prog.info? 1 = some i) := hi1; have I2 : Hid (i.zero = some z) := hi2; have I3 : Hid (i.size = 1) := hi3; have I4 : Hid (i.bytes = 8) := hi4; have I5 : Hid (z.cells.size = 1) := hi5
  have HE : Hid (∀ (i : Nat) (e : En), L[i]? = some e → ∃ f, fs[i]? = some f ∧ EnAt w b o B e f) := hent
  have HW : Hid (Whole w bl 123 #[v]) := hW
  have HO : Hid (w.ownsRow B 1 1 v L.length fs) := hown
  have HV : Hid (v = .slice ad L.length cap) := hv
  clear hi1 hi2 hi3 hi4 hi5 hent hL hW hown hv hK b3 n0 n1 n2 own3 news b4 hob z3
  go_enter Try.func107, Try.ntmps107
  go_wp2_with (refine wpList_append_lies _ (by rfl) _ _ 121 (by rfl) B 1 i z 1 8 Try.underlying121 I1.out I2.out I3.out I4.out I5.out (by omega) (.slice ad L.length cap) L.length fs (by rfl) Hown.out ⟨w.heap.size + 1 + 1 + 1, 0, none⟩ 1 1 [(Value.func (.func 121) #[] #[.pointer (some ⟨w.heap.size + 1 + 1, 0, none⟩), .pointer (some ⟨w.heap.size, 0, none⟩)])] (by rfl) (by rfl) Hnews.out Hone.out (by omega) Hmx.out Hby.out HBw.out (w.heap.size + 1 + 1 + 1 + 1) (by simp) ?_; intro g' cap' w2 ho2 hgrow hat hlt2; have nl : some bl ≠ (Value.slice ad L.length cap).ownBlock := fun e => (HOB.out bl e.symm).2.2.1 rfl; have L2 : Whole w2 bl 123 #[v] := ML.out.of (hgrow.block bl ML.out.lt nl); have cb : w2.cell? ⟨bl, 0, none⟩ = some v := L2.cell 0; have fb := L2.frozen 0; have L5 : Whole (w2.setCell ⟨bl, 0, none⟩ (Value.slice (some ⟨g', 0, none⟩) (L.length + 1) cap')) bl 123 #[(Value.slice (some ⟨g', 0, none⟩) (L.length + 1) cap')] := L2.setAt 0 (Value.slice (some ⟨g', 0, none⟩) (L.length + 1) cap'); have k2 : KT w2 b o T := MK.out.of (hgrow.block b MK.out.lt (fun e => by have := (HOB.out b e.symm).2.1; omega)); have k5 : KT (w2.setCell ⟨bl, 0, none⟩ (Value.slice (some ⟨g', 0, none⟩) (L.length + 1) cap')) b o T := k2.of (heap_setCell_other _ _ _ _ (fun e => hbl e.symm)); have p0 : Whole w2 w.heap.size 149 #[.pointer (some ⟨b, o + 26 + d * 2, none⟩)] := M0.out.of (hgrow.block _ M0.out.lt (fun e => Nat.lt_irrefl _ (HOB.out _ e.symm).1)); have p1 : Whole w2 (w.heap.size + 1) 92 (bsA x) := M1.out.of (hgrow.block _ M1.out.lt (fun e => by have := (HOB.out _ e.symm).1; omega)); have p2 : Whole w2 (w.heap.size + 1 + 1) 92 (bsA (T.be d)) := M2.out.of (hgrow.block _ M2.out.lt (fun e => by have := (HOB.out _ e.symm).1; omega)); have q0 : Whole (w2.setCell ⟨bl, 0, none⟩ (Value.slice (some ⟨g', 0, none⟩) (L.length + 1) cap')) w.heap.size 149 #[.pointer (some ⟨b, o + 26 + d * 2, none⟩)] := p0.setCell (by show w.heap.size ≠ bl; omega) _; have q1 : Whole (w2.setCell ⟨bl, 0, none⟩ (Value.slice (some ⟨g', 0, none⟩) (L.length + 1) cap')) (w.heap.size + 1) 92 (bsA x) := p1.setCell (by show w.heap.size + 1 ≠ bl; omega) _; have q2 : Whole (w2.setCell ⟨bl, 0, none⟩ (Value.slice (some ⟨g', 0, none⟩) (L.length + 1) cap')) (w.heap.size + 1 + 1) 92 (bsA (T.be d)) := p2.setCell (by show w.heap.size + 1 + 1 ≠ bl; omega) _; have g0 := q0.cell 0; have g1 := q1.cell; obtain ⟨e0, e1⟩ := k5.be2 d hd; have fz := k5.fz; have G2 : Hid (w2.ownsRow B 1 1 (Value.slice (some ⟨g', 0, none⟩) (L.length + 1) cap') (L.length + 1) (fs ++ [(Value.func (.func 121) #[] #[.pointer (some ⟨w.heap.size + 1 + 1, 0, none⟩), .pointer (some ⟨w.heap.size, 0, none⟩)])])) := ho2; have HL2 : Hid (Whole w2 bl 123 #[v]) := L2; have HL5 : Hid (Whole (w2.setCell ⟨bl, 0, none⟩ (Value.slice (some ⟨g', 0, none⟩) (L.length + 1) cap')) bl 123 #[(Value.slice (some ⟨g', 0, none⟩) (L.length + 1) cap')]) := L5; have K2 : Hid (KT w2 b o T) := k2; have K5 : Hid (KT (w2.setCell ⟨bl, 0, none⟩ (Value.slice (some ⟨g', 0, none⟩) (L.length + 1) cap')) b o T) := k5; have Q0 : Hid (Whole (w2.setCell ⟨bl, 0, none⟩ (Value.slice (some ⟨g', 0, none⟩) (L.length + 1) cap')) w.heap.size 149 #[.pointer (some ⟨b, o + 26 + d * 2, none⟩)]) := q0; have Q2 : Hid (Whole (w2.setCell ⟨bl, 0, none⟩ (Value.slice (some ⟨g', 0, none⟩) (L.length + 1) cap')) (w.heap.size + 1 + 1) 92 (bsA (T.be d))) := q2; clear ho2 L2 L5 k2 k5 p0 p1 p2 q0 q1 q2)
  go_end0
  obtain ⟨kf, ff⟩ := KT.setBe K5.out d hd x
  have en : EnAt (w2.setCell ⟨bl, 0, none⟩ (Value.slice (some ⟨g', 0, none⟩) (L.length + 1) cap')) b o B (.be d (T.be d)) (Value.func (.func 121) #[] #[.pointer (some ⟨w.heap.size + 1 + 1, 0, none⟩), .pointer (some ⟨w.heap.size, 0, none⟩)]) := ⟨hd, _, _, by omega, by omega, rfl, Q2.out, Q0.out⟩
  have se := set_end HW.out HO.out HE.out hb hl lb B4.out (by rw [HV.out]; exact hgrow) G2.out (by rw [HV.out]; exact HOB.out) HL2.out ff en
  exact ⟨rfl, kf, se.1, se.2⟩
set_option maxHeartbeats 400000 in
theorem undoR_any (b o d p q : Nat) (T : Tb) (x : Rt) (w : World) (hd : d < 5) (hK : KT w b o T) (hp : Whole w p 47 (rtA x)) (hq : Whole w q 145 #[.pointer (some ⟨b, o + 1 + d * 5, none⟩)]) :
    Calls Try.prog 120 #[.pointer (some ⟨p, 0, none⟩), .pointer (some ⟨q, 0, none⟩)] w fun e w' => e = .returned (.tuple #[]) ∧ KT w' b o (setRo T d x) ∧ Fr w w' b o := by
  obtain ⟨d0, d1, d2, d3, d4⟩ := hK.ro5 d hd
  have fz := hK.fz
  have c0 := hp.cell
  have c1 := hq.cell 0
  have HK : Hid (KT w b o T) := hK; clear hK
  go_enter Try.func120, Try.ntmps120
  go_wp2
  go_end0
  have := KT.setRo HK.out d hd x
  exact ⟨rfl, this.1, this.2⟩
set_option maxHeartbeats 400000 in
theorem undoB_any (b o d p q : Nat) (T : Tb) (x : Bs) (w : World) (hd : d < 5) (hK : KT w b o T) (hp : Whole w p 92 (bsA x)) (hq : Whole w q 149 #[.pointer (some ⟨b, o + 26 + d * 2, none⟩)]) :
    Calls Try.prog 121 #[.pointer (some ⟨p, 0, none⟩), .pointer (some ⟨q, 0, none⟩)] w fun e w' => e = .returned (.tuple #[]) ∧ KT w' b o (setBe T d x) ∧ Fr w w' b o := by
  obtain ⟨d0, d1⟩ := hK.be2 d hd
  have fz := hK.fz
  have c0 := hp.cell
  have c1 := hq.cell 0
  have HK : Hid (KT w b o T) := hK; clear hK
  go_enter Try.func121, Try.ntmps121
  go_wp2
  go_end0
  have := KT.setBe HK.out d hd x
  exact ⟨rfl, this.1, this.2⟩
set_option maxHeartbeats 1000000 in
theorem takeback_any (b o bl B : Nat) (L : List En) (T : Tb) (w : World) (hb : b < B) (hl : B ≤ bl) (hn : L.length ≤ 20) (hK : KT w b o T) (hL : Lg w bl b o B L) :
    Calls Try.prog 73 #[.pointer (some ⟨bl, 0, none⟩)] w fun e w' => e = .returned (.tuple #[]) ∧ KT w' b o (back L T) ∧ Ch w w' b bl o B := by
  obtain ⟨v, fs, hW, hown, hent⟩ := hL.ex
  obtain ⟨ad, cap, hv⟩ := owns_form hown
  have c0 : w.cell? ⟨bl, 0, none⟩ = some (.slice ad L.length cap) := by rw [← hv]; exact hW.cell 0
  have hbl : bl ≠ b := by omega
  have HL : Hid (Lg w bl b o B L) := hL
  have hwr : IntKind.i64.wrap ((L.length : Int) - 1) = (L.length : Int) - 1 := IntWalk.i64_in _ (by omega)
  clear hL hent hown hv
  go_enter Try.func73, Try.ntmps73
  go_wp2
  go_loopw [2] (fun i wr => ∃ k : Nat, k ≤ L.length ∧ i = .int .i64 ((k : Int) - 1) ∧ KT wr b o (back (L.drop k) T) ∧ Lg wr bl b o B L ∧ Fr w wr b o) (fun i _ => (intOf i + 1).toNat)
  case atStart => exact ⟨L.length, Nat.le_refl _, rfl, by rw [List.drop_length]; exact hK, HL.out, Fr.refl _ _ _⟩
  case round =>
    clear c0
    obtain ⟨k, hk, rfl, q1, q2, q3⟩ := hrel
    obtain ⟨v, fs, hW, hown, hent⟩ := q2.ex
    obtain ⟨ad, cap, hv⟩ := owns_form hown
    have c0 : wr.cell? ⟨bl, 0, none⟩ = some (.slice ad L.length cap) := by rw [← hv]; exact hW.cell 0
    by_cases hk0 : 0 < k
    · obtain ⟨j, rfl⟩ : ∃ j, k = j + 1 := ⟨k - 1, by omega⟩
      have hj : j < L.length := by omega
      obtain ⟨e, he⟩ : ∃ e, L[j]? = some e := ⟨_, List.getElem?_eq_getElem hj⟩
      obtain ⟨f, hf, hen⟩ := hent j e he
      have hcf : ∃ g, ad = some ⟨g, 0, none⟩ ∧ wr.cell? ⟨g, j, none⟩ = some f := by
        rcases hown.2 with ⟨h, h0⟩ | ⟨g, c1, cur, hv1, _, hc, _, _, _, ht⟩
        · omega
        · rw [hv] at hv1
          have e1 : ad = some ⟨g, 0, none⟩ := by simp at hv1; exact hv1.1
          refine ⟨g, e1, ?_⟩
          rw [cell_of_row wr g j cur _ (0, 0) hc, ← Array.getElem?_toList]
          rw [← ht, List.getElem?_take] at hf
          split at hf
          · exact hf
          · cases hf
      obtain ⟨g, rfl, hgc⟩ := hcf
      have hj' : (j : Int) < (L.length : Int) := by omega
      have hj0 : (0 : Int) ≤ (j : Int) := by omega
      have hbk := back_drop L j e he T
      have Q1 : Hid (KT wr b o (back (L.drop (j + 1)) T)) := q1
      have Q2 : Hid (Lg wr bl b o B L) := q2
      have Q3 : Hid (Fr w wr b o) := q3
      have HB : Hid (back (L.drop j) T = undoE e (back (L.drop (j + 1)) T)) := hbk
      have hs1 : ((j + 1 : Nat) : Int) - 1 = (j : Int) := by omega
      rw [hs1]
      clear q1 q2 q3 hbk hW hown hent hv hf
      cases e with
      | ro d x =>
        obtain ⟨hd, p, q, p1, p2, rfl, p3, p4⟩ := hen
        go_wp2_with (go_at_call 120; refine (undoR_any b o d p q _ x _ hd Q1.out p3 p4).mono ?_; rintro e w1 ⟨rfl, t1, t2⟩)
        go_roundw
        case rel => exact ⟨j, by omega, by go_num, by rw [HB.out]; exact t1, Q2.out.keep hl (fun k hk hB => t2.only.block k hk (by omega)), Q3.out.trans t2⟩
        case measure => simp [intOf]
      | be d x =>
        obtain ⟨hd, p, q, p1, p2, rfl, p3, p4⟩ := hen
        go_wp2_with (go_at_call 121; refine (undoB_any b o d p q _ x _ hd Q1.out p3 p4).mono ?_; rintro e w1 ⟨rfl, t1, t2⟩)
        go_roundw
        case rel => exact ⟨j, by omega, by go_num, by rw [HB.out]; exact t1, Q2.out.keep hl (fun k hk hB => t2.only.block k hk (by omega)), Q3.out.trans t2⟩
        case measure => simp [intOf]
    · have hk6 : k = 0 := by omega
      subst hk6
      have fz := hW.frozen 0
      have Q1 : Hid (KT wr b o (back (L.drop 0) T)) := q1
      have Q3 : Hid (Fr w wr b o) := q3
      clear q1 q2 q3 hown hent
      go_wp2
      go_end0
      refine ⟨rfl, Q1.out.of (heap_setCell_other _ _ _ _ (fun e => hbl e.symm)), (Ch.ofFr Q3.out).trans ⟨rfl, rfl, rfl, by simp, fun k _ h1 h2 _ => heap_setCell_other _ _ _ _ h2, fun p _ => World.cell?_of_block (w := wr) (heap_setCell_other _ _ _ _ (fun e => hbl e.symm))⟩⟩
end Go.Proofs.Ytdoodnbobpijoaa

namespace Go.Proofs.Ytdoodnbobpijoaa
open Go.RowKit

/-! ### dropFar, tellings, raiseBests -/
/-- What stands while a Dump goes on: the table U, out of T0 by a log of at most c entries. -/
structure Dst (w W : World) (b o bl B c : Nat) (T0 U : Tb) : Prop where
  kt : KT W b o U
  lg : ∃ L, Lg W bl b o B L ∧ back L U = T0 ∧ L.length ≤ c
  ch : Ch w W b bl o B
theorem Dst.step {w W W' : World} {b o bl B c : Nat} {T0 U : Tb} (h : Dst w W b o bl B c T0 U) (_hb : b < B) (hl : B ≤ bl) (hk : Below W.heap.size W W') : Dst w W' b o bl B c T0 U :=
  ⟨h.kt.below hk, let ⟨L, h1, h2, h3⟩ := h.lg; ⟨L, h1.below hl hk, h2, h3⟩, h.ch.trans (Ch.below h.kt.lt hk)⟩
theorem Dst.drew {w W : World} {b o bl B c : Nat} {T0 U : Tb} (h : Dst w W b o bl B c T0 U) : Dst w W.drew b o bl B c T0 U :=
  ⟨h.kt.of rfl, let ⟨L, h1, h2, h3⟩ := h.lg; ⟨L, let ⟨v, fs, e1, e2, e3⟩ := h1.ex; ⟨v, fs, e1.drew, e2.drew, fun i e he => let ⟨f, f1, f2⟩ := e3 i e he; ⟨f, f1, f2.keep fun _ _ _ _ _ _ hw => hw.drew⟩⟩, h2, h3⟩, ⟨h.ch.os, h.ch.tape, h.ch.output, h.ch.size, h.ch.block, h.ch.cell⟩⟩
theorem Dst.mono {w W : World} {b o bl B c c' : Nat} {T0 U : Tb} (h : Dst w W b o bl B c T0 U) (hc : c ≤ c') : Dst w W b o bl B c' T0 U :=
  ⟨h.kt, let ⟨L, h1, h2, h3⟩ := h.lg; ⟨L, h1, h2, Nat.le_trans h3 hc⟩, h.ch⟩
theorem Dst.congr {w W : World} {b o bl B c : Nat} {T0 U U' : Tb} (h : Dst w W b o bl B c T0 U) (e : U' = U) : Dst w W b o bl B c T0 U' := e ▸ h
theorem Dst.setR {w W : World} {b o bl B c d : Nat} {T0 U : Tb} (h : Dst w W b o bl B c T0 U) (hd : d < 5) (hb : b < B) (hl : B ≤ bl) (hBw : B ≤ w.heap.size) (hc : c ≤ 20) (x : Rt) :
    Calls Try.prog 104 #[.pointer (some ⟨bl, 0, none⟩), .pointer (some ⟨b, o + 1 + d * 5, none⟩), .agg (rtA x)] W fun e w' => e = .returned (.tuple #[]) ∧ Dst w w' b o bl B (c + 1) T0 (setRo U d x) ∧ Ch W w' b bl o B := by
  obtain ⟨L, h1, h2, h3⟩ := h.lg
  refine (setR_any b o bl B d L U x W hd hb hl (Nat.le_trans hBw h.ch.size) (by omega) h.kt h1).mono ?_
  rintro e w' ⟨rfl, t1, t2, t3⟩
  refine ⟨rfl, ⟨t1, ⟨_, t2, ?_, by rw [List.length_append, List.length_singleton]; omega⟩, h.ch.trans t3⟩, t3⟩
  rw [back_snoc]
  show back L (setRo (setRo U d x) d (U.ro d)) = T0
  rw [setRo_twice, setRo_self]; exact h2
theorem Dst.setB {w W : World} {b o bl B c d : Nat} {T0 U : Tb} (h : Dst w W b o bl B c T0 U) (hd : d < 5) (hb : b < B) (hl : B ≤ bl) (hBw : B ≤ w.heap.size) (hc : c ≤ 20) (x : Bs) :
    Calls Try.prog 107 #[.pointer (some ⟨bl, 0, none⟩), .pointer (some ⟨b, o + 26 + d * 2, none⟩), .agg (bsA x)] W fun e w' => e = .returned (.tuple #[]) ∧ Dst w w' b o bl B (c + 1) T0 (setBe U d x) ∧ Ch W w' b bl o B := by
  obtain ⟨L, h1, h2, h3⟩ := h.lg
  refine (setB_any b o bl B d L U x W hd hb hl (Nat.le_trans hBw h.ch.size) (by omega) h.kt h1).mono ?_
  rintro e w' ⟨rfl, t1, t2, t3⟩
  refine ⟨rfl, ⟨t1, ⟨_, t2, ?_, by rw [List.length_append, List.length_singleton]; omega⟩, h.ch.trans t3⟩, t3⟩
  rw [back_snoc]
  show back L (setBe (setBe U d x) d (U.be d)) = T0
  rw [setBe_twice, setBe_self]; exact h2
/-- The routes below k are looked at. -/
def farT (T : Tb) (f : Nat → Int) (k : Nat) : Tb := ⟨T.sq, fun d => if d < k ∧ 0 ≤ (T.ro d).nx ∧ 30 < (T.ro d).mt + f (T.ro d).nx.toNat then noRt else T.ro d, T.be⟩
theorem farT_zero (T : Tb) (f : Nat → Int) : farT T f 0 = T := by
  have : (fun d => if d < 0 ∧ 0 ≤ (T.ro d).nx ∧ 30 < (T.ro d).mt + f (T.ro d).nx.toNat then noRt else T.ro d) = T.ro := by funext d; rw [if_neg (by omega)]
  unfold farT; rw [this]
theorem farT_ro (T : Tb) (f : Nat → Int) (k : Nat) : (farT T f k).ro k = T.ro k := by
  show (if k < k ∧ _ then _ else _) = _
  rw [if_neg (by omega)]
theorem farT_miss (T : Tb) (f : Nat → Int) (k : Nat) (h : ¬ (0 ≤ (T.ro k).nx ∧ 30 < (T.ro k).mt + f (T.ro k).nx.toNat)) : farT T f (k + 1) = farT T f k := by
  have : (fun d => if d < k + 1 ∧ 0 ≤ (T.ro d).nx ∧ 30 < (T.ro d).mt + f (T.ro d).nx.toNat then noRt else T.ro d) = fun d => if d < k ∧ 0 ≤ (T.ro d).nx ∧ 30 < (T.ro d).mt + f (T.ro d).nx.toNat then noRt else T.ro d := by
    funext d
    by_cases e : d = k
    · subst e; rw [if_neg (fun hh => h hh.2), if_neg (by omega)]
    · have : (d < k + 1 ∧ 0 ≤ (T.ro d).nx ∧ 30 < (T.ro d).mt + f (T.ro d).nx.toNat) ↔ (d < k ∧ 0 ≤ (T.ro d).nx ∧ 30 < (T.ro d).mt + f (T.ro d).nx.toNat) := by omega
      simp only [this]
  unfold farT; rw [this]
theorem farT_hit (T : Tb) (f : Nat → Int) (k : Nat) (h : 0 ≤ (T.ro k).nx ∧ 30 < (T.ro k).mt + f (T.ro k).nx.toNat) : farT T f (k + 1) = setRo (farT T f k) k noRt := by
  have : (fun d => if d < k + 1 ∧ 0 ≤ (T.ro d).nx ∧ 30 < (T.ro d).mt + f (T.ro d).nx.toNat then noRt else T.ro d) = fun d => if d = k then noRt else if d < k ∧ 0 ≤ (T.ro d).nx ∧ 30 < (T.ro d).mt + f (T.ro d).nx.toNat then noRt else T.ro d := by
    funext d
    by_cases e : d = k
    · subst e; rw [if_pos ⟨by omega, h⟩, if_pos rfl]
    · rw [if_neg e]
      have : (d < k + 1 ∧ 0 ≤ (T.ro d).nx ∧ 30 < (T.ro d).mt + f (T.ro d).nx.toNat) ↔ (d < k ∧ 0 ≤ (T.ro d).nx ∧ 30 < (T.ro d).mt + f (T.ro d).nx.toNat) := by omega
      simp only [this]
  unfold farT; rw [this]; rfl
attribute [local go_sem ↓] Go.wp_at_zero Go.wp_at_succ
set_option maxHeartbeats 4000000 in
set_option maxRecDepth 100000 in
theorem dropfar_any (b o bl B c : Nat) (T T0 : Tb) (f : Nat → Int) (w : World) (hbB : b < B) (hl : B ≤ bl) (hBw : B ≤ w.heap.size) (hc : c ≤ 10) (hD : Dst w w b o bl B c T0 T) (hf : ∀ k, 0 ≤ f k ∧ f k ≤ 9)
    (hT : ∀ d, d < 5 → (T.ro d).nx < 5 ∧ (0 ≤ (T.ro d).nx → 0 ≤ (T.ro d).mt ∧ (T.ro d).mt ≤ 30)) :
    Calls Try.prog 74 #[.pointer (some ⟨b, o, none⟩), .agg (coA f), .pointer (some ⟨bl, 0, none⟩)] w fun e w' => e = .returned (.tuple #[]) ∧ Dst w w' b o bl B (c + 5) T0 (farT T f 5) := by
  have lb := hD.kt.lt
  have ll : bl < w.heap.size := let ⟨_, h, _⟩ := hD.lg; h.lt
  have D0 : Hid (Dst w (w.alloc (.cells (coA f) 85)) b o bl B c T0 T) := hD.step hbB hl ((Below.refl _ _).alloc (Nat.le_refl _) _)
  have C0 : Hid (Whole (w.alloc (.cells (coA f) 85)) w.heap.size 85 (coA f)) := Whole.new w _ _
  clear hD
  go_enter Try.func74, Try.ntmps74
  go_wp2
  go_loopw [7] (fun i wr => ∃ k : Nat, k ≤ 5 ∧ i = .int .i64 k ∧ Dst w wr b o bl B (c + k) T0 (farT T f k) ∧ Whole wr w.heap.size 85 (coA f)) (fun i _ => 5 - (intOf i).toNat)
  case atStart => exact ⟨0, by omega, rfl, by rw [farT_zero]; exact D0.out, C0.out⟩
  case round =>
    clear D0 C0
    obtain ⟨k, hk, rfl, q1, q2⟩ := hrel
    by_cases hk5 : k < 5
    · have hk' : (k : Int) < 5 := by omega
      have hro := farT_ro T f k
      obtain ⟨hx5, hm30⟩ := hT k hk5
      have hc20 : c + k ≤ 20 := by omega
      have P : Hid (Dst w wr b o bl B (c + k) T0 (farT T f k)) := q1
      have C : Hid (Whole wr w.heap.size 85 (coA f)) := q2
      clear q1 q2
      by_cases hnx : 0 ≤ (T.ro k).nx
      · have hnx' : decide (0 ≤ (T.ro k).nx) = true := by simpa using hnx
        obtain ⟨m0, m1⟩ := hm30 hnx
        have FT : ∀ W : World, KT W b o (farT T f k) → Calls Try.prog 103 #[.pointer (some ⟨b, o, none⟩), .int .i64 k, .agg (coA f)] W fun e w' => e = .returned (.agg #[.int .i64 (T.ro k).sq, .int .i64 ((T.ro k).mt + f (T.ro k).nx.toNat)]) ∧ Below W.heap.size W w' := fun W h => by
          have := telling_any b o k (farT T f k) f W hk5 h (by rw [hro]; exact hnx) (by rw [hro]; exact hx5) (by rw [hro]; exact m0) (by rw [hro]; exact m1) (hf _).1 (hf _).2
          rw [hro] at this
          exact this
        have hfd := field_mt (T.ro k).sq ((T.ro k).mt + f (T.ro k).nx.toNat)
        have c0 := (C.out.cell 0); have c1 := (C.out.cell 1); have c2 := (C.out.cell 2); have c3 := (C.out.cell 3); have c4 := (C.out.cell 4)
        by_cases hfar : 30 < (T.ro k).mt + f (T.ro k).nx.toNat
        · have hfar' : decide (30 < (T.ro k).mt + f (T.ro k).nx.toNat) = true := by simpa using hfar
          have HH : Hid (farT T f (k + 1) = setRo (farT T f k) k noRt) := farT_hit T f k ⟨hnx, hfar⟩
          generalize (T.ro k).mt + f (T.ro k).nx.toNat = tot at *
          clear hfar
          go_wp2_with (first | (go_at_call 79; refine (hasr_any b o k (farT T f k) _ hk5 P.out.kt).mono ?_; rw [hro, hnx']; rintro e w1 ⟨rfl, rfl⟩) | (go_at_call 103; refine (FT _ P.out.kt).mono ?_; rintro e w1 ⟨rfl, hb1⟩; replace P : Hid (Dst w w1 b o bl B (c + k) T0 (farT T f k)) := P.out.step hbB hl hb1; replace C : Hid (Whole w1 w.heap.size 85 (coA f)) := C.out.below hb1; clear hb1))
          refine wp_region_any (by kernel_rfl) ?_
          change wpAny _ _ _ _ _ _ _ (World.drew _)
          refine any_hq (fun _ _ x _ _ h => by cases x <;> exact h) ?_
          intro hQ
          refine take_to 0 (some 21) (.pointer (some ⟨bl, 0, none⟩)) hQ rfl rfl (by kernel_rfl) (by kernel_rfl) (by kernel_rfl) (by kernel_rfl) (fun w => by go_simp) ?_
          refine take_to 1 (some 22) (.pointer (some ⟨b, o, none⟩)) hQ rfl rfl (by kernel_rfl) (by kernel_rfl) (by kernel_rfl) (by kernel_rfl) (fun w => by go_simp) ?_
          refine take_to 2 (some 23) (.int .i64 k) hQ rfl rfl (by kernel_rfl) (by kernel_rfl) (by kernel_rfl) (by kernel_rfl) (fun w => by go_simp) ?_
          refine take_to 3 (some 24) (.pointer (some ⟨b, o, none⟩)) hQ rfl rfl (by kernel_rfl) (by kernel_rfl) (by kernel_rfl) (by kernel_rfl) (fun w => by go_simp) ?_
          refine take_to 4 (some 25) (.pointer (some ⟨b, o + 1, none⟩)) hQ rfl rfl (by kernel_rfl) (by kernel_rfl) (by kernel_rfl) (by kernel_rfl) (fun w => by go_simp) ?_
          refine take_to 5 (some 26) (.pointer (some ⟨b, o + 1 + k * 5, none⟩)) hQ rfl rfl (by kernel_rfl) (by kernel_rfl) (by kernel_rfl) (by kernel_rfl) (fun w => by go_simp) ?_
          refine wpAny_ready (rs := [6]) (by kernel_rfl) (by simp) ?_
          refine AllReady.cons rfl (fun K hK => ?_) AllReady.nil
          go_simp
          go_wp2_with (go_at_call 80; refine (pnone_any _).mono ?_; rintro e w2 ⟨rfl, hb2⟩; replace P : Hid (Dst w w2 b o bl B (c + k) T0 (farT T f k)) := P.out.drew.step hbB hl hb2; replace C : Hid (Whole w2 w.heap.size 85 (coA f)) := C.out.drew.below hb2; clear hb2)
          refine wpAny_ready (rs := [7]) (by kernel_rfl) (by simp) ?_
          refine AllReady.cons rfl (fun K hK => ?_) AllReady.nil
          go_simp
          go_wp2_with (go_at_call 104; refine (P.out.setR hk5 hbB hl hBw hc20 noRt).mono ?_; rintro e w3 ⟨rfl, t1, t2⟩)
          refine wpAny_done (by kernel_rfl) ?_ _
          clear hQ
          go_simp
          go_wp2
          go_roundw
          case rel => exact ⟨k + 1, by omega, by go_num, by rw [HH.out]; exact t1, t2.whole C.out (by omega) (by omega) (by decide)⟩
          case measure => simp [intOf]; omega
        · have hfar' : decide (30 < (T.ro k).mt + f (T.ro k).nx.toNat) = false := by simpa using hfar
          have HH : Hid (farT T f (k + 1) = farT T f k) := farT_miss T f k (fun h => hfar h.2)
          generalize (T.ro k).mt + f (T.ro k).nx.toNat = tot at *
          clear hfar
          go_wp2_with (first | (go_at_call 79; refine (hasr_any b o k (farT T f k) _ hk5 P.out.kt).mono ?_; rw [hro, hnx']; rintro e w1 ⟨rfl, rfl⟩) | (go_at_call 103; refine (FT _ P.out.kt).mono ?_; rintro e w1 ⟨rfl, hb1⟩; replace P : Hid (Dst w w1 b o bl B (c + k) T0 (farT T f k)) := P.out.step hbB hl hb1; replace C : Hid (Whole w1 w.heap.size 85 (coA f)) := C.out.below hb1; clear hb1))
          go_roundw
          case rel => exact ⟨k + 1, by omega, by go_num, by rw [HH.out]; exact P.out.mono (by omega), C.out⟩
          case measure => simp [intOf]; omega
      · have hnx' : decide (0 ≤ (T.ro k).nx) = false := by simpa using hnx
        have HH : Hid (farT T f (k + 1) = farT T f k) := farT_miss T f k (fun h => hnx h.1)
        go_wp2_with (first | (go_at_call 79; refine (hasr_any b o k (farT T f k) _ hk5 P.out.kt).mono ?_; rw [hro, hnx']; rintro e w1 ⟨rfl, rfl⟩))
        go_roundw
        case rel => exact ⟨k + 1, by omega, by go_num, by rw [HH.out]; exact P.out.mono (by omega), C.out⟩
        case measure => simp [intOf]; omega
    · have hk6 : k = 5 := by omega
      subst hk6
      go_wp2
      go_end0
      exact ⟨rfl, q1⟩
end Go.Proofs.Ytdoodnbobpijoaa

namespace Go.Proofs.Ytdoodnbobpijoaa
open Go.RowKit

/-! ### tellings -/
def tellM (T : Tb) (f : Nat → Int) (self : Nat) : Nat → Bs := fun d => if d = self then ⟨T.sq, 0⟩ else if 0 ≤ (T.ro d).nx then ⟨(T.ro d).sq, (T.ro d).mt + f (T.ro d).nx.toNat⟩ else noBs
def tellK (T : Tb) (f : Nat → Int) (self k : Nat) : Nat → Bs := fun d => if d < k then tellM T f self d else ⟨0, 0⟩
theorem tellK_zero (T : Tb) (f : Nat → Int) (self : Nat) : mgA (tellK T f self 0) = Zm := by
  rw [← mgA_zero]
  exact mgA_congr fun d _ => by show (if d < 0 then _ else _) = _; rw [if_neg (by omega)]
theorem tellK_five (T : Tb) (f : Nat → Int) (self : Nat) : mgA (tellK T f self 5) = mgA (tellM T f self) := mgA_congr fun d hd => by show (if d < 5 then _ else _) = _; rw [if_pos hd]
theorem tellK_step (T : Tb) (f : Nat → Int) (self k : Nat) : setMg (tellK T f self k) k (tellM T f self k) = tellK T f self (k + 1) := by
  funext d
  unfold setMg tellK
  by_cases e : d = k
  · subst e; rw [if_pos rfl, if_pos (by omega)]
  · rw [if_neg e]
    have : d < k + 1 ↔ d < k := by omega
    simp only [this]
attribute [local go_sem ↓] Go.wp_at_zero Go.wp_at_succ ldPM stPM alcPM
attribute [local go_sem] vb_ptr vo_ptr cellsL_agg size_setCells
set_option maxHeartbeats 2000000 in
set_option maxRecDepth 100000 in
theorem tellings_any (b o self : Nat) (T : Tb) (f : Nat → Int) (w : World) (hK : KT w b o T) (hf : ∀ k, 0 ≤ f k ∧ f k ≤ 9)
    (hT : ∀ d, d < 5 → (T.ro d).nx < 5 ∧ (0 ≤ (T.ro d).nx → 0 ≤ (T.ro d).mt ∧ (T.ro d).mt ≤ 30)) :
    Calls Try.prog 75 #[.pointer (some ⟨b, o, none⟩), .int .i64 self, .agg (coA f)] w fun e w' => e = .returned (.agg (mgA (tellM T f self))) ∧ Below w.heap.size w w' := by
  have lb := hK.lt
  have n0 : Whole (((w.alloc (.cells (coA f) 85)).alloc (.cells Zm 104)).alloc (.cells Zm 104)) w.heap.size 85 (coA f) := ((Whole.new w _ _).alloc _).alloc _
  have n1 : Whole (((w.alloc (.cells (coA f) 85)).alloc (.cells Zm 104)).alloc (.cells Zm 104)) (w.heap.size + 1) 104 Zm := by
    have := (Whole.new (w.alloc (.cells (coA f) 85)) 104 Zm).alloc (.cells Zm 104)
    simp only [World.size_alloc] at this
    exact this
  have n2 : Whole (((w.alloc (.cells (coA f) 85)).alloc (.cells Zm 104)).alloc (.cells Zm 104)) (w.heap.size + 1 + 1) 104 Zm := by
    have := Whole.new ((w.alloc (.cells (coA f) 85)).alloc (.cells Zm 104)) 104 Zm
    simp only [World.size_alloc] at this
    exact this
  have b3 : Below w.heap.size w (((w.alloc (.cells (coA f) 85)).alloc (.cells Zm 104)).alloc (.cells Zm 104)) := (((Below.refl _ _).alloc (Nat.le_refl _) _).alloc (by simp) _).alloc (by simp; omega) _
  have N0 : Hid (Whole (((w.alloc (.cells (coA f) 85)).alloc (.cells Zm 104)).alloc (.cells Zm 104)) w.heap.size 85 (coA f)) := n0
  have N1 : Hid (Whole (((w.alloc (.cells (coA f) 85)).alloc (.cells Zm 104)).alloc (.cells Zm 104)) (w.heap.size + 1) 104 Zm) := n1
  have N2 : Hid (Whole (((w.alloc (.cells (coA f) 85)).alloc (.cells Zm 104)).alloc (.cells Zm 104)) (w.heap.size + 1 + 1) 104 Zm) := n2
  have B3 : Hid (Below w.heap.size w (((w.alloc (.cells (coA f) 85)).alloc (.cells Zm 104)).alloc (.cells Zm 104))) := b3
  have K3 : Hid (KT (((w.alloc (.cells (coA f) 85)).alloc (.cells Zm 104)).alloc (.cells Zm 104)) b o T) := hK.below b3
  clear n0 n1 n2 b3 hK
  go_enter Try.func75, Try.ntmps75
  go_wp2
  go_loopw [9] (fun i wr => ∃ k : Nat, k ≤ 5 ∧ i = .int .i64 k ∧ KT wr b o T ∧ Whole wr w.heap.size 85 (coA f) ∧ Whole wr (w.heap.size + 1) 104 Zm ∧ Whole wr (w.heap.size + 1 + 1) 104 (mgA (tellK T f self k)) ∧ Below w.heap.size w wr) (fun i _ => 5 - (intOf i).toNat)
  case atStart => exact ⟨0, by omega, rfl, K3.out, N0.out, N1.out, by rw [tellK_zero]; exact N2.out, B3.out⟩
  case round =>
    clear K3 N0 N1 N2 B3
    obtain ⟨k, hk, rfl, q1, q2, q3, q4, q5⟩ := hrel
    by_cases hk5 : k < 5
    · have hk' : (k : Int) < 5 := by omega
      obtain ⟨hx5, hm30⟩ := hT k hk5
      have hst := tellK_step T f self k
      have z1 := q5.size
      have hmb : w.heap.size ≤ w.heap.size + 1 + 1 := by omega
      by_cases hks : k = self
      · subst hks
        have hb : ((k : Int) == (k : Int)) = true := by simp
        have ht : tellM T f k k = ⟨T.sq, 0⟩ := by unfold tellM; rw [if_pos rfl]
        have sq := q1.sq
        have mc := q4.cell
        obtain ⟨m1, m2⟩ := mgA_2 (tellK T f k k) k hk5
        have r1 : wr.cell? ⟨w.heap.size + 1 + 1, k * 2, none⟩ = some (I (tellK T f k k k).sq) := (q4.cell _).trans m1
        have r2 : wr.cell? ⟨w.heap.size + 1 + 1, k * 2 + 1, none⟩ = some (I (tellK T f k k k).mt) := (q4.cell _).trans m2
        have fz := q4.frozen
        have Q1 : Hid (KT wr b o T) := q1; have Q2 : Hid (Whole wr w.heap.size 85 (coA f)) := q2; have Q3 : Hid (Whole wr (w.heap.size + 1) 104 Zm) := q3; have Q4 : Hid (Whole wr (w.heap.size + 1 + 1) 104 (mgA (tellK T f k k))) := q4; have Q5 : Hid (Below w.heap.size w wr) := q5
        clear q1 q2 q3 q4 q5 mc m1 m2
        go_wp2
        go_roundw
        case rel => exact ⟨k + 1, by omega, by go_num, (Q1.out.of (by rw [heap_setCell_other _ _ _ _ (by show b ≠ w.heap.size + 1 + 1; omega), heap_setCell_other _ _ _ _ (by show b ≠ w.heap.size + 1 + 1; omega)])), (Q2.out.setCell (by show w.heap.size ≠ w.heap.size + 1 + 1; omega) _).setCell (by show w.heap.size ≠ w.heap.size + 1 + 1; omega) _, (Q3.out.setCell (by show w.heap.size + 1 ≠ w.heap.size + 1 + 1; omega) _).setCell (by show w.heap.size + 1 ≠ w.heap.size + 1 + 1; omega) _, by rw [← hst, ht]; exact Q4.out.setMg k hk5 ⟨T.sq, 0⟩, (Q5.out.setCell (p := ⟨w.heap.size + 1 + 1, _, none⟩) hmb _).setCell (p := ⟨w.heap.size + 1 + 1, _, none⟩) hmb _⟩
        case measure => simp [intOf]; omega
      · have hb : ((k : Int) == (self : Int)) = false := by rw [beq_eq_false_iff_ne]; omega
        by_cases hnx : 0 ≤ (T.ro k).nx
        · have hnx' : decide (0 ≤ (T.ro k).nx) = true := by simpa using hnx
          obtain ⟨m0, m30⟩ := hm30 hnx
          have ht : tellM T f self k = ⟨(T.ro k).sq, (T.ro k).mt + f (T.ro k).nx.toNat⟩ := by unfold tellM; rw [if_neg hks, if_pos hnx]
          have FT : ∀ W : World, KT W b o T → Calls Try.prog 103 #[.pointer (some ⟨b, o, none⟩), .int .i64 k, .agg (coA f)] W fun e w' => e = .returned (.agg #[.int .i64 (T.ro k).sq, .int .i64 ((T.ro k).mt + f (T.ro k).nx.toNat)]) ∧ Below W.heap.size W w' := fun W h => telling_any b o k T f W hk5 h hnx hx5 m0 m30 (hf _).1 (hf _).2
          generalize (T.ro k).mt + f (T.ro k).nx.toNat = tot at *
          have c0 := (q2.cell 0); have c1 := (q2.cell 1); have c2 := (q2.cell 2); have c3 := (q2.cell 3); have c4 := (q2.cell 4)
          have Q1 : Hid (KT wr b o T) := q1; have Q2 : Hid (Whole wr w.heap.size 85 (coA f)) := q2; have Q3 : Hid (Whole wr (w.heap.size + 1) 104 Zm) := q3; have Q4 : Hid (Whole wr (w.heap.size + 1 + 1) 104 (mgA (tellK T f self k))) := q4; have Q5 : Hid (Below w.heap.size w wr) := q5
          clear q1 q2 q3 q4 q5
          go_wp2_with (first | (go_at_call 79; refine (hasr_any b o k T _ hk5 Q1.out).mono ?_; rw [hnx']; rintro e w1 ⟨rfl, rfl⟩) | (go_at_call 103; refine (FT _ Q1.out).mono ?_; rintro e w1 ⟨rfl, hb1⟩; replace Q1 : Hid (KT w1 b o T) := Q1.out.below hb1; replace Q2 : Hid (Whole w1 w.heap.size 85 (coA f)) := Q2.out.below hb1; replace Q3 : Hid (Whole w1 (w.heap.size + 1) 104 Zm) := Q3.out.below hb1; replace Q5 : Hid (Below w.heap.size w w1) := Q5.out.trans (hb1.mono z1); replace Q4 : Hid (Whole w1 (w.heap.size + 1 + 1) 104 (mgA (tellK T f self k))) := Q4.out.below hb1; have r1 : w1.cell? ⟨w.heap.size + 1 + 1, k * 2, none⟩ = some (I (tellK T f self k k).sq) := (Q4.out.cell _).trans (mgA_2 _ k hk5).1; have r2 : w1.cell? ⟨w.heap.size + 1 + 1, k * 2 + 1, none⟩ = some (I (tellK T f self k k).mt) := (Q4.out.cell _).trans (mgA_2 _ k hk5).2; have fz := Q4.out.frozen; clear hb1))
          go_roundw
          case rel => exact ⟨k + 1, by omega, by go_num, (Q1.out.of (by rw [heap_setCell_other _ _ _ _ (by show b ≠ w.heap.size + 1 + 1; omega), heap_setCell_other _ _ _ _ (by show b ≠ w.heap.size + 1 + 1; omega)])), (Q2.out.setCell (by show w.heap.size ≠ w.heap.size + 1 + 1; omega) _).setCell (by show w.heap.size ≠ w.heap.size + 1 + 1; omega) _, (Q3.out.setCell (by show w.heap.size + 1 ≠ w.heap.size + 1 + 1; omega) _).setCell (by show w.heap.size + 1 ≠ w.heap.size + 1 + 1; omega) _, by rw [← hst, ht]; exact Q4.out.setMg k hk5 ⟨(T.ro k).sq, tot⟩, (Q5.out.setCell (p := ⟨w.heap.size + 1 + 1, _, none⟩) hmb _).setCell (p := ⟨w.heap.size + 1 + 1, _, none⟩) hmb _⟩
          case measure => simp [intOf]; omega
        · have hnx' : decide (0 ≤ (T.ro k).nx) = false := by simpa using hnx
          have ht : tellM T f self k = noBs := by unfold tellM; rw [if_neg hks, if_neg hnx]
          have Q1 : Hid (KT wr b o T) := q1; have Q2 : Hid (Whole wr w.heap.size 85 (coA f)) := q2; have Q3 : Hid (Whole wr (w.heap.size + 1) 104 Zm) := q3; have Q4 : Hid (Whole wr (w.heap.size + 1 + 1) 104 (mgA (tellK T f self k))) := q4; have Q5 : Hid (Below w.heap.size w wr) := q5
          clear q1 q2 q3 q4 q5
          go_wp2_with (first | (go_at_call 79; refine (hasr_any b o k T _ hk5 Q1.out).mono ?_; rw [hnx']; rintro e w1 ⟨rfl, rfl⟩) | (go_at_call 105; refine (pnothing_any _).mono ?_; rintro e w1 ⟨rfl, hb1⟩; replace Q1 : Hid (KT w1 b o T) := Q1.out.below hb1; replace Q2 : Hid (Whole w1 w.heap.size 85 (coA f)) := Q2.out.below hb1; replace Q3 : Hid (Whole w1 (w.heap.size + 1) 104 Zm) := Q3.out.below hb1; replace Q5 : Hid (Below w.heap.size w w1) := Q5.out.trans (hb1.mono z1); replace Q4 : Hid (Whole w1 (w.heap.size + 1 + 1) 104 (mgA (tellK T f self k))) := Q4.out.below hb1; have r1 : w1.cell? ⟨w.heap.size + 1 + 1, k * 2, none⟩ = some (I (tellK T f self k k).sq) := (Q4.out.cell _).trans (mgA_2 _ k hk5).1; have r2 : w1.cell? ⟨w.heap.size + 1 + 1, k * 2 + 1, none⟩ = some (I (tellK T f self k k).mt) := (Q4.out.cell _).trans (mgA_2 _ k hk5).2; have fz := Q4.out.frozen; clear hb1))
          go_roundw
          case rel => exact ⟨k + 1, by omega, by go_num, (Q1.out.of (by rw [heap_setCell_other _ _ _ _ (by show b ≠ w.heap.size + 1 + 1; omega), heap_setCell_other _ _ _ _ (by show b ≠ w.heap.size + 1 + 1; omega)])), (Q2.out.setCell (by show w.heap.size ≠ w.heap.size + 1 + 1; omega) _).setCell (by show w.heap.size ≠ w.heap.size + 1 + 1; omega) _, (Q3.out.setCell (by show w.heap.size + 1 ≠ w.heap.size + 1 + 1; omega) _).setCell (by show w.heap.size + 1 ≠ w.heap.size + 1 + 1; omega) _, by rw [← hst, ht]; exact Q4.out.setMg k hk5 noBs, (Q5.out.setCell (p := ⟨w.heap.size + 1 + 1, _, none⟩) hmb _).setCell (p := ⟨w.heap.size + 1 + 1, _, none⟩) hmb _⟩
          case measure => simp [intOf]; omega
    · have hk6 : k = 5 := by omega
      subst hk6
      rw [tellK_five] at q4
      obtain ⟨j1, j2⟩ := q4.mid (mgA_size _)
      have j3 := q3.there Zm_size
      have ag := aggOk_mg (tellM T f self)
      have Q3 : Hid (Whole wr (w.heap.size + 1) 104 Zm) := q3
      have Q5 : Hid (Below w.heap.size w wr) := q5
      clear q1 q2 q3 q4 q5
      go_wp2
      refine bodyPost_ret (v := .agg (mgA (tellM T f self))) (results_cell0 (t := 104) rfl _ _ (w.heap.size + 1) (mgA (tellM T f self)) rfl (Q3.out.over (mgA (tellM T f self)) (by rw [mgA_size, Zm_size])) _ Try.underlying104 rfl (by rw [sizePM, mgA_size])) rfl ⟨rfl, Below.setCells Q5.out (by omega) _ _⟩
end Go.Proofs.Ytdoodnbobpijoaa

namespace Go.Proofs.Ytdoodnbobpijoaa
open Go.RowKit

/-! ### raiseBests -/
def raiseT (T : Tb) (m : Nat → Bs) (self k : Nat) : Tb := ⟨T.sq, T.ro, fun d => if d < k ∧ d ≠ self ∧ bet (m d) (T.be d) then m d else T.be d⟩
theorem raiseT_zero (T : Tb) (m : Nat → Bs) (self : Nat) : raiseT T m self 0 = T := by
  have : (fun d => if d < 0 ∧ d ≠ self ∧ bet (m d) (T.be d) then m d else T.be d) = T.be := by funext d; rw [if_neg (by omega)]
  unfold raiseT; rw [this]
theorem raiseT_be (T : Tb) (m : Nat → Bs) (self k : Nat) : (raiseT T m self k).be k = T.be k := by
  show (if k < k ∧ _ then _ else _) = _
  rw [if_neg (by omega)]
theorem raiseT_miss (T : Tb) (m : Nat → Bs) (self k : Nat) (h : ¬ (k ≠ self ∧ bet (m k) (T.be k))) : raiseT T m self (k + 1) = raiseT T m self k := by
  have : (fun d => if d < k + 1 ∧ d ≠ self ∧ bet (m d) (T.be d) then m d else T.be d) = fun d => if d < k ∧ d ≠ self ∧ bet (m d) (T.be d) then m d else T.be d := by
    funext d
    by_cases e : d = k
    · subst e; rw [if_neg (fun hh => h hh.2), if_neg (by omega)]
    · have : (d < k + 1 ∧ d ≠ self ∧ bet (m d) (T.be d)) ↔ (d < k ∧ d ≠ self ∧ bet (m d) (T.be d)) := by
        constructor
        · rintro ⟨h1, h2⟩; exact ⟨by omega, h2⟩
        · rintro ⟨h1, h2⟩; exact ⟨by omega, h2⟩
      simp only [this]
  unfold raiseT; rw [this]
theorem raiseT_hit (T : Tb) (m : Nat → Bs) (self k : Nat) (h : k ≠ self ∧ bet (m k) (T.be k)) : raiseT T m self (k + 1) = setBe (raiseT T m self k) k (m k) := by
  have : (fun d => if d < k + 1 ∧ d ≠ self ∧ bet (m d) (T.be d) then m d else T.be d) = fun d => if d = k then m k else if d < k ∧ d ≠ self ∧ bet (m d) (T.be d) then m d else T.be d := by
    funext d
    by_cases e : d = k
    · subst e; rw [if_pos ⟨by omega, h⟩, if_pos rfl]
    · rw [if_neg e]
      have : (d < k + 1 ∧ d ≠ self ∧ bet (m d) (T.be d)) ↔ (d < k ∧ d ≠ self ∧ bet (m d) (T.be d)) := by
        constructor
        · rintro ⟨h1, h2⟩; exact ⟨by omega, h2⟩
        · rintro ⟨h1, h2⟩; exact ⟨by omega, h2⟩
      simp only [this]
  unfold raiseT; rw [this]; rfl
def SB (p b q : Nat) (t u : Bs) (w' : World) : Prop := w'.cell? ⟨p, 0, none⟩ = some (I t.sq) ∧ w'.cell? ⟨p, 1, none⟩ = some (I t.mt) ∧ w'.cell? ⟨b, q, none⟩ = some (I u.sq) ∧ w'.cell? ⟨b, q + 1, none⟩ = some (I u.mt)
theorem SB.below {p b q : Nat} {t u : Bs} {w w' : World} (h : SB p b q t u w) (hb : Below w.heap.size w w') : SB p b q t u w' := four_below2 h hb
attribute [local go_sem ↓] Go.wp_at_zero Go.wp_at_succ ldPM stPM alcPM
attribute [local go_sem] vb_ptr vo_ptr cellsL_agg size_setCells
set_option maxHeartbeats 4000000 in
set_option maxRecDepth 100000 in
theorem raise_any (b o self bl B c : Nat) (T T0 : Tb) (m : Nat → Bs) (w : World) (hbB : b < B) (hl : B ≤ bl) (hBw : B ≤ w.heap.size) (hc : c ≤ 10) (hD : Dst w w b o bl B c T0 T) :
    Calls Try.prog 76 #[.pointer (some ⟨b, o, none⟩), .int .i64 self, .agg (mgA m), .pointer (some ⟨bl, 0, none⟩)] w fun e w' => e = .returned (.tuple #[]) ∧ Dst w w' b o bl B (c + 5) T0 (raiseT T m self 5) := by
  have lb := hD.kt.lt
  have D0 : Hid (Dst w (w.alloc (.cells (mgA m) 104)) b o bl B c T0 T) := hD.step hbB hl ((Below.refl _ _).alloc (Nat.le_refl _) _)
  obtain ⟨k1, k2⟩ := (Whole.new w 104 (mgA m)).mid (mgA_size m)
  clear hD
  go_enter Try.func76, Try.ntmps76
  go_wp2
  go_loopw [11] (fun i wr => ∃ k : Nat, k ≤ 5 ∧ i = .int .i64 k ∧ Dst w wr b o bl B (c + k) T0 (raiseT T m self k)) (fun i _ => 5 - (intOf i).toNat)
  case atStart => exact ⟨0, by omega, rfl, by rw [raiseT_zero]; exact D0.out⟩
  case round =>
    clear D0 k1 k2
    obtain ⟨k, hk, rfl, q1⟩ := hrel
    by_cases hk5 : k < 5
    · have hk' : (k : Int) < 5 := by omega
      have hk0 : (0 : Int) ≤ (k : Int) := by omega
      have ix := idx_msg m k hk5
      have hbe := raiseT_be T m self k
      have hc20 : c + k ≤ 20 := by omega
      have b1 : Below wr.heap.size wr (wr.alloc (.cells #[.int .i64 (m k).sq, .int .i64 (m k).mt] 92)) := (Below.refl _ _).alloc (Nat.le_refl _) _
      have P : Hid (Dst w (wr.alloc (.cells #[.int .i64 (m k).sq, .int .i64 (m k).mt] 92)) b o bl B (c + k) T0 (raiseT T m self k)) := q1.step hbB hl b1
      have t0 : Whole (wr.alloc (.cells #[.int .i64 (m k).sq, .int .i64 (m k).mt] 92)) wr.heap.size 92 (bsA (m k)) := Whole.new wr _ _
      obtain ⟨e0, e1⟩ := P.out.kt.be2 k hk5
      rw [hbe] at e0 e1
      have sS : SB wr.heap.size b (o + 26 + k * 2) (m k) (T.be k) (wr.alloc (.cells #[.int .i64 (m k).sq, .int .i64 (m k).mt] 92)).drew := ⟨t0.cell 0, t0.cell 1, e0, e1⟩
      clear q1 b1 t0 e0 e1
      by_cases hks : k = self
      · subst hks
        have hb : ((k : Int) != (k : Int)) = false := by simp
        have HH : Hid (raiseT T m k (k + 1) = raiseT T m k k) := raiseT_miss T m k k (fun h => h.1 rfl)
        go_wp2_with fail
        generalize (wr.alloc (.cells #[.int .i64 (m k).sq, .int .i64 (m k).mt] 92)) = W at *
        refine wp_region_any (by kernel_rfl) ?_
        change wpAny _ _ _ _ _ _ _ (World.drew _)
        refine any_hq (fun _ _ x _ _ h => by cases x <;> exact h) ?_
        intro hQ
        refine take_to 0 (some 15) (.int .i64 k) hQ rfl rfl (by kernel_rfl) (by kernel_rfl) (by kernel_rfl) (by kernel_rfl) (fun w => by go_simp) ?_
        refine take_to 1 (some 16) (.int .i64 k) hQ rfl rfl (by kernel_rfl) (by kernel_rfl) (by kernel_rfl) (by kernel_rfl) (fun w => by go_simp) ?_
        refine take_to 2 (some 17) (.bool false) hQ rfl rfl (by kernel_rfl) (by kernel_rfl) (by kernel_rfl) (by kernel_rfl) (fun w => by go_simp) ?_
        refine take_to 3 (some 18) (.bool false) hQ rfl rfl (by kernel_rfl) (by kernel_rfl) (by kernel_rfl) (by kernel_rfl) (fun w => by go_simp) ?_
        refine take_un 4 (some 19) hQ rfl rfl (by kernel_rfl) (by kernel_rfl) (by kernel_rfl) (by kernel_rfl) ?_
        refine take_un 5 (some 20) hQ rfl rfl (by kernel_rfl) (by kernel_rfl) (by kernel_rfl) (by kernel_rfl) ?_
        refine take_un 6 (some 21) hQ rfl rfl (by kernel_rfl) (by kernel_rfl) (by kernel_rfl) (by kernel_rfl) ?_
        refine take_un 7 (some 22) hQ rfl rfl (by kernel_rfl) (by kernel_rfl) (by kernel_rfl) (by kernel_rfl) ?_
        refine take_un 8 (some 23) hQ rfl rfl (by kernel_rfl) (by kernel_rfl) (by kernel_rfl) (by kernel_rfl) ?_
        refine take_un 9 (some 24) hQ rfl rfl (by kernel_rfl) (by kernel_rfl) (by kernel_rfl) (by kernel_rfl) ?_
        refine take_un 10 (some 25) hQ rfl rfl (by kernel_rfl) (by kernel_rfl) (by kernel_rfl) (by kernel_rfl) ?_
        refine take_un 11 (some 26) hQ rfl rfl (by kernel_rfl) (by kernel_rfl) (by kernel_rfl) (by kernel_rfl) ?_
        refine take_to 12 (some 27) (.bool false) hQ rfl rfl (by kernel_rfl) (by kernel_rfl) (by kernel_rfl) (by kernel_rfl) (fun w => by go_simp) ?_
        refine wpAny_done (by kernel_rfl) ?_ _
        clear hQ
        go_simp
        go_wp2
        go_roundw
        case rel => exact ⟨k + 1, by omega, by go_num, by rw [HH.out]; exact P.out.drew.mono (by omega)⟩
        case measure => simp [intOf]; omega
      · have hb : ((k : Int) != (self : Int)) = true := by rw [bne_iff_ne]; omega
        by_cases hbt : bet (m k) (T.be k)
        · have FB : ∀ W : World, Calls Try.prog 106 #[.agg (bsA (m k)), .agg (bsA (T.be k))] W fun e w' => e = .returned (.bool true) ∧ Below W.heap.size W w' := fun W => by
            have := pbetter_any (m k) (T.be k) W
            rw [decide_eq_true hbt] at this
            exact this
          have HH : Hid (raiseT T m self (k + 1) = setBe (raiseT T m self k) k (m k)) := raiseT_hit T m self k ⟨hks, hbt⟩
          clear hbt
          go_wp2_with fail
          generalize (wr.alloc (.cells #[.int .i64 (m k).sq, .int .i64 (m k).mt] 92)) = W at *
          refine wp_region_held_drew (S := (SB wr.heap.size b (o + 26 + k * 2) (m k) (T.be k))) (by kernel_rfl) sS (fun _ => ?_)
          change wpAnyH _ _ _ _ _ _ _ _ (World.drew _)
          refine held_hq (fun _ _ x _ _ h => by cases x <;> exact h) ?_
          intro hQ
          refine held_to 0 (some 15) (.int .i64 k) hQ sS rfl rfl (by kernel_rfl) (by kernel_rfl) (by kernel_rfl) (by kernel_rfl) (fun w _ => by go_simp) ?_
          refine held_to 1 (some 16) (.int .i64 self) hQ sS rfl rfl (by kernel_rfl) (by kernel_rfl) (by kernel_rfl) (by kernel_rfl) (fun w _ => by go_simp) ?_
          refine held_to 2 (some 17) (.bool true) hQ sS rfl rfl (by kernel_rfl) (by kernel_rfl) (by kernel_rfl) (by kernel_rfl) (fun w _ => by go_simp) ?_
          refine held_to 3 (some 18) (.bool true) hQ sS rfl rfl (by kernel_rfl) (by kernel_rfl) (by kernel_rfl) (by kernel_rfl) (fun w _ => by go_simp) ?_
          refine held_to 4 (some 19) (.agg #[.int .i64 (m k).sq, .int .i64 (m k).mt]) hQ sS rfl rfl (by kernel_rfl) (by kernel_rfl) (by kernel_rfl) (by kernel_rfl) (fun w hS => by obtain ⟨h1, h2, h3, h4⟩ := hS; go_simp) ?_
          refine held_to 5 (some 20) (.pointer (some ⟨b, o, none⟩)) hQ sS rfl rfl (by kernel_rfl) (by kernel_rfl) (by kernel_rfl) (by kernel_rfl) (fun w _ => by go_simp) ?_
          refine held_to 6 (some 21) (.int .i64 k) hQ sS rfl rfl (by kernel_rfl) (by kernel_rfl) (by kernel_rfl) (by kernel_rfl) (fun w _ => by go_simp) ?_
          refine held_to 7 (some 22) (.pointer (some ⟨b, o, none⟩)) hQ sS rfl rfl (by kernel_rfl) (by kernel_rfl) (by kernel_rfl) (by kernel_rfl) (fun w _ => by go_simp) ?_
          refine held_to 8 (some 23) (.pointer (some ⟨b, o + 26, none⟩)) hQ sS rfl rfl (by kernel_rfl) (by kernel_rfl) (by kernel_rfl) (by kernel_rfl) (fun w _ => by go_simp) ?_
          refine held_to 9 (some 24) (.pointer (some ⟨b, o + 26 + k * 2, none⟩)) hQ sS rfl rfl (by kernel_rfl) (by kernel_rfl) (by kernel_rfl) (by kernel_rfl) (fun w _ => by go_simp) ?_
          refine held_to 10 (some 25) (.agg #[.int .i64 (T.be k).sq, .int .i64 (T.be k).mt]) hQ sS rfl rfl (by kernel_rfl) (by kernel_rfl) (by kernel_rfl) (by kernel_rfl) (fun w hS => by obtain ⟨h1, h2, h3, h4⟩ := hS; go_simp) ?_
          refine wpAnyH_ready (rs := [11]) (by kernel_rfl) (by simp) ?_
          refine AllReadyH.cons rfl (fun K hK => ?_) AllReadyH.nil
          go_simp
          go_wp2_with (go_at_call 106; refine (FB _).mono ?_; rintro e w1 ⟨rfl, hb1⟩)
          refine hK.out _ _ (SB.below sS hb1) (fun _ => ?_)
          clear hK K
          refine held_to 12 (some 27) (.bool true) hQ (SB.below sS hb1) rfl rfl (by kernel_rfl) (by kernel_rfl) (by kernel_rfl) (by kernel_rfl) (fun w _ => by go_simp) ?_
          refine wpAnyH_done (by kernel_rfl) ?_ _
          clear hQ
          go_simp
          replace P : Hid (Dst w w1 b o bl B (c + k) T0 (raiseT T m self k)) := P.out.drew.step hbB hl hb1
          obtain ⟨s0, s1, s2, s3⟩ := SB.below sS hb1
          clear sS hb1 s2 s3
          go_wp2_with fail
          refine wp_region_any (by kernel_rfl) ?_
          change wpAny _ _ _ _ _ _ _ (World.drew _)
          refine any_hq (fun _ _ x _ _ h => by cases x <;> exact h) ?_
          intro hQ
          refine take_to 0 (some 28) (.pointer (some ⟨bl, 0, none⟩)) hQ rfl rfl (by kernel_rfl) (by kernel_rfl) (by kernel_rfl) (by kernel_rfl) (fun w => by go_simp) ?_
          refine take_to 1 (some 29) (.pointer (some ⟨b, o, none⟩)) hQ rfl rfl (by kernel_rfl) (by kernel_rfl) (by kernel_rfl) (by kernel_rfl) (fun w => by go_simp) ?_
          refine take_to 2 (some 30) (.int .i64 k) hQ rfl rfl (by kernel_rfl) (by kernel_rfl) (by kernel_rfl) (by kernel_rfl) (fun w => by go_simp) ?_
          refine take_to 3 (some 31) (.pointer (some ⟨b, o, none⟩)) hQ rfl rfl (by kernel_rfl) (by kernel_rfl) (by kernel_rfl) (by kernel_rfl) (fun w => by go_simp) ?_
          refine take_to 4 (some 32) (.pointer (some ⟨b, o + 26, none⟩)) hQ rfl rfl (by kernel_rfl) (by kernel_rfl) (by kernel_rfl) (by kernel_rfl) (fun w => by go_simp) ?_
          refine take_to 5 (some 33) (.pointer (some ⟨b, o + 26 + k * 2, none⟩)) hQ rfl rfl (by kernel_rfl) (by kernel_rfl) (by kernel_rfl) (by kernel_rfl) (fun w => by go_simp) ?_
          refine wpAny_ready (rs := [6]) (by kernel_rfl) (by simp) ?_
          refine AllReady.cons rfl (fun K hK => ?_) AllReady.nil
          go_simp
          refine hK _ _ ?_
          clear hK K
          refine wpAny_ready (rs := [7]) (by kernel_rfl) (by simp) ?_
          refine AllReady.cons rfl (fun K hK => ?_) AllReady.nil
          go_simp
          go_wp2_with (go_at_call 107; refine (P.out.drew.setB hk5 hbB hl hBw hc20 (m k)).mono ?_; rintro e w3 ⟨rfl, t1, t2⟩)
          refine wpAny_done (by kernel_rfl) ?_ _
          clear hQ
          go_simp
          go_wp2
          go_roundw
          case rel => exact ⟨k + 1, by omega, by go_num, by rw [HH.out]; exact t1⟩
          case measure => simp [intOf]; omega
        · have FB : ∀ W : World, Calls Try.prog 106 #[.agg (bsA (m k)), .agg (bsA (T.be k))] W fun e w' => e = .returned (.bool false) ∧ Below W.heap.size W w' := fun W => by
            have := pbetter_any (m k) (T.be k) W
            rw [decide_eq_false hbt] at this
            exact this
          have HH : Hid (raiseT T m self (k + 1) = raiseT T m self k) := raiseT_miss T m self k (fun h => hbt h.2)
          clear hbt
          go_wp2_with fail
          generalize (wr.alloc (.cells #[.int .i64 (m k).sq, .int .i64 (m k).mt] 92)) = W at *
          refine wp_region_held_drew (S := (SB wr.heap.size b (o + 26 + k * 2) (m k) (T.be k))) (by kernel_rfl) sS (fun _ => ?_)
          change wpAnyH _ _ _ _ _ _ _ _ (World.drew _)
          refine held_hq (fun _ _ x _ _ h => by cases x <;> exact h) ?_
          intro hQ
          refine held_to 0 (some 15) (.int .i64 k) hQ sS rfl rfl (by kernel_rfl) (by kernel_rfl) (by kernel_rfl) (by kernel_rfl) (fun w _ => by go_simp) ?_
          refine held_to 1 (some 16) (.int .i64 self) hQ sS rfl rfl (by kernel_rfl) (by kernel_rfl) (by kernel_rfl) (by kernel_rfl) (fun w _ => by go_simp) ?_
          refine held_to 2 (some 17) (.bool true) hQ sS rfl rfl (by kernel_rfl) (by kernel_rfl) (by kernel_rfl) (by kernel_rfl) (fun w _ => by go_simp) ?_
          refine held_to 3 (some 18) (.bool true) hQ sS rfl rfl (by kernel_rfl) (by kernel_rfl) (by kernel_rfl) (by kernel_rfl) (fun w _ => by go_simp) ?_
          refine held_to 4 (some 19) (.agg #[.int .i64 (m k).sq, .int .i64 (m k).mt]) hQ sS rfl rfl (by kernel_rfl) (by kernel_rfl) (by kernel_rfl) (by kernel_rfl) (fun w hS => by obtain ⟨h1, h2, h3, h4⟩ := hS; go_simp) ?_
          refine held_to 5 (some 20) (.pointer (some ⟨b, o, none⟩)) hQ sS rfl rfl (by kernel_rfl) (by kernel_rfl) (by kernel_rfl) (by kernel_rfl) (fun w _ => by go_simp) ?_
          refine held_to 6 (some 21) (.int .i64 k) hQ sS rfl rfl (by kernel_rfl) (by kernel_rfl) (by kernel_rfl) (by kernel_rfl) (fun w _ => by go_simp) ?_
          refine held_to 7 (some 22) (.pointer (some ⟨b, o, none⟩)) hQ sS rfl rfl (by kernel_rfl) (by kernel_rfl) (by kernel_rfl) (by kernel_rfl) (fun w _ => by go_simp) ?_
          refine held_to 8 (some 23) (.pointer (some ⟨b, o + 26, none⟩)) hQ sS rfl rfl (by kernel_rfl) (by kernel_rfl) (by kernel_rfl) (by kernel_rfl) (fun w _ => by go_simp) ?_
          refine held_to 9 (some 24) (.pointer (some ⟨b, o + 26 + k * 2, none⟩)) hQ sS rfl rfl (by kernel_rfl) (by kernel_rfl) (by kernel_rfl) (by kernel_rfl) (fun w _ => by go_simp) ?_
          refine held_to 10 (some 25) (.agg #[.int .i64 (T.be k).sq, .int .i64 (T.be k).mt]) hQ sS rfl rfl (by kernel_rfl) (by kernel_rfl) (by kernel_rfl) (by kernel_rfl) (fun w hS => by obtain ⟨h1, h2, h3, h4⟩ := hS; go_simp) ?_
          refine wpAnyH_ready (rs := [11]) (by kernel_rfl) (by simp) ?_
          refine AllReadyH.cons rfl (fun K hK => ?_) AllReadyH.nil
          go_simp
          go_wp2_with (go_at_call 106; refine (FB _).mono ?_; rintro e w1 ⟨rfl, hb1⟩)
          refine hK.out _ _ (SB.below sS hb1) (fun _ => ?_)
          clear hK K
          refine held_to 12 (some 27) (.bool false) hQ (SB.below sS hb1) rfl rfl (by kernel_rfl) (by kernel_rfl) (by kernel_rfl) (by kernel_rfl) (fun w _ => by go_simp) ?_
          refine wpAnyH_done (by kernel_rfl) ?_ _
          clear hQ
          go_simp
          replace P : Hid (Dst w w1 b o bl B (c + k) T0 (raiseT T m self k)) := P.out.drew.step hbB hl hb1
          clear sS hb1
          go_wp2
          go_roundw
          case rel => exact ⟨k + 1, by omega, by go_num, by rw [HH.out]; exact P.out.mono (by omega)⟩
          case measure => simp [intOf]; omega
    · have hk6 : k = 5 := by omega
      subst hk6
      go_wp2
      go_end0
      exact ⟨rfl, q1⟩
end Go.Proofs.Ytdoodnbobpijoaa

namespace Go.Proofs.Ytdoodnbobpijoaa
open Go.RowKit

/-! ### Save -/
attribute [local go_sem ↓] Go.wp_at_zero Go.wp_at_succ ldPK stPK alcPK ldPM stPM alcPM
attribute [local go_sem] vb_ptr vo_ptr cellsL_agg size_setCells
set_option maxHeartbeats 400000 in
theorem save_ok (b o : Nat) (T D : Tb) (w : World) (hD : KT w b (o + 36) D) (hF : w.cell? ⟨b, o + 36 + 36, none⟩ = some (I 0)) :
    Calls Try.prog 77 #[.pointer (some ⟨b, o + 36, none⟩), .agg (tbA T)] w fun e w' => e = .returned (.tuple #[]) ∧ KT w' b (o + 36) T ∧ Fr w w' b (o + 36) := by
  have b1 : Below w.heap.size w (w.alloc (.cells (tbA T) 95)) := (Below.refl _ _).alloc (Nat.le_refl _) _
  have hD1 := hD.below b1
  have hF1 : (w.alloc (.cells (tbA T) 95)).cell? ⟨b, o + 36 + 36, none⟩ = some (I 0) := cell_below hF b1
  obtain ⟨k1, k2⟩ := (Whole.new w 95 (tbA T)).mid (tbA_size T)
  have th := hD1.there
  have ag := aggOk_tb T
  have lb := hD.lt
  have H1 : Hid (KT (w.alloc (.cells (tbA T) 95)) b (o + 36) D) := hD1
  clear hD hD1
  go_enter Try.func77, Try.ntmps77
  go_wp2
  go_end0
  have := H1.out.over T
  exact ⟨rfl, this.1, ((Fr.refl w b (o + 36)).below lb b1).trans this.2⟩
/-- The panic of a disk that fails. -/
abbrev pf : PanicEntry := { v := .iface 125 (.agg #[]), recovered := false }
set_option maxHeartbeats 400000 in
theorem save_fail (b o : Nat) (n : Int) (T : Tb) (w : World) (hz : ∀ j, w.frozen? ⟨b, j, none⟩ = false) (hF : w.cell? ⟨b, o + 36 + 36, none⟩ = some (I n)) (h0 : 0 < n) (h3 : n ≤ 3) :
    Calls Try.prog 77 #[.pointer (some ⟨b, o + 36, none⟩), .agg (tbA T)] w fun e w' => e = .panicked [pf] ∧ w' = (w.alloc (.cells (tbA T) 95)).setCell ⟨b, o + 36 + 36, none⟩ (I (n - 1)) := by
  have b1 : Below w.heap.size w (w.alloc (.cells (tbA T) 95)) := (Below.refl _ _).alloc (Nat.le_refl _) _
  have hF1 : (w.alloc (.cells (tbA T) 95)).cell? ⟨b, o + 36 + 36, none⟩ = some (I n) := cell_below hF b1
  have hz1 : (w.alloc (.cells (tbA T) 95)).frozen? ⟨b, o + 36 + 36, none⟩ = false := (World.frozen?_of_block (w := w) (b1.block b (lt_of_cell hF))).trans (hz _)
  go_enter Try.func77, Try.ntmps77
  go_wp2
  exact ⟨rfl, rfl, rfl⟩
/-- The blocks that a change under a log leaves. -/
structure Ck (w w' : World) (b bl B : Nat) : Prop where
  os : w'.os = w.os
  tape : w'.tape = w.tape
  output : w'.output = w.output
  size : w.heap.size ≤ w'.heap.size
  block : ∀ k, k < w.heap.size → k ≠ b → k ≠ bl → (k < B ∨ ¬ Fty w k) → w'.heap[k]? = w.heap[k]?
theorem Ch.ck {w w' : World} {b bl o B : Nat} (h : Ch w w' b bl o B) : Ck w w' b bl B := ⟨h.os, h.tape, h.output, h.size, h.block⟩
theorem Ck.trans {u v w : World} {b bl B : Nat} (h : Ck u v b bl B) (k : Ck v w b bl B) : Ck u w b bl B :=
  ⟨k.os.trans h.os, k.tape.trans h.tape, k.output.trans h.output, Nat.le_trans h.size k.size, fun j hj h1 h2 h3 => by
    have e := h.block j hj h1 h2 h3
    refine (k.block j (Nat.lt_of_lt_of_le hj h.size) h1 h2 ?_).trans e
    rcases h3 with h3 | h3
    · exact .inl h3
    · refine .inr fun hf => h3 ?_
      obtain ⟨C, hC⟩ := hf
      exact ⟨C, by rw [← e]; exact hC⟩⟩
theorem Ck.only {w w' : World} {b bl B : Nat} (h : Only (· = b) w w') : Ck w w' b bl B := ⟨h.os, h.tape, h.output, h.size, fun k hk h1 _ _ => h.block k hk h1⟩
theorem Ck.new {w w' : World} {b bl B g : Nat} (h : Ck w w' b bl B) (hg : w.heap.size ≤ g) (o : Nat) (vs : List Value) : Ck w (w'.setCells g o vs) b bl B :=
  ⟨(setCells_block g vs o w').2.2.1.trans h.os, (setCells_block g vs o w').2.2.2.1.trans h.tape, (setCells_block g vs o w').2.2.2.2.trans h.output, by rw [(setCells_block g vs o w').1]; exact h.size, fun k hk h1 h2 h3 => ((setCells_block g vs o w').2.1 k (by omega)).trans (h.block k hk h1 h2 h3)⟩
theorem Ck.whole {w w' : World} {b bl B : Nat} (h : Ck w w' b bl B) {p : Nat} {t : TypeId} {C : Array Value} (hp : Whole w p t C) (h1 : p ≠ b) (h2 : p ≠ bl) (ht : t ≠ 1) : Whole w' p t C :=
  hp.of (h.block p hp.lt h1 h2 (.inr fun ⟨C', e⟩ => by rw [hp.is] at e; injection e with e; injection e with _ e2 _; exact ht e2))
theorem Dst.rebase {w W : World} {b o bl B c : Nat} {T0 U : Tb} (h : Dst w W b o bl B c T0 U) : Dst W W b o bl B c T0 U := ⟨h.kt, h.lg, Ch.refl _ _ _ _ _⟩
/-- The costs that were handed in, as they lie in a block of their own. -/
def SC (p : Nat) (f : Nat → Int) (w' : World) : Prop := w'.cell? ⟨p, 0, none⟩ = some (I (f 0)) ∧ w'.cell? ⟨p, 1, none⟩ = some (I (f 1)) ∧ w'.cell? ⟨p, 2, none⟩ = some (I (f 2)) ∧ w'.cell? ⟨p, 3, none⟩ = some (I (f 3)) ∧ w'.cell? ⟨p, 4, none⟩ = some (I (f 4))
theorem SC.of {p : Nat} {f : Nat → Int} {w w' : World} (h : SC p f w) (hb : w'.heap[p]? = w.heap[p]?) : SC p f w' :=
  ⟨(World.cell?_of_block (w := w) hb).trans h.1, (World.cell?_of_block (w := w) hb).trans h.2.1, (World.cell?_of_block (w := w) hb).trans h.2.2.1, (World.cell?_of_block (w := w) hb).trans h.2.2.2.1, (World.cell?_of_block (w := w) hb).trans h.2.2.2.2⟩
theorem SC.below {p : Nat} {f : Nat → Int} {w w' : World} (h : SC p f w) (hb : Below w.heap.size w w') : SC p f w' := h.of (hb.block p (lt_of_cell h.1))
theorem SC.alloc {p : Nat} {f : Nat → Int} {w : World} (h : SC p f w) (o : Obj) : SC p f (w.alloc o) := h.below ((Below.refl _ _).alloc (Nat.le_refl _) _)
theorem SC.setCells {p : Nat} {f : Nat → Int} {w : World} (h : SC p f w) {g : Nat} (hg : g ≠ p) {o : Nat} (vs : List Value) : SC p f (w.setCells g o vs) := h.of ((setCells_block g vs o w).2.1 p (fun e => hg e.symm))
theorem Whole.sc {w : World} {p : Nat} {t : TypeId} {f : Nat → Int} (h : Whole w p t (coA f)) : SC p f w := ⟨h.cell 0, h.cell 1, h.cell 2, h.cell 3, h.cell 4⟩
theorem farT_ok {T : Tb} {f : Nat → Int} (k : Nat) (h : ∀ d, d < 5 → (T.ro d).nx < 5 ∧ (0 ≤ (T.ro d).nx → 0 ≤ (T.ro d).mt ∧ (T.ro d).mt ≤ 30)) : ∀ d, d < 5 → ((farT T f k).ro d).nx < 5 ∧ (0 ≤ ((farT T f k).ro d).nx → 0 ≤ ((farT T f k).ro d).mt ∧ ((farT T f k).ro d).mt ≤ 30) := fun d hd => by
  show (if _ then _ else _ : Rt).nx < 5 ∧ (0 ≤ (if _ then _ else _ : Rt).nx → 0 ≤ (if _ then _ else _ : Rt).mt ∧ (if _ then _ else _ : Rt).mt ≤ 30)
  split
  · rw [noRt_nx]; exact ⟨by decide, fun h => by omega⟩
  · exact h d hd
set_option maxHeartbeats 4000000 in
set_option maxRecDepth 100000 in
theorem prdump_ok (b o self bl B : Nat) (T D : Tb) (f : Nat → Int) (w : World) (hbB : b < B) (hl : B ≤ bl) (hBw : B ≤ w.heap.size) (hK : KT w b o T) (hL : Lg w bl b o B []) (HD0 : KT w b (o + 36) D) (hF : w.cell? ⟨b, o + 36 + 36, none⟩ = some (I 0)) (hf : ∀ k, 0 ≤ f k ∧ f k ≤ 9)
    (hT : ∀ d, d < 5 → (T.ro d).nx < 5 ∧ (0 ≤ (T.ro d).nx → 0 ≤ (T.ro d).mt ∧ (T.ro d).mt ≤ 30)) :
    Calls Try.prog 51 #[.pointer (some ⟨b, o, none⟩), .int .i64 self, .agg (coA f), .pointer (some ⟨bl, 0, none⟩)] w fun e w' => e = .returned (.agg (mgA (tellM (farT T f 5) f self))) ∧ KT w' b o (raiseT (farT T f 5) (tellM (farT T f 5) f self) self 5) ∧ KT w' b (o + 36) (raiseT (farT T f 5) (tellM (farT T f 5) f self) self 5) ∧ Ck w w' b bl B ∧ (∀ p, p < o ∨ o + 72 ≤ p → w'.cell? ⟨b, p, none⟩ = w.cell? ⟨b, p, none⟩) := by
  have lb := hK.lt
  have ll := hL.lt
  have hT2 := farT_ok (f := f) 5 hT
  have b0 : Below w.heap.size w ((w.alloc (.cells (coA f) 85)).alloc (.cells Zm 104)) := ((Below.refl _ _).alloc (Nat.le_refl _) _).alloc (by simp) _
  have hD : Dst w w b o bl B 0 T T := ⟨hK, ⟨[], hL, rfl, Nat.le_refl _⟩, Ch.refl _ _ _ _ _⟩
  have n0 : Whole ((w.alloc (.cells (coA f) 85)).alloc (.cells Zm 104)) w.heap.size 85 (coA f) := (Whole.new w _ _).alloc _
  have n1 : Whole ((w.alloc (.cells (coA f) 85)).alloc (.cells Zm 104)) (w.heap.size + 1) 104 Zm := by
    have := Whole.new (w.alloc (.cells (coA f) 85)) 104 Zm
    simp only [World.size_alloc] at this
    exact this
  have D0 : Hid (Dst w ((w.alloc (.cells (coA f) 85)).alloc (.cells Zm 104)).drew b o bl B 0 T T) := (hD.step hbB hl b0).drew
  have N0 : Hid (Whole ((w.alloc (.cells (coA f) 85)).alloc (.cells Zm 104)) w.heap.size 85 (coA f)) := n0
  have N1 : Hid (Whole ((w.alloc (.cells (coA f) 85)).alloc (.cells Zm 104)) (w.heap.size + 1) 104 Zm) := n1
  have HD : Hid (KT w b (o + 36) D) := HD0
  have Z0 : w.heap.size ≤ ((w.alloc (.cells (coA f) 85)).alloc (.cells Zm 104)).heap.size := b0.size
  clear hD n0 n1 b0 hK hL HD0
  obtain ⟨m, hm⟩ : ∃ m, tellM (farT T f 5) f self = m := ⟨_, rfl⟩
  have TL : ∀ W : World, KT W b o (farT T f 5) → Calls Try.prog 75 #[.pointer (some ⟨b, o, none⟩), .int .i64 self, .agg (coA f)] W fun e w' => e = .returned (.agg (mgA m)) ∧ Below W.heap.size W w' := fun W h => by rw [← hm]; exact tellings_any b o self (farT T f 5) f W h hf hT2
  rw [hm]
  clear hm
  go_enter Try.func51, Try.ntmps51
  go_wp2_with fail
  generalize ((w.alloc (.cells (coA f) 85)).alloc (.cells Zm 104)) = X0 at *
  have c0 := N0.out.drew.cell 0; have c1 := N0.out.drew.cell 1; have c2 := N0.out.drew.cell 2; have c3 := N0.out.drew.cell 3; have c4 := N0.out.drew.cell 4
  refine wp_region_any (by kernel_rfl) ?_
  change wpAny _ _ _ _ _ _ _ (World.drew _)
  refine any_hq (fun _ _ x _ _ h => by cases x <;> exact h) ?_
  intro hQ
  refine take_to 0 (some 10) (.pointer (some ⟨b, o, none⟩)) hQ rfl rfl (by kernel_rfl) (by kernel_rfl) (by kernel_rfl) (by kernel_rfl) (fun w => by go_simp) ?_
  refine take_to 1 (some 11) (.pointer (some ⟨b, o, none⟩)) hQ rfl rfl (by kernel_rfl) (by kernel_rfl) (by kernel_rfl) (by kernel_rfl) (fun w => by go_simp) ?_
  refine take_to 2 (some 12) (.pointer (some ⟨b, o, none⟩)) hQ rfl rfl (by kernel_rfl) (by kernel_rfl) (by kernel_rfl) (by kernel_rfl) (fun w => by go_simp) ?_
  refine take_to 4 (some 14) (.pointer (some ⟨bl, 0, none⟩)) hQ rfl rfl (by kernel_rfl) (by kernel_rfl) (by kernel_rfl) (by kernel_rfl) (fun w => by go_simp) ?_
  refine wpAny_ready (rs := [3]) (by kernel_rfl) (by simp) ?_
  refine AllReady.cons rfl (fun K hK => ?_) AllReady.nil
  go_simp
  refine hK _ _ ?_
  clear hK K
  refine wpAny_ready (rs := [5]) (by kernel_rfl) (by simp) ?_
  refine AllReady.cons rfl (fun K hK => ?_) AllReady.nil
  go_simp
  go_wp2_with (go_at_call 74; refine (dropfar_any b o bl B 0 T T f X0.drew hbB hl (Nat.le_trans hBw Z0) (by omega) (D0.out.rebase) hf hT).mono ?_; rintro e w1 ⟨rfl, t1⟩)
  refine wpAny_done (by kernel_rfl) ?_ _
  clear hQ
  go_simp
  have CX : Ch X0 w1 b bl o B := ⟨t1.ch.os, t1.ch.tape, t1.ch.output, t1.ch.size, t1.ch.block, t1.ch.cell⟩
  have D1 : Hid (Dst w w1 b o bl B 5 T (farT T f 5)) := (show Dst w w1 b o bl B 5 T (farT T f 5) from ⟨t1.kt, t1.lg, D0.out.ch.trans t1.ch⟩)
  have R1 : Hid (Whole w1 (w.heap.size + 1) 104 Zm) := CX.whole N1.out (by omega) (by omega) (by decide)
  have sS : SC w.heap.size f w1.drew := (CX.whole N0.out (by omega) (by omega) (by decide)).drew.sc
  clear c0 c1 c2 c3 c4 t1 CX N0 N1 D0 Z0
  have ag := aggOk_mg m
  go_wp2_with fail
  refine wp_region_held_drew (S := (SC w.heap.size f)) (by kernel_rfl) sS (fun _ => ?_)
  change wpAnyH _ _ _ _ _ _ _ _ (World.drew _)
  refine held_hq (fun _ _ x _ _ h => by cases x <;> exact h) ?_
  intro hQ
  refine held_to 0 (some 16) (.pointer (some ⟨b, o, none⟩)) hQ sS rfl rfl (by kernel_rfl) (by kernel_rfl) (by kernel_rfl) (by kernel_rfl) (fun w _ => by go_simp) ?_
  refine held_to 1 (some 17) (.pointer (some ⟨b, o, none⟩)) hQ sS rfl rfl (by kernel_rfl) (by kernel_rfl) (by kernel_rfl) (by kernel_rfl) (fun w _ => by go_simp) ?_
  refine held_to 2 (some 18) (.pointer (some ⟨b, o, none⟩)) hQ sS rfl rfl (by kernel_rfl) (by kernel_rfl) (by kernel_rfl) (by kernel_rfl) (fun w _ => by go_simp) ?_
  refine held_to 3 (some 19) (.int .i64 self) hQ sS rfl rfl (by kernel_rfl) (by kernel_rfl) (by kernel_rfl) (by kernel_rfl) (fun w _ => by go_simp) ?_
  refine held_to 4 (some 20) (.agg (coA f)) hQ sS rfl rfl (by kernel_rfl) (by kernel_rfl) (by kernel_rfl) (by kernel_rfl) (fun w hS => by obtain ⟨h1, h2, h3, h4, h5⟩ := hS; go_simp) ?_
  refine wpAnyH_ready (rs := [5, 6]) (by kernel_rfl) (by simp) ?_
  refine AllReadyH.cons rfl (fun K hK => ?_) (AllReadyH.cons rfl (fun K hK => ?_) AllReadyH.nil)
  · go_simp
    go_wp2_with (go_at_call 75; refine (TL w1.drew (D1.out.kt.of rfl)).mono ?_; rintro e w2 ⟨rfl, hb2⟩)
    refine hK.out _ _ (SC.below sS hb2) (fun _ => ?_)
    clear hK K
    refine wpAnyH_ready (rs := [6]) (by kernel_rfl) (by simp) ?_
    refine AllReadyH.cons rfl (fun K hK => ?_) AllReadyH.nil
    go_simp
    refine hK.out _ _ ((SC.below sS hb2).alloc _) (fun _ => ?_)
    clear hK K
    have n2 := Whole.new w2 104 Zm
    have th := n2.there Zm_size
    refine wpAnyH_ready (rs := [7]) (by kernel_rfl) (by simp) ?_
    refine AllReadyH.cons rfl (fun K hK => ?_) AllReadyH.nil
    go_simp
    refine hK.out _ _ (((SC.below sS hb2).alloc _).setCells (Nat.ne_of_gt (lt_of_cell (SC.below sS hb2).1)) _) (fun _ => ?_)
    clear hK K
    refine wpAnyH_done (by kernel_rfl) ?_ _
    clear hQ
    go_simp
    have b3 : Below w2.heap.size w2 ((w2.alloc (.cells Zm 104)).setCells w2.heap.size 0 (mgA m).toList) := Below.setCells ((Below.refl _ _).alloc (Nat.le_refl _) _) (Nat.le_refl _) _ _
    have D3 : Hid (Dst w ((w2.alloc (.cells Zm 104)).setCells w2.heap.size 0 (mgA m).toList) b o bl B 5 T (farT T f 5)) := (D1.out.drew.step hbB hl hb2).step hbB hl b3
    have M3 : Hid (Whole ((w2.alloc (.cells Zm 104)).setCells w2.heap.size 0 (mgA m).toList) w2.heap.size 104 (mgA m)) := n2.over (mgA m) (by rw [mgA_size, Zm_size])
    have R3 : Hid (Whole ((w2.alloc (.cells Zm 104)).setCells w2.heap.size 0 (mgA m).toList) (w.heap.size + 1) 104 Zm) := (R1.out.drew.below hb2).below b3
    have hmb : w.heap.size + 1 < w2.heap.size := (R1.out.drew.below hb2).lt
    clear n2 th b3 hb2 sS D1 R1
    generalize ((w2.alloc (.cells Zm 104)).setCells w2.heap.size 0 (mgA m).toList) = X at *
    generalize w2.heap.size = mb at *
    obtain ⟨k1, k2⟩ := M3.out.drew.mid (mgA_size m)
    go_wp2_with fail
    refine wp_region_any (by kernel_rfl) ?_
    change wpAny _ _ _ _ _ _ _ (World.drew _)
    refine any_hq (fun _ _ x _ _ h => by cases x <;> exact h) ?_
    intro hQ
    refine take_to 0 (some 22) (.pointer (some ⟨b, o, none⟩)) hQ rfl rfl (by kernel_rfl) (by kernel_rfl) (by kernel_rfl) (by kernel_rfl) (fun w => by go_simp) ?_
    refine take_to 1 (some 23) (.pointer (some ⟨b, o, none⟩)) hQ rfl rfl (by kernel_rfl) (by kernel_rfl) (by kernel_rfl) (by kernel_rfl) (fun w => by go_simp) ?_
    refine take_to 2 (some 24) (.pointer (some ⟨b, o, none⟩)) hQ rfl rfl (by kernel_rfl) (by kernel_rfl) (by kernel_rfl) (by kernel_rfl) (fun w => by go_simp) ?_
    refine take_to 3 (some 25) (.int .i64 self) hQ rfl rfl (by kernel_rfl) (by kernel_rfl) (by kernel_rfl) (by kernel_rfl) (fun w => by go_simp) ?_
    refine take_to 5 (some 27) (.pointer (some ⟨bl, 0, none⟩)) hQ rfl rfl (by kernel_rfl) (by kernel_rfl) (by kernel_rfl) (by kernel_rfl) (fun w => by go_simp) ?_
    refine wpAny_ready (rs := [4]) (by kernel_rfl) (by simp) ?_
    refine AllReady.cons rfl (fun K hK => ?_) AllReady.nil
    go_simp
    refine hK _ _ ?_
    clear hK K
    refine wpAny_ready (rs := [6]) (by kernel_rfl) (by simp) ?_
    refine AllReady.cons rfl (fun K hK => ?_) AllReady.nil
    go_simp
    go_wp2_with (go_at_call 76; refine (raise_any b o self bl B 5 (farT T f 5) T m X.drew hbB hl (Nat.le_trans hBw D3.out.ch.size) (by omega) D3.out.drew.rebase).mono ?_; rintro e w4 ⟨rfl, t4⟩)
    refine wpAny_done (by kernel_rfl) ?_ _
    clear hQ
    go_simp
    have C4 : Hid (Ch X w4 b bl o B) := (show Ch X w4 b bl o B from ⟨t4.ch.os, t4.ch.tape, t4.ch.output, t4.ch.size, t4.ch.block, t4.ch.cell⟩)
    have M4 : Hid (Whole w4 mb 104 (mgA m)) := C4.out.whole M3.out (by omega) (by omega) (by decide)
    have R4 : Hid (Whole w4 (w.heap.size + 1) 104 Zm) := C4.out.whole R3.out (by omega) (by omega) (by decide)
    have CW : Hid (Ch w w4 b bl o B) := D3.out.ch.trans C4.out
    have DK4 : Hid (KT w4.drew b (o + 36) D) := (show KT w4.drew b (o + 36) D from ⟨fun j hj => (CW.out.cell _ (by omega)).trans (HD.out.at_ j hj), t4.kt.fz⟩)
    have hF4 : w4.drew.cell? ⟨b, o + 36 + 36, none⟩ = some (I 0) := (CW.out.cell _ (by omega)).trans hF
    have FZ4 : Hid (∀ j, w4.drew.frozen? ⟨b, j, none⟩ = false) := t4.kt.fz
    have T4 : Hid (Dst X w4 b o bl B (5 + 5) T (raiseT (farT T f 5) m self 5)) := (show Dst X w4 b o bl B (5 + 5) T (raiseT (farT T f 5) m self 5) from ⟨t4.kt, t4.lg, C4.out⟩)
    have km := (t4.kt.of (w' := w4.drew) rfl).mid
    obtain ⟨km1, km2⟩ := km
    clear k1 k2 t4
    go_wp2_with fail
    refine wp_region_any (by kernel_rfl) ?_
    change wpAny _ _ _ _ _ _ _ (World.drew _)
    refine any_hq (fun _ _ x _ _ h => by cases x <;> exact h) ?_
    intro hQ
    refine take_to 0 (some 29) (.pointer (some ⟨b, o, none⟩)) hQ rfl rfl (by kernel_rfl) (by kernel_rfl) (by kernel_rfl) (by kernel_rfl) (fun w => by go_simp) ?_
    refine take_to 1 (some 30) (.pointer (some ⟨b, o, none⟩)) hQ rfl rfl (by kernel_rfl) (by kernel_rfl) (by kernel_rfl) (by kernel_rfl) (fun w => by go_simp) ?_
    refine take_to 2 (some 31) (.pointer (some ⟨b, o + 36, none⟩)) hQ rfl rfl (by kernel_rfl) (by kernel_rfl) (by kernel_rfl) (by kernel_rfl) (fun w => by go_simp) ?_
    refine take_to 3 (some 32) (.pointer (some ⟨b, o, none⟩)) hQ rfl rfl (by kernel_rfl) (by kernel_rfl) (by kernel_rfl) (by kernel_rfl) (fun w => by go_simp) ?_
    refine take_to 4 (some 33) (.pointer (some ⟨b, o, none⟩)) hQ rfl rfl (by kernel_rfl) (by kernel_rfl) (by kernel_rfl) (by kernel_rfl) (fun w => by go_simp) ?_
    refine take_to 5 (some 34) (.pointer (some ⟨b, o, none⟩)) hQ rfl rfl (by kernel_rfl) (by kernel_rfl) (by kernel_rfl) (by kernel_rfl) (fun w => by go_simp) ?_
    refine wpAny_ready (rs := [6]) (by kernel_rfl) (by simp) ?_
    refine AllReady.cons rfl (fun K hK => ?_) AllReady.nil
    go_simp
    refine hK _ _ ?_
    clear hK K
    refine wpAny_ready (rs := [7]) (by kernel_rfl) (by simp) ?_
    refine AllReady.cons rfl (fun K hK => ?_) AllReady.nil
    go_simp
    go_wp2_with (go_at_call 77; refine (save_ok b o (raiseT (farT T f 5) m self 5) D w4.drew DK4.out hF4).mono ?_; rintro e w5 ⟨rfl, t5, t6⟩)
    refine wpAny_done (by kernel_rfl) ?_ _
    clear hQ
    go_simp
    have M5 : Whole w5 mb 104 (mgA m) := M4.out.of (t6.only.block mb M4.out.lt (by omega))
    have R5 : Whole w5 (w.heap.size + 1) 104 Zm := R4.out.of (t6.only.block _ R4.out.lt (by omega))
    obtain ⟨j1, j2⟩ := M5.mid (mgA_size m)
    have j3 := R5.there Zm_size
    have ag := aggOk_mg m
    have HR5 : Hid (Whole w5 (w.heap.size + 1) 104 Zm) := R5
    have K5 : Hid (KT w5 b o (raiseT (farT T f 5) m self 5)) := (show KT w5 b o (raiseT (farT T f 5) m self 5) from ⟨fun j hj => (t6.cell _ (by omega)).trans (T4.out.kt.at_ j hj), t5.fz⟩)
    have E5 : Hid (KT w5 b (o + 36) (raiseT (farT T f 5) m self 5)) := t5
    have F5 : Hid (Ck w w5 b bl B) := CW.out.ck.trans (Ck.only ⟨t6.only.os, t6.only.tape, t6.only.output, t6.only.size, t6.only.block⟩)
    have G5 : Hid (∀ p, p < o ∨ o + 72 ≤ p → w5.cell? ⟨b, p, none⟩ = w.cell? ⟨b, p, none⟩) := (show ∀ p, p < o ∨ o + 72 ≤ p → w5.cell? ⟨b, p, none⟩ = w.cell? ⟨b, p, none⟩ from fun p hp => (t6.cell p (by omega)).trans (CW.out.cell p (by omega)))
    clear M5 R5 t5 t6 km1 km2 hF4
    go_wp2
    have b6 : Below (w.heap.size + 1) w5 (w5.setCells (w.heap.size + 1) 0 (mgA m).toList) := Below.setCells ⟨rfl, rfl, rfl, Nat.le_refl _, fun _ _ => rfl⟩ (Nat.le_refl _) _ _
    have hb6 : (w5.setCells (w.heap.size + 1) 0 (mgA m).toList).heap[b]? = w5.heap[b]? := b6.block b (by omega)
    exact bodyPost_ret (v := .agg (mgA m)) (results_cell0 (t := 104) rfl _ _ (w.heap.size + 1) (mgA m) rfl (HR5.out.over (mgA m) (by rw [mgA_size, Zm_size])) _ Try.underlying104 rfl (by rw [sizePM, mgA_size])) rfl ⟨rfl, K5.out.of hb6, E5.out.of hb6, F5.out.new (Nat.le_add_right _ _) _ _, fun p hp => (World.cell?_of_block (w := w5) hb6).trans (G5.out p hp)⟩
  · go_simp
    refine hK.out _ _ (sS.alloc _) (fun _ => ?_)
    clear hK K
    have n2 := (Whole.new w1.drew 104 Zm)
    have b2 : Below w1.drew.heap.size w1.drew (w1.drew.alloc (.cells Zm 104)) := (Below.refl _ _).alloc (Nat.le_refl _) _
    refine wpAnyH_ready (rs := [5]) (by kernel_rfl) (by simp) ?_
    refine AllReadyH.cons rfl (fun K hK => ?_) AllReadyH.nil
    go_simp
    go_wp2_with (go_at_call 75; refine (TL _ ((D1.out.kt.of (w' := w1.drew) rfl).below b2)).mono ?_; rintro e w2 ⟨rfl, hb2⟩; have n3 : Whole w2 w1.heap.size 104 Zm := n2.below hb2; have th := n3.there Zm_size)
    refine hK.out _ _ (SC.below (sS.alloc _) hb2) (fun _ => ?_)
    clear hK K
    refine wpAnyH_ready (rs := [7]) (by kernel_rfl) (by simp) ?_
    refine AllReadyH.cons rfl (fun K hK => ?_) AllReadyH.nil
    go_simp
    refine hK.out _ _ ((SC.below (sS.alloc _) hb2).setCells (Nat.ne_of_gt (lt_of_cell sS.1)) _) (fun _ => ?_)
    clear hK K
    refine wpAnyH_done (by kernel_rfl) ?_ _
    clear hQ
    go_simp
    have b3 : Below w1.drew.heap.size w1.drew w2 := b2.trans (hb2.mono b2.size)
    have b4 : Below w1.drew.heap.size w1.drew (w2.setCells w1.drew.heap.size 0 (mgA m).toList) := Below.setCells b3 (Nat.le_refl _) _ _
    have D3 : Hid (Dst w (w2.setCells w1.heap.size 0 (mgA m).toList) b o bl B 5 T (farT T f 5)) := D1.out.drew.step hbB hl b4
    have M3 : Hid (Whole (w2.setCells w1.heap.size 0 (mgA m).toList) w1.heap.size 104 (mgA m)) := n3.over (mgA m) (by rw [mgA_size, Zm_size])
    have R3 : Hid (Whole (w2.setCells w1.heap.size 0 (mgA m).toList) (w.heap.size + 1) 104 Zm) := R1.out.drew.below b4
    have hmb : w.heap.size + 1 < w1.heap.size := R1.out.lt
    clear n2 th b3 b4 b2 n3 hb2 sS D1 R1
    generalize (w2.setCells w1.heap.size 0 (mgA m).toList) = X at *
    generalize w1.heap.size = mb at *
    obtain ⟨k1, k2⟩ := M3.out.drew.mid (mgA_size m)
    go_wp2_with fail
    refine wp_region_any (by kernel_rfl) ?_
    change wpAny _ _ _ _ _ _ _ (World.drew _)
    refine any_hq (fun _ _ x _ _ h => by cases x <;> exact h) ?_
    intro hQ
    refine take_to 0 (some 22) (.pointer (some ⟨b, o, none⟩)) hQ rfl rfl (by kernel_rfl) (by kernel_rfl) (by kernel_rfl) (by kernel_rfl) (fun w => by go_simp) ?_
    refine take_to 1 (some 23) (.pointer (some ⟨b, o, none⟩)) hQ rfl rfl (by kernel_rfl) (by kernel_rfl) (by kernel_rfl) (by kernel_rfl) (fun w => by go_simp) ?_
    refine take_to 2 (some 24) (.pointer (some ⟨b, o, none⟩)) hQ rfl rfl (by kernel_rfl) (by kernel_rfl) (by kernel_rfl) (by kernel_rfl) (fun w => by go_simp) ?_
    refine take_to 3 (some 25) (.int .i64 self) hQ rfl rfl (by kernel_rfl) (by kernel_rfl) (by kernel_rfl) (by kernel_rfl) (fun w => by go_simp) ?_
    refine take_to 5 (some 27) (.pointer (some ⟨bl, 0, none⟩)) hQ rfl rfl (by kernel_rfl) (by kernel_rfl) (by kernel_rfl) (by kernel_rfl) (fun w => by go_simp) ?_
    refine wpAny_ready (rs := [4]) (by kernel_rfl) (by simp) ?_
    refine AllReady.cons rfl (fun K hK => ?_) AllReady.nil
    go_simp
    refine hK _ _ ?_
    clear hK K
    refine wpAny_ready (rs := [6]) (by kernel_rfl) (by simp) ?_
    refine AllReady.cons rfl (fun K hK => ?_) AllReady.nil
    go_simp
    go_wp2_with (go_at_call 76; refine (raise_any b o self bl B 5 (farT T f 5) T m X.drew hbB hl (Nat.le_trans hBw D3.out.ch.size) (by omega) D3.out.drew.rebase).mono ?_; rintro e w4 ⟨rfl, t4⟩)
    refine wpAny_done (by kernel_rfl) ?_ _
    clear hQ
    go_simp
    have C4 : Hid (Ch X w4 b bl o B) := (show Ch X w4 b bl o B from ⟨t4.ch.os, t4.ch.tape, t4.ch.output, t4.ch.size, t4.ch.block, t4.ch.cell⟩)
    have M4 : Hid (Whole w4 mb 104 (mgA m)) := C4.out.whole M3.out (by omega) (by omega) (by decide)
    have R4 : Hid (Whole w4 (w.heap.size + 1) 104 Zm) := C4.out.whole R3.out (by omega) (by omega) (by decide)
    have CW : Hid (Ch w w4 b bl o B) := D3.out.ch.trans C4.out
    have DK4 : Hid (KT w4.drew b (o + 36) D) := (show KT w4.drew b (o + 36) D from ⟨fun j hj => (CW.out.cell _ (by omega)).trans (HD.out.at_ j hj), t4.kt.fz⟩)
    have hF4 : w4.drew.cell? ⟨b, o + 36 + 36, none⟩ = some (I 0) := (CW.out.cell _ (by omega)).trans hF
    have FZ4 : Hid (∀ j, w4.drew.frozen? ⟨b, j, none⟩ = false) := t4.kt.fz
    have T4 : Hid (Dst X w4 b o bl B (5 + 5) T (raiseT (farT T f 5) m self 5)) := (show Dst X w4 b o bl B (5 + 5) T (raiseT (farT T f 5) m self 5) from ⟨t4.kt, t4.lg, C4.out⟩)
    have km := (t4.kt.of (w' := w4.drew) rfl).mid
    obtain ⟨km1, km2⟩ := km
    clear k1 k2 t4
    go_wp2_with fail
    refine wp_region_any (by kernel_rfl) ?_
    change wpAny _ _ _ _ _ _ _ (World.drew _)
    refine any_hq (fun _ _ x _ _ h => by cases x <;> exact h) ?_
    intro hQ
    refine take_to 0 (some 29) (.pointer (some ⟨b, o, none⟩)) hQ rfl rfl (by kernel_rfl) (by kernel_rfl) (by kernel_rfl) (by kernel_rfl) (fun w => by go_simp) ?_
    refine take_to 1 (some 30) (.pointer (some ⟨b, o, none⟩)) hQ rfl rfl (by kernel_rfl) (by kernel_rfl) (by kernel_rfl) (by kernel_rfl) (fun w => by go_simp) ?_
    refine take_to 2 (some 31) (.pointer (some ⟨b, o + 36, none⟩)) hQ rfl rfl (by kernel_rfl) (by kernel_rfl) (by kernel_rfl) (by kernel_rfl) (fun w => by go_simp) ?_
    refine take_to 3 (some 32) (.pointer (some ⟨b, o, none⟩)) hQ rfl rfl (by kernel_rfl) (by kernel_rfl) (by kernel_rfl) (by kernel_rfl) (fun w => by go_simp) ?_
    refine take_to 4 (some 33) (.pointer (some ⟨b, o, none⟩)) hQ rfl rfl (by kernel_rfl) (by kernel_rfl) (by kernel_rfl) (by kernel_rfl) (fun w => by go_simp) ?_
    refine take_to 5 (some 34) (.pointer (some ⟨b, o, none⟩)) hQ rfl rfl (by kernel_rfl) (by kernel_rfl) (by kernel_rfl) (by kernel_rfl) (fun w => by go_simp) ?_
    refine wpAny_ready (rs := [6]) (by kernel_rfl) (by simp) ?_
    refine AllReady.cons rfl (fun K hK => ?_) AllReady.nil
    go_simp
    refine hK _ _ ?_
    clear hK K
    refine wpAny_ready (rs := [7]) (by kernel_rfl) (by simp) ?_
    refine AllReady.cons rfl (fun K hK => ?_) AllReady.nil
    go_simp
    go_wp2_with (go_at_call 77; refine (save_ok b o (raiseT (farT T f 5) m self 5) D w4.drew DK4.out hF4).mono ?_; rintro e w5 ⟨rfl, t5, t6⟩)
    refine wpAny_done (by kernel_rfl) ?_ _
    clear hQ
    go_simp
    have M5 : Whole w5 mb 104 (mgA m) := M4.out.of (t6.only.block mb M4.out.lt (by omega))
    have R5 : Whole w5 (w.heap.size + 1) 104 Zm := R4.out.of (t6.only.block _ R4.out.lt (by omega))
    obtain ⟨j1, j2⟩ := M5.mid (mgA_size m)
    have j3 := R5.there Zm_size
    have ag := aggOk_mg m
    have HR5 : Hid (Whole w5 (w.heap.size + 1) 104 Zm) := R5
    have K5 : Hid (KT w5 b o (raiseT (farT T f 5) m self 5)) := (show KT w5 b o (raiseT (farT T f 5) m self 5) from ⟨fun j hj => (t6.cell _ (by omega)).trans (T4.out.kt.at_ j hj), t5.fz⟩)
    have E5 : Hid (KT w5 b (o + 36) (raiseT (farT T f 5) m self 5)) := t5
    have F5 : Hid (Ck w w5 b bl B) := CW.out.ck.trans (Ck.only ⟨t6.only.os, t6.only.tape, t6.only.output, t6.only.size, t6.only.block⟩)
    have G5 : Hid (∀ p, p < o ∨ o + 72 ≤ p → w5.cell? ⟨b, p, none⟩ = w.cell? ⟨b, p, none⟩) := (show ∀ p, p < o ∨ o + 72 ≤ p → w5.cell? ⟨b, p, none⟩ = w.cell? ⟨b, p, none⟩ from fun p hp => (t6.cell p (by omega)).trans (CW.out.cell p (by omega)))
    clear M5 R5 t5 t6 km1 km2 hF4
    go_wp2
    have b6 : Below (w.heap.size + 1) w5 (w5.setCells (w.heap.size + 1) 0 (mgA m).toList) := Below.setCells ⟨rfl, rfl, rfl, Nat.le_refl _, fun _ _ => rfl⟩ (Nat.le_refl _) _ _
    have hb6 : (w5.setCells (w.heap.size + 1) 0 (mgA m).toList).heap[b]? = w5.heap[b]? := b6.block b (by omega)
    exact bodyPost_ret (v := .agg (mgA m)) (results_cell0 (t := 104) rfl _ _ (w.heap.size + 1) (mgA m) rfl (HR5.out.over (mgA m) (by rw [mgA_size, Zm_size])) _ Try.underlying104 rfl (by rw [sizePM, mgA_size])) rfl ⟨rfl, K5.out.of hb6, E5.out.of hb6, F5.out.new (Nat.le_add_right _ _) _ _, fun p hp => (World.cell?_of_block (w := w5) hb6).trans (G5.out p hp)⟩
set_option maxHeartbeats 4000000 in
set_option maxRecDepth 100000 in
theorem prdump_fail (b o self bl B : Nat) (T D : Tb) (f : Nat → Int) (w : World) (hbB : b < B) (hl : B ≤ bl) (hBw : B ≤ w.heap.size) (hK : KT w b o T) (hL : Lg w bl b o B []) (HD0 : KT w b (o + 36) D) (n : Int) (hF : w.cell? ⟨b, o + 36 + 36, none⟩ = some (I n)) (hn0 : 0 < n) (hn3 : n ≤ 3) (hf : ∀ k, 0 ≤ f k ∧ f k ≤ 9)
    (hT : ∀ d, d < 5 → (T.ro d).nx < 5 ∧ (0 ≤ (T.ro d).nx → 0 ≤ (T.ro d).mt ∧ (T.ro d).mt ≤ 30)) :
    Calls Try.prog 51 #[.pointer (some ⟨b, o, none⟩), .int .i64 self, .agg (coA f), .pointer (some ⟨bl, 0, none⟩)] w fun e w' => e = .panicked [pf] ∧ (∃ U L, KT w' b o U ∧ Lg w' bl b o B L ∧ back L U = T ∧ L.length ≤ 20) ∧ w'.cell? ⟨b, o + 36 + 36, none⟩ = some (I (n - 1)) ∧ Ck w w' b bl B ∧ (∀ p, (p < o ∨ o + 36 ≤ p) → p ≠ o + 36 + 36 → w'.cell? ⟨b, p, none⟩ = w.cell? ⟨b, p, none⟩) := by
  have lb := hK.lt
  have ll := hL.lt
  have hT2 := farT_ok (f := f) 5 hT
  have b0 : Below w.heap.size w ((w.alloc (.cells (coA f) 85)).alloc (.cells Zm 104)) := ((Below.refl _ _).alloc (Nat.le_refl _) _).alloc (by simp) _
  have hD : Dst w w b o bl B 0 T T := ⟨hK, ⟨[], hL, rfl, Nat.le_refl _⟩, Ch.refl _ _ _ _ _⟩
  have n0 : Whole ((w.alloc (.cells (coA f) 85)).alloc (.cells Zm 104)) w.heap.size 85 (coA f) := (Whole.new w _ _).alloc _
  have n1 : Whole ((w.alloc (.cells (coA f) 85)).alloc (.cells Zm 104)) (w.heap.size + 1) 104 Zm := by
    have := Whole.new (w.alloc (.cells (coA f) 85)) 104 Zm
    simp only [World.size_alloc] at this
    exact this
  have D0 : Hid (Dst w ((w.alloc (.cells (coA f) 85)).alloc (.cells Zm 104)).drew b o bl B 0 T T) := (hD.step hbB hl b0).drew
  have N0 : Hid (Whole ((w.alloc (.cells (coA f) 85)).alloc (.cells Zm 104)) w.heap.size 85 (coA f)) := n0
  have N1 : Hid (Whole ((w.alloc (.cells (coA f) 85)).alloc (.cells Zm 104)) (w.heap.size + 1) 104 Zm) := n1
  have HD : Hid (KT w b (o + 36) D) := HD0
  have Z0 : w.heap.size ≤ ((w.alloc (.cells (coA f) 85)).alloc (.cells Zm 104)).heap.size := b0.size
  clear hD n0 n1 b0 hK hL HD0
  obtain ⟨m, hm⟩ : ∃ m, tellM (farT T f 5) f self = m := ⟨_, rfl⟩
  have TL : ∀ W : World, KT W b o (farT T f 5) → Calls Try.prog 75 #[.pointer (some ⟨b, o, none⟩), .int .i64 self, .agg (coA f)] W fun e w' => e = .returned (.agg (mgA m)) ∧ Below W.heap.size W w' := fun W h => by rw [← hm]; exact tellings_any b o self (farT T f 5) f W h hf hT2

  clear hm
  go_enter Try.func51, Try.ntmps51
  go_wp2_with fail
  generalize ((w.alloc (.cells (coA f) 85)).alloc (.cells Zm 104)) = X0 at *
  have c0 := N0.out.drew.cell 0; have c1 := N0.out.drew.cell 1; have c2 := N0.out.drew.cell 2; have c3 := N0.out.drew.cell 3; have c4 := N0.out.drew.cell 4
  refine wp_region_any (by kernel_rfl) ?_
  change wpAny _ _ _ _ _ _ _ (World.drew _)
  refine any_hq (fun _ _ x _ _ h => by cases x <;> exact h) ?_
  intro hQ
  refine take_to 0 (some 10) (.pointer (some ⟨b, o, none⟩)) hQ rfl rfl (by kernel_rfl) (by kernel_rfl) (by kernel_rfl) (by kernel_rfl) (fun w => by go_simp) ?_
  refine take_to 1 (some 11) (.pointer (some ⟨b, o, none⟩)) hQ rfl rfl (by kernel_rfl) (by kernel_rfl) (by kernel_rfl) (by kernel_rfl) (fun w => by go_simp) ?_
  refine take_to 2 (some 12) (.pointer (some ⟨b, o, none⟩)) hQ rfl rfl (by kernel_rfl) (by kernel_rfl) (by kernel_rfl) (by kernel_rfl) (fun w => by go_simp) ?_
  refine take_to 4 (some 14) (.pointer (some ⟨bl, 0, none⟩)) hQ rfl rfl (by kernel_rfl) (by kernel_rfl) (by kernel_rfl) (by kernel_rfl) (fun w => by go_simp) ?_
  refine wpAny_ready (rs := [3]) (by kernel_rfl) (by simp) ?_
  refine AllReady.cons rfl (fun K hK => ?_) AllReady.nil
  go_simp
  refine hK _ _ ?_
  clear hK K
  refine wpAny_ready (rs := [5]) (by kernel_rfl) (by simp) ?_
  refine AllReady.cons rfl (fun K hK => ?_) AllReady.nil
  go_simp
  go_wp2_with (go_at_call 74; refine (dropfar_any b o bl B 0 T T f X0.drew hbB hl (Nat.le_trans hBw Z0) (by omega) (D0.out.rebase) hf hT).mono ?_; rintro e w1 ⟨rfl, t1⟩)
  refine wpAny_done (by kernel_rfl) ?_ _
  clear hQ
  go_simp
  have CX : Ch X0 w1 b bl o B := ⟨t1.ch.os, t1.ch.tape, t1.ch.output, t1.ch.size, t1.ch.block, t1.ch.cell⟩
  have D1 : Hid (Dst w w1 b o bl B 5 T (farT T f 5)) := (show Dst w w1 b o bl B 5 T (farT T f 5) from ⟨t1.kt, t1.lg, D0.out.ch.trans t1.ch⟩)
  have R1 : Hid (Whole w1 (w.heap.size + 1) 104 Zm) := CX.whole N1.out (by omega) (by omega) (by decide)
  have sS : SC w.heap.size f w1.drew := (CX.whole N0.out (by omega) (by omega) (by decide)).drew.sc
  clear c0 c1 c2 c3 c4 t1 CX N0 N1 D0 Z0
  have ag := aggOk_mg m
  go_wp2_with fail
  refine wp_region_held_drew (S := (SC w.heap.size f)) (by kernel_rfl) sS (fun _ => ?_)
  change wpAnyH _ _ _ _ _ _ _ _ (World.drew _)
  refine held_hq (fun _ _ x _ _ h => by cases x <;> exact h) ?_
  intro hQ
  refine held_to 0 (some 16) (.pointer (some ⟨b, o, none⟩)) hQ sS rfl rfl (by kernel_rfl) (by kernel_rfl) (by kernel_rfl) (by kernel_rfl) (fun w _ => by go_simp) ?_
  refine held_to 1 (some 17) (.pointer (some ⟨b, o, none⟩)) hQ sS rfl rfl (by kernel_rfl) (by kernel_rfl) (by kernel_rfl) (by kernel_rfl) (fun w _ => by go_simp) ?_
  refine held_to 2 (some 18) (.pointer (some ⟨b, o, none⟩)) hQ sS rfl rfl (by kernel_rfl) (by kernel_rfl) (by kernel_rfl) (by kernel_rfl) (fun w _ => by go_simp) ?_
  refine held_to 3 (some 19) (.int .i64 self) hQ sS rfl rfl (by kernel_rfl) (by kernel_rfl) (by kernel_rfl) (by kernel_rfl) (fun w _ => by go_simp) ?_
  refine held_to 4 (some 20) (.agg (coA f)) hQ sS rfl rfl (by kernel_rfl) (by kernel_rfl) (by kernel_rfl) (by kernel_rfl) (fun w hS => by obtain ⟨h1, h2, h3, h4, h5⟩ := hS; go_simp) ?_
  refine wpAnyH_ready (rs := [5, 6]) (by kernel_rfl) (by simp) ?_
  refine AllReadyH.cons rfl (fun K hK => ?_) (AllReadyH.cons rfl (fun K hK => ?_) AllReadyH.nil)
  · go_simp
    go_wp2_with (go_at_call 75; refine (TL w1.drew (D1.out.kt.of rfl)).mono ?_; rintro e w2 ⟨rfl, hb2⟩)
    refine hK.out _ _ (SC.below sS hb2) (fun _ => ?_)
    clear hK K
    refine wpAnyH_ready (rs := [6]) (by kernel_rfl) (by simp) ?_
    refine AllReadyH.cons rfl (fun K hK => ?_) AllReadyH.nil
    go_simp
    refine hK.out _ _ ((SC.below sS hb2).alloc _) (fun _ => ?_)
    clear hK K
    have n2 := Whole.new w2 104 Zm
    have th := n2.there Zm_size
    refine wpAnyH_ready (rs := [7]) (by kernel_rfl) (by simp) ?_
    refine AllReadyH.cons rfl (fun K hK => ?_) AllReadyH.nil
    go_simp
    refine hK.out _ _ (((SC.below sS hb2).alloc _).setCells (Nat.ne_of_gt (lt_of_cell (SC.below sS hb2).1)) _) (fun _ => ?_)
    clear hK K
    refine wpAnyH_done (by kernel_rfl) ?_ _
    clear hQ
    go_simp
    have b3 : Below w2.heap.size w2 ((w2.alloc (.cells Zm 104)).setCells w2.heap.size 0 (mgA m).toList) := Below.setCells ((Below.refl _ _).alloc (Nat.le_refl _) _) (Nat.le_refl _) _ _
    have D3 : Hid (Dst w ((w2.alloc (.cells Zm 104)).setCells w2.heap.size 0 (mgA m).toList) b o bl B 5 T (farT T f 5)) := (D1.out.drew.step hbB hl hb2).step hbB hl b3
    have M3 : Hid (Whole ((w2.alloc (.cells Zm 104)).setCells w2.heap.size 0 (mgA m).toList) w2.heap.size 104 (mgA m)) := n2.over (mgA m) (by rw [mgA_size, Zm_size])
    have R3 : Hid (Whole ((w2.alloc (.cells Zm 104)).setCells w2.heap.size 0 (mgA m).toList) (w.heap.size + 1) 104 Zm) := (R1.out.drew.below hb2).below b3
    have hmb : w.heap.size + 1 < w2.heap.size := (R1.out.drew.below hb2).lt
    clear n2 th b3 hb2 sS D1 R1
    generalize ((w2.alloc (.cells Zm 104)).setCells w2.heap.size 0 (mgA m).toList) = X at *
    generalize w2.heap.size = mb at *
    obtain ⟨k1, k2⟩ := M3.out.drew.mid (mgA_size m)
    go_wp2_with fail
    refine wp_region_any (by kernel_rfl) ?_
    change wpAny _ _ _ _ _ _ _ (World.drew _)
    refine any_hq (fun _ _ x _ _ h => by cases x <;> exact h) ?_
    intro hQ
    refine take_to 0 (some 22) (.pointer (some ⟨b, o, none⟩)) hQ rfl rfl (by kernel_rfl) (by kernel_rfl) (by kernel_rfl) (by kernel_rfl) (fun w => by go_simp) ?_
    refine take_to 1 (some 23) (.pointer (some ⟨b, o, none⟩)) hQ rfl rfl (by kernel_rfl) (by kernel_rfl) (by kernel_rfl) (by kernel_rfl) (fun w => by go_simp) ?_
    refine take_to 2 (some 24) (.pointer (some ⟨b, o, none⟩)) hQ rfl rfl (by kernel_rfl) (by kernel_rfl) (by kernel_rfl) (by kernel_rfl) (fun w => by go_simp) ?_
    refine take_to 3 (some 25) (.int .i64 self) hQ rfl rfl (by kernel_rfl) (by kernel_rfl) (by kernel_rfl) (by kernel_rfl) (fun w => by go_simp) ?_
    refine take_to 5 (some 27) (.pointer (some ⟨bl, 0, none⟩)) hQ rfl rfl (by kernel_rfl) (by kernel_rfl) (by kernel_rfl) (by kernel_rfl) (fun w => by go_simp) ?_
    refine wpAny_ready (rs := [4]) (by kernel_rfl) (by simp) ?_
    refine AllReady.cons rfl (fun K hK => ?_) AllReady.nil
    go_simp
    refine hK _ _ ?_
    clear hK K
    refine wpAny_ready (rs := [6]) (by kernel_rfl) (by simp) ?_
    refine AllReady.cons rfl (fun K hK => ?_) AllReady.nil
    go_simp
    go_wp2_with (go_at_call 76; refine (raise_any b o self bl B 5 (farT T f 5) T m X.drew hbB hl (Nat.le_trans hBw D3.out.ch.size) (by omega) D3.out.drew.rebase).mono ?_; rintro e w4 ⟨rfl, t4⟩)
    refine wpAny_done (by kernel_rfl) ?_ _
    clear hQ
    go_simp
    have C4 : Hid (Ch X w4 b bl o B) := (show Ch X w4 b bl o B from ⟨t4.ch.os, t4.ch.tape, t4.ch.output, t4.ch.size, t4.ch.block, t4.ch.cell⟩)
    have M4 : Hid (Whole w4 mb 104 (mgA m)) := C4.out.whole M3.out (by omega) (by omega) (by decide)
    have R4 : Hid (Whole w4 (w.heap.size + 1) 104 Zm) := C4.out.whole R3.out (by omega) (by omega) (by decide)
    have CW : Hid (Ch w w4 b bl o B) := D3.out.ch.trans C4.out
    have DK4 : Hid (KT w4.drew b (o + 36) D) := (show KT w4.drew b (o + 36) D from ⟨fun j hj => (CW.out.cell _ (by omega)).trans (HD.out.at_ j hj), t4.kt.fz⟩)
    have hF4 : w4.drew.cell? ⟨b, o + 36 + 36, none⟩ = some (I n) := (CW.out.cell _ (by omega)).trans hF
    have FZ4 : Hid (∀ j, w4.drew.frozen? ⟨b, j, none⟩ = false) := t4.kt.fz
    have T4 : Hid (Dst X w4 b o bl B (5 + 5) T (raiseT (farT T f 5) m self 5)) := (show Dst X w4 b o bl B (5 + 5) T (raiseT (farT T f 5) m self 5) from ⟨t4.kt, t4.lg, C4.out⟩)
    have km := (t4.kt.of (w' := w4.drew) rfl).mid
    obtain ⟨km1, km2⟩ := km
    clear k1 k2 t4
    go_wp2_with fail
    refine wp_region_any (by kernel_rfl) ?_
    change wpAny _ _ _ _ _ _ _ (World.drew _)
    refine any_hq (fun _ _ x _ _ h => by cases x <;> exact h) ?_
    intro hQ
    refine take_to 0 (some 29) (.pointer (some ⟨b, o, none⟩)) hQ rfl rfl (by kernel_rfl) (by kernel_rfl) (by kernel_rfl) (by kernel_rfl) (fun w => by go_simp) ?_
    refine take_to 1 (some 30) (.pointer (some ⟨b, o, none⟩)) hQ rfl rfl (by kernel_rfl) (by kernel_rfl) (by kernel_rfl) (by kernel_rfl) (fun w => by go_simp) ?_
    refine take_to 2 (some 31) (.pointer (some ⟨b, o + 36, none⟩)) hQ rfl rfl (by kernel_rfl) (by kernel_rfl) (by kernel_rfl) (by kernel_rfl) (fun w => by go_simp) ?_
    refine take_to 3 (some 32) (.pointer (some ⟨b, o, none⟩)) hQ rfl rfl (by kernel_rfl) (by kernel_rfl) (by kernel_rfl) (by kernel_rfl) (fun w => by go_simp) ?_
    refine take_to 4 (some 33) (.pointer (some ⟨b, o, none⟩)) hQ rfl rfl (by kernel_rfl) (by kernel_rfl) (by kernel_rfl) (by kernel_rfl) (fun w => by go_simp) ?_
    refine take_to 5 (some 34) (.pointer (some ⟨b, o, none⟩)) hQ rfl rfl (by kernel_rfl) (by kernel_rfl) (by kernel_rfl) (by kernel_rfl) (fun w => by go_simp) ?_
    refine wpAny_ready (rs := [6]) (by kernel_rfl) (by simp) ?_
    refine AllReady.cons rfl (fun K hK => ?_) AllReady.nil
    go_simp
    refine hK _ _ ?_
    clear hK K
    refine wpAny_ready (rs := [7]) (by kernel_rfl) (by simp) ?_
    refine AllReady.cons rfl (fun K hK => ?_) AllReady.nil
    go_simp
    go_wp2_with (go_at_call 77; refine (save_fail b o n (raiseT (farT T f 5) m self 5) w4.drew FZ4.out hF4 hn0 hn3).mono ?_; rintro e w5 ⟨rfl, t5⟩)
    subst t5
    have b5 : Below w4.heap.size w4 (w4.drew.alloc (.cells (tbA (raiseT (farT T f 5) m self 5)) 95)) := (Below.refl _ _).drew.alloc (Nat.le_refl _) _
    have ky := T4.out.kt.below b5
    obtain ⟨L, l1, l2, l3⟩ := T4.out.lg
    have ly := l1.below hl b5
    have fy : (w4.drew.alloc (.cells (tbA (raiseT (farT T f 5) m self 5)) 95)).cell? ⟨b, o + 36 + 36, none⟩ = some (I n) := cell_below hF4 ((Below.refl _ _).alloc (Nat.le_refl _) _)
    have oy : Only (· = b) w4 ((w4.drew.alloc (.cells (tbA (raiseT (farT T f 5) m self 5)) 95)).setCell ⟨b, o + 36 + 36, none⟩ (I (n - 1))) := (Only.ofBelow (S := (· = b)) b5).setCell (p := ⟨b, o + 36 + 36, none⟩) (.inl rfl) _
    have cy : ∀ p, (w4.drew.alloc (.cells (tbA (raiseT (farT T f 5) m self 5)) 95)).cell? ⟨b, p, none⟩ = w4.cell? ⟨b, p, none⟩ := fun p => World.cell?_of_block (w := w4) (b5.block b T4.out.kt.lt)
    have kz : KT ((w4.drew.alloc (.cells (tbA (raiseT (farT T f 5) m self 5)) 95)).setCell ⟨b, o + 36 + 36, none⟩ (I (n - 1))) b o (raiseT (farT T f 5) m self 5) := ⟨fun j hj => by rw [World.cell?_setCell_other _ _ _ _ (addr_ne (by omega))]; exact ky.at_ j hj, fun j => by rw [World.frozen?_setCell]; exact ky.fz j⟩
    have lz : Lg ((w4.drew.alloc (.cells (tbA (raiseT (farT T f 5) m self 5)) 95)).setCell ⟨b, o + 36 + 36, none⟩ (I (n - 1))) bl b o B L := ly.keep hl (fun k hk hB => heap_setCell_other _ _ _ _ (by show k ≠ b; omega))
    have cz := World.cell?_setCell_same _ _ (I (n - 1)) fy
    have dz := CW.out.ck.trans (Ck.only (bl := bl) (B := B) oy)
    have ez : ∀ p, p ≠ o + 36 + 36 → ((w4.drew.alloc (.cells (tbA (raiseT (farT T f 5) m self 5)) 95)).setCell ⟨b, o + 36 + 36, none⟩ (I (n - 1))).cell? ⟨b, p, none⟩ = w4.cell? ⟨b, p, none⟩ := fun p hp => by rw [World.cell?_setCell_other _ _ _ _ (addr_ne (by omega)), cy p]
    exact ⟨rfl, rfl, ⟨_, L, kz.of rfl, lz.keep hl (fun _ _ _ => rfl), l2, by omega⟩, cz, ⟨dz.os, dz.tape, dz.output, dz.size, dz.block⟩, fun p hp hp2 => (ez p hp2).trans (CW.out.cell p hp)⟩
  · go_simp
    refine hK.out _ _ (sS.alloc _) (fun _ => ?_)
    clear hK K
    have n2 := (Whole.new w1.drew 104 Zm)
    have b2 : Below w1.drew.heap.size w1.drew (w1.drew.alloc (.cells Zm 104)) := (Below.refl _ _).alloc (Nat.le_refl _) _
    refine wpAnyH_ready (rs := [5]) (by kernel_rfl) (by simp) ?_
    refine AllReadyH.cons rfl (fun K hK => ?_) AllReadyH.nil
    go_simp
    go_wp2_with (go_at_call 75; refine (TL _ ((D1.out.kt.of (w' := w1.drew) rfl).below b2)).mono ?_; rintro e w2 ⟨rfl, hb2⟩; have n3 : Whole w2 w1.heap.size 104 Zm := n2.below hb2; have th := n3.there Zm_size)
    refine hK.out _ _ (SC.below (sS.alloc _) hb2) (fun _ => ?_)
    clear hK K
    refine wpAnyH_ready (rs := [7]) (by kernel_rfl) (by simp) ?_
    refine AllReadyH.cons rfl (fun K hK => ?_) AllReadyH.nil
    go_simp
    refine hK.out _ _ ((SC.below (sS.alloc _) hb2).setCells (Nat.ne_of_gt (lt_of_cell sS.1)) _) (fun _ => ?_)
    clear hK K
    refine wpAnyH_done (by kernel_rfl) ?_ _
    clear hQ
    go_simp
    have b3 : Below w1.drew.heap.size w1.drew w2 := b2.trans (hb2.mono b2.size)
    have b4 : Below w1.drew.heap.size w1.drew (w2.setCells w1.drew.heap.size 0 (mgA m).toList) := Below.setCells b3 (Nat.le_refl _) _ _
    have D3 : Hid (Dst w (w2.setCells w1.heap.size 0 (mgA m).toList) b o bl B 5 T (farT T f 5)) := D1.out.drew.step hbB hl b4
    have M3 : Hid (Whole (w2.setCells w1.heap.size 0 (mgA m).toList) w1.heap.size 104 (mgA m)) := n3.over (mgA m) (by rw [mgA_size, Zm_size])
    have R3 : Hid (Whole (w2.setCells w1.heap.size 0 (mgA m).toList) (w.heap.size + 1) 104 Zm) := R1.out.drew.below b4
    have hmb : w.heap.size + 1 < w1.heap.size := R1.out.lt
    clear n2 th b3 b4 b2 n3 hb2 sS D1 R1
    generalize (w2.setCells w1.heap.size 0 (mgA m).toList) = X at *
    generalize w1.heap.size = mb at *
    obtain ⟨k1, k2⟩ := M3.out.drew.mid (mgA_size m)
    go_wp2_with fail
    refine wp_region_any (by kernel_rfl) ?_
    change wpAny _ _ _ _ _ _ _ (World.drew _)
    refine any_hq (fun _ _ x _ _ h => by cases x <;> exact h) ?_
    intro hQ
    refine take_to 0 (some 22) (.pointer (some ⟨b, o, none⟩)) hQ rfl rfl (by kernel_rfl) (by kernel_rfl) (by kernel_rfl) (by kernel_rfl) (fun w => by go_simp) ?_
    refine take_to 1 (some 23) (.pointer (some ⟨b, o, none⟩)) hQ rfl rfl (by kernel_rfl) (by kernel_rfl) (by kernel_rfl) (by kernel_rfl) (fun w => by go_simp) ?_
    refine take_to 2 (some 24) (.pointer (some ⟨b, o, none⟩)) hQ rfl rfl (by kernel_rfl) (by kernel_rfl) (by kernel_rfl) (by kernel_rfl) (fun w => by go_simp) ?_
    refine take_to 3 (some 25) (.int .i64 self) hQ rfl rfl (by kernel_rfl) (by kernel_rfl) (by kernel_rfl) (by kernel_rfl) (fun w => by go_simp) ?_
    refine take_to 5 (some 27) (.pointer (some ⟨bl, 0, none⟩)) hQ rfl rfl (by kernel_rfl) (by kernel_rfl) (by kernel_rfl) (by kernel_rfl) (fun w => by go_simp) ?_
    refine wpAny_ready (rs := [4]) (by kernel_rfl) (by simp) ?_
    refine AllReady.cons rfl (fun K hK => ?_) AllReady.nil
    go_simp
    refine hK _ _ ?_
    clear hK K
    refine wpAny_ready (rs := [6]) (by kernel_rfl) (by simp) ?_
    refine AllReady.cons rfl (fun K hK => ?_) AllReady.nil
    go_simp
    go_wp2_with (go_at_call 76; refine (raise_any b o self bl B 5 (farT T f 5) T m X.drew hbB hl (Nat.le_trans hBw D3.out.ch.size) (by omega) D3.out.drew.rebase).mono ?_; rintro e w4 ⟨rfl, t4⟩)
    refine wpAny_done (by kernel_rfl) ?_ _
    clear hQ
    go_simp
    have C4 : Hid (Ch X w4 b bl o B) := (show Ch X w4 b bl o B from ⟨t4.ch.os, t4.ch.tape, t4.ch.output, t4.ch.size, t4.ch.block, t4.ch.cell⟩)
    have M4 : Hid (Whole w4 mb 104 (mgA m)) := C4.out.whole M3.out (by omega) (by omega) (by decide)
    have R4 : Hid (Whole w4 (w.heap.size + 1) 104 Zm) := C4.out.whole R3.out (by omega) (by omega) (by decide)
    have CW : Hid (Ch w w4 b bl o B) := D3.out.ch.trans C4.out
    have DK4 : Hid (KT w4.drew b (o + 36) D) := (show KT w4.drew b (o + 36) D from ⟨fun j hj => (CW.out.cell _ (by omega)).trans (HD.out.at_ j hj), t4.kt.fz⟩)
    have hF4 : w4.drew.cell? ⟨b, o + 36 + 36, none⟩ = some (I n) := (CW.out.cell _ (by omega)).trans hF
    have FZ4 : Hid (∀ j, w4.drew.frozen? ⟨b, j, none⟩ = false) := t4.kt.fz
    have T4 : Hid (Dst X w4 b o bl B (5 + 5) T (raiseT (farT T f 5) m self 5)) := (show Dst X w4 b o bl B (5 + 5) T (raiseT (farT T f 5) m self 5) from ⟨t4.kt, t4.lg, C4.out⟩)
    have km := (t4.kt.of (w' := w4.drew) rfl).mid
    obtain ⟨km1, km2⟩ := km
    clear k1 k2 t4
    go_wp2_with fail
    refine wp_region_any (by kernel_rfl) ?_
    change wpAny _ _ _ _ _ _ _ (World.drew _)
    refine any_hq (fun _ _ x _ _ h => by cases x <;> exact h) ?_
    intro hQ
    refine take_to 0 (some 29) (.pointer (some ⟨b, o, none⟩)) hQ rfl rfl (by kernel_rfl) (by kernel_rfl) (by kernel_rfl) (by kernel_rfl) (fun w => by go_simp) ?_
    refine take_to 1 (some 30) (.pointer (some ⟨b, o, none⟩)) hQ rfl rfl (by kernel_rfl) (by kernel_rfl) (by kernel_rfl) (by kernel_rfl) (fun w => by go_simp) ?_
    refine take_to 2 (some 31) (.pointer (some ⟨b, o + 36, none⟩)) hQ rfl rfl (by kernel_rfl) (by kernel_rfl) (by kernel_rfl) (by kernel_rfl) (fun w => by go_simp) ?_
    refine take_to 3 (some 32) (.pointer (some ⟨b, o, none⟩)) hQ rfl rfl (by kernel_rfl) (by kernel_rfl) (by kernel_rfl) (by kernel_rfl) (fun w => by go_simp) ?_
    refine take_to 4 (some 33) (.pointer (some ⟨b, o, none⟩)) hQ rfl rfl (by kernel_rfl) (by kernel_rfl) (by kernel_rfl) (by kernel_rfl) (fun w => by go_simp) ?_
    refine take_to 5 (some 34) (.pointer (some ⟨b, o, none⟩)) hQ rfl rfl (by kernel_rfl) (by kernel_rfl) (by kernel_rfl) (by kernel_rfl) (fun w => by go_simp) ?_
    refine wpAny_ready (rs := [6]) (by kernel_rfl) (by simp) ?_
    refine AllReady.cons rfl (fun K hK => ?_) AllReady.nil
    go_simp
    refine hK _ _ ?_
    clear hK K
    refine wpAny_ready (rs := [7]) (by kernel_rfl) (by simp) ?_
    refine AllReady.cons rfl (fun K hK => ?_) AllReady.nil
    go_simp
    go_wp2_with (go_at_call 77; refine (save_fail b o n (raiseT (farT T f 5) m self 5) w4.drew FZ4.out hF4 hn0 hn3).mono ?_; rintro e w5 ⟨rfl, t5⟩)
    subst t5
    have b5 : Below w4.heap.size w4 (w4.drew.alloc (.cells (tbA (raiseT (farT T f 5) m self 5)) 95)) := (Below.refl _ _).drew.alloc (Nat.le_refl _) _
    have ky := T4.out.kt.below b5
    obtain ⟨L, l1, l2, l3⟩ := T4.out.lg
    have ly := l1.below hl b5
    have fy : (w4.drew.alloc (.cells (tbA (raiseT (farT T f 5) m self 5)) 95)).cell? ⟨b, o + 36 + 36, none⟩ = some (I n) := cell_below hF4 ((Below.refl _ _).alloc (Nat.le_refl _) _)
    have oy : Only (· = b) w4 ((w4.drew.alloc (.cells (tbA (raiseT (farT T f 5) m self 5)) 95)).setCell ⟨b, o + 36 + 36, none⟩ (I (n - 1))) := (Only.ofBelow (S := (· = b)) b5).setCell (p := ⟨b, o + 36 + 36, none⟩) (.inl rfl) _
    have cy : ∀ p, (w4.drew.alloc (.cells (tbA (raiseT (farT T f 5) m self 5)) 95)).cell? ⟨b, p, none⟩ = w4.cell? ⟨b, p, none⟩ := fun p => World.cell?_of_block (w := w4) (b5.block b T4.out.kt.lt)
    have kz : KT ((w4.drew.alloc (.cells (tbA (raiseT (farT T f 5) m self 5)) 95)).setCell ⟨b, o + 36 + 36, none⟩ (I (n - 1))) b o (raiseT (farT T f 5) m self 5) := ⟨fun j hj => by rw [World.cell?_setCell_other _ _ _ _ (addr_ne (by omega))]; exact ky.at_ j hj, fun j => by rw [World.frozen?_setCell]; exact ky.fz j⟩
    have lz : Lg ((w4.drew.alloc (.cells (tbA (raiseT (farT T f 5) m self 5)) 95)).setCell ⟨b, o + 36 + 36, none⟩ (I (n - 1))) bl b o B L := ly.keep hl (fun k hk hB => heap_setCell_other _ _ _ _ (by show k ≠ b; omega))
    have cz := World.cell?_setCell_same _ _ (I (n - 1)) fy
    have dz := CW.out.ck.trans (Ck.only (bl := bl) (B := B) oy)
    have ez : ∀ p, p ≠ o + 36 + 36 → ((w4.drew.alloc (.cells (tbA (raiseT (farT T f 5) m self 5)) 95)).setCell ⟨b, o + 36 + 36, none⟩ (I (n - 1))).cell? ⟨b, p, none⟩ = w4.cell? ⟨b, p, none⟩ := fun p hp => by rw [World.cell?_setCell_other _ _ _ _ (addr_ne (by omega)), cy p]
    exact ⟨rfl, rfl, ⟨_, L, kz.of rfl, lz.keep hl (fun _ _ _ => rfl), l2, by omega⟩, cz, ⟨dz.os, dz.tape, dz.output, dz.size, dz.block⟩, fun p hp hp2 => (ez p hp2).trans (CW.out.cell p hp)⟩
end Go.Proofs.Ytdoodnbobpijoaa

