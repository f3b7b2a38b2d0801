import Derived.Test.YtdoodnbobpijoaaAbsB
namespace Go.Proofs.Ytdoodnbobpijoaa

theorem takes_cases (A : Nt) (b a : Nat) (x : Rt) (best t : Bs) : takes A b a x best t = x ∨ takes A b a x best t = noRt ∨ (takes A b a x best t = ⟨a, t.sq, t.mt, 0, 0⟩ ∧ 0 ≤ t.sq ∧ bet t best ∧ t.mt + A.co a b ≤ 30) := by
  unfold takes
  split
  · split
    · exact .inr (.inl rfl)
    · exact .inl rfl
  · next h =>
    split
    · exact .inr (.inr ⟨rfl, by omega, by omega, by omega⟩)
    · exact .inl rfl
theorem Good.hear {A : Nt} (g : Good A) (a b : Nat) (m : Nat → Bs) (ha : a < A.n) (hab : a ≠ b) (hc : 0 < A.co a b) (hm : ∀ d, m d = noBs ∨ (BsOk A.n d (m d) ∧ Tells A a d (m d))) : Good (hearN A a b m) := by
  have key : ∀ d, b < A.n → (if d = b then (A.rs b).t.ro d else takes A b a ((A.rs b).t.ro d) ((A.rs b).t.be d) (m d)) = noRt ∨
      (if d = b then (A.rs b).t.ro d else takes A b a ((A.rs b).t.ro d) ((A.rs b).t.be d) (m d)) = (A.rs b).t.ro d ∨
      ((if d = b then (A.rs b).t.ro d else takes A b a ((A.rs b).t.ro d) ((A.rs b).t.be d) (m d)) = ⟨a, (m d).sq, (m d).mt, 0, 0⟩ ∧ d ≠ b ∧ BsOk A.n d (m d) ∧ Tells A a d (m d) ∧ bet (m d) ((A.rs b).t.be d)) := fun d hb => by
    by_cases hd : d = b
    · rw [if_pos hd]; exact .inr (.inl rfl)
    · rw [if_neg hd]
      rcases takes_cases A b a ((A.rs b).t.ro d) ((A.rs b).t.be d) (m d) with e | e | ⟨e, e1, e2, e3⟩
      · exact .inr (.inl e)
      · exact .inl e
      · refine .inr (.inr ⟨e, hd, ?_⟩)
        rcases hm d with h | ⟨h1, h2⟩
        · rw [h, noBs_sq] at e1; omega
        · exact ⟨h1, h2, e2⟩
  refine g.upT b _ rfl (fun hb => ?_) (fun hb hdn d h0 => ?_) (fun hb => g.sq b hb) (fun hb d => g.bq b d hb) (fun hb d h0 => ?_) (fun hb d hd => g.os b d hb hd) (fun hb => ⟨g.fa0 b hb, g.fa3 b hb⟩)
  · have gt := g.t b hb
    refine ⟨gt.sq0, gt.sq1, fun d => ?_, gt.be, fun d h0 => ?_⟩
    · simp only [withT]
      rcases key d hb with e | e | ⟨e, hd, h1, h2, h3⟩
      · exact .inl e
      · rw [e]; exact gt.ro d
      · rw [e]
        exact .inr ⟨Int.natCast_nonneg a, by show (a : Int) < A.n; omega, by show (a : Int) ≠ b; omega, h1.dn, hd, h1.sq0, h1.sq1, h1.mt0, h1.mt1, Int.le_refl _, by show (0 : Int) < 3; decide, .inl rfl⟩
    · simp only [withT] at h0 ⊢
      rcases key d hb with e | e | ⟨e, hd, h1, h2, h3⟩
      · rw [e, noRt_nx] at h0; omega
      · rw [e] at h0 ⊢; exact gt.fe d h0
      · rw [e]; exact h3
  · simp only [withT] at h0 ⊢
    rcases key d hb with e | e | ⟨e, hd, h1, h2, h3⟩
    · rw [e, noRt_nx] at h0; omega
    · rw [e] at h0 ⊢; exact g.nb b d hb hdn h0
    · rw [e]; show 0 < A.co b (a : Int).toNat; rw [Int.toNat_natCast, g.cs]; exact hc
  · simp only [withT] at h0 ⊢
    rcases key d hb with e | e | ⟨e, hd, h1, h2, h3⟩
    · rw [e, noRt_nx] at h0; omega
    · rw [e] at h0 ⊢; exact g.rt b d hb h0
    · rw [e]; show Tells A (a : Int).toNat d (m d); rw [Int.toNat_natCast]; exact h2
theorem offN_rs (A : Nt) (a b k : Nat) : (offN A a b k).rs = A.rs := rfl
theorem offN_co (A : Nt) (a b k : Nat) : (offN A a b k).co = A.co := rfl
theorem Good.deliver {A : Nt} (g : Good A) (a b k : Nat) (hk : k < (A.wa a b).length) : Good (deliverN A a b k) := by
  unfold deliverN
  split
  · exact g.off a b k
  · next h =>
    have hm : (A.wa a b).getD k (fun _ => noBs) ∈ A.wa a b := by rw [List.getD_eq_getElem?_getD, List.getElem?_eq_getElem hk]; exact List.getElem_mem hk
    obtain ⟨h1, h2, h3⟩ := g.wn a b _ hm
    refine (g.off a b k).hear a b _ h1 h3 ?_ fun d => ?_
    · have := g.c0 a b
      show 0 < A.co a b
      omega
    · rcases g.wm a b _ hm d with e | ⟨e1, e2⟩
      · exact .inl e
      · exact .inr ⟨e1, e2.same fun _ => rfl⟩

/-! ### Dump -/
theorem toldM_cases {A : Nt} (g : Good A) (r : Nat) (hr : r < A.n) (hdn : (A.rs r).dn = false) (d : Nat) :
    (d = r ∧ toldM A r d = ⟨(A.rs r).t.sq, 0⟩) ∨ (d ≠ r ∧ toldM A r d = noBs) ∨
    (d ≠ r ∧ 0 ≤ ((A.rs r).t.ro d).nx ∧ total A r ((A.rs r).t.ro d) ≤ 30 ∧ ((A.rs r).t.ro d).mt < total A r ((A.rs r).t.ro d) ∧ toldM A r d = ⟨((A.rs r).t.ro d).sq, total A r ((A.rs r).t.ro d)⟩) := by
  unfold toldM
  by_cases h : d = r
  · rw [if_pos h]; exact .inl ⟨h, rfl⟩
  · rw [if_neg h]
    by_cases h1 : ((A.rs r).t.ro d).nx < 0
    · rw [if_pos h1]; exact .inr (.inl ⟨h, rfl⟩)
    · rw [if_neg h1]
      by_cases h2 : 30 < total A r ((A.rs r).t.ro d)
      · rw [if_pos h2]; exact .inr (.inl ⟨h, rfl⟩)
      · rw [if_neg h2]
        refine .inr (.inr ⟨h, by omega, by omega, ?_, rfl⟩)
        have := g.nb r d hr hdn (by omega)
        unfold total
        omega
theorem toldT_be (A : Nt) (r d : Nat) : (toldT A r).be d = (A.rs r).t.be d ∨ (d ≠ r ∧ 0 ≤ ((A.rs r).t.ro d).nx ∧ total A r ((A.rs r).t.ro d) ≤ 30 ∧ bet ⟨((A.rs r).t.ro d).sq, total A r ((A.rs r).t.ro d)⟩ ((A.rs r).t.be d) ∧ (toldT A r).be d = ⟨((A.rs r).t.ro d).sq, total A r ((A.rs r).t.ro d)⟩) := by
  show (if _ then _ else _) = _ ∨ _
  split
  · next h => refine .inr ⟨h.1, h.2.1, h.2.2.1, h.2.2.2, ?_⟩; show (if _ then _ else _) = _; rw [if_pos h]
  · exact .inl rfl
theorem toldT_ro (A : Nt) (r d : Nat) : (toldT A r).ro d = (A.rs r).t.ro d ∨ ((toldT A r).ro d = noRt ∧ d ≠ r ∧ 0 ≤ ((A.rs r).t.ro d).nx ∧ 30 < total A r ((A.rs r).t.ro d)) := by
  show (if _ then _ else _) = _ ∨ _
  split
  · next h => refine .inr ⟨?_, h⟩; show (if _ then _ else _) = _; rw [if_pos h]
  · exact .inl rfl
/-- The best gets no worse, and is as good as what is told. -/
theorem toldT_up (A : Nt) (r d : Nat) : geB ((toldT A r).be d) ((A.rs r).t.be d) := by
  rcases toldT_be A r d with e | ⟨_, _, _, h, e⟩
  · rw [e]; exact geB_refl _
  · rw [e]; exact bet_ge h
theorem toldT_ge (A : Nt) (r d : Nat) (hd : d ≠ r) (h0 : 0 ≤ ((A.rs r).t.ro d).nx) (h : total A r ((A.rs r).t.ro d) ≤ 30) : geB ((toldT A r).be d) ⟨((A.rs r).t.ro d).sq, total A r ((A.rs r).t.ro d)⟩ := by
  show geB (if _ then _ else _) _
  split
  · exact geB_refl _
  · next hh => exact not_bet fun hb => hh ⟨hd, h0, h, hb⟩
theorem toldT_tg {A : Nt} (g : Good A) (r : Nat) (hr : r < A.n) (hdn : (A.rs r).dn = false) : TG A.n r (toldT A r) := by
  have gt := g.t r hr
  refine ⟨gt.sq0, gt.sq1, fun d => ?_, fun d => ?_, fun d h0 => ?_⟩
  · rcases toldT_ro A r d with e | ⟨e, _⟩
    · rw [e]; exact gt.ro d
    · exact .inl e
  · rcases toldT_be A r d with e | ⟨h1, h2, h3, h4, e⟩
    · rw [e]; exact gt.be d
    · rw [e]
      have k := gt.nx d h2
      have := g.nb r d hr hdn h2
      refine .inr ⟨k.dn, k.sq0, k.sq1, ?_, h3⟩
      show 0 ≤ total A r ((A.rs r).t.ro d)
      unfold total
      have := k.mt0
      omega
  · rcases toldT_ro A r d with e | ⟨e, _⟩
    · rw [e] at h0 ⊢
      have hb := gt.fe d h0
      rcases toldT_be A r d with e | ⟨h1, h2, h3, h4, e⟩
      · rw [e]; exact hb
      · rw [e]
        have := g.nb r d hr hdn h2
        refine .inr ⟨rfl, ?_⟩
        show ((A.rs r).t.ro d).mt < total A r ((A.rs r).t.ro d)
        unfold total
        omega
    · rw [e, noRt_nx] at h0; omega
theorem dumpOk_same (A : Nt) (r : Nat) : (dumpOk A r).rs r = { (A.rs r) with t := toldT A r, dk := toldT A r } := by show (if r = r then _ else _) = _; rw [if_pos rfl]
theorem dumpOk_other (A : Nt) (r j : Nat) (h : j ≠ r) : (dumpOk A r).rs j = A.rs j := by show (if j = r then _ else _) = _; rw [if_neg h]
theorem dumpOk_up {A : Nt} (g : Good A) (r : Nat) (hr : r < A.n) : Up A (dumpOk A r) := by
  refine ⟨fun j hj => ?_, fun j d hj => ?_⟩
  · by_cases h : j = r
    · subst h; rw [dumpOk_same]; exact g.sq j hj
    · rw [dumpOk_other _ _ _ h]; exact Int.le_refl _
  · by_cases h : j = r
    · subst h; rw [dumpOk_same]; exact geB_trans (toldT_up A j d) (g.bb j d hj)
    · rw [dumpOk_other _ _ _ h]; exact geB_refl _
theorem dumpOk_wa (A : Nt) (r a b : Nat) (m : Nat → Bs) (hm : m ∈ (dumpOk A r).wa a b) : m ∈ A.wa a b ∨ (a = r ∧ b < A.n ∧ 0 < A.co r b ∧ m = toldM A r) := by
  have : m ∈ (if a = r ∧ b < A.n ∧ 0 < A.co r b ∧ (A.wa r b).length < 6 then A.wa r b ++ [toldM A r] else A.wa a b) := hm
  split at this
  · next h =>
    rw [List.mem_append, List.mem_singleton] at this
    obtain ⟨rfl, h1, h2, _⟩ := h
    rcases this with h | h
    · exact .inl h
    · exact .inr ⟨rfl, h1, h2, h⟩
  · exact .inl this
theorem told_tells {A : Nt} (g : Good A) (r : Nat) (hr : r < A.n) (hdn : (A.rs r).dn = false) (d : Nat) : toldM A r d = noBs ∨ (BsOk A.n d (toldM A r d) ∧ Tells (dumpOk A r) r d (toldM A r d)) := by
  have gt := g.t r hr
  rcases toldM_cases g r hr hdn d with ⟨rfl, e⟩ | ⟨_, e⟩ | ⟨h1, h2, h3, h4, e⟩
  · rw [e]
    refine .inr ⟨⟨hr, gt.sq0, gt.sq1, Int.le_refl _, by show (0 : Int) ≤ 30; decide⟩, ?_⟩
    unfold Tells
    rw [if_pos rfl, dumpOk_same]
    exact Int.le_refl _
  · exact .inl e
  · rw [e]
    have k := gt.nx d h2
    refine .inr ⟨⟨k.dn, k.sq0, k.sq1, ?_, h3⟩, ?_⟩
    · have := k.mt0
      show 0 ≤ total A r ((A.rs r).t.ro d)
      omega
    · unfold Tells
      rw [if_neg (Ne.symm h1), dumpOk_same]
      exact toldT_ge A r d h1 h2 h3
theorem Good.dumpOk {A : Nt} (g : Good A) (r : Nat) (hr : r < A.n) (hdn : (A.rs r).dn = false) : Good (dumpOk A r) := by
  have hup := dumpOk_up g r hr
  have htg := toldT_tg g r hr hdn
  have tn : ∀ j d, j < A.n → 0 ≤ ((A.rs j).t.ro d).nx → Tells (Go.Proofs.Ytdoodnbobpijoaa.dumpOk A r) ((A.rs j).t.ro d).nx.toNat d ((A.rs j).t.ro d).tl := fun j d hj h0 =>
    (g.rt j d hj h0).mono hup ((g.t j hj).toNat d h0).1 ((g.t j hj).nx d h0).dn
  have tr : ∀ d, 0 ≤ ((toldT A r).ro d).nx → (toldT A r).ro d = (A.rs r).t.ro d := fun d h0 => by
    rcases toldT_ro A r d with e | ⟨e, _⟩
    · exact e
    · rw [e, noRt_nx] at h0; omega
  refine ⟨g.n2, g.n5, fun j hj => ?_, fun j hj => ?_, fun j d hj => ?_, fun j hj => ?_, fun j d hj => ?_, g.cs, g.c0, g.c9, g.ca, g.cn, fun a b => ?_, fun a b m hm => ?_, fun a b m hm d => ?_, fun j d hj => ?_, fun j d hj => ?_, fun j d hj hd' => ?_, fun j hj => ?_, fun j hj => ?_⟩
  · by_cases h : j = r
    · subst h; rw [dumpOk_same]; exact htg
    · rw [dumpOk_other _ _ _ h]; exact g.t j hj
  · by_cases h : j = r
    · subst h; rw [dumpOk_same]; exact htg
    · rw [dumpOk_other _ _ _ h]; exact g.dk j hj
  · by_cases h : j = r
    · subst h; rw [dumpOk_same]
      intro _ h0
      have e := tr d h0
      show 0 < A.co j ((toldT A j).ro d).nx.toNat
      have h0' : 0 ≤ ((toldT A j).ro d).nx := h0
      rw [e] at h0' ⊢
      exact g.nb j d hj hdn h0'
    · rw [dumpOk_other _ _ _ h]; exact g.nb j d hj
  · by_cases h : j = r
    · subst h; rw [dumpOk_same]; exact Int.le_refl _
    · rw [dumpOk_other _ _ _ h]; exact g.sq j hj
  · by_cases h : j = r
    · subst h; rw [dumpOk_same]
    · rw [dumpOk_other _ _ _ h]; exact g.bq j d hj
  · show (if a = r ∧ b < A.n ∧ 0 < A.co r b ∧ (A.wa r b).length < 6 then A.wa r b ++ [toldM A r] else A.wa a b).length ≤ 6
    split
    · next h => simp; omega
    · exact g.wl a b
  · rcases dumpOk_wa A r a b m hm with h | ⟨rfl, h1, h2, _⟩
    · exact g.wn a b m h
    · refine ⟨hr, h1, ?_⟩
      rintro rfl
      rw [g.ca] at h2; omega
  · rcases dumpOk_wa A r a b m hm with h | ⟨rfl, h1, h2, rfl⟩
    · rcases g.wm a b m h d with e | ⟨e1, e2⟩
      · exact .inl e
      · exact .inr ⟨e1, e2.mono hup (g.wn a b m h).1 e1.dn⟩
    · exact told_tells g a hr hdn d
  · by_cases h : j = r
    · subst h; rw [dumpOk_same]
      intro h0
      have e := tr d h0
      have h0' : 0 ≤ ((toldT A j).ro d).nx := h0
      show Tells _ ((toldT A j).ro d).nx.toNat d ((toldT A j).ro d).tl
      rw [e] at h0' ⊢
      exact tn j d hj h0'
    · rw [dumpOk_other _ _ _ h]; exact tn j d hj
  · by_cases h : j = r
    · subst h; rw [dumpOk_same]
      intro h0
      have e := tr d h0
      have h0' : 0 ≤ ((toldT A j).ro d).nx := h0
      show Tells _ ((toldT A j).ro d).nx.toNat d ((toldT A j).ro d).tl
      rw [e] at h0' ⊢
      exact tn j d hj h0'
    · rw [dumpOk_other _ _ _ h]
      exact fun h0 => (g.rk j d hj h0).mono hup ((g.dk j hj).toNat d h0).1 ((g.dk j hj).nx d h0).dn
  · have hs := hup.sq d hd'
    by_cases h : j = r
    · subst h
      rw [dumpOk_same]
      show ((toldT A j).be d).sq ≤ _
      rcases toldT_be A j d with e | ⟨h1, h2, h3, h4, e⟩
      · rw [e]; exact Int.le_trans (g.os j d hj hd') hs
      · rw [e]
        have := g.tells_sq (g.rt j d hj h2) ((g.t j hj).toNat d h2).1 hd'
        exact Int.le_trans this hs
    · rw [dumpOk_other _ _ _ h]
      exact Int.le_trans (g.os j d hj hd') hs
  · by_cases h : j = r
    · subst h; rw [dumpOk_same]; exact g.fa0 j hj
    · rw [dumpOk_other _ _ _ h]; exact g.fa0 j hj
  · by_cases h : j = r
    · subst h; rw [dumpOk_same]; exact g.fa3 j hj
    · rw [dumpOk_other _ _ _ h]; exact g.fa3 j hj
theorem Good.dump {A : Nt} (g : Good A) (r : Nat) (hr : r < A.n) (hdn : (A.rs r).dn = false) : Good (dumpN A r) := by
  unfold dumpN
  split
  · next h => exact g.failOnce r h
  · exact g.dumpOk r hr hdn
end Go.Proofs.Ytdoodnbobpijoaa
