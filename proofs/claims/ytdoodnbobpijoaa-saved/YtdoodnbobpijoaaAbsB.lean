import Derived.Test.YtdoodnbobpijoaaAbsA
namespace Go.Proofs.Ytdoodnbobpijoaa

/-- One router turns; its disk doesn't. -/
theorem Good.upT {A : Nt} (g : Good A) (r : Nat) (R : Ro) (hd : R.dk = (A.rs r).dk) (ht : r < A.n → TG A.n r R.t)
    (hnb : r < A.n → R.dn = false → ∀ d, 0 ≤ (R.t.ro d).nx → 0 < A.co r (R.t.ro d).nx.toNat)
    (hsq : r < A.n → R.dk.sq ≤ R.t.sq) (hbb : r < A.n → ∀ d, R.t.be d = R.dk.be d)
    (hrt : r < A.n → ∀ d, 0 ≤ (R.t.ro d).nx → Tells A (R.t.ro d).nx.toNat d (R.t.ro d).tl)
    (hos : r < A.n → ∀ d, d < A.n → (R.t.be d).sq ≤ (A.rs d).dk.sq) (hf : r < A.n → 0 ≤ R.fa ∧ R.fa ≤ 3) : Good (upR A r R) := by
  have hdk : ∀ j, ((upR A r R).rs j).dk = (A.rs j).dk := fun j => by
    by_cases h : j = r
    · subst h; rw [upR_same, hd]
    · rw [upR_other _ _ _ _ h]
  refine ⟨g.n2, g.n5, fun j hj => ?_, fun j hj => ?_, fun j d hj => ?_, fun j hj => ?_, fun j d hj => ?_, g.cs, g.c0, g.c9, g.ca, g.cn, g.wl, g.wn, fun a b m hm d => ?_, fun j d hj => ?_, fun j d hj => ?_, fun j d hj hd' => ?_, fun j hj => ?_, fun j hj => ?_⟩
  · by_cases h : j = r
    · subst h; rw [upR_same]; exact ht hj
    · rw [upR_other _ _ _ _ h]; exact g.t j hj
  · rw [hdk]; exact g.dk j hj
  · by_cases h : j = r
    · subst h; rw [upR_same]; exact fun h1 h2 => hnb hj h1 d h2
    · rw [upR_other _ _ _ _ h]; exact g.nb j d hj
  · by_cases h : j = r
    · subst h; rw [upR_same]; exact hsq hj
    · rw [upR_other _ _ _ _ h]; exact g.sq j hj
  · by_cases h : j = r
    · subst h; rw [upR_same]; exact hbb hj d
    · rw [upR_other _ _ _ _ h]; exact g.bq j d hj
  · rcases g.wm a b m hm d with e | ⟨e1, e2⟩
    · exact .inl e
    · exact .inr ⟨e1, e2.same hdk⟩
  · by_cases h : j = r
    · subst h; rw [upR_same]; exact fun h1 => (hrt hj d h1).same hdk
    · rw [upR_other _ _ _ _ h]; exact fun h1 => (g.rt j d hj h1).same hdk
  · rw [hdk]; exact fun h1 => (g.rk j d hj h1).same hdk
  · rw [hdk]
    by_cases h : j = r
    · subst h; rw [upR_same]; exact hos hj d hd'
    · rw [upR_other _ _ _ _ h]; exact g.os j d hj hd'
  · by_cases h : j = r
    · subst h; rw [upR_same]; exact (hf hj).1
    · rw [upR_other _ _ _ _ h]; exact g.fa0 j hj
  · by_cases h : j = r
    · subst h; rw [upR_same]; exact (hf hj).2
    · rw [upR_other _ _ _ _ h]; exact g.fa3 j hj

/-- The routes alone turn: each is none, or an old one (its age and staleness aside). -/
theorem Good.routes {A : Nt} (g : Good A) (r : Nat) (f : Nat → Rt) (h : ∀ d, r < A.n → f d = noRt ∨ f d = (A.rs r).t.ro d ∨ (0 ≤ (f d).nx ∧ (f d).nx = ((A.rs r).t.ro d).nx ∧ (f d).sq = ((A.rs r).t.ro d).sq ∧ (f d).mt = ((A.rs r).t.ro d).mt ∧ 0 ≤ (f d).ag ∧ (f d).ag < 3 ∧ ((f d).st = 0 ∨ (f d).st = 1))) :
    Good (upR A r (withT (A.rs r) { (A.rs r).t with ro := f })) := by
  have key : ∀ d, r < A.n → 0 ≤ (f d).nx → 0 ≤ ((A.rs r).t.ro d).nx ∧ (f d).nx = ((A.rs r).t.ro d).nx ∧ (f d).tl = ((A.rs r).t.ro d).tl := fun d hr h0 => by
    rcases h d hr with e | e | ⟨_, e1, e2, e3, _⟩
    · rw [e, noRt_nx] at h0; omega
    · rw [e] at h0 ⊢; exact ⟨h0, rfl, rfl⟩
    · exact ⟨by omega, e1, by unfold Rt.tl; rw [e2, e3]⟩
  refine g.upT r _ rfl (fun hr => ?_) (fun hr hdn d h0 => ?_) (fun hr => g.sq r hr) (fun hr d => g.bq r d hr) (fun hr d h0 => ?_) (fun hr d hd => g.os r d hr hd) (fun hr => ⟨g.fa0 r hr, g.fa3 r hr⟩)
  · have gt := g.t r hr
    refine ⟨gt.sq0, gt.sq1, fun d => ?_, gt.be, fun d h0 => ?_⟩
    · show f d = noRt ∨ RtOk A.n r d (f d)
      rcases h d hr with e | e | ⟨h0, e1, e2, e3, e4, e5, e6⟩
      · exact .inl e
      · rw [e]; exact gt.ro d
      · have k := gt.nx d (by omega)
        exact .inr ⟨h0, by rw [e1]; exact k.nx1, by rw [e1]; exact k.nxr, k.dn, k.dr, by rw [e2]; exact k.sq0, by rw [e2]; exact k.sq1, by rw [e3]; exact k.mt0, by rw [e3]; exact k.mt1, e4, e5, e6⟩
    · have k := key d hr h0
      show bet (f d).tl ((A.rs r).t.be d)
      rw [k.2.2]; exact gt.fe d k.1
  · have k := key d hr h0
    show 0 < A.co r (f d).nx.toNat
    rw [k.2.1]; exact g.nb r d hr hdn k.1
  · have k := key d hr h0
    show Tells A (f d).nx.toNat d (f d).tl
    rw [k.2.1, k.2.2]; exact g.rt r d hr k.1

theorem Good.tick {A : Nt} (g : Good A) (r : Nat) : Good (tickN A r) := by
  refine g.routes r _ fun d hr => ?_
  unfold tickR
  split
  · exact .inr (.inl rfl)
  · next h =>
    split
    · exact .inl rfl
    · have k := (g.t r hr).nx d (by omega)
      exact .inr (.inr ⟨by show 0 ≤ ((A.rs r).t.ro d).nx; omega, rfl, rfl, rfl, by have := k.ag0; show 0 ≤ ((A.rs r).t.ro d).ag + 1; omega, by show ((A.rs r).t.ro d).ag + 1 < 3; omega, k.st⟩)
theorem Good.wo {A : Nt} (g : Good A) (r : Nat) (x : Int) : Good (upR A r (withT (A.rs r) (wo (A.rs r).t x))) := by
  refine g.routes r _ fun d _ => ?_
  split
  · exact .inl rfl
  · exact .inr (.inl rfl)
theorem Good.bump {A : Nt} (g : Good A) (r : Nat) (h : r < A.n → (A.rs r).t.sq < 1000) : Good (bumpN A r) := by
  refine g.upT r _ rfl (fun hr => ?_) (fun hr hdn d h0 => g.nb r d hr hdn h0) (fun hr => ?_) (fun hr d => g.bq r d hr) (fun hr d h0 => g.rt r d hr h0) (fun hr d hd => g.os r d hr hd) (fun hr => ⟨g.fa0 r hr, g.fa3 r hr⟩)
  · have gt := g.t r hr
    exact ⟨by have := gt.sq0; show 0 ≤ (A.rs r).t.sq + 1; omega, by have := h hr; show (A.rs r).t.sq + 1 ≤ 1000; omega, gt.ro, gt.be, gt.fe⟩
  · have := g.sq r hr
    show (A.rs r).dk.sq ≤ (A.rs r).t.sq + 1
    omega
theorem Good.fail {A : Nt} (g : Good A) (r : Nat) (k : Int) (h0 : 0 ≤ k) (h3 : k ≤ 3) : Good (failN A r k) :=
  g.upT r _ rfl (fun hr => g.t r hr) (fun hr hdn d h0 => g.nb r d hr hdn h0) (fun hr => g.sq r hr) (fun hr d => g.bq r d hr) (fun hr d h0 => g.rt r d hr h0) (fun hr d hd => g.os r d hr hd) (fun _ => ⟨h0, h3⟩)
theorem Good.failOnce {A : Nt} (g : Good A) (r : Nat) (h : 0 < (A.rs r).fa) : Good (failOnce A r) := by
  refine g.upT r _ rfl (fun hr => g.t r hr) (fun hr hdn d h0 => g.nb r d hr hdn h0) (fun hr => g.sq r hr) (fun hr d => g.bq r d hr) (fun hr d h0 => g.rt r d hr h0) (fun hr d hd => g.os r d hr hd) (fun hr => ?_)
  have := g.fa3 r hr
  constructor
  · show 0 ≤ (A.rs r).fa - 1; omega
  · show (A.rs r).fa - 1 ≤ 3; omega
theorem Good.dkos {A : Nt} (g : Good A) (r d : Nat) (hr : r < A.n) (hd : d < A.n) : ((A.rs r).dk.be d).sq ≤ (A.rs d).dk.sq := by
  have h1 := g.os r d hr hd
  have h2 := g.bb r d hr
  omega
theorem Good.crash {A : Nt} (g : Good A) (r : Nat) : Good (crashN A r) :=
  g.upT r _ rfl (fun hr => g.dk r hr) (fun _ h => by cases h) (fun _ => Int.le_refl _) (fun _ _ => rfl) (fun hr d h0 => g.rk r d hr h0) (fun hr d hd => g.dkos r d hr hd) (fun hr => ⟨g.fa0 r hr, g.fa3 r hr⟩)
theorem staleR_cases (A : Nt) (r : Nat) (x : Rt) : staleR A r x = noRt ∨ (staleR A r x = x ∧ x.nx < 0) ∨ (0 ≤ x.nx ∧ A.co r x.nx.toNat ≠ 0 ∧ staleR A r x = { x with ag := 0, st := 1 }) := by
  unfold staleR
  split
  · next h => exact .inr (.inl ⟨rfl, h⟩)
  · split
    · exact .inl rfl
    · next h1 h2 => exact .inr (.inr ⟨by omega, h2, rfl⟩)
theorem Good.restart {A : Nt} (g : Good A) (r : Nat) : Good (restartN A r) := by
  have key : ∀ d, r < A.n → 0 ≤ (staleR A r ((A.rs r).dk.ro d)).nx → 0 ≤ ((A.rs r).dk.ro d).nx ∧ A.co r ((A.rs r).dk.ro d).nx.toNat ≠ 0 ∧ (staleR A r ((A.rs r).dk.ro d)).nx = ((A.rs r).dk.ro d).nx ∧ (staleR A r ((A.rs r).dk.ro d)).tl = ((A.rs r).dk.ro d).tl := fun d hr h0 => by
    rcases staleR_cases A r ((A.rs r).dk.ro d) with e | ⟨e, h⟩ | ⟨h1, h2, e⟩
    · rw [e, noRt_nx] at h0; omega
    · rw [e] at h0; omega
    · rw [e]; exact ⟨h1, h2, rfl, rfl⟩
  refine g.upT r _ rfl (fun hr => ?_) (fun hr hdn d h0 => ?_) (fun _ => Int.le_refl _) (fun _ _ => rfl) (fun hr d h0 => ?_) (fun hr d hd => g.dkos r d hr hd) (fun hr => ⟨g.fa0 r hr, g.fa3 r hr⟩)
  · have gt := g.dk r hr
    refine ⟨gt.sq0, gt.sq1, fun d => ?_, gt.be, fun d h0 => ?_⟩
    · show staleR A r ((A.rs r).dk.ro d) = noRt ∨ RtOk A.n r d (staleR A r ((A.rs r).dk.ro d))
      rcases staleR_cases A r ((A.rs r).dk.ro d) with e | ⟨e, h⟩ | ⟨h1, h2, e⟩
      · exact .inl e
      · rw [e]; exact gt.ro d
      · rw [e]
        have k := gt.nx d h1
        exact .inr ⟨k.nx0, k.nx1, k.nxr, k.dn, k.dr, k.sq0, k.sq1, k.mt0, k.mt1, Int.le_refl _, by show (0 : Int) < 3; decide, .inr rfl⟩
    · have k := key d hr h0
      show bet (staleR A r ((A.rs r).dk.ro d)).tl ((A.rs r).dk.be d)
      rw [k.2.2.2]; exact gt.fe d k.1
  · have k := key d hr h0
    show 0 < A.co r (staleR A r ((A.rs r).dk.ro d)).nx.toNat
    rw [k.2.2.1]
    have := g.c0 r ((A.rs r).dk.ro d).nx.toNat
    omega
  · have k := key d hr h0
    show Tells A (staleR A r ((A.rs r).dk.ro d)).nx.toNat d (staleR A r ((A.rs r).dk.ro d)).tl
    rw [k.2.2.1, k.2.2.2]; exact g.rk r d hr k.1

/-- What waits turns: each message there waited there. -/
theorem Good.setWa {A : Nt} (g : Good A) (a b : Nat) (l : List (Nat → Bs)) (hl : l.length ≤ 6) (h : ∀ m, m ∈ l → m ∈ A.wa a b) : Good { A with wa := setWa A.wa a b l } := by
  have key : ∀ x y m, m ∈ Go.Proofs.Ytdoodnbobpijoaa.setWa A.wa a b l x y → m ∈ A.wa x y := fun x y m hm => by
    unfold Go.Proofs.Ytdoodnbobpijoaa.setWa at hm
    split at hm
    · next e => obtain ⟨rfl, rfl⟩ := e; exact h m hm
    · exact hm
  refine ⟨g.n2, g.n5, g.t, g.dk, g.nb, g.sq, g.bq, g.cs, g.c0, g.c9, g.ca, g.cn, fun x y => ?_, fun x y m hm => g.wn x y m (key x y m hm), fun x y m hm d => g.wm x y m (key x y m hm) d, g.rt, g.rk, g.os, g.fa0, g.fa3⟩
  show (Go.Proofs.Ytdoodnbobpijoaa.setWa A.wa a b l x y).length ≤ 6
  unfold Go.Proofs.Ytdoodnbobpijoaa.setWa
  split
  · exact hl
  · exact g.wl x y
theorem Good.off {A : Nt} (g : Good A) (a b k : Nat) : Good (offN A a b k) :=
  g.setWa a b _ (Nat.le_trans (List.length_eraseIdx_le _ _) (g.wl a b)) fun _ hm => List.mem_of_mem_eraseIdx hm
theorem Good.again {A : Nt} (g : Good A) (a b k : Nat) (hk : k < (A.wa a b).length) (h6 : (A.wa a b).length < 6) : Good (againN A a b k) := by
  refine g.setWa a b _ (by simp; omega) fun m hm => ?_
  rw [List.mem_append, List.mem_singleton] at hm
  rcases hm with hm | hm
  · exact hm
  · rw [hm, List.getD_eq_getElem?_getD, List.getElem?_eq_getElem hk]; exact List.getElem_mem hk
theorem Good.setCo {A : Nt} (g : Good A) (a b : Nat) (c : Int) (ha : a < A.n) (hb : b < A.n) (hab : a ≠ b) (h0 : 0 ≤ c) (h9 : c ≤ 9)
    (hn : c = 0 → ∀ d, ((A.rs a).t.ro d).nx ≠ b ∧ ((A.rs b).t.ro d).nx ≠ a) : Good { A with co := setCo A.co a b c } := by
  refine ⟨g.n2, g.n5, g.t, g.dk, fun r d hr hdn h1 => ?_, g.sq, g.bq, fun x y => ?_, fun x y => ?_, fun x y => ?_, fun x => ?_, fun x y => ?_, g.wl, g.wn, g.wm, g.rt, g.rk, g.os, g.fa0, g.fa3⟩
  · have k := g.nb r d hr hdn h1
    have k2 := (g.t r hr).toNat d h1
    show 0 < Go.Proofs.Ytdoodnbobpijoaa.setCo A.co a b c r ((A.rs r).t.ro d).nx.toNat
    unfold Go.Proofs.Ytdoodnbobpijoaa.setCo
    split
    · next e =>
      by_cases hc : c = 0
      · exfalso
        rcases e with ⟨rfl, e⟩ | ⟨rfl, e⟩
        · exact (hn hc d).1 (by omega)
        · exact (hn hc d).2 (by omega)
      · omega
    · exact k
  · show Go.Proofs.Ytdoodnbobpijoaa.setCo A.co a b c x y = Go.Proofs.Ytdoodnbobpijoaa.setCo A.co a b c y x
    unfold Go.Proofs.Ytdoodnbobpijoaa.setCo
    have := g.cs x y
    split <;> split <;> first | rfl | assumption | omega
  · show 0 ≤ Go.Proofs.Ytdoodnbobpijoaa.setCo A.co a b c x y
    unfold Go.Proofs.Ytdoodnbobpijoaa.setCo
    have := g.c0 x y
    split <;> assumption
  · show Go.Proofs.Ytdoodnbobpijoaa.setCo A.co a b c x y ≤ 9
    unfold Go.Proofs.Ytdoodnbobpijoaa.setCo
    have := g.c9 x y
    split <;> assumption
  · show Go.Proofs.Ytdoodnbobpijoaa.setCo A.co a b c x x = 0
    unfold Go.Proofs.Ytdoodnbobpijoaa.setCo
    rw [if_neg (by omega)]
    exact g.ca x
  · show 0 < Go.Proofs.Ytdoodnbobpijoaa.setCo A.co a b c x y → _
    unfold Go.Proofs.Ytdoodnbobpijoaa.setCo
    split
    · next e => intro _; rcases e with ⟨rfl, rfl⟩ | ⟨rfl, rfl⟩; exact ⟨ha, hb⟩; exact ⟨hb, ha⟩
    · exact g.cn x y
theorem wo_nx (T : Tb) (x : Int) (hx : 0 ≤ x) (d : Nat) : ((wo T x).ro d).nx ≠ x := by
  show (if (T.ro d).nx = x then noRt else T.ro d).nx ≠ x
  split
  · rw [noRt_nx]; omega
  · assumption
theorem Good.link {A : Nt} (g : Good A) (a b : Nat) (c : Int) (ha : a < A.n) (hb : b < A.n) (hab : a ≠ b) (h0 : 0 ≤ c) (h9 : c ≤ 9) : Good (linkN A a b c) := by
  by_cases hc : c = 0
  · subst hc
    have g1 := g.wo a b
    have g2 := g1.wo b a
    rw [upR_other _ _ _ _ (Ne.symm hab)] at g2
    have g3 := g2.setCo a b 0 ha hb hab h0 h9 fun _ d => ⟨?_, ?_⟩
    · have e : linkN A a b 0 = { upR (upR A a (withT (A.rs a) (Go.Proofs.Ytdoodnbobpijoaa.wo (A.rs a).t b))) b (withT (A.rs b) (Go.Proofs.Ytdoodnbobpijoaa.wo (A.rs b).t a)) with co := Go.Proofs.Ytdoodnbobpijoaa.setCo A.co a b 0 } := by
        unfold linkN upR
        congr 1
        funext j
        simp only [if_true]
        by_cases h1 : j = a
        · subst h1; rw [if_pos rfl, if_neg hab, if_pos rfl]
        · rw [if_neg h1]
          by_cases h2 : j = b
          · rw [if_pos h2, if_pos h2]
          · rw [if_neg h2, if_neg h2, if_neg h1]
      rw [e]
      exact g3
    · rw [upR_other _ _ _ _ hab, upR_same]
      exact wo_nx _ _ (Int.natCast_nonneg b) d
    · rw [upR_same]
      exact wo_nx _ _ (Int.natCast_nonneg a) d
  · have g3 := g.setCo a b c ha hb hab h0 h9 fun h => absurd h hc
    have e : linkN A a b c = { A with co := Go.Proofs.Ytdoodnbobpijoaa.setCo A.co a b c } := by
      unfold linkN
      congr 1
      funext j
      rw [if_neg hc]
    rw [e]
    exact g3
end Go.Proofs.Ytdoodnbobpijoaa
