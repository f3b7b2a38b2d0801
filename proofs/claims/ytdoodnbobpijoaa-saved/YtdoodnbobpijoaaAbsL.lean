import Derived.Test.YtdoodnbobpijoaaAbsK
namespace Go.Proofs.Ytdoodnbobpijoaa

/-! ### The program's net: one that is down knows nothing -/
def blR (R : Ro) : Ro := if R.dn = true then { R with t := blankT } else R
def bl (A : Nt) : Nt := { A with rs := fun r => blR (A.rs r) }
theorem blR_up {R : Ro} (h : R.dn = false) : blR R = R := by unfold blR; rw [if_neg (by simp [h])]
theorem blR_dn {R : Ro} (h : R.dn = true) : blR R = { R with t := blankT } := by unfold blR; rw [if_pos h]
theorem blR_d (R : Ro) : (blR R).dn = R.dn := by unfold blR; split <;> rfl
theorem blR_k (R : Ro) : (blR R).dk = R.dk := by unfold blR; split <;> rfl
theorem blR_f (R : Ro) : (blR R).fa = R.fa := by unfold blR; split <;> rfl
theorem bl_n (A : Nt) : (bl A).n = A.n := rfl
theorem bl_co (A : Nt) : (bl A).co = A.co := rfl
theorem bl_wa (A : Nt) : (bl A).wa = A.wa := rfl
theorem bl_rs (A : Nt) (r : Nat) : (bl A).rs r = blR (A.rs r) := rfl
theorem bl_up {A : Nt} {r : Nat} (h : (A.rs r).dn = false) : (bl A).rs r = A.rs r := blR_up h
theorem bl_dn (A : Nt) (r : Nat) : ((bl A).rs r).dn = (A.rs r).dn := blR_d _
theorem bl_dk (A : Nt) (r : Nat) : ((bl A).rs r).dk = (A.rs r).dk := blR_k _
theorem bl_fa (A : Nt) (r : Nat) : ((bl A).rs r).fa = (A.rs r).fa := blR_f _
theorem blank_tg (n r : Nat) : TG n r blankT :=
  ⟨by show (0 : Int) ≤ 0; omega, by show (0 : Int) ≤ 1000; omega, fun _ => .inl rfl, fun _ => .inl rfl, fun d h => by have : (blankT.ro d).nx = -1 := rfl; omega⟩
theorem Good.bl {A : Nt} (g : Good A) : GoodP (bl A) := by
  refine ⟨g.n2, g.n5, fun r hr => ?_, fun r hr => by rw [bl_dk]; exact g.dk r hr, g.cs, g.c0, g.c9, g.ca, g.cn, g.wl, g.wn, fun a b m hm d => ?_, fun r hr => by rw [bl_fa]; exact g.fa0 r hr, fun r hr => by rw [bl_fa]; exact g.fa3 r hr⟩
  · cases h : (A.rs r).dn with
    | false => rw [bl_up h]; exact g.t r hr
    | true => rw [bl_rs, blR_dn h]; exact blank_tg _ _
  · rcases g.wm a b m hm d with e | ⟨e1, e2⟩
    · exact .inl e
    · exact .inr ⟨e1, e2.same fun r => bl_dk A r⟩
theorem bl_new (n : Nat) : bl (newN n) = newN n := rfl
theorem nt_eq {A A' : Nt} (hn : A.n = A'.n) (hr : ∀ r, A.rs r = A'.rs r) (hc : A.co = A'.co) (hw : A.wa = A'.wa) : A = A' := by
  obtain ⟨n, rs, co, wa⟩ := A
  obtain ⟨n', rs', co', wa'⟩ := A'
  have : rs = rs' := funext hr
  simp only at hn hc hw
  subst hn hc hw this
  rfl
theorem bl_upR (A : Nt) (i : Nat) (R : Ro) : bl (upR A i R) = upR (bl A) i (blR R) := by
  refine nt_eq rfl (fun r => ?_) rfl rfl
  show blR (if r = i then R else A.rs r) = if r = i then blR R else blR (A.rs r)
  split <;> rfl
/-! The answers -/
theorem upE_bl (A : Nt) (r : Int) : upE (bl A) r = upE A r := by unfold upE; rw [bl_dn]; rfl
theorem upE_dn {A : Nt} {r : Int} (h : upE A r = 0) : (A.rs r.toNat).dn = false := by
  unfold upE at h
  cases hd : (A.rs r.toNat).dn with
  | false => rfl
  | true => rw [hd] at h; split at h <;> simp at h
theorem linkE_bl (A : Nt) (a b c : Int) : linkE (bl A) a b c = linkE A a b c := rfl
theorem msgE_bl (A : Nt) (a b c : Int) : msgE (bl A) a b c = msgE A a b c := rfl
theorem againE_bl (A : Nt) (a b c : Int) : againE (bl A) a b c = againE A a b c := rfl
theorem failE_bl (A : Nt) (a c : Int) : failE (bl A) a c = failE A a c := rfl
theorem asksE_bl (A : Nt) (a b : Int) : asksE (bl A) a b = asksE A a b := by unfold asksE; rw [bl_dn]; rfl
theorem restartE_bl (A : Nt) (a : Int) : restartE (bl A) a = restartE A a := by unfold restartE; rw [bl_dn]; rfl
theorem dumpCE_bl (A : Nt) (a : Int) : dumpCE (bl A) a = dumpCE A a := by unfold dumpCE dumpE; rw [upE_bl, bl_fa]
theorem bumpE_bl (A : Nt) (a : Int) : bumpE (bl A) a = bumpE A a := by
  unfold bumpE
  rw [upE_bl]
  by_cases h : upE A a = 0
  · rw [bl_up (upE_dn h)]
  · rw [if_pos h, if_pos h]
/-! The calls -/
theorem wo_blank (x : Int) : wo blankT x = blankT := by
  show (⟨0, fun d => if (blankT.ro d).nx = x then noRt else blankT.ro d, fun _ => noBs⟩ : Tb) = ⟨0, fun _ => noRt, fun _ => noBs⟩
  congr 1
  funext d
  split <;> rfl
theorem blR_wo (R : Ro) (x : Int) : blR (withT R (wo R.t x)) = withT (blR R) (wo (blR R).t x) := by
  cases h : R.dn with
  | false => rw [blR_up h, blR_up (by exact h)]
  | true => rw [blR_dn h, blR_dn (by exact h)]; show _ = ({ R with t := wo blankT x } : Ro); rw [wo_blank]; rfl
theorem linkC_bl (A : Nt) (a b c : Int) : linkC (bl A) a b c = bl (linkC A a b c) := by
  unfold linkC
  rw [linkE_bl]
  by_cases h : linkE A a b c = 0
  · rw [if_pos h, if_pos h]
    refine nt_eq rfl (fun j => ?_) rfl rfl
    show (if c = 0 then (if j = a.toNat then withT (blR (A.rs a.toNat)) (wo (blR (A.rs a.toNat)).t b.toNat) else if j = b.toNat then withT (blR (A.rs b.toNat)) (wo (blR (A.rs b.toNat)).t a.toNat) else blR (A.rs j)) else blR (A.rs j)) = blR (if c = 0 then (if j = a.toNat then withT (A.rs a.toNat) (wo (A.rs a.toNat).t b.toNat) else if j = b.toNat then withT (A.rs b.toNat) (wo (A.rs b.toNat).t a.toNat) else A.rs j) else A.rs j)
    rw [← blR_wo, ← blR_wo]
    repeat' split
    all_goals rfl
  · rw [if_neg h, if_neg h]
theorem failN_bl (A : Nt) (r : Nat) (k : Int) : failN (bl A) r k = bl (failN A r k) := by
  unfold failN
  rw [bl_upR]
  congr 1
  rw [bl_rs]
  cases h : (A.rs r).dn with
  | false => rw [blR_up h, blR_up (by exact h)]
  | true => rw [blR_dn h, blR_dn (by exact h)]
theorem failC_bl (A : Nt) (r k : Int) : failC (bl A) r k = bl (failC A r k) := by
  unfold failC
  rw [failE_bl]
  by_cases h : failE A r k = 0
  · rw [if_pos h, if_pos h, failN_bl]
  · rw [if_neg h, if_neg h]
theorem toldT_bl {A : Nt} {r : Nat} (h : (A.rs r).dn = false) : toldT (bl A) r = toldT A r := by
  unfold toldT total; rw [bl_up h, bl_co]
theorem toldM_bl {A : Nt} {r : Nat} (h : (A.rs r).dn = false) : toldM (bl A) r = toldM A r := by
  unfold toldM total; rw [bl_up h, bl_co]
theorem dumpC_bl (A : Nt) (r : Int) : dumpC (bl A) r = bl (dumpC A r) := by
  unfold dumpC
  rw [upE_bl]
  by_cases h : upE A r = 0
  · have hd := upE_dn h
    rw [if_pos h, if_pos h]
    unfold dumpN
    rw [bl_fa]
    by_cases hf : 0 < (A.rs r.toNat).fa
    · rw [if_pos hf, if_pos hf]
      unfold failOnce
      rw [bl_upR, bl_up hd, blR_up (by exact hd)]
    · rw [if_neg hf, if_neg hf]
      refine nt_eq rfl (fun j => ?_) rfl ?_
      · show (if j = r.toNat then { ((bl A).rs r.toNat) with t := toldT (bl A) r.toNat, dk := toldT (bl A) r.toNat } else blR (A.rs j)) = blR (if j = r.toNat then { (A.rs r.toNat) with t := toldT A r.toNat, dk := toldT A r.toNat } else A.rs j)
        rw [toldT_bl hd, bl_up hd]
        split
        · rw [blR_up (by exact hd)]
        · rfl
      · show (fun a b => if a = r.toNat ∧ b < A.n ∧ 0 < A.co r.toNat b ∧ (A.wa r.toNat b).length < 6 then A.wa r.toNat b ++ [toldM (bl A) r.toNat] else A.wa a b) = (fun a b => if a = r.toNat ∧ b < A.n ∧ 0 < A.co r.toNat b ∧ (A.wa r.toNat b).length < 6 then A.wa r.toNat b ++ [toldM A r.toNat] else A.wa a b)
        rw [toldM_bl hd]
  · rw [if_neg h, if_neg h]
theorem deliverC_bl (A : Nt) (a b k : Int) : deliverC (bl A) a b k = bl (deliverC A a b k) := by
  unfold deliverC
  rw [msgE_bl]
  by_cases h : msgE A a b k = 0
  · rw [if_pos h, if_pos h]
    unfold deliverN
    rw [bl_dn, bl_co]
    by_cases hd : (A.rs b.toNat).dn = true ∨ A.co a.toNat b.toNat = 0
    · rw [if_pos hd, if_pos hd]; rfl
    · rw [if_neg hd, if_neg hd]
      have hu : (A.rs b.toNat).dn = false := by
        cases e : (A.rs b.toNat).dn with
        | false => rfl
        | true => exact absurd (.inl e) hd
      have e1 : (offN (bl A) a.toNat b.toNat k.toNat) = bl (offN A a.toNat b.toNat k.toNat) := rfl
      rw [e1]
      have hu' : ((offN A a.toNat b.toNat k.toNat).rs b.toNat).dn = false := hu
      rw [bl_wa]
      generalize offN A a.toNat b.toNat k.toNat = D at *
      unfold hearN
      rw [bl_upR, blR_up (by exact hu'), bl_up hu']
      unfold takes total
      rw [bl_co]
  · rw [if_neg h, if_neg h]
theorem loseC_bl (A : Nt) (a b k : Int) : loseC (bl A) a b k = bl (loseC A a b k) := by
  unfold loseC
  rw [msgE_bl]
  by_cases h : msgE A a b k = 0
  · rw [if_pos h, if_pos h]; rfl
  · rw [if_neg h, if_neg h]
theorem againC_bl (A : Nt) (a b k : Int) : againC (bl A) a b k = bl (againC A a b k) := by
  unfold againC
  rw [againE_bl]
  by_cases h : againE A a b k = 0
  · rw [if_pos h, if_pos h]; rfl
  · rw [if_neg h, if_neg h]
theorem tickC_bl (A : Nt) (r : Int) : tickC (bl A) r = bl (tickC A r) := by
  unfold tickC
  rw [upE_bl]
  by_cases h : upE A r = 0
  · have hd := upE_dn h
    rw [if_pos h, if_pos h]
    unfold tickN
    rw [bl_upR, bl_up hd, blR_up (by exact hd)]
  · rw [if_neg h, if_neg h]
theorem bumpC_bl (A : Nt) (r : Int) : bumpC (bl A) r = bl (bumpC A r) := by
  unfold bumpC
  rw [bumpE_bl]
  by_cases h : bumpE A r = 0
  · have hd : (A.rs r.toNat).dn = false := by
      refine upE_dn ?_
      unfold bumpE at h
      by_cases hh : upE A r = 0
      · exact hh
      · rw [if_pos hh] at h; exact absurd h hh
    rw [if_pos h, if_pos h]
    unfold bumpN
    rw [bl_upR, bl_up hd, blR_up (by exact hd)]
  · rw [if_neg h, if_neg h]
/-- A crash, as the program does it. -/
def crashP (A : Nt) (r : Int) : Nt := if upE A r = 0 then upR A r.toNat { (A.rs r.toNat) with t := blankT, dn := true } else A
theorem crashC_bl (A : Nt) (r : Int) : crashP (bl A) r = bl (crashC A r) := by
  unfold crashP crashC
  rw [upE_bl]
  by_cases h : upE A r = 0
  · have hd := upE_dn h
    rw [if_pos h, if_pos h]
    unfold crashN
    rw [bl_upR, bl_up hd, blR_dn (by rfl)]
  · rw [if_neg h, if_neg h]
theorem restartC_bl (A : Nt) (r : Int) : restartC (bl A) r = bl (restartC A r) := by
  unfold restartC
  rw [restartE_bl]
  by_cases h : restartE A r = 0
  · rw [if_pos h, if_pos h]
    unfold restartN
    rw [bl_upR, blR_up (by rfl), bl_rs, blR_k]
    congr 1
    unfold blR staleR
    rw [bl_co]
    split <;> rfl
  · rw [if_neg h, if_neg h]
theorem trF_bl (A : Nt) (d : Nat) : ∀ k r, trF (bl A) d k r = trF A d k r
  | 0, r => rfl
  | k + 1, r => by
    unfold trF
    rw [bl_dn]
    cases h : (A.rs r).dn with
    | true => rw [if_pos (by simp), if_pos (by simp)]
    | false => rw [bl_up h, trF_bl A d k]
theorem trace_bl (A : Nt) (r d : Nat) : trace (bl A) r d = trace A r d := trF_bl A d A.n r
end Go.Proofs.Ytdoodnbobpijoaa
