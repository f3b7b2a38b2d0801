namespace Go.Proofs.Ytdoodnbobpijoaa

/-! ### A net, as the document has it: plain values -/
structure Rt where
  nx : Int
  sq : Int
  mt : Int
  ag : Int
  st : Int
structure Bs where
  sq : Int
  mt : Int
structure Tb where
  sq : Int
  ro : Nat → Rt
  be : Nat → Bs
structure Ro where
  t : Tb
  dk : Tb
  fa : Int
  dn : Bool
structure Nt where
  n : Nat
  rs : Nat → Ro
  co : Nat → Nat → Int
  wa : Nat → Nat → List (Nat → Bs)

def noRt : Rt := ⟨-1, 0, 0, 0, 0⟩
def noBs : Bs := ⟨-1, 0⟩
/-- A telling is better than another one. -/
abbrev bet (a b : Bs) : Prop := b.sq < a.sq ∨ (a.sq = b.sq ∧ a.mt < b.mt)
/-- As good or better. -/
abbrev geB (a b : Bs) : Prop := b.sq < a.sq ∨ (a.sq = b.sq ∧ a.mt ≤ b.mt)
/-- What a route was told. -/
def Rt.tl (x : Rt) : Bs := ⟨x.sq, x.mt⟩
theorem Rt.tl_sq (x : Rt) : x.tl.sq = x.sq := rfl
theorem Rt.tl_mt (x : Rt) : x.tl.mt = x.mt := rfl
theorem noRt_nx : noRt.nx = -1 := rfl
theorem noBs_sq : noBs.sq = -1 := rfl
theorem noBs_mt : noBs.mt = 0 := rfl

theorem bet_trans {a b c : Bs} (h : bet a b) (k : bet b c) : bet a c := by omega
theorem bet_irrefl {a : Bs} (h : bet a a) : False := by omega
theorem geB_refl (a : Bs) : geB a a := by omega
theorem geB_trans {a b c : Bs} (h : geB a b) (k : geB b c) : geB a c := by omega
theorem bet_geB {a b c : Bs} (h : bet a b) (k : geB b c) : bet a c := by omega
theorem geB_bet {a b c : Bs} (h : geB a b) (k : bet b c) : bet a c := by omega
theorem bet_ge {a b : Bs} (h : bet a b) : geB a b := by omega
theorem not_bet {a b : Bs} (h : ¬ bet a b) : geB b a := by omega

/-! ### What the calls make of a net -/
def upR (A : Nt) (i : Nat) (R : Ro) : Nt := { A with rs := fun j => if j = i then R else A.rs j }
def withT (R : Ro) (T : Tb) : Ro := { R with t := T }
/-- A table without routes by x. -/
def wo (T : Tb) (x : Int) : Tb := { T with ro := fun d => if (T.ro d).nx = x then noRt else T.ro d }
def setCo (C : Nat → Nat → Int) (x y : Nat) (c : Int) : Nat → Nat → Int := fun a b => if (a = x ∧ b = y) ∨ (a = y ∧ b = x) then c else C a b
def setWa (W : Nat → Nat → List (Nat → Bs)) (x y : Nat) (l : List (Nat → Bs)) : Nat → Nat → List (Nat → Bs) := fun a b => if a = x ∧ b = y then l else W a b
def linkN (A : Nt) (a b : Nat) (c : Int) : Nt :=
  { A with
    co := setCo A.co a b c
    rs := fun j => if c = 0 then (if j = a then withT (A.rs a) (wo (A.rs a).t b) else if j = b then withT (A.rs b) (wo (A.rs b).t a) else A.rs j) else A.rs j }
def total (A : Nt) (r : Nat) (x : Rt) : Int := x.mt + A.co r x.nx.toNat
/-- What a router tells. -/
def toldM (A : Nt) (r : Nat) : Nat → Bs := fun d =>
  if d = r then ⟨(A.rs r).t.sq, 0⟩ else
  if ((A.rs r).t.ro d).nx < 0 then noBs else
  if 30 < total A r ((A.rs r).t.ro d) then noBs else ⟨((A.rs r).t.ro d).sq, total A r ((A.rs r).t.ro d)⟩
/-- Its table behind that. -/
def toldT (A : Nt) (r : Nat) : Tb where
  sq := (A.rs r).t.sq
  ro := fun d => if d ≠ r ∧ 0 ≤ ((A.rs r).t.ro d).nx ∧ 30 < total A r ((A.rs r).t.ro d) then noRt else (A.rs r).t.ro d
  be := fun d => if d ≠ r ∧ 0 ≤ ((A.rs r).t.ro d).nx ∧ total A r ((A.rs r).t.ro d) ≤ 30 ∧ bet ⟨((A.rs r).t.ro d).sq, total A r ((A.rs r).t.ro d)⟩ ((A.rs r).t.be d) then ⟨((A.rs r).t.ro d).sq, total A r ((A.rs r).t.ro d)⟩ else (A.rs r).t.be d
def dumpOk (A : Nt) (r : Nat) : Nt :=
  { A with
    rs := fun j => if j = r then { (A.rs r) with t := toldT A r, dk := toldT A r } else A.rs j
    wa := fun a b => if a = r ∧ b < A.n ∧ 0 < A.co r b ∧ (A.wa r b).length < 6 then A.wa r b ++ [toldM A r] else A.wa a b }
def failOnce (A : Nt) (r : Nat) : Nt := upR A r { (A.rs r) with fa := (A.rs r).fa - 1 }
def dumpN (A : Nt) (r : Nat) : Nt := if 0 < (A.rs r).fa then failOnce A r else dumpOk A r
def dumpE (A : Nt) (r : Nat) : Int := if 0 < (A.rs r).fa then 7 else 0
def offN (A : Nt) (a b k : Nat) : Nt := { A with wa := setWa A.wa a b ((A.wa a b).eraseIdx k) }
/-- What becomes of b's route x by what a tells. -/
def takes (A : Nt) (b a : Nat) (x : Rt) (best t : Bs) : Rt :=
  if t.sq < 0 ∨ ¬ bet t best ∨ 30 < t.mt + A.co a b then (if x.nx = a then noRt else x)
  else if x.nx < 0 ∨ x.nx = a ∨ x.sq < t.sq ∨ (t.sq = x.sq ∧ t.mt + A.co a b < total A b x) then ⟨a, t.sq, t.mt, 0, 0⟩ else x
def hearN (A : Nt) (a b : Nat) (m : Nat → Bs) : Nt :=
  upR A b (withT (A.rs b) { (A.rs b).t with ro := fun d => if d = b then (A.rs b).t.ro d else takes A b a ((A.rs b).t.ro d) ((A.rs b).t.be d) (m d) })
def deliverN (A : Nt) (a b k : Nat) : Nt :=
  if (A.rs b).dn = true ∨ A.co a b = 0 then offN A a b k else hearN (offN A a b k) a b ((A.wa a b).getD k fun _ => noBs)
def againN (A : Nt) (a b k : Nat) : Nt := { A with wa := setWa A.wa a b (A.wa a b ++ [(A.wa a b).getD k fun _ => noBs]) }
def tickR (x : Rt) : Rt := if x.nx < 0 then x else if 3 ≤ x.ag + 1 then noRt else { x with ag := x.ag + 1 }
def tickN (A : Nt) (r : Nat) : Nt := upR A r (withT (A.rs r) { (A.rs r).t with ro := fun d => tickR ((A.rs r).t.ro d) })
def bumpN (A : Nt) (r : Nat) : Nt := upR A r (withT (A.rs r) { (A.rs r).t with sq := (A.rs r).t.sq + 1 })
def failN (A : Nt) (r : Nat) (k : Int) : Nt := upR A r { (A.rs r) with fa := k }
def crashN (A : Nt) (r : Nat) : Nt := upR A r { (A.rs r) with t := (A.rs r).dk, dn := true }
def staleR (A : Nt) (r : Nat) (x : Rt) : Rt := if x.nx < 0 then x else if A.co r x.nx.toNat = 0 then noRt else { x with ag := 0, st := 1 }
def restartN (A : Nt) (r : Nat) : Nt := upR A r { (A.rs r) with t := { (A.rs r).dk with ro := fun d => staleR A r ((A.rs r).dk.ro d) }, dn := false }

/-! ### What holds of every net -/
structure RtOk (n r d : Nat) (x : Rt) : Prop where
  nx0 : 0 ≤ x.nx
  nx1 : x.nx < n
  nxr : x.nx ≠ r
  dn : d < n
  dr : d ≠ r
  sq0 : 0 ≤ x.sq
  sq1 : x.sq ≤ 1000
  mt0 : 0 ≤ x.mt
  mt1 : x.mt ≤ 30
  ag0 : 0 ≤ x.ag
  ag1 : x.ag < 3
  st : x.st = 0 ∨ x.st = 1
structure BsOk (n d : Nat) (b : Bs) : Prop where
  dn : d < n
  sq0 : 0 ≤ b.sq
  sq1 : b.sq ≤ 1000
  mt0 : 0 ≤ b.mt
  mt1 : b.mt ≤ 30
structure TG (n r : Nat) (T : Tb) : Prop where
  sq0 : 0 ≤ T.sq
  sq1 : T.sq ≤ 1000
  ro : ∀ d, T.ro d = noRt ∨ RtOk n r d (T.ro d)
  be : ∀ d, T.be d = noBs ∨ BsOk n d (T.be d)
  fe : ∀ d, 0 ≤ (T.ro d).nx → bet (T.ro d).tl (T.be d)
/-- x saved what it told of d, ahead of telling it. -/
def Tells (A : Nt) (x d : Nat) (s : Bs) : Prop := if x = d then s.sq ≤ (A.rs d).dk.sq else geB ((A.rs x).dk.be d) s
structure Good (A : Nt) : Prop where
  n2 : 2 ≤ A.n
  n5 : A.n ≤ 5
  t : ∀ r, r < A.n → TG A.n r (A.rs r).t
  dk : ∀ r, r < A.n → TG A.n r (A.rs r).dk
  nb : ∀ r d, r < A.n → (A.rs r).dn = false → 0 ≤ ((A.rs r).t.ro d).nx → 0 < A.co r ((A.rs r).t.ro d).nx.toNat
  sq : ∀ r, r < A.n → (A.rs r).dk.sq ≤ (A.rs r).t.sq
  bq : ∀ r d, r < A.n → (A.rs r).t.be d = (A.rs r).dk.be d
  cs : ∀ a b, A.co a b = A.co b a
  c0 : ∀ a b, 0 ≤ A.co a b
  c9 : ∀ a b, A.co a b ≤ 9
  ca : ∀ a, A.co a a = 0
  cn : ∀ a b, 0 < A.co a b → a < A.n ∧ b < A.n
  wl : ∀ a b, (A.wa a b).length ≤ 6
  wn : ∀ a b m, m ∈ A.wa a b → a < A.n ∧ b < A.n ∧ a ≠ b
  wm : ∀ a b m, m ∈ A.wa a b → ∀ d, m d = noBs ∨ (BsOk A.n d (m d) ∧ Tells A a d (m d))
  rt : ∀ r d, r < A.n → 0 ≤ ((A.rs r).t.ro d).nx → Tells A ((A.rs r).t.ro d).nx.toNat d ((A.rs r).t.ro d).tl
  rk : ∀ r d, r < A.n → 0 ≤ ((A.rs r).dk.ro d).nx → Tells A ((A.rs r).dk.ro d).nx.toNat d ((A.rs r).dk.ro d).tl
  os : ∀ r d, r < A.n → d < A.n → ((A.rs r).t.be d).sq ≤ (A.rs d).dk.sq
  fa0 : ∀ r, r < A.n → 0 ≤ (A.rs r).fa
  fa3 : ∀ r, r < A.n → (A.rs r).fa ≤ 3

theorem Good.bb {A : Nt} (g : Good A) (r d : Nat) (hr : r < A.n) : geB ((A.rs r).t.be d) ((A.rs r).dk.be d) := by rw [g.bq r d hr]; exact geB_refl _
theorem upR_same (A : Nt) (i : Nat) (R : Ro) : (upR A i R).rs i = R := by simp [upR]
theorem upR_other (A : Nt) (i : Nat) (R : Ro) (j : Nat) (h : j ≠ i) : (upR A i R).rs j = A.rs j := by simp [upR, h]

/-- What is on disks only gets better. -/
structure Up (A A' : Nt) : Prop where
  sq : ∀ r, r < A.n → (A.rs r).dk.sq ≤ (A'.rs r).dk.sq
  be : ∀ r d, r < A.n → geB ((A'.rs r).dk.be d) ((A.rs r).dk.be d)
theorem Tells.mono {A A' : Nt} {x d : Nat} {s : Bs} (h : Tells A x d s) (u : Up A A') (hx : x < A.n) (hd : d < A.n) : Tells A' x d s := by
  unfold Tells at h ⊢
  split
  · next e => rw [if_pos e] at h; exact Int.le_trans h (u.sq d hd)
  · next e => rw [if_neg e] at h; exact geB_trans (u.be x d hx) h
theorem Tells.same {A A' : Nt} {x d : Nat} {s : Bs} (h : Tells A x d s) (u : ∀ r, (A'.rs r).dk = (A.rs r).dk) : Tells A' x d s := by
  unfold Tells at h ⊢
  rw [u, u]
  exact h
/-- The seq of every telling of d is at most what d saved. -/
theorem Good.tells_sq {A : Nt} (g : Good A) {x d : Nat} {s : Bs} (h : Tells A x d s) (hx : x < A.n) (hd : d < A.n) : s.sq ≤ (A.rs d).dk.sq := by
  unfold Tells at h
  split at h
  · exact h
  · have h1 := g.os x d hx hd
    have h2 := g.bb x d hx
    omega
theorem TG.nx {n r : Nat} {T : Tb} (g : TG n r T) (d : Nat) (h : 0 ≤ (T.ro d).nx) : RtOk n r d (T.ro d) := by
  rcases g.ro d with e | e
  · rw [e, noRt_nx] at h; omega
  · exact e
theorem TG.toNat {n r : Nat} {T : Tb} (g : TG n r T) (d : Nat) (h : 0 ≤ (T.ro d).nx) : (T.ro d).nx.toNat < n ∧ (T.ro d).nx.toNat ≠ r ∧ ((T.ro d).nx.toNat : Int) = (T.ro d).nx := by
  have := g.nx d h
  have h1 := this.nx1
  have h2 := this.nxr
  omega
theorem TG.neg {n r : Nat} {T : Tb} (g : TG n r T) (d : Nat) (h : (T.ro d).nx < 0) : T.ro d = noRt := by
  rcases g.ro d with e | e
  · exact e
  · have := e.nx0; omega

/-- What the program's calls want of a net. -/
structure GoodP (A : Nt) : Prop where
  n2 : 2 ≤ A.n
  n5 : A.n ≤ 5
  t : ∀ r, r < A.n → TG A.n r (A.rs r).t
  dk : ∀ r, r < A.n → TG A.n r (A.rs r).dk
  cs : ∀ a b, A.co a b = A.co b a
  c0 : ∀ a b, 0 ≤ A.co a b
  c9 : ∀ a b, A.co a b ≤ 9
  ca : ∀ a, A.co a a = 0
  cn : ∀ a b, 0 < A.co a b → a < A.n ∧ b < A.n
  wl : ∀ a b, (A.wa a b).length ≤ 6
  wn : ∀ a b m, m ∈ A.wa a b → a < A.n ∧ b < A.n ∧ a ≠ b
  wm : ∀ a b m, m ∈ A.wa a b → ∀ d, m d = noBs ∨ (BsOk A.n d (m d) ∧ Tells A a d (m d))
  fa0 : ∀ r, r < A.n → 0 ≤ (A.rs r).fa
  fa3 : ∀ r, r < A.n → (A.rs r).fa ≤ 3

end Go.Proofs.Ytdoodnbobpijoaa
