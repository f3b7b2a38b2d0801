import Derived.Test.YtdoodnbobpijoaaOwn
namespace Go.Proofs.Ytdoodnbobpijoaa
open Go.RowKit

/-! ### What turns in the reference's net -/
/-- One router's cells. -/
theorem RN.upd {w w' : World} {b : Nat} {A : Nt} {V : Nat → Nat → Value} (h : RN w b A V) (i : Nat) (R : Ro) (hf : ∀ o, w'.frozen? ⟨b, o, none⟩ = false)
    (hin : i < 5 → ∀ j, j < 74 → w'.cell? ⟨b, 1 + i * 74 + j, none⟩ = some (roV R j)) (hout : ∀ o, o < 1 + i * 74 ∨ 1 + i * 74 + 74 ≤ o → w'.cell? ⟨b, o, none⟩ = w.cell? ⟨b, o, none⟩) (hi5 : i < 5) : RN w' b (upR A i R) V := by
  refine ⟨?_, fun k j hk hj => ?_, fun x y hx hy => ?_, fun x y hx hy => ?_, hf⟩
  · rw [hout _ (by omega)]; exact h.n
  · by_cases e : k = i
    · subst e; rw [upR_same]; exact hin hk j hj
    · rw [upR_other _ _ _ _ e, hout _ (by omega)]; exact h.r k j hk hj
  · rw [hout _ (by omega)]; exact h.c x y hx hy
  · rw [hout _ (by omega)]; exact h.v x y hx hy
/-- A row of a router's cells is written. -/
theorem RN.cells {w : World} {b : Nat} {A : Nt} {V : Nat → Nat → Value} (h : RN w b A V) (i : Nat) (hi : i < 5) (o : Nat) (vs : List Value) (ho : o + vs.length ≤ 74) (R : Ro)
    (hR : ∀ j, j < 74 → some (roV R j) = if o ≤ j ∧ j < o + vs.length then vs[j - o]? else some (roV (A.rs i) j)) : RN (w.setCells b (1 + i * 74 + o) vs) b (upR A i R) V := by
  have ht : ∀ j, j < vs.length → (w.cell? ⟨b, 1 + i * 74 + o + j, none⟩).isSome = true := fun j hj => by
    rw [show 1 + i * 74 + o + j = 1 + i * 74 + (o + j) by omega, h.r i (o + j) hi (by omega)]; rfl
  refine h.upd i R (fun p => by rw [World.frozen?_setCells]; exact h.fz p) (fun _ j hj => ?_) (fun p hp => ?_) hi
  · rw [hR j hj]
    by_cases hjo : o ≤ j ∧ j < o + vs.length
    · rw [if_pos hjo]
      have e : 1 + i * 74 + j = 1 + i * 74 + o + (j - o) := by omega
      rw [e, World.cell?_setCells_in b vs _ w ht (j - o) (by omega), List.getElem?_eq_getElem (by omega)]
    · rw [if_neg hjo, World.cell?_setCells_out b vs _ w ⟨b, _, none⟩ (fun _ _ => by show 1 + i * 74 + j < _ ∨ _ ≤ 1 + i * 74 + j; omega)]
      exact h.r i j hi hj
  · exact World.cell?_setCells_out b vs _ w ⟨b, p, none⟩ (fun _ _ => by show p < _ ∨ _ ≤ p; omega)
theorem setCells_one (w : World) (b o : Nat) (v : Value) : w.setCell ⟨b, o, none⟩ v = w.setCells b o [v] := rfl
theorem RN.cell1 {w : World} {b : Nat} {A : Nt} {V : Nat → Nat → Value} (h : RN w b A V) (i : Nat) (hi : i < 5) (o : Nat) (ho : o < 74) (v : Value) (R : Ro)
    (hR : ∀ j, j < 74 → roV R j = if j = o then v else roV (A.rs i) j) : RN (w.setCell ⟨b, 1 + i * 74 + o, none⟩ v) b (upR A i R) V := by
  rw [setCells_one]
  refine h.cells i hi o [v] (by simp; omega) R fun j hj => ?_
  rw [hR j hj]
  by_cases e : j = o
  · subst e; simp
  · rw [if_neg e, if_neg (by simp; omega)]
/-- A whole table, or disk, is written. -/
theorem RN.setT {w : World} {b : Nat} {A : Nt} {V : Nat → Nat → Value} (h : RN w b A V) (i : Nat) (hi : i < 5) (T : Tb) : RN (w.setCells b (1 + i * 74) (tbA T).toList) b (upR A i (withT (A.rs i) T)) V := by
  refine h.cells i hi 0 (tbA T).toList (by simp [tbA_size]) _ fun j hj => ?_
  have hl : (tbA T).toList.length = 36 := by simp [tbA_size]
  rw [hl]
  by_cases e : j < 36
  · rw [if_pos (by omega), roV_t _ _ e, Nat.sub_zero]
    have := tbA_at T j e
    rw [← Array.getElem?_toList] at this
    exact this.symm
  · rw [if_neg (by omega)]
    unfold roV
    rw [if_neg e, if_neg e]; rfl
theorem RN.setD {w : World} {b : Nat} {A : Nt} {V : Nat → Nat → Value} (h : RN w b A V) (i : Nat) (hi : i < 5) (T : Tb) : RN (w.setCells b (1 + i * 74 + 36) (tbA T).toList) b (upR A i { (A.rs i) with dk := T }) V := by
  have hl : (tbA T).toList.length = 36 := by simp [tbA_size]
  refine h.cells i hi 36 (tbA T).toList (by omega) _ fun j hj => ?_
  rw [hl]
  by_cases e : 36 ≤ j ∧ j < 72
  · rw [if_pos (by omega)]
    have e2 : j = 36 + (j - 36) := by omega
    rw [e2, roV_dk _ _ (by omega), show 36 + (j - 36) - 36 = j - 36 by omega]
    have := tbA_at T (j - 36) (by omega)
    rw [← Array.getElem?_toList] at this
    exact this.symm
  · rw [if_neg (by omega)]
    unfold roV
    by_cases h1 : j < 36
    · rw [if_pos h1, if_pos h1]
    · rw [if_neg h1, if_neg h1, if_neg (show ¬ j < 72 by omega), if_neg (show ¬ j < 72 by omega)]
theorem roV_setRo (R : Ro) (d : Nat) (hd : d < 5) (x : Rt) (j : Nat) (_hj : j < 74) : roV (withT R (setRo R.t d x)) j = if 1 + d * 5 ≤ j ∧ j < 1 + d * 5 + 5 then rtV x (j - (1 + d * 5)) else roV R j := by
  by_cases h : 1 + d * 5 ≤ j ∧ j < 1 + d * 5 + 5
  · rw [if_pos h, roV_t _ _ (by omega)]
    have e : j = 1 + d * 5 + (j - (1 + d * 5)) := by omega
    rw [e, show (withT R (setRo R.t d x)).t = setRo R.t d x from rfl, tbV_ro _ _ _ hd (by omega), ← e]
    have : (setRo R.t d x).ro d = x := by show (if d = d then x else _) = x; rw [if_pos rfl]
    rw [this]
  · rw [if_neg h]
    unfold roV
    by_cases h1 : j < 36
    · rw [if_pos h1, if_pos h1]
      show tbV (setRo R.t d x) j = _
      unfold tbV
      by_cases h0 : j = 0
      · rw [if_pos h0, if_pos h0]; rfl
      · rw [if_neg h0, if_neg h0]
        by_cases h26 : j < 26
        · rw [if_pos h26, if_pos h26]
          have : (setRo R.t d x).ro ((j - 1) / 5) = R.t.ro ((j - 1) / 5) := by show (if (j - 1) / 5 = d then x else _) = _; rw [if_neg (by omega)]
          rw [this]
        · rw [if_neg h26, if_neg h26]; rfl
    · rw [if_neg h1, if_neg h1]; rfl
/-- A route is written. -/
theorem RN.setRo {w : World} {b : Nat} {A : Nt} {V : Nat → Nat → Value} (h : RN w b A V) (i d : Nat) (hi : i < 5) (hd : d < 5) (x : Rt) :
    RN (((((w.setCell ⟨b, 1 + i * 74 + 1 + d * 5, none⟩ (I x.nx)).setCell ⟨b, 1 + i * 74 + 1 + d * 5 + 1, none⟩ (I x.sq)).setCell ⟨b, 1 + i * 74 + 1 + d * 5 + 2, none⟩ (I x.mt)).setCell ⟨b, 1 + i * 74 + 1 + d * 5 + 3, none⟩ (I x.ag)).setCell ⟨b, 1 + i * 74 + 1 + d * 5 + 4, none⟩ (I x.st)) b (upR A i (withT (A.rs i) (setRo (A.rs i).t d x))) V := by
  have e : (((((w.setCell ⟨b, 1 + i * 74 + 1 + d * 5, none⟩ (I x.nx)).setCell ⟨b, 1 + i * 74 + 1 + d * 5 + 1, none⟩ (I x.sq)).setCell ⟨b, 1 + i * 74 + 1 + d * 5 + 2, none⟩ (I x.mt)).setCell ⟨b, 1 + i * 74 + 1 + d * 5 + 3, none⟩ (I x.ag)).setCell ⟨b, 1 + i * 74 + 1 + d * 5 + 4, none⟩ (I x.st)) = w.setCells b (1 + i * 74 + (1 + d * 5)) [I x.nx, I x.sq, I x.mt, I x.ag, I x.st] := by
    rw [show 1 + i * 74 + (1 + d * 5) = 1 + i * 74 + 1 + d * 5 by omega]; rfl
  rw [e]
  refine h.cells i hi (1 + d * 5) _ (by simp; omega) _ fun j hj => ?_
  rw [roV_setRo _ _ hd _ _ hj]
  by_cases hjd : 1 + d * 5 ≤ j ∧ j < 1 + d * 5 + 5
  · rw [if_pos hjd, if_pos (by simpa using hjd)]
    generalize hk : j - (1 + d * 5) = k
    have : k < 5 := by omega
    rcases k with _ | _ | _ | _ | _ | k <;> first | rfl | omega
  · rw [if_neg hjd, if_neg (by simpa using hjd)]
/-- A slice of what waits is written. -/
theorem RN.setV {w : World} {b : Nat} {A : Nt} {V : Nat → Nat → Value} (hR : RN w b A V) (x y : Nat) (hx : x < 5) (hy : y < 5) (v : Value) : RN (w.setCell ⟨b, 396 + x * 5 + y, none⟩ v) b A (upd2 V x y v) := by
  have ho : ∀ o, o ≠ 396 + x * 5 + y → (w.setCell ⟨b, 396 + x * 5 + y, none⟩ v).cell? ⟨b, o, none⟩ = w.cell? ⟨b, o, none⟩ := fun o h1 => by
    rw [World.cell?_setCell_other _ _ _ _ (addr_ne (by omega))]
  refine ⟨?_, fun i j hi hj => ?_, fun i j hi hj => ?_, fun i j hi hj => ?_, fun o => ?_⟩
  · rw [ho _ (by omega)]; exact hR.n
  · rw [ho _ (by omega)]; exact hR.r i j hi hj
  · rw [ho _ (by omega)]; exact hR.c i j hi hj
  · by_cases h : i = x ∧ j = y
    · obtain ⟨rfl, rfl⟩ := h
      rw [World.cell?_setCell_same _ _ _ (hR.v i j hi hj), upd2_same]
    · rw [ho _ (by omega), upd2_other _ _ _ _ _ _ h]; exact hR.v i j hi hj
  · rw [World.frozen?_setCell]; exact hR.fz o
/-- The cost of a link is written. -/
theorem RN.setC {w : World} {b : Nat} {A : Nt} {V : Nat → Nat → Value} (hR : RN w b A V) (x y : Nat) (hx : x < 5) (hy : y < 5) (c : Int) :
    RN ((w.setCell ⟨b, 371 + x * 5 + y, none⟩ (I c)).setCell ⟨b, 371 + y * 5 + x, none⟩ (I c)) b { A with co := setCo A.co x y c } V := by
  have ho : ∀ o, o ≠ 371 + x * 5 + y → o ≠ 371 + y * 5 + x → ((w.setCell ⟨b, 371 + x * 5 + y, none⟩ (I c)).setCell ⟨b, 371 + y * 5 + x, none⟩ (I c)).cell? ⟨b, o, none⟩ = w.cell? ⟨b, o, none⟩ := fun o h1 h2 => by
    rw [World.cell?_setCell_other _ _ _ _ (addr_ne (by omega)), World.cell?_setCell_other _ _ _ _ (addr_ne (by omega))]
  refine ⟨?_, fun i j hi hj => ?_, fun i j hi hj => ?_, fun i j hi hj => ?_, fun o => ?_⟩
  · rw [ho _ (by omega) (by omega)]; exact hR.n
  · rw [ho _ (by omega) (by omega)]; exact hR.r i j hi hj
  · obtain ⟨v1, hv1⟩ := cell?_setCell_some (w := w) (p := ⟨b, 371 + x * 5 + y, none⟩) (x := I c) (q := ⟨b, 371 + y * 5 + x, none⟩) (v := I (A.co y x)) (hR.c y x hy hx)
    show _ = some (I (setCo A.co x y c i j))
    unfold setCo
    by_cases h2 : i = y ∧ j = x
    · obtain ⟨rfl, rfl⟩ := h2
      rw [World.cell?_setCell_same _ _ _ hv1, if_pos (.inr ⟨rfl, rfl⟩)]
    · by_cases h1 : i = x ∧ j = y
      · obtain ⟨rfl, rfl⟩ := h1
        rw [World.cell?_setCell_other _ _ _ _ (addr_ne (by omega)), World.cell?_setCell_same _ _ _ (hR.c i j hi hj), if_pos (.inl ⟨rfl, rfl⟩)]
      · rw [ho _ (by omega) (by omega), hR.c i j hi hj, if_neg (by omega)]
  · rw [ho _ (by omega) (by omega)]; exact hR.v i j hi hj
  · rw [World.frozen?_setCell, World.frozen?_setCell]; exact hR.fz o
theorem RN.rangeT {w : World} {b : Nat} {A : Nt} {V : Nat → Nat → Value} (h : RN w b A V) (i : Nat) (hi : i < 5) : midA w b (1 + i * 74) 36 = tbA (A.rs i).t ∧ MidOk w b (1 + i * 74) 36 := by
  refine midA_eq (tbA_size _) fun j v hv => ?_
  have hj : j < 36 := by have := (List.getElem?_eq_some_iff.1 hv).1; simpa [tbA_size] using this
  rw [Array.getElem?_toList, tbA_at _ _ hj] at hv
  rw [h.r i j hi (by omega), roV_t _ _ hj, hv]
theorem RN.rangeD {w : World} {b : Nat} {A : Nt} {V : Nat → Nat → Value} (h : RN w b A V) (i : Nat) (hi : i < 5) : midA w b (1 + i * 74 + 36) 36 = tbA (A.rs i).dk ∧ MidOk w b (1 + i * 74 + 36) 36 := by
  refine midA_eq (tbA_size _) fun j v hv => ?_
  have hj : j < 36 := by have := (List.getElem?_eq_some_iff.1 hv).1; simpa [tbA_size] using this
  rw [Array.getElem?_toList, tbA_at _ _ hj] at hv
  have := h.r i (36 + j) hi (by omega)
  rw [show 1 + i * 74 + 36 + j = 1 + i * 74 + (36 + j) by omega, this, roV_dk _ _ hj, hv]
theorem RN.there {w : World} {b : Nat} {A : Nt} {V : Nat → Nat → Value} (h : RN w b A V) (i o : Nat) (hi : i < 5) (ho : o ≤ 38) : w.there b (1 + i * 74 + o) 36 := fun j hj => by
  rw [show 1 + i * 74 + o + j = 1 + i * 74 + (o + j) by omega, h.r i (o + j) hi (by omega)]
  exact ⟨rfl, h.fz _⟩

theorem RN.ro5 {w : World} {b : Nat} {A : Nt} {V : Nat → Nat → Value} (h : RN w b A V) (i d : Nat) (hi : i < 5) (hd : d < 5) :
    w.cell? ⟨b, 1 + i * 74 + 1 + d * 5, none⟩ = some (I ((A.rs i).t.ro d).nx) ∧ w.cell? ⟨b, 1 + i * 74 + 1 + d * 5 + 1, none⟩ = some (I ((A.rs i).t.ro d).sq) ∧ w.cell? ⟨b, 1 + i * 74 + 1 + d * 5 + 2, none⟩ = some (I ((A.rs i).t.ro d).mt) ∧ w.cell? ⟨b, 1 + i * 74 + 1 + d * 5 + 3, none⟩ = some (I ((A.rs i).t.ro d).ag) ∧ w.cell? ⟨b, 1 + i * 74 + 1 + d * 5 + 4, none⟩ = some (I ((A.rs i).t.ro d).st) :=
  ⟨h.ro i d 0 hi hd (by omega), h.ro i d 1 hi hd (by omega), h.ro i d 2 hi hd (by omega), h.ro i d 3 hi hd (by omega), h.ro i d 4 hi hd (by omega)⟩
theorem RN.be2 {w : World} {b : Nat} {A : Nt} {V : Nat → Nat → Value} (h : RN w b A V) (i d : Nat) (hi : i < 5) (hd : d < 5) :
    w.cell? ⟨b, 1 + i * 74 + 26 + d * 2, none⟩ = some (I ((A.rs i).t.be d).sq) ∧ w.cell? ⟨b, 1 + i * 74 + 26 + d * 2 + 1, none⟩ = some (I ((A.rs i).t.be d).mt) :=
  ⟨h.be i d 0 hi hd (by omega), h.be i d 1 hi hd (by omega)⟩
/-! ### Questions -/
def waitN (A : Nt) (x y : Int) : Int := if pairE A.n x y = 0 then ((A.wa x.toNat y.toNat).length : Nat) else 0
set_option maxHeartbeats 400000 in
theorem rwaiting (b B e : Nat) (x y : Int) (ρ : Nat → Part) (tg : Nat → Nat → Part) (A : Nt) (V : Nat → Nat → Value) (w : World) (hn : A.n ≤ 5) (hR : RN w b A V) (hW : WR w B e ρ tg V A.wa) :
    Calls Try.prog 86 #[.pointer (some ⟨b, 0, none⟩), .int .i64 x, .int .i64 y] w fun e w' => e = .returned (.tuple #[.int .i64 (waitN A x y), .int .i64 (pairE A.n x y)]) ∧ w = w' := by
  have hN := hR.n
  by_cases h0 : pairE A.n x y = 0
  · obtain ⟨⟨a1, h1⟩, ⟨a2, h2⟩, _⟩ := pairE_zero h0
    obtain ⟨x, rfl⟩ := Int.eq_ofNat_of_zero_le a1
    obtain ⟨y, rfl⟩ := Int.eq_ofNat_of_zero_le a2
    have hx : x < 5 := by omega
    have hy : y < 5 := by omega
    have hd := hR.v x y hx hy
    obtain ⟨ad, cap, hv⟩ := hW.form x y hx hy
    rw [hv] at hd
    have hx' : (x : Int) < 5 := by omega
    have hy' : (y : Int) < 5 := by omega
    have hE : waitN A x y = ((A.wa x y).length : Nat) := by unfold waitN; rw [if_pos h0]; rfl
    rw [hE, h0]
    clear hR hv hW
    go_enter Try.func86, Try.ntmps86
    go_wp2_with (go_at_call 111; refine (pair_any b A.n _ _ _ hN).mono ?_; rintro e w' ⟨rfl, rfl⟩)
    go_ret2
    exact ⟨rfl, rfl⟩
  · have h0' : (pairE A.n x y != 0) = true := by simp [h0]
    have hE : waitN A x y = 0 := by unfold waitN; rw [if_neg h0]
    rw [hE]
    clear hR hW
    go_enter Try.func86, Try.ntmps86
    go_wp2_with (go_at_call 111; refine (pair_any b A.n _ _ _ hN).mono ?_; rintro e w' ⟨rfl, rfl⟩)
    go_ret2
    exact ⟨rfl, rfl⟩
theorem asksE_zero {A : Nt} {x y : Int} (h : asksE A x y = 0) : pairE A.n x y = 0 ∧ (A.rs x.toNat).dn = false := by
  unfold asksE at h
  by_cases h1 : pairE A.n x y = 0
  · rw [if_neg (by simpa using h1)] at h
    by_cases h2 : (A.rs x.toNat).dn = true
    · rw [if_pos h2] at h; omega
    · exact ⟨h1, by simpa using h2⟩
  · rw [if_pos h1] at h; exact absurd h h1
/-- What Route and Best show. -/
def routeN (A : Nt) (x y : Int) : Rt := if asksE A x y = 0 then (A.rs x.toNat).t.ro y.toNat else ⟨0, 0, 0, 0, 0⟩
def bestN (A : Nt) (x y : Int) : Bs := if asksE A x y = 0 then (A.rs x.toNat).t.be y.toNat else ⟨0, 0⟩
set_option maxHeartbeats 400000 in
theorem rroute (b : Nat) (x y : Int) (A : Nt) (V : Nat → Nat → Value) (w : World) (hn : A.n ≤ 5) (hR : RN w b A V) :
    Calls Try.prog 87 #[.pointer (some ⟨b, 0, none⟩), .int .i64 x, .int .i64 y] w fun e w' => e = .returned (.tuple #[.agg (rtA (routeN A x y)), .int .i64 (asksE A x y)]) ∧ Below w.heap.size w w' := by
  have hlt := hR.lt
  by_cases h0 : asksE A x y = 0
  · obtain ⟨⟨a1, h1⟩, ⟨a2, h2⟩, _⟩ := pairE_zero (asksE_zero h0).1
    obtain ⟨x, rfl⟩ := Int.eq_ofNat_of_zero_le a1
    obtain ⟨y, rfl⟩ := Int.eq_ofNat_of_zero_le a2
    have hx : x < 5 := by omega
    have hy : y < 5 := by omega
    obtain ⟨d0, d1, d2, d3, d4⟩ := hR.ro5 x y hx hy
    have hE : routeN A x y = (A.rs x).t.ro y := by unfold routeN; rw [if_pos h0]; rfl
    rw [hE]
    generalize (A.rs x).t.ro y = rt at d0 d1 d2 d3 d4 ⊢
    have hx' : (x : Int) < 5 := by omega
    have hy' : (y : Int) < 5 := by omega
    go_enter Try.func87, Try.ntmps87
    go_wp2_with (go_at_call 112; refine (asks_any b _ _ A V _ hn (hR.of ?_)).mono ?_; (simp [heap_alloc_old, hlt]); rintro e w' ⟨rfl, rfl⟩)
    exact bodyPost_ret (v := .tuple #[.agg (rtA rt), .int .i64 (asksE A x y)]) (by simp [results, Try.results87, go_sem, h0]) rfl ⟨rfl, (Below.refl _ _).alloc (Nat.le_refl _) _⟩
  · have h0' : (asksE A x y != 0) = true := by simp [h0]
    have hE : routeN A x y = ⟨0, 0, 0, 0, 0⟩ := by unfold routeN; rw [if_neg h0]
    rw [hE]
    go_enter Try.func87, Try.ntmps87
    go_wp2_with (go_at_call 112; refine (asks_any b _ _ A V _ hn (hR.of ?_)).mono ?_; (simp [heap_alloc_old, hlt]); rintro e w' ⟨rfl, rfl⟩)
    exact bodyPost_ret (v := .tuple #[.agg (rtA ⟨0, 0, 0, 0, 0⟩), .int .i64 (asksE A x y)]) (by simp [results, Try.results87, go_sem]) rfl ⟨rfl, (Below.refl _ _).alloc (Nat.le_refl _) _⟩
set_option maxHeartbeats 400000 in
theorem rbest (b : Nat) (x y : Int) (A : Nt) (V : Nat → Nat → Value) (w : World) (hn : A.n ≤ 5) (hR : RN w b A V) :
    Calls Try.prog 88 #[.pointer (some ⟨b, 0, none⟩), .int .i64 x, .int .i64 y] w fun e w' => e = .returned (.tuple #[.agg (bsA (bestN A x y)), .int .i64 (asksE A x y)]) ∧ Below w.heap.size w w' := by
  have hlt := hR.lt
  by_cases h0 : asksE A x y = 0
  · obtain ⟨⟨a1, h1⟩, ⟨a2, h2⟩, _⟩ := pairE_zero (asksE_zero h0).1
    obtain ⟨x, rfl⟩ := Int.eq_ofNat_of_zero_le a1
    obtain ⟨y, rfl⟩ := Int.eq_ofNat_of_zero_le a2
    have hx : x < 5 := by omega
    have hy : y < 5 := by omega
    obtain ⟨d0, d1⟩ := hR.be2 x y hx hy
    have hE : bestN A x y = (A.rs x).t.be y := by unfold bestN; rw [if_pos h0]; rfl
    rw [hE]
    generalize (A.rs x).t.be y = bt at d0 d1 ⊢
    have hx' : (x : Int) < 5 := by omega
    have hy' : (y : Int) < 5 := by omega
    go_enter Try.func88, Try.ntmps88
    go_wp2_with (go_at_call 112; refine (asks_any b _ _ A V _ hn (hR.of ?_)).mono ?_; (simp [heap_alloc_old, hlt]); rintro e w' ⟨rfl, rfl⟩)
    exact bodyPost_ret (v := .tuple #[.agg (bsA bt), .int .i64 (asksE A x y)]) (by simp [results, Try.results88, go_sem, h0]) rfl ⟨rfl, (Below.refl _ _).alloc (Nat.le_refl _) _⟩
  · have h0' : (asksE A x y != 0) = true := by simp [h0]
    have hE : bestN A x y = ⟨0, 0⟩ := by unfold bestN; rw [if_neg h0]
    rw [hE]
    go_enter Try.func88, Try.ntmps88
    go_wp2_with (go_at_call 112; refine (asks_any b _ _ A V _ hn (hR.of ?_)).mono ?_; (simp [heap_alloc_old, hlt]); rintro e w' ⟨rfl, rfl⟩)
    exact bodyPost_ret (v := .tuple #[.agg (bsA ⟨0, 0⟩), .int .i64 (asksE A x y)]) (by simp [results, Try.results88, go_sem]) rfl ⟨rfl, (Below.refl _ _).alloc (Nat.le_refl _) _⟩
end Go.Proofs.Ytdoodnbobpijoaa
