import Derived.Test.YtgimhfbpipgoeaaRefB
import Derived.Deep.DrawnRows
namespace Go.Proofs.Ytgimhfbpipgoeaa
open Go.RowKit

def updC (C : Nat → Nat → Int) (x y : Nat) (c : Int) : Nat → Nat → Int := fun a b => if (a = x ∧ b = y) ∨ (a = y ∧ b = x) then c else C a b

theorem addr_ne {b o o' : Nat} (h : o ≠ o') : (⟨b, o, none⟩ : Addr) ≠ ⟨b, o', none⟩ := fun e => h (congrArg Addr.off e)
theorem RN.link {w : World} {b n : Nat} {C : Nat → Nat → Int} {V : Nat → Nat → Value} (hR : RN w b n C V) (x y : Nat) (hx : x < 5) (hy : y < 5) (c : Int) :
    RN ((w.setCell ⟨b, 371 + x * 5 + y, none⟩ (I c)).setCell ⟨b, 371 + y * 5 + x, none⟩ (I c)) b n (updC C x y c) V := by
  have ho : ∀ o, o ≠ 371 + x * 5 + y → o ≠ 371 + y * 5 + x → ((w.setCell ⟨b, 371 + x * 5 + y, none⟩ (I c)).setCell ⟨b, 371 + y * 5 + x, none⟩ (I c)).cell? ⟨b, o, none⟩ = w.cell? ⟨b, o, none⟩ := fun o h1 h2 => by
    rw [World.cell?_setCell_other _ _ _ _ (addr_ne (by omega)), World.cell?_setCell_other _ _ _ _ (addr_ne (by omega))]
  refine ⟨?_, fun i j hi hj => ?_, fun i j hi hj => ?_, fun i j hi hj => ?_, fun o => ?_⟩
  · rw [ho _ (by omega) (by omega)]; exact hR.n
  · rw [ho _ (by omega) (by omega)]; exact hR.r i j hi hj
  · obtain ⟨v1, hv1⟩ := cell?_setCell_some (w := w) (p := ⟨b, 371 + x * 5 + y, none⟩) (x := I c) (q := ⟨b, 371 + y * 5 + x, none⟩) (v := I (C y x)) (hR.c y x hy hx)
    by_cases h2 : i = y ∧ j = x
    · obtain ⟨rfl, rfl⟩ := h2
      rw [World.cell?_setCell_same _ _ _ hv1]
      simp [updC]
    · by_cases h1 : i = x ∧ j = y
      · obtain ⟨rfl, rfl⟩ := h1
        rw [World.cell?_setCell_other _ _ _ _ (addr_ne (by omega)), World.cell?_setCell_same _ _ _ (hR.c i j hi hj)]
        simp [updC]
      · rw [ho _ (by omega) (by omega), hR.c i j hi hj]
        simp [updC, h1, h2]
  · rw [ho _ (by omega) (by omega)]; exact hR.v i j hi hj
  · rw [World.frozen?_setCell, World.frozen?_setCell]; exact hR.fz o

def linkE (n x y c : Int) : Int := if pairE n x y ≠ 0 then pairE n x y else if c < 0 ∨ 9 < c then 4 else 0

set_option maxHeartbeats 400000 in
theorem rlink_no1 (b n : Nat) (x y c : Int) (C : Nat → Nat → Int) (V : Nat → Nat → Value) (w : World) (hR : RN w b n C V) (h0 : ¬ pairE n x y = 0) :
    Calls Try.prog 26 #[.pointer (some ⟨b, 0, none⟩), .int .i64 x, .int .i64 y, .int .i64 c] w fun e w' => e = .returned (.int .i64 (pairE n x y)) ∧ w = w' := by
  have hN := hR.n
  have h0' : (pairE n x y != 0) = true := by simp [h0]
  clear hR
  go_enter Try.func26, Try.ntmps26
  go_wp2_with (go_at_call 49; refine (pair_any b n _ _ _ hN).mono ?_; rintro e w' ⟨rfl, rfl⟩)
  go_ret
  exact ⟨rfl, rfl⟩
set_option maxHeartbeats 400000 in
theorem rlink_no2 (b n : Nat) (x y c : Int) (C : Nat → Nat → Int) (V : Nat → Nat → Value) (w : World) (hR : RN w b n C V) (h0 : pairE n x y = 0) (hc : c < 0 ∨ 9 < c) :
    Calls Try.prog 26 #[.pointer (some ⟨b, 0, none⟩), .int .i64 x, .int .i64 y, .int .i64 c] w fun e w' => e = .returned (.int .i64 4) ∧ w = w' := by
  have hN := hR.n
  clear hR
  rcases hc with hc | hc
  · go_enter Try.func26, Try.ntmps26
    go_wp2_with (go_at_call 49; refine (pair_any b n _ _ _ hN).mono ?_; rintro e w' ⟨rfl, rfl⟩)
    go_ret
    exact ⟨rfl, rfl⟩
  · have : ¬ c < 0 := by omega
    go_enter Try.func26, Try.ntmps26
    go_wp2_with (go_at_call 49; refine (pair_any b n _ _ _ hN).mono ?_; rintro e w' ⟨rfl, rfl⟩)
    go_ret
    exact ⟨rfl, rfl⟩
set_option maxHeartbeats 400000 in
theorem rlink_set (b n x y : Nat) (c : Int) (C : Nat → Nat → Int) (V : Nat → Nat → Value) (w : World) (hn : n ≤ 5) (hR : RN w b n C V) (h0 : pairE n x y = 0) (hc : 0 < c) (hc9 : c ≤ 9) :
    Calls Try.prog 26 #[.pointer (some ⟨b, 0, none⟩), .int .i64 x, .int .i64 y, .int .i64 c] w fun e w' => e = .returned (.int .i64 0) ∧ RN w' b n (updC C x y c) V ∧ Only (· = b) w w' := by
  have hN := hR.n
  obtain ⟨⟨_, h1⟩, ⟨_, h2⟩, h3⟩ := pairE_zero h0
  have hx : x < 5 := by omega
  have hy : y < 5 := by omega
  have hx' : (x : Int) < 5 := by omega
  have hy' : (y : Int) < 5 := by omega
  have c1 := hR.c x y hx hy
  have c2 : (w.setCell ⟨b, 371 + x * 5 + y, none⟩ (I c)).cell? ⟨b, 371 + y * 5 + x, none⟩ = some (I (C y x)) := by
    rw [World.cell?_setCell_other _ _ _ _ (addr_ne (by omega))]; exact hR.c y x hy hx
  have f1 := hR.fz
  have HR : Hid (RN w b n C V) := hR; clear hR
  have hc0 : (c == 0) = false := by rw [beq_eq_false_iff_ne]; omega
  go_enter Try.func26, Try.ntmps26
  go_wp2_with (go_at_call 49; refine (pair_any b n _ _ _ hN).mono ?_; rintro e w' ⟨rfl, rfl⟩)
  go_ret
  exact ⟨rfl, HR.out.link x y hx hy c, ((Only.refl (· = b) w).setCell (p := ⟨b, 371 + x * 5 + y, none⟩) (.inl rfl) _).setCell (p := ⟨b, 371 + y * 5 + x, none⟩) (.inl rfl) _⟩

theorem rangeK {w : World} {b n : Nat} {C : Nat → Nat → Int} {V : Nat → Nat → Value} (hR : RN w b n C V) (x : Nat) (hx : x < 5) : w.rangeAt b (1 + x * 74) blankL := fun j v hv => by
  have hj : j < 36 := by have := (List.getElem?_eq_some_iff.1 hv).1; rw [blankL_length] at this; exact this
  have := hR.r x j hx (by omega)
  rw [(bk_low j hj).1] at hv
  rw [this, hv]
theorem thereK {w : World} {b n : Nat} {C : Nat → Nat → Int} {V : Nat → Nat → Value} (hR : RN w b n C V) (x : Nat) (hx : x < 5) : w.there b (1 + x * 74) 36 := fun j hj => by
  rw [hR.r x j hx (by omega)]
  exact ⟨rfl, hR.fz _⟩
theorem setCells_block (b : Nat) : ∀ (vs : List Value) (o : Nat) (w : World), (w.setCells b o vs).heap.size = w.heap.size ∧ (∀ k, k ≠ b → (w.setCells b o vs).heap[k]? = w.heap[k]?) ∧ (w.setCells b o vs).os = w.os ∧ (w.setCells b o vs).tape = w.tape ∧ (w.setCells b o vs).output = w.output := fun vs => by
  induction vs with
  | nil => intro o w; exact ⟨rfl, fun _ _ => rfl, rfl, rfl, rfl⟩
  | cons v r ih =>
    intro o w
    rw [World.setCells]
    obtain ⟨h1, h2, h3, h4, h5⟩ := ih (o + 1) (w.setCell ⟨b, o, none⟩ v)
    exact ⟨by rw [h1]; simp, fun k hk => by rw [h2 k hk, heap_setCell_other _ _ _ _ hk], h3, h4, h5⟩
theorem Only.setCells {S : Nat → Prop} {a w : World} (h : Only S a w) {b : Nat} (hp : S b ∨ a.heap.size ≤ b) (o : Nat) (vs : List Value) : Only S a (w.setCells b o vs) := by
  obtain ⟨h1, h2, h3, h4, h5⟩ := setCells_block b vs o w
  refine ⟨h3.trans h.os, h4.trans h.tape, h5.trans h.output, by have := h.size; omega, fun k hk hs => ?_⟩
  rw [h2 k (by rintro rfl; rcases hp with hp | hp; exact hs hp; omega)]
  exact h.block k hk hs
/-- What lies there is stored once more: every cell reads as it did. -/
theorem cell_same_store {w : World} {b o : Nat} {vs : List Value} (hr : w.rangeAt b o vs) (ht : w.there b o vs.length) (p : Addr) : (w.setCells b o vs).cell? p = w.cell? p := by
  by_cases h : p.block = b ∧ p.spot = none ∧ o ≤ p.off ∧ p.off < o + vs.length
  · obtain ⟨h1, h2, h3, h4⟩ := h
    obtain ⟨pb, po, ps⟩ := p
    simp only at h1 h2 h3 h4
    subst h1 h2
    have hj : po - o < vs.length := by omega
    have e : po = o + (po - o) := by omega
    rw [e, World.cell?_setCells_in pb vs o w (fun i hi => (ht i hi).1) (po - o) hj]
    exact (hr (po - o) vs[po - o] (by rw [List.getElem?_eq_getElem hj])).symm
  · refine World.cell?_setCells_out b vs o w p (fun h1 h2 => ?_)
    rcases Nat.lt_or_ge p.off o with h3 | h3
    · exact .inl h3
    · rcases Nat.lt_or_ge p.off (o + vs.length) with h4 | h4
      · exact absurd ⟨h1, h2, h3, h4⟩ h
      · exact .inr h4
theorem RN.same {w : World} {b n : Nat} {C : Nat → Nat → Int} {V : Nat → Nat → Value} (hR : RN w b n C V) (x : Nat) (hx : x < 5) : RN (w.setCells b (1 + x * 74) blankL) b n C V := by
  have h := fun p => cell_same_store (rangeK hR x hx) (by rw [blankL_length]; exact thereK hR x hx) p
  have hf := fun p => World.frozen?_setCells b blankL (1 + x * 74) w p
  exact ⟨by rw [h]; exact hR.n, fun i j hi hj => by rw [h]; exact hR.r i j hi hj, fun i j hi hj => by rw [h]; exact hR.c i j hi hj, fun i j hi hj => by rw [h]; exact hR.v i j hi hj, fun o => by rw [hf]; exact hR.fz o⟩

/-- At an offset of a block lie the cells of a router that learned nothing; they may be written. -/
structure Kp (w : World) (b o : Nat) : Prop where
  at_ : w.rangeAt b o blankL
  there : w.there b o 36
theorem Kp.lt {w : World} {b o : Nat} (h : Kp w b o) : b < w.heap.size := lt_of_cell (h.at_ 0 (I 0) (bk_low 0 (by omega)).1)
theorem Kp.of {w w' : World} {b o : Nat} (h : Kp w b o) (hb : w'.heap[b]? = w.heap[b]?) : Kp w' b o :=
  ⟨fun j v hv => by rw [World.cell?_of_block (w := w) hb]; exact h.at_ j v hv, fun j hj => by rw [World.cell?_of_block (w := w) hb, World.frozen?_of_block (w := w) hb]; exact h.there j hj⟩
theorem Kp.drew {w : World} {b o : Nat} (h : Kp w b o) : Kp w.drew b o := h.of rfl
theorem Kp.below {w w' : World} {b o : Nat} (h : Kp w b o) (hb : Below w.heap.size w w') : Kp w' b o := h.of (hb.block b h.lt)
theorem Kp.store {w : World} {b o : Nat} (h : Kp w b o) : Kp (w.setCells b o blankL) b o :=
  ⟨World.rangeAt_setCells_same w b o blankL (by rw [blankL_length]; exact h.there), World.there_setCells h.there b o blankL⟩
def vb : Value → Nat
  | .pointer (some a) => a.block
  | _ => 0
def vo : Value → Nat
  | .pointer (some a) => a.off
  | _ => 0
theorem vb_ptr (a : Addr) : vb (.pointer (some a)) = a.block := rfl
theorem vo_ptr (a : Addr) : vo (.pointer (some a)) = a.off := rfl
theorem load91_rule (w : World) (ρ : Operand → Value) (x : Operand) (d : Option Tmp) (ty : TypeId) (ps : String) (af : Array Edge) (g : Option (Nat × Bool))
    (h1 : ρ x = .pointer (some ⟨vb (ρ x), vo (ρ x), none⟩)) (h2 : Kp w (vb (ρ x)) (vo (ρ x))) :
    (execOp ρ { dst := d, op := .load 91 x, type := ty, pos := ps, after := af, guard := g }).run Try.prog w = .ok (.value (.agg blankA)) w := by
  have := run_loadAt_mid (P := Try.prog) w _ _ 91 blankL _ h2.at_ Try.underlying91 rfl (by rw [size91, blankL_length])
  rw [← h1] at this
  simp only [execOp, Sem.run_bind, this, Result.andThen_ok, Sem.run_pure]
  rfl
theorem store91_rule (w : World) (ρ : Operand → Value) (x y : Operand) (d : Option Tmp) (ty : TypeId) (ps : String) (af : Array Edge) (g : Option (Nat × Bool))
    (h1 : ρ x = .pointer (some ⟨vb (ρ x), vo (ρ x), none⟩)) (h3 : ρ y = .agg blankA) (h2 : Kp w (vb (ρ x)) (vo (ρ x))) :
    (execOp ρ { dst := d, op := .store 91 x y, type := ty, pos := ps, after := af, guard := g }).run Try.prog w = .ok .skip (w.setCells (vb (ρ x)) (vo (ρ x)) blankL) := by
  have := run_storeAt_mid (P := Try.prog) w _ _ 91 blankA (by rw [blankA_size]; exact h2.there) (by rw [size91, blankA_size]) blankA_one
  rw [← h1, ← h3] at this
  simp only [execOp, Sem.run_bind, this, Result.andThen_ok, Sem.run_pure]
  rfl
theorem RN.kp {w : World} {b n : Nat} {C : Nat → Nat → Int} {V : Nat → Nat → Value} (hR : RN w b n C V) (x : Nat) (hx : x < 5) : Kp w b (1 + x * 74) := ⟨rangeK hR x hx, thereK hR x hx⟩

attribute [local go_sem ↓] Go.wp_at_zero Go.wp_at_succ load91_rule store91_rule
attribute [local go_sem] vb_ptr vo_ptr
set_option maxHeartbeats 1000000 in
set_option maxRecDepth 100000 in
theorem rlink_cut (b n x y : Nat) (C : Nat → Nat → Int) (V : Nat → Nat → Value) (w : World) (hn : n ≤ 5) (hR : RN w b n C V) (h0 : pairE n x y = 0) :
    Calls Try.prog 26 #[.pointer (some ⟨b, 0, none⟩), .int .i64 x, .int .i64 y, .int .i64 0] w fun e w' => e = .returned (.int .i64 0) ∧ RN w' b n (updC C x y 0) V ∧ Only (· = b) w w' := by
  have hN := hR.n
  obtain ⟨⟨_, h1⟩, ⟨_, h2⟩, h3⟩ := pairE_zero h0
  have hx : x < 5 := by omega
  have hy : y < 5 := by omega
  have hx' : (x : Int) < 5 := by omega
  have hy' : (y : Int) < 5 := by omega
  have c1 := hR.c x y hx hy
  have c2 : (w.setCell ⟨b, 371 + x * 5 + y, none⟩ (I 0)).cell? ⟨b, 371 + y * 5 + x, none⟩ = some (I (C y x)) := by
    rw [World.cell?_setCell_other _ _ _ _ (addr_ne (by omega))]; exact hR.c y x hy hx
  have f1 := hR.fz
  have hL := hR.link x y hx hy 0
  have k1 := hL.kp x hx
  have HL : Hid (RN ((w.setCell ⟨b, 371 + x * 5 + y, none⟩ (I 0)).setCell ⟨b, 371 + y * 5 + x, none⟩ (I 0)) b n (updC C x y 0) V) := hL; clear hL hR
  have HO : Hid (Only (· = b) w ((w.setCell ⟨b, 371 + x * 5 + y, none⟩ (I 0)).setCell ⟨b, 371 + y * 5 + x, none⟩ (I 0))) := ((Only.refl (· = b) w).setCell (p := ⟨b, 371 + x * 5 + y, none⟩) (.inl rfl) _).setCell (p := ⟨b, 371 + y * 5 + x, none⟩) (.inl rfl) _
  go_enter Try.func26, Try.ntmps26
  go_wp2_with (go_at_call 49; refine (pair_any b n _ _ _ hN).mono ?_; rintro e w' ⟨rfl, rfl⟩)
  go_region_held3 (fun w' => Kp w' b (1 + x * 74)) (first | exact k1.drew | exact Kp.below (by assumption) hb | exact Kp.store (by assumption))
    (first | (go_at_call 54; refine (without_any (y : Int) _ (Int.natCast_nonneg y)).mono ?_; rintro e w1 ⟨rfl, hb⟩))
  have R1 : RN (w1.setCells b (1 + x * 74) blankL) b n (updC C x y 0) V := ((HL.out.of (w' := _) rfl).of (hb.block b HL.out.lt)).same x hx
  have O1 : Only (· = b) w (w1.setCells b (1 + x * 74) blankL) := ((HO.out.drew).trans (Only.ofBelow (S := (· = b)) hb) (fun _ _ h => h)).setCells (.inl rfl) _ _
  clear HL HO k1 hb
  generalize w1.setCells b (1 + x * 74) blankL = w2 at *
  have k2 := R1.kp y hy
  have HL : Hid (RN w2 b n (updC C x y 0) V) := R1; clear R1
  have HO : Hid (Only (· = b) w w2) := O1; clear O1
  go_wp2_with fail
  go_region_held3 (fun w' => Kp w' b (1 + y * 74)) (first | exact k2.drew | exact Kp.below (by assumption) hb | exact Kp.store (by assumption))
    (first | (go_at_call 54; refine (without_any (x : Int) _ (Int.natCast_nonneg x)).mono ?_; rintro e w3 ⟨rfl, hb⟩))
  go_wp2
  go_ret
  exact ⟨rfl, ((HL.out.of (w' := _) rfl).of (hb.block b HL.out.lt)).same y hy, ((HO.out.drew).trans (Only.ofBelow (S := (· = b)) hb) (fun _ _ h => h)).setCells (.inl rfl) _ _⟩
end Go.Proofs.Ytgimhfbpipgoeaa
