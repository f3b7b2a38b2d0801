import Derived.Test.YtdoodnbobpijoaaProA
import Derived.Test.YtdoodnbobpijoaaProC
import Derived.Test.YtdoodnbobpijoaaRefK
namespace Go.Proofs.Ytdoodnbobpijoaa
open Go.RowKit

/-! ### What turns in the program's net -/
theorem PN.kt {w : World} {bx bs : Nat} {A : Nt} {V : Nat → Nat → Value} (h : PN w bx bs A V) (i : Nat) (hi : i < A.n) : KT w bs (i * 74) (A.rs i).t :=
  ⟨fun j hj => by rw [h.r i j hi (by omega), roV_t _ _ hj], h.rfz⟩
theorem PN.upd {w w' : World} {bx bs : Nat} {A : Nt} {V : Nat → Nat → Value} (h : PN w bx bs A V) (i : Nat) (R : Ro) (hx : w'.heap[bx]? = w.heap[bx]?) (hf : ∀ o, w'.frozen? ⟨bs, o, none⟩ = false)
    (hin : i < A.n → ∀ j, j < 74 → w'.cell? ⟨bs, i * 74 + j, none⟩ = some (roV R j)) (hout : ∀ o, o < i * 74 ∨ i * 74 + 74 ≤ o → w'.cell? ⟨bs, o, none⟩ = w.cell? ⟨bs, o, none⟩) : PN w' bx bs (upR A i R) V := by
  have hc : ∀ o, w'.cell? ⟨bx, o, none⟩ = w.cell? ⟨bx, o, none⟩ := fun o => World.cell?_of_block (w := w) hx
  refine ⟨by rw [hc]; exact h.rs, fun a b ha hb => by rw [hc]; exact h.c a b ha hb, fun a b ha hb => by rw [hc]; exact h.v a b ha hb, fun o => by rw [World.frozen?_of_block (w := w) hx]; exact h.fz o, fun k j hk hj => ?_, hf, h.ne⟩
  by_cases e : k = i
  · subst e; rw [upR_same]; exact hin hk j hj
  · rw [upR_other _ _ _ _ e, hout _ (by omega)]; exact h.r k j hk hj
/-- A router's knowledge turned. -/
theorem PN.know {w w' : World} {bx bs : Nat} {A : Nt} {V : Nat → Nat → Value} (h : PN w bx bs A V) (i : Nat) (hi : i < A.n) (T : Tb) (hk : KT w' bs (i * 74) T) (hf : Fr w w' bs (i * 74)) : PN w' bx bs (upR A i (withT (A.rs i) T)) V := by
  refine h.upd i _ (hf.only.block bx h.lt h.ne) hk.fz (fun _ j hj => ?_) (fun o ho => hf.cell o (by omega))
  by_cases h36 : j < 36
  · rw [hk.at_ j h36, roV_t _ _ h36]; rfl
  · rw [hf.cell _ (by omega), h.r i j hi hj]
    unfold roV
    rw [if_neg h36, if_neg h36]; rfl
theorem PN.setV {w : World} {bx bs : Nat} {A : Nt} {V : Nat → Nat → Value} (hR : PN w bx bs A V) (x y : Nat) (hx : x < 5) (hy : y < 5) (v : Value) : PN (w.setCell ⟨bx, 26 + x * 5 + y, none⟩ v) bx bs A (upd2 V x y v) := by
  have ho : ∀ o, o ≠ 26 + x * 5 + y → (w.setCell ⟨bx, 26 + x * 5 + y, none⟩ v).cell? ⟨bx, o, none⟩ = w.cell? ⟨bx, o, none⟩ := fun o h1 => by
    rw [World.cell?_setCell_other _ _ _ _ (addr_ne (by omega))]
  have hb : (w.setCell ⟨bx, 26 + x * 5 + y, none⟩ v).heap[bs]? = w.heap[bs]? := heap_setCell_other _ _ _ _ (Ne.symm hR.ne)
  refine ⟨by rw [ho _ (by omega)]; exact hR.rs, fun i j hi hj => by rw [ho _ (by omega)]; exact hR.c i j hi hj, fun i j hi hj => ?_, fun o => by rw [World.frozen?_setCell]; exact hR.fz o, fun i j hi hj => by rw [World.cell?_of_block (w := w) hb]; exact hR.r i j hi hj, fun o => by rw [World.frozen?_setCell]; exact hR.rfz o, hR.ne⟩
  by_cases h : i = x ∧ j = y
  · obtain ⟨rfl, rfl⟩ := h
    rw [World.cell?_setCell_same _ _ _ (hR.v i j hi hj), upd2_same]
  · rw [ho _ (by omega), upd2_other _ _ _ _ _ _ h]; exact hR.v i j hi hj
theorem PN.setC {w : World} {bx bs : Nat} {A : Nt} {V : Nat → Nat → Value} (hR : PN w bx bs A V) (x y : Nat) (hx : x < 5) (hy : y < 5) (c : Int) :
    PN ((w.setCell ⟨bx, 1 + x * 5 + y, none⟩ (I c)).setCell ⟨bx, 1 + y * 5 + x, none⟩ (I c)) bx bs { A with co := setCo A.co x y c } V := by
  have ho : ∀ o, o ≠ 1 + x * 5 + y → o ≠ 1 + y * 5 + x → ((w.setCell ⟨bx, 1 + x * 5 + y, none⟩ (I c)).setCell ⟨bx, 1 + y * 5 + x, none⟩ (I c)).cell? ⟨bx, o, none⟩ = w.cell? ⟨bx, o, none⟩ := fun o h1 h2 => by
    rw [World.cell?_setCell_other _ _ _ _ (addr_ne (by omega)), World.cell?_setCell_other _ _ _ _ (addr_ne (by omega))]
  have hb : ((w.setCell ⟨bx, 1 + x * 5 + y, none⟩ (I c)).setCell ⟨bx, 1 + y * 5 + x, none⟩ (I c)).heap[bs]? = w.heap[bs]? := by rw [heap_setCell_other _ _ _ _ (Ne.symm hR.ne), heap_setCell_other _ _ _ _ (Ne.symm hR.ne)]
  refine ⟨by rw [ho _ (by omega) (by omega)]; exact hR.rs, fun i j hi hj => ?_, fun i j hi hj => by rw [ho _ (by omega) (by omega)]; exact hR.v i j hi hj, fun o => by rw [World.frozen?_setCell, World.frozen?_setCell]; exact hR.fz o, fun i j hi hj => by rw [World.cell?_of_block (w := w) hb]; exact hR.r i j hi hj, fun o => by rw [World.frozen?_setCell, World.frozen?_setCell]; exact hR.rfz o, hR.ne⟩
  obtain ⟨v1, hv1⟩ := cell?_setCell_some (w := w) (p := ⟨bx, 1 + x * 5 + y, none⟩) (x := I c) (q := ⟨bx, 1 + y * 5 + x, none⟩) (v := I (A.co y x)) (hR.c y x hy hx)
  show _ = some (I (setCo A.co x y c i j))
  unfold setCo
  by_cases h2 : i = y ∧ j = x
  · obtain ⟨rfl, rfl⟩ := h2
    rw [World.cell?_setCell_same _ _ _ hv1, if_pos (.inr ⟨rfl, rfl⟩)]
  · by_cases h1 : i = x ∧ j = y
    · obtain ⟨rfl, rfl⟩ := h1
      rw [World.cell?_setCell_other _ _ _ _ (addr_ne (by omega)), World.cell?_setCell_same _ _ _ (hR.c i j hi hj), if_pos (.inl ⟨rfl, rfl⟩)]
    · rw [ho _ (by omega) (by omega), hR.c i j hi hj, if_neg (by omega)]
/-- The blocks of the program's net. -/
def Two (bx bs : Nat) : Nat → Prop := fun k => k = bx ∨ k = bs
theorem Only.two {w w' : World} {b bx bs : Nat} (h : Only (· = b) w w') (hb : b = bx ∨ b = bs) : Only (Two bx bs) w w' := ⟨h.os, h.tape, h.output, h.size, fun k hk hs => h.block k hk (fun e => hs (by unfold Two; rw [e]; exact hb))⟩
set_option maxHeartbeats 400000 in
theorem plink_no1 (bx bs : Nat) (x y c : Int) (A : Nt) (V : Nat → Nat → Value) (w : World) (hR : PN w bx bs A V) (h0 : ¬ pairE A.n x y = 0) :
    Calls Try.prog 67 #[.pointer (some ⟨bx, 0, none⟩), .int .i64 x, .int .i64 y, .int .i64 c] w fun e w' => e = .returned (.int .i64 (pairE A.n x y)) ∧ w = w' := by
  have hN := hR.rs
  have h0' : (pairE A.n x y != 0) = true := by simp [h0]
  clear hR
  go_enter Try.func67, Try.ntmps67
  go_wp2_with (go_at_call 56; refine (cpair_any bx A.n bs _ _ _ hN).mono ?_; rintro e w' ⟨rfl, rfl⟩)
  go_ret
  exact ⟨rfl, rfl⟩
set_option maxHeartbeats 400000 in
theorem plink_no2 (bx bs : Nat) (x y c : Int) (A : Nt) (V : Nat → Nat → Value) (w : World) (hR : PN w bx bs A V) (h0 : pairE A.n x y = 0) (hc : c < 0 ∨ 9 < c) :
    Calls Try.prog 67 #[.pointer (some ⟨bx, 0, none⟩), .int .i64 x, .int .i64 y, .int .i64 c] w fun e w' => e = .returned (.int .i64 4) ∧ w = w' := by
  have hN := hR.rs
  clear hR
  rcases hc with hc | hc
  · go_enter Try.func67, Try.ntmps67
    go_wp2_with (go_at_call 56; refine (cpair_any bx A.n bs _ _ _ hN).mono ?_; rintro e w' ⟨rfl, rfl⟩)
    go_ret
    exact ⟨rfl, rfl⟩
  · have : ¬ c < 0 := by omega
    go_enter Try.func67, Try.ntmps67
    go_wp2_with (go_at_call 56; refine (cpair_any bx A.n bs _ _ _ hN).mono ?_; rintro e w' ⟨rfl, rfl⟩)
    go_ret
    exact ⟨rfl, rfl⟩
set_option maxHeartbeats 400000 in
theorem plink_set (bx bs x y : Nat) (c : Int) (A : Nt) (V : Nat → Nat → Value) (w : World) (hn : A.n ≤ 5) (hR : PN w bx bs A V) (h0 : pairE A.n x y = 0) (hc : 0 < c) (hc9 : c ≤ 9) :
    Calls Try.prog 67 #[.pointer (some ⟨bx, 0, none⟩), .int .i64 x, .int .i64 y, .int .i64 c] w fun e w' => e = .returned (.int .i64 0) ∧ PN w' bx bs (linkN A x y c) V ∧ Only (Two bx bs) w w' := by
  have hN := hR.rs
  obtain ⟨⟨_, h1⟩, ⟨_, h2⟩, h3⟩ := pairE_zero h0
  have hx : x < 5 := by omega
  have hy : y < 5 := by omega
  have hx' : (x : Int) < 5 := by omega
  have hy' : (y : Int) < 5 := by omega
  have c1 := hR.c x y hx hy
  have c2 : (w.setCell ⟨bx, 1 + x * 5 + y, none⟩ (I c)).cell? ⟨bx, 1 + y * 5 + x, none⟩ = some (I (A.co y x)) := by
    rw [World.cell?_setCell_other _ _ _ _ (addr_ne (by omega))]; exact hR.c y x hy hx
  have f1 := hR.fz
  have HR : Hid (PN w bx bs A V) := hR; clear hR
  have hc0 : (c == 0) = false := by rw [beq_eq_false_iff_ne]; omega
  rw [linkN_pos A x y c (by omega)]
  go_enter Try.func67, Try.ntmps67
  go_wp2_with (go_at_call 56; refine (cpair_any bx A.n bs _ _ _ hN).mono ?_; rintro e w' ⟨rfl, rfl⟩)
  go_ret
  exact ⟨rfl, HR.out.setC x y hx hy c, (((Only.refl (· = bx) w).setCell (p := ⟨bx, 1 + x * 5 + y, none⟩) (.inl rfl) _).setCell (p := ⟨bx, 1 + y * 5 + x, none⟩) (.inl rfl) _).two (.inl rfl)⟩
set_option maxRecDepth 10000 in
set_option maxHeartbeats 1000000 in
theorem plink_cut (bx bs x y : Nat) (A : Nt) (V : Nat → Nat → Value) (w : World) (hn : A.n ≤ 5) (hR : PN w bx bs A V) (h0 : pairE A.n x y = 0) :
    Calls Try.prog 67 #[.pointer (some ⟨bx, 0, none⟩), .int .i64 x, .int .i64 y, .int .i64 0] w fun e w' => e = .returned (.int .i64 0) ∧ PN w' bx bs (linkN A x y 0) V ∧ Only (Two bx bs) w w' := by
  have hN := hR.rs
  obtain ⟨⟨_, h1⟩, ⟨_, h2⟩, h3⟩ := pairE_zero h0
  have hx : x < 5 := by omega
  have hy : y < 5 := by omega
  have hxn : x < A.n := by omega
  have hyn : y < A.n := by omega
  have hx' : (x : Int) < 5 := by omega
  have hy' : (y : Int) < 5 := by omega
  have hxn' : (x : Int) < (A.n : Int) := by omega
  have hyn' : (y : Int) < (A.n : Int) := by omega
  have c1 := hR.c x y hx hy
  have c2 : (w.setCell ⟨bx, 1 + x * 5 + y, none⟩ (I 0)).cell? ⟨bx, 1 + y * 5 + x, none⟩ = some (I (A.co y x)) := by
    rw [World.cell?_setCell_other _ _ _ _ (addr_ne (by omega))]; exact hR.c y x hy hx
  have f1 := hR.fz
  rw [linkN_cut A x y (by omega)]
  have hL := hR.setC x y hx hy 0
  have n1 : ((w.setCell ⟨bx, 1 + x * 5 + y, none⟩ (I 0)).setCell ⟨bx, 1 + y * 5 + x, none⟩ (I 0)).cell? ⟨bx, 0, none⟩ = some (.slice (some ⟨bs, 0, none⟩) A.n A.n) := hL.rs
  have HL : Hid (PN ((w.setCell ⟨bx, 1 + x * 5 + y, none⟩ (I 0)).setCell ⟨bx, 1 + y * 5 + x, none⟩ (I 0)) bx bs { A with co := setCo A.co x y 0 } V) := hL; clear hL hR
  have HO : Hid (Only (Two bx bs) w ((w.setCell ⟨bx, 1 + x * 5 + y, none⟩ (I 0)).setCell ⟨bx, 1 + y * 5 + x, none⟩ (I 0))) := (((Only.refl (· = bx) w).setCell (p := ⟨bx, 1 + x * 5 + y, none⟩) (.inl rfl) _).setCell (p := ⟨bx, 1 + y * 5 + x, none⟩) (.inl rfl) _).two (.inl rfl)
  go_enter Try.func67, Try.ntmps67
  go_wp2_with (first | (go_at_call 56; refine (cpair_any bx A.n bs _ _ _ hN).mono ?_; rintro e w' ⟨rfl, rfl⟩) |
    (go_at_call 102; refine (dropby_any bs (y * 74) (x : Int) (A.rs y).t _ K1.out).mono ?_; rintro e w2 ⟨rfl, t3, t4⟩; have p2 := P1.out.know y hyn _ t3 t4; rw [upR_other _ _ _ _ (by omega)] at p2) |
    (go_at_call 102; refine (dropby_any bs (x * 74) (y : Int) (A.rs x).t _ (HL.out.kt x hxn)).mono ?_; rintro e w1 ⟨rfl, t1, t2⟩; have p1 := HL.out.know x hxn _ t1 t2; have n2 : w1.cell? ⟨bx, 0, none⟩ = some (.slice (some ⟨bs, 0, none⟩) A.n A.n) := p1.rs; have P1 : Hid (PN w1 bx bs (upR { A with co := setCo A.co x y 0 } x (withT (A.rs x) (wo (A.rs x).t y))) V) := p1; have K1 : Hid (KT w1 bs (y * 74) (A.rs y).t) := (by have := p1.kt y hyn; rw [upR_other _ _ _ _ (by omega)] at this; exact this); clear p1 t1))
  go_ret
  exact ⟨rfl, p2, (HO.out.trans (t2.only.two (.inr rfl)) (fun _ _ h => h)).trans (t4.only.two (.inr rfl)) (fun _ _ h => h)⟩
theorem plink (bx bs : Nat) (x y c : Int) (A : Nt) (V : Nat → Nat → Value) (w : World) (hn : A.n ≤ 5) (hR : PN w bx bs A V) :
    Calls Try.prog 67 #[.pointer (some ⟨bx, 0, none⟩), .int .i64 x, .int .i64 y, .int .i64 c] w fun e w' => e = .returned (.int .i64 (linkE A x y c)) ∧ PN w' bx bs (linkC A x y c) V ∧ Only (Two bx bs) w w' := by
  rcases linkE_split A x y c with ⟨h, e⟩ | ⟨h, h2, e⟩ | ⟨h, h2, h3, e⟩
  · refine (plink_no1 bx bs x y c A V w hR h).mono fun e' w' ⟨h1, h2⟩ => ?_
    subst h2
    exact ⟨by rw [h1, e], by rw [linkC, e, if_neg h]; exact hR, Only.refl _ _⟩
  · refine (plink_no2 bx bs x y c A V w hR h h2).mono fun e' w' ⟨h1, h2⟩ => ?_
    subst h2
    exact ⟨by rw [h1, e], by rw [linkC, e, if_neg (by decide)]; exact hR, Only.refl _ _⟩
  · obtain ⟨⟨a1, _⟩, ⟨a2, _⟩, _⟩ := pairE_zero h
    obtain ⟨x, rfl⟩ := Int.eq_ofNat_of_zero_le a1
    obtain ⟨y, rfl⟩ := Int.eq_ofNat_of_zero_le a2
    by_cases hc : c = 0
    · subst hc
      refine (plink_cut bx bs x y A V w hn hR h).mono fun e' w' ⟨h1, h2, h3⟩ => ?_
      exact ⟨by rw [h1, e], by rw [linkC, e, if_pos rfl]; exact h2, h3⟩
    · refine (plink_set bx bs x y c A V w hn hR h (by omega) h3).mono fun e' w' ⟨h1, h2, h3⟩ => ?_
      exact ⟨by rw [h1, e], by rw [linkC, e, if_pos rfl]; exact h2, h3⟩
end Go.Proofs.Ytdoodnbobpijoaa
