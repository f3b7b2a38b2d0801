import Derived.Test.YtdoodnbobpijoaaRefH
namespace Go.Proofs.Ytdoodnbobpijoaa
open Go.RowKit

/-! ### What a router knows, at an offset of a block -/
structure KT (w : World) (b o : Nat) (T : Tb) : Prop where
  at_ : ∀ j, j < 36 → w.cell? ⟨b, o + j, none⟩ = some (tbV T j)
  fz : ∀ j, w.frozen? ⟨b, j, none⟩ = false
theorem KT.lt {w : World} {b o : Nat} {T : Tb} (h : KT w b o T) : b < w.heap.size := lt_of_cell (h.at_ 0 (by omega))
theorem KT.of {w w' : World} {b o : Nat} {T : Tb} (h : KT w b o T) (hb : w'.heap[b]? = w.heap[b]?) : KT w' b o T :=
  ⟨fun j hj => by rw [World.cell?_of_block (w := w) hb]; exact h.at_ j hj, fun j => by rw [World.frozen?_of_block (w := w) hb]; exact h.fz j⟩
theorem KT.below {w w' : World} {b o : Nat} {T : Tb} (h : KT w b o T) (hb : Below w.heap.size w w') : KT w' b o T := h.of (hb.block b h.lt)
theorem KT.sq {w : World} {b o : Nat} {T : Tb} (h : KT w b o T) : w.cell? ⟨b, o, none⟩ = some (I T.sq) := h.at_ 0 (by omega)
theorem KT.ro5 {w : World} {b o : Nat} {T : Tb} (h : KT w b o T) (d : Nat) (hd : d < 5) :
    w.cell? ⟨b, o + 1 + d * 5, none⟩ = some (I (T.ro d).nx) ∧ w.cell? ⟨b, o + 1 + d * 5 + 1, none⟩ = some (I (T.ro d).sq) ∧ w.cell? ⟨b, o + 1 + d * 5 + 2, none⟩ = some (I (T.ro d).mt) ∧ w.cell? ⟨b, o + 1 + d * 5 + 3, none⟩ = some (I (T.ro d).ag) ∧ w.cell? ⟨b, o + 1 + d * 5 + 4, none⟩ = some (I (T.ro d).st) := by
  have key : ∀ k, k < 5 → w.cell? ⟨b, o + 1 + d * 5 + k, none⟩ = some (rtV (T.ro d) k) := fun k hk => by
    have := h.at_ (1 + d * 5 + k) (by omega)
    rw [tbV_ro _ _ _ hd hk] at this
    rw [← this]
    congr 2
    omega
  exact ⟨key 0 (by omega), key 1 (by omega), key 2 (by omega), key 3 (by omega), key 4 (by omega)⟩
theorem KT.be2 {w : World} {b o : Nat} {T : Tb} (h : KT w b o T) (d : Nat) (hd : d < 5) :
    w.cell? ⟨b, o + 26 + d * 2, none⟩ = some (I (T.be d).sq) ∧ w.cell? ⟨b, o + 26 + d * 2 + 1, none⟩ = some (I (T.be d).mt) := by
  have key : ∀ k, k < 2 → w.cell? ⟨b, o + 26 + d * 2 + k, none⟩ = some (bsV (T.be d) k) := fun k hk => by
    have := h.at_ (26 + d * 2 + k) (by omega)
    rw [tbV_be _ _ _ hk] at this
    rw [← this]
    congr 2
    omega
  exact ⟨key 0 (by omega), key 1 (by omega)⟩
/-- The block b alone turned, and of it the 36 cells from o on. -/
structure Fr (w w' : World) (b o : Nat) : Prop where
  only : Only (· = b) w w'
  cell : ∀ p, p < o ∨ o + 36 ≤ p → w'.cell? ⟨b, p, none⟩ = w.cell? ⟨b, p, none⟩
theorem Fr.refl (w : World) (b o : Nat) : Fr w w b o := ⟨Only.refl _ _, fun _ _ => rfl⟩
theorem Fr.trans {u v w : World} {b o : Nat} (h : Fr u v b o) (k : Fr v w b o) : Fr u w b o := ⟨h.only.trans k.only (fun _ _ h => h), fun p hp => (k.cell p hp).trans (h.cell p hp)⟩
theorem Fr.below {u v w : World} {b o : Nat} (h : Fr u v b o) (hb : b < v.heap.size) (k : Below v.heap.size v w) : Fr u w b o := ⟨h.only.trans (Only.ofBelow (S := (· = b)) k) (fun _ _ h => h), fun p hp => (World.cell?_of_block (w := v) (k.block b hb)).trans (h.cell p hp)⟩
theorem KT.setRo {w : World} {b o : Nat} {T : Tb} (h : KT w b o T) (d : Nat) (hd : d < 5) (x : Rt) :
    KT (((((w.setCell ⟨b, o + 1 + d * 5, none⟩ (I x.nx)).setCell ⟨b, o + 1 + d * 5 + 1, none⟩ (I x.sq)).setCell ⟨b, o + 1 + d * 5 + 2, none⟩ (I x.mt)).setCell ⟨b, o + 1 + d * 5 + 3, none⟩ (I x.ag)).setCell ⟨b, o + 1 + d * 5 + 4, none⟩ (I x.st)) b o (Go.Proofs.Ytdoodnbobpijoaa.setRo T d x) ∧
    Fr w (((((w.setCell ⟨b, o + 1 + d * 5, none⟩ (I x.nx)).setCell ⟨b, o + 1 + d * 5 + 1, none⟩ (I x.sq)).setCell ⟨b, o + 1 + d * 5 + 2, none⟩ (I x.mt)).setCell ⟨b, o + 1 + d * 5 + 3, none⟩ (I x.ag)).setCell ⟨b, o + 1 + d * 5 + 4, none⟩ (I x.st)) b o := by
  have e : (((((w.setCell ⟨b, o + 1 + d * 5, none⟩ (I x.nx)).setCell ⟨b, o + 1 + d * 5 + 1, none⟩ (I x.sq)).setCell ⟨b, o + 1 + d * 5 + 2, none⟩ (I x.mt)).setCell ⟨b, o + 1 + d * 5 + 3, none⟩ (I x.ag)).setCell ⟨b, o + 1 + d * 5 + 4, none⟩ (I x.st)) = w.setCells b (o + 1 + d * 5) [I x.nx, I x.sq, I x.mt, I x.ag, I x.st] := rfl
  rw [e]
  have hex : ∀ j, j < [I x.nx, I x.sq, I x.mt, I x.ag, I x.st].length → (w.cell? ⟨b, o + 1 + d * 5 + j, none⟩).isSome = true := fun j hj => by
    have hj : j < 5 := by simpa using hj
    rw [show o + 1 + d * 5 + j = o + (1 + d * 5 + j) by omega, h.at_ _ (by omega)]; rfl
  refine ⟨⟨fun j hj => ?_, fun j => by rw [World.frozen?_setCells]; exact h.fz j⟩, ⟨(Only.refl (· = b) w).setCells (.inl rfl) _ _, fun p hp => ?_⟩⟩
  · by_cases hjd : 1 + d * 5 ≤ j ∧ j < 1 + d * 5 + 5
    · obtain ⟨k, rfl⟩ : ∃ k, j = 1 + d * 5 + k := ⟨j - (1 + d * 5), by omega⟩
      have hk5 : k < 5 := by omega
      rw [show o + (1 + d * 5 + k) = o + 1 + d * 5 + k by omega, World.cell?_setCells_in b _ _ w hex k (by simp; omega), tbV_ro _ _ _ hd hk5]
      have : (Go.Proofs.Ytdoodnbobpijoaa.setRo T d x).ro d = x := by show (if d = d then x else _) = x; rw [if_pos rfl]
      rw [this]
      rcases k with _ | _ | _ | _ | _ | k <;> first | rfl | omega
    · rw [World.cell?_setCells_out b _ _ w ⟨b, o + j, none⟩ (fun _ _ => by show o + j < _ ∨ _ ≤ o + j; simp; omega), h.at_ j hj]
      unfold tbV
      by_cases h0 : j = 0
      · rw [if_pos h0, if_pos h0]; rfl
      · rw [if_neg h0, if_neg h0]
        by_cases h26 : j < 26
        · rw [if_pos h26, if_pos h26]
          have : (Go.Proofs.Ytdoodnbobpijoaa.setRo T d x).ro ((j - 1) / 5) = T.ro ((j - 1) / 5) := by show (if (j - 1) / 5 = d then x else _) = _; rw [if_neg (by omega)]
          rw [this]
        · rw [if_neg h26, if_neg h26]; rfl
  · exact World.cell?_setCells_out b _ _ w ⟨b, p, none⟩ (fun _ _ => by show p < _ ∨ _ ≤ p; simp; omega)
/-- The costs of a router's links, as a value. -/
abbrev coA (f : Nat → Int) : Array Value := #[I (f 0), I (f 1), I (f 2), I (f 3), I (f 4)]
theorem coA_at (f : Nat → Int) (k : Nat) (hk : k < 5) : (coA f)[k]? = some (I (f k)) := by
  have : k = 0 ∨ k = 1 ∨ k = 2 ∨ k = 3 ∨ k = 4 := by omega
  rcases this with rfl | rfl | rfl | rfl | rfl <;> rfl
set_option maxHeartbeats 400000 in
theorem pnone_any (w : World) : Calls Try.prog 80 #[] w fun e w' => e = .returned (.agg (rtA noRt)) ∧ Below w.heap.size w w' := by
  go_enter Try.func80, Try.ntmps80
  go_wp2
  exact bodyPost_ret (v := .agg (rtA noRt)) (by simp [results, Try.results80, go_sem, noRt]) rfl ⟨rfl, (Below.refl _ _).alloc (Nat.le_refl _) _⟩
set_option maxHeartbeats 400000 in
theorem pnothing_any (w : World) : Calls Try.prog 105 #[] w fun e w' => e = .returned (.agg (bsA noBs)) ∧ Below w.heap.size w w' := by
  go_enter Try.func105, Try.ntmps105
  go_wp2
  exact bodyPost_ret (v := .agg (bsA noBs)) (by simp [results, Try.results105, go_sem, noBs]) rfl ⟨rfl, (Below.refl _ _).alloc (Nat.le_refl _) _⟩
set_option maxHeartbeats 400000 in
theorem pbetter_any (x y : Bs) (w : World) : Calls Try.prog 106 #[.agg (bsA x), .agg (bsA y)] w fun e w' => e = .returned (.bool (decide (bet x y))) ∧ Below w.heap.size w w' := by
  have hO : Below w.heap.size w ((w.alloc (.cells (bsA x) 92)).alloc (.cells (bsA y) 92)) := ((Below.refl _ _).alloc (Nat.le_refl _) _).alloc (by simp) _
  by_cases h2 : x.sq = y.sq
  · have h2' : (x.sq != y.sq) = false := by simp [h2]
    have hb : decide (bet x y) = decide (x.mt < y.mt) := by simp [h2]
    rw [hb]
    go_enter Try.func106, Try.ntmps106
    go_wp2
    go_ret
    exact ⟨rfl, hO⟩
  · have h2' : (x.sq != y.sq) = true := by simp [h2]
    have hb : decide (bet x y) = decide (y.sq < x.sq) := by simp [h2]
    rw [hb]
    go_enter Try.func106, Try.ntmps106
    go_wp2
    go_ret
    exact ⟨rfl, hO⟩
set_option maxHeartbeats 400000 in
theorem farther_any (x : Bs) (c : Int) (w : World) (h0 : 0 ≤ x.mt) (h1 : x.mt ≤ 30) (c0 : 0 ≤ c) (c9 : c ≤ 9) : Calls Try.prog 108 #[.agg (bsA x), .int .i64 c] w fun e w' => e = .returned (.agg (bsA ⟨x.sq, x.mt + c⟩)) ∧ Below w.heap.size w w' := by
  go_enter Try.func108, Try.ntmps108
  go_wp2
  exact bodyPost_ret (v := .agg (bsA ⟨x.sq, x.mt + c⟩)) (by simp [results, Try.results108, go_sem]) rfl ⟨rfl, ((Below.refl _ _).alloc (Nat.le_refl _) _).alloc (by simp) _⟩
set_option maxHeartbeats 400000 in
theorem hasr_any (b o d : Nat) (T : Tb) (w : World) (hd : d < 5) (hK : KT w b o T) : Calls Try.prog 79 #[.pointer (some ⟨b, o, none⟩), .int .i64 d] w fun e w' => e = .returned (.bool (decide (0 ≤ (T.ro d).nx))) ∧ w = w' := by
  obtain ⟨d0, _, _, _, _⟩ := hK.ro5 d hd
  have hd' : (d : Int) < 5 := by omega
  clear hK
  go_enter Try.func79, Try.ntmps79
  go_wp2
  go_ret
  exact ⟨rfl, rfl⟩
attribute [local go_sem ↓] Go.wp_at_zero Go.wp_at_succ
set_option maxHeartbeats 1000000 in
theorem dropif_any (b o d : Nat) (x : Int) (T : Tb) (w : World) (hd : d < 5) (hK : KT w b o T) : Calls Try.prog 83 #[.pointer (some ⟨b, o, none⟩), .int .i64 d, .int .i64 x] w fun e w' => e = .returned (.tuple #[]) ∧ KT w' b o (if (T.ro d).nx = x then setRo T d noRt else T) ∧ Fr w w' b o := by
  obtain ⟨d0, d1, d2, d3, d4⟩ := hK.ro5 d hd
  have hd' : (d : Int) < 5 := by omega
  by_cases hx : (T.ro d).nx = x
  · have hx' : ((T.ro d).nx == x) = true := by simp [hx]
    rw [if_pos hx]
    have HK : Hid (KT w b o T) := hK; clear hK
    go_enter Try.func83, Try.ntmps83
    go_wp2_with fail
    go_region_with ((go_at_call 80; refine (pnone_any _).mono ?_; rintro e w1 ⟨rfl, hb⟩; have k1 := HK.out.of (w' := w1) ((hb.block b HK.out.lt).trans rfl); obtain ⟨e0, e1, e2, e3, e4⟩ := k1.ro5 d hd; have f1 := k1.fz; have K1 : Hid (KT w1 b o T) := k1; clear k1))
    go_end0
    have := K1.out.setRo d hd noRt
    exact ⟨rfl, this.1, ((Fr.refl w b o).below HK.out.lt ⟨hb.os, hb.tape, hb.output, hb.size, hb.block⟩).trans this.2⟩
  · have hx' : ((T.ro d).nx == x) = false := by simp [hx]
    rw [if_neg hx]
    go_enter Try.func83, Try.ntmps83
    go_wp2
    go_end0
    exact ⟨rfl, hK, Fr.refl _ _ _⟩
end Go.Proofs.Ytdoodnbobpijoaa
