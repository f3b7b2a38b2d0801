import Derived.Test.YtgimhfbpipgoeaaProH
import Derived.Deep.DrawnRows
namespace Go.Proofs.Ytgimhfbpipgoeaa
open Go.RowKit

/-- Every cell of the old blocks reads as it did; only one of these blocks was touched. -/
structure Same (bs : Nat) (w w' : World) : Prop where
  cell : ∀ p : Addr, p.block < w.heap.size → w'.cell? p = w.cell? p ∧ w'.frozen? p = w.frozen? p
  only : Only (· = bs) w w'
theorem Same.refl (bs : Nat) (w : World) : Same bs w w := ⟨fun _ _ => ⟨rfl, rfl⟩, Only.refl _ _⟩
theorem Same.below {bs : Nat} {w w1 w2 : World} (h : Same bs w w1) (hb : Below w1.heap.size w1 w2) : Same bs w w2 :=
  ⟨fun p hp => by have := h.only.size; rw [hb.cell (p := p) (by omega), hb.frozen (p := p) (by omega)]; exact h.cell p hp, h.only.trans (Only.ofBelow (S := (· = bs)) hb) (fun _ _ h => h)⟩
theorem Same.new {bs : Nat} {w w1 : World} (h : Same bs w w1) {g : Nat} (hg : w.heap.size ≤ g) (o : Nat) (vs : List Value) : Same bs w (w1.setCells g o vs) :=
  ⟨fun p hp => by
    have e : (w1.setCells g o vs).heap[p.block]? = w1.heap[p.block]? := (setCells_block g vs o w1).2.1 _ (by omega)
    rw [World.cell?_of_block (w := w1) e, World.frozen?_of_block (w := w1) e]; exact h.cell p hp, h.only.setCells (.inr hg) _ _⟩
theorem Same.drew {bs : Nat} {w w1 : World} (h : Same bs w w1) : Same bs w w1.drew := ⟨h.cell, h.only.drew⟩
theorem Same.alloc {bs : Nat} {w w1 : World} (h : Same bs w w1) (ob : Obj) : Same bs w (w1.alloc ob) := h.below ((Below.refl _ _).alloc (Nat.le_refl _) _)
theorem Same.trans {bs : Nat} {a b c : World} (h : Same bs a b) (k : Same bs b c) : Same bs a c :=
  ⟨fun p hp => by have := h.only.size; rw [(k.cell p (by omega)).1, (k.cell p (by omega)).2]; exact h.cell p hp, h.only.trans k.only (fun _ _ h => h)⟩
theorem KB.mid {w : World} {bs o : Nat} (h : KB w bs o) : midA w bs o 36 = blankA ∧ MidOk w bs o 36 := midA_eq blankA_size fun j v hv => by
  have hj : j < 36 := by have := (List.getElem?_eq_some_iff.1 hv).1; simpa [blankA, blankL_length] using this
  have h2 : blankL[j]? = some v := by simpa [blankA] using hv
  rw [(bk_low j hj).1] at h2
  rw [h.at_ j (by omega), ← h2]
def SM (b o n : Nat) (T : Array Value) (w' : World) : Prop := midA w' b o n = T ∧ MidOk w' b o n
theorem SM_drew {b o n : Nat} {T : Array Value} {w : World} (h : SM b o n T w) : SM b o n T w.drew := h
theorem SM_of {b o n : Nat} {T : Array Value} {w w' : World} (h : SM b o n T w) (hb : w'.heap[b]? = w.heap[b]?) : SM b o n T w' := ⟨by rw [midA_of hb]; exact h.1, h.2.of hb⟩
theorem SM_below {b o n : Nat} {T : Array Value} {w w' : World} (h : SM b o n T w) (hn : 0 < n) (hb : Below w.heap.size w w') : SM b o n T w' := by
  obtain ⟨v, hv⟩ := Option.isSome_iff_exists.1 (h.2 0 hn)
  exact SM_of h (hb.block b (lt_of_cell hv))
theorem Whole.sm {w : World} {b : Nat} {t : TypeId} {C : Array Value} (h : Whole w b t C) {n : Nat} (hs : C.size = n) : SM b 0 n C w := h.mid hs

theorem SM_same {b o n : Nat} {T : Array Value} {w w' : World} (h : SM b o n T w) (hn : 0 < n) (hc : ∀ p : Addr, p.block < w.heap.size → w'.cell? p = w.cell? p ∧ w'.frozen? p = w.frozen? p) : SM b o n T w' := by
  obtain ⟨v, hv⟩ := Option.isSome_iff_exists.1 (h.2 0 hn)
  have hlt : b < w.heap.size := lt_of_cell hv
  refine ⟨?_, fun j hj => by rw [(hc ⟨b, o + j, none⟩ hlt).1]; exact h.2 j hj⟩
  rw [← h.1]
  unfold midA
  congr 1
  apply List.map_congr_left
  intro j _
  rw [(hc ⟨b, o + j, none⟩ hlt).1]
attribute [local go_sem ↓] Go.wp_at_zero Go.wp_at_succ ld83 st83 alc83 ld114 st114 alc114 ld72
attribute [local go_sem] vb_ptr vo_ptr cellsL_agg size_setCells intOf_int

set_option maxHeartbeats 4000000 in
theorem rdumpP_any (bs o x : Nat) (T : Array Value) (lg : Value) (w : World) (hx : x < 5) (hT : T.size = 5) (hK : KB w bs o) :
    Calls Try.prog 62 #[.pointer (some ⟨bs, o, none⟩), .int .i64 x, .agg T, lg] w fun e w' => e = .returned (.agg (mkA 5 x)) ∧ Same bs w w' := by
  have hlt := hK.lt
  have n6 := (Whole.new w 72 T).alloc (.cells Zm 114)
  have n8 := Whole.new (w.alloc (.cells T 72)) 114 Zm
  simp only [World.size_alloc] at n8
  have hI1 := n6.sm hT
  have K1 := ((hK.alloc (.cells T 72)).alloc (.cells Zm 114)).of (w' := ((w.alloc (.cells T 72)).alloc (.cells Zm 114)).drew) rfl
  have B1 : Same bs w ((w.alloc (.cells T 72)).alloc (.cells Zm 114)) := ((Same.refl bs w).alloc _).alloc _
  have N6 : Hid (Whole ((w.alloc (.cells T 72)).alloc (.cells Zm 114)) w.heap.size 72 T) := n6; clear n6
  have N8 : Hid (Whole ((w.alloc (.cells T 72)).alloc (.cells Zm 114)) (w.heap.size + 1) 114 Zm) := n8; clear n8
  have HT : Hid (T.size = 5) := hT; clear hT
  clear hK
  go_enter Try.func62, Try.ntmps62
  go_wp2
  go_region_held3 (fun w' => midA w' w.heap.size 0 5 = T ∧ MidOk w' w.heap.size 0 5) (first | exact SM_drew hI1 | exact SM_below (by assumption) (by omega) hb1)
    (first | (go_at_call 72; refine (dropFar_any bs o T lg _ K1.lt K1.next).mono ?_; rintro e w1 ⟨rfl, hb1⟩))
  have n6 := N6.out.drew.below hb1
  have n8 := N8.out.drew.below hb1
  have K2 := (K1.below hb1).of (w' := w1.drew) rfl
  have B2 : Same bs w w1 := B1.drew.below hb1
  have hI2 := n6.sm HT.out
  have z1 : w.heap.size + 1 < w1.heap.size := n8.lt
  clear N6 N8 K1 B1 hI1 hb1
  have N8 : Hid (Whole w1 (w.heap.size + 1) 114 Zm) := n8; clear n8
  have HB2 : Hid (Same bs w w1) := B2; clear B2
  clear n6
  go_wp2_with fail
  have hth : ∀ W : World, (W.alloc (.cells Zm 114)).there W.heap.size 0 10 := fun W => (Whole.new W 114 Zm).there Zm_size
  have hag := aggOk_mk 5 x
  go_region_held3 (fun w' => midA w' w.heap.size 0 5 = T ∧ MidOk w' w.heap.size 0 5) (first | exact SM_drew hI2 | exact SM_below (by assumption) (by omega) hb2 | exact SM_below (by assumption) (by omega) ((Below.refl _ _).alloc (Nat.le_refl _) _) | exact SM_of (by assumption) ((setCells_block _ _ _ _).2.1 _ (by omega)))
    (first | (go_at_call 73; refine (tellings_any bs o x T _ hx ?_).mono ?_; (first | exact K2 | exact K2.alloc _ | exact ((K2.alloc _).of rfl)); rintro e w2 ⟨rfl, hb2⟩; have z2 : w1.heap.size ≤ w2.heap.size := (by have := hb2.size; simp at this; omega); first | (have tA := ((Whole.new w1 114 Zm).drew.below hb2).there Zm_size) | skip))
  all_goals first
    | (have F1 : Whole (w2.setCells w1.heap.size 0 (mkA 5 x).toList) w1.heap.size 114 (mkA 5 x) := ((Whole.new w1 114 Zm).drew.below hb2).over (mkA 5 x) (by rw [mkA_size, Zm_size])
       have F2 : Whole (w2.setCells w1.heap.size 0 (mkA 5 x).toList) (w.heap.size + 1) 114 Zm := ((N8.out.alloc _).drew.below hb2).setCells (by omega) _ _
       have F3 : KB (w2.setCells w1.heap.size 0 (mkA 5 x).toList) bs o := (KB.below (w := (w1.alloc (.cells Zm 114)).drew) ((K2.alloc _).of rfl) hb2).of ((setCells_block _ _ _ _).2.1 _ (by omega))
       have F4 : Same bs w (w2.setCells w1.heap.size 0 (mkA 5 x).toList) := ((HB2.out.alloc _).drew.below hb2).new (by omega) _ _
       have F5 : w.heap.size + 1 < w1.heap.size := z1
       clear hb2 tA
       generalize w2.setCells w1.heap.size 0 (mkA 5 x).toList = W3 at *
       clear hI2 K2 N8 HB2 hth z1 z2
       generalize w1.heap.size = b9 at *)
    | (have F1 : Whole ((w2.alloc (.cells Zm 114)).setCells w2.heap.size 0 (mkA 5 x).toList) w2.heap.size 114 (mkA 5 x) := (Whole.new w2 114 Zm).over (mkA 5 x) (by rw [mkA_size, Zm_size])
       have F2 : Whole ((w2.alloc (.cells Zm 114)).setCells w2.heap.size 0 (mkA 5 x).toList) (w.heap.size + 1) 114 Zm := ((N8.out.drew.below hb2).alloc _).setCells (by omega) _ _
       have F3 : KB ((w2.alloc (.cells Zm 114)).setCells w2.heap.size 0 (mkA 5 x).toList) bs o := ((K2.below hb2).alloc _).of ((setCells_block _ _ _ _).2.1 _ (by omega))
       have F4 : Same bs w ((w2.alloc (.cells Zm 114)).setCells w2.heap.size 0 (mkA 5 x).toList) := ((HB2.out.drew.below hb2).alloc _).new (by omega) _ _
       have F5 : w.heap.size + 1 < w2.heap.size := by omega
       clear hb2
       generalize (w2.alloc (.cells Zm 114)).setCells w2.heap.size 0 (mkA 5 x).toList = W3 at *
       clear hI2 K2 N8 HB2 hth z1 z2
       generalize w2.heap.size = b9 at *)
  all_goals
    have hI3 := F1.sm (mkA_size 5 x)
    have K3 := F3.of (w' := W3.drew) rfl
    have G1 : Hid (Whole W3 b9 114 (mkA 5 x)) := F1; clear F1
    have G2 : Hid (Whole W3 (w.heap.size + 1) 114 Zm) := F2; clear F2
    have G4 : Hid (Same bs w W3) := F4; clear F4
    clear F3
    go_wp2_with fail
    go_region_held3 (fun w' => midA w' b9 0 10 = mkA 5 x ∧ MidOk w' b9 0 10) (first | exact SM_drew hI3 | exact SM_below (by assumption) (by omega) hb3)
      (first | (go_at_call 74; refine (raise_any bs o x lg _ hx K3).mono ?_; rintro e w4 ⟨rfl, hb3⟩))
    have F1 := G1.out.drew.below hb3
    have F2 := G2.out.drew.below hb3
    have F3 := K3.below hb3
    have F4 := G4.out.drew.below hb3
    clear G1 G2 G4 hI3 K3 hb3
    have K4 := F3.of (w' := w4.drew) rfl
    have hI4 : SM bs o 36 blankA w4 := F3.mid
    have G1 : Hid (Whole w4 b9 114 (mkA 5 x)) := F1; clear F1
    have G2 : Hid (Whole w4 (w.heap.size + 1) 114 Zm) := F2; clear F2
    have G4 : Hid (Same bs w w4) := F4; clear F4
    clear F3
    go_wp2_with fail
    go_region_held3 (fun w' => midA w' bs o 36 = blankA ∧ MidOk w' bs o 36) (first | exact SM_drew hI4 | exact SM_same (by assumption) (by omega) hb5)
      (first | (go_at_call 75; refine (save_any bs o _ K4).mono ?_; rintro e w5 ⟨rfl, hb5, ho5⟩))
    have F1 : Whole w5 b9 114 (mkA 5 x) := G1.out.of (ho5.block _ G1.out.lt (by have := K4.lt; omega))
    have F2 : Whole w5 (w.heap.size + 1) 114 Zm := G2.out.of (ho5.block _ G2.out.lt (by have := K4.lt; omega))
    have F4 : Same bs w w5 := G4.out.drew.trans ⟨hb5, ho5⟩
    have k5 := F1.mid (mkA_size 5 x)
    have t5 := F2.there Zm_size
    clear G1 G2 G4 hI4 K4 hb5 ho5
    have G2 : Hid (Whole w5 (w.heap.size + 1) 114 Zm) := F2; clear F2
    have G4 : Hid (Same bs w w5) := F4; clear F4
    clear F1
    go_wp2
    refine bodyPost_ret (v := .agg (mkA 5 x)) (results_cell_row rfl _ _ _ _ _ _ _ rfl (G2.out.over (mkA 5 x) (by rw [mkA_size, Zm_size])).is Try.underlying114 rfl (by rw [size114, mkA_size])) rfl ⟨rfl, G4.out.new (by omega) _ _⟩
end Go.Proofs.Ytgimhfbpipgoeaa
