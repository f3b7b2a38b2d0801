import Derived.Test.YtgimhfbpipgoeaaProF
import Derived.Deep.DrawnRows
namespace Go.Proofs.Ytgimhfbpipgoeaa
open Go.RowKit

/-- A router that learned nothing lies at an offset of a block. -/
structure KB (w : World) (bs o : Nat) : Prop where
  at_ : ∀ j, j < 74 → w.cell? ⟨bs, o + j, none⟩ = some (bk j)
  fz : ∀ o, w.frozen? ⟨bs, o, none⟩ = false
theorem KB.lt {w : World} {bs o : Nat} (h : KB w bs o) : bs < w.heap.size := lt_of_cell (h.at_ 0 (by omega))
theorem KB.of {w w' : World} {bs o : Nat} (h : KB w bs o) (hb : w'.heap[bs]? = w.heap[bs]?) : KB w' bs o :=
  ⟨fun j hj => by rw [World.cell?_of_block (w := w) (a := ⟨bs, _, none⟩) hb]; exact h.at_ j hj, fun p => by rw [World.frozen?_of_block (w := w) (a := ⟨bs, _, none⟩) hb]; exact h.fz p⟩
theorem KB.below {w w' : World} {bs o : Nat} (h : KB w bs o) (hb : Below w.heap.size w w') : KB w' bs o := h.of (hb.block _ h.lt)
theorem KB.alloc {w : World} {bs o : Nat} (h : KB w bs o) (ob : Obj) : KB (w.alloc ob) bs o := h.of (Below.heap_alloc w ob bs h.lt)
theorem KB.next {w : World} {bs o : Nat} (h : KB w bs o) (d : Nat) (hd : d < 5) : w.cell? ⟨bs, o + (1 + d * 5), none⟩ = some (I (-1)) := by rw [h.at_ _ (by omega), bk_next d hd]
theorem KB.setCell {w : World} {bs o : Nat} (h : KB w bs o) {p : Addr} (hp : bs ≠ p.block) (v : Value) : KB (w.setCell p v) bs o := h.of (heap_setCell_other w p bs v hp)

attribute [local go_sem ↓] Go.wp_at_zero Go.wp_at_succ ld83 st83 alc83 ld114 st114 alc114 ld72
attribute [local go_sem] vb_ptr vo_ptr cellsL_agg size_setCells intOf_int

set_option maxHeartbeats 1000000 in
theorem tellings_any (bs o x : Nat) (T : Array Value) (w : World) (hx : x < 5) (hK : KB w bs o) :
    Calls Try.prog 73 #[.pointer (some ⟨bs, o, none⟩), .int .i64 x, .agg T] w fun e w' => e = .returned (.agg (mkA 5 x)) ∧ Below w.heap.size w w' := by
  have hlt := hK.lt
  go_enter Try.func73, Try.ntmps73
  go_wp2
  have hS := ((Whole.new (w.alloc (.cells T 72)) 114 Zm).alloc (.cells Zm 114))
  have hS1 := Whole.new ((w.alloc (.cells T 72)).alloc (.cells Zm 114)) 114 Zm
  simp only [World.size_alloc] at hS hS1
  have hKk := ((hK.alloc (.cells T 72)).alloc (.cells Zm 114)).alloc (.cells Zm 114)
  have hBel : Below w.heap.size w (((w.alloc (.cells T 72)).alloc (.cells Zm 114)).alloc (.cells Zm 114)) := (((Below.refl _ _).alloc (Nat.le_refl _) _).alloc (by simp) _).alloc (by simp; omega) _
  go_loopw [9] (fun i wr => ∃ k : Nat, k ≤ 5 ∧ i = .int .i64 k ∧ Whole wr (w.heap.size + 1) 114 Zm ∧ Whole wr (w.heap.size + 1 + 1) 114 (mkA k x) ∧ KB wr bs o ∧ Below w.heap.size w wr) (fun i _ => 5 - (intOf i).toNat)
  case atStart => exact ⟨0, by omega, rfl, hS, by rw [mkA_zero]; exact hS1, hKk, hBel⟩
  case round =>
    clear hS hS1 hKk hBel hK
    obtain ⟨k, hk, rfl, q0, q1, q3, q4⟩ := hrel
    have z1 := q4.size
    have hne : w.heap.size + 1 ≠ w.heap.size + 1 + 1 := by omega
    have hnb : bs ≠ w.heap.size + 1 + 1 := by omega
    have hle : w.heap.size ≤ w.heap.size + 1 + 1 := by omega
    by_cases hk5 : k < 5
    · have hk' : (k : Int) < 5 := by omega
      by_cases hkx : k = x
      · subst hkx
        have p1 := q1.row (mkA_size k k) (mkA_one k k)
        obtain ⟨v0, e0⟩ := p1.cell (k * 2) (by omega)
        obtain ⟨v1, e1⟩ := p1.cell (k * 2 + 1) (by omega)
        have f1 := p1.frozen
        have s0 := q3.at_ 0 (by omega)
        rw [show bk 0 = I 0 from rfl, Nat.add_zero] at s0
        go_wp2
        have P3 := (q1.set (k * 2) (I 0)).set (k * 2 + 1) (I 0)
        rw [mkA_self k hk5] at P3
        go_roundw
        case rel => exact ⟨k + 1, by omega, by go_num, (q0.setCell (p := ⟨w.heap.size + 1 + 1, k * 2, none⟩) hne (I 0)).setCell (p := ⟨w.heap.size + 1 + 1, k * 2 + 1, none⟩) hne (I 0), P3, (q3.setCell (p := ⟨w.heap.size + 1 + 1, k * 2, none⟩) hnb (I 0)).setCell (p := ⟨w.heap.size + 1 + 1, k * 2 + 1, none⟩) hnb (I 0), (q4.setCell (p := ⟨w.heap.size + 1 + 1, k * 2, none⟩) hle (I 0)).setCell (p := ⟨w.heap.size + 1 + 1, k * 2 + 1, none⟩) hle (I 0)⟩
        case measure => simp [intOf]; omega
      · have hkx' : ((k : Int) == (x : Int)) = false := by rw [beq_eq_false_iff_ne]; omega
        have hnx := q3.next k hk5
        have HX : Hid (wr.cell? ⟨bs, o + (1 + k * 5), none⟩ = some (I (-1))) := hnx; clear hnx
        go_wp2_with (first | (go_at_call 77; refine (hasRoute_any bs o k _ hk5 HX.out).mono ?_; rintro e w' ⟨rfl, rfl⟩) |
          (go_at_call 76; refine (pnothing_b _).mono ?_; rintro e w2 ⟨rfl, hb2⟩; have p2 := (q1.below hb2).row (mkA_size k x) (mkA_one k x); obtain ⟨v0, e0⟩ := p2.cell (k * 2) (by omega); obtain ⟨v1, e1⟩ := p2.cell (k * 2 + 1) (by omega); have f1 := p2.frozen))
        have P3 := ((q1.below hb2).set (k * 2) (I (-1))).set (k * 2 + 1) (I 0)
        rw [mkA_other k x hkx] at P3
        go_roundw
        case rel => exact ⟨k + 1, by omega, by go_num, ((q0.below hb2).setCell (p := ⟨w.heap.size + 1 + 1, k * 2, none⟩) hne (I (-1))).setCell (p := ⟨w.heap.size + 1 + 1, k * 2 + 1, none⟩) hne (I 0), P3, ((q3.below hb2).setCell (p := ⟨w.heap.size + 1 + 1, k * 2, none⟩) hnb (I (-1))).setCell (p := ⟨w.heap.size + 1 + 1, k * 2 + 1, none⟩) hnb (I 0), ((q4.trans (hb2.mono z1)).setCell (p := ⟨w.heap.size + 1 + 1, k * 2, none⟩) hle (I (-1))).setCell (p := ⟨w.heap.size + 1 + 1, k * 2 + 1, none⟩) hle (I 0)⟩
        case measure => simp [intOf]; omega
    · have hk6 : k = 5 := by omega
      subst hk6
      have k1 := q1.mid (mkA_size 5 x)
      have t1 := q0.there Zm_size
      have hag := aggOk_mk 5 x
      go_wp2
      refine bodyPost_ret (v := .agg (mkA 5 x)) (results_cell_row rfl _ _ _ _ _ _ _ rfl (q0.over (mkA 5 x) (by rw [mkA_size, Zm_size])).is Try.underlying114 rfl (by rw [size114, mkA_size])) rfl ⟨rfl, Below.setCells q4 (by omega) _ _⟩

set_option maxHeartbeats 1000000 in
theorem save_any (bs o : Nat) (w : World) (hK : KB w bs o) :
    Calls Try.prog 75 #[.pointer (some ⟨bs, o + 36, none⟩), .agg blankA] w fun e w' => e = .returned (.tuple #[]) ∧ (∀ p, p.block < w.heap.size → w'.cell? p = w.cell? p ∧ w'.frozen? p = w.frozen? p) ∧ Only (· = bs) w w' := by
  have hlt := hK.lt
  have s0 := hK.at_ 72 (by omega)
  rw [show bk 72 = I 0 from rfl, show o + 72 = o + 36 + 36 from by omega] at s0
  have hK1 := hK.alloc (.cells blankA 83)
  have hr : (w.alloc (.cells blankA 83)).rangeAt bs (o + 36) blankA.toList := fun j v hv => by
    have hj : j < 36 := by have := (List.getElem?_eq_some_iff.1 hv).1; simpa [blankA, blankL_length] using this
    have h1 := hK1.at_ (36 + j) (by omega)
    have h2 : blankL[j]? = some v := by simpa [blankA] using hv
    rw [(bk_low j hj).1] at h2
    rw [Nat.add_assoc, h1, ← h2, (bk_low j hj).2]
  have ht : (w.alloc (.cells blankA 83)).there bs (o + 36) 36 := fun j hj => by
    rw [Nat.add_assoc, hK1.at_ (36 + j) (by omega)]
    exact ⟨rfl, hK1.fz _⟩
  have k1 := (Whole.new w 83 blankA).mid blankA_size
  have hag := aggOk_blank
  have HR : Hid ((w.alloc (.cells blankA 83)).rangeAt bs (o + 36) blankA.toList) := hr; clear hr
  clear hK hK1
  go_enter Try.func75, Try.ntmps75
  go_wp2
  go_end0
  refine ⟨rfl, fun p hp => ⟨?_, ?_⟩, ((Only.refl (· = bs) w).alloc _).setCells (.inl rfl) _ _⟩
  · rw [cell_same_store HR.out (by simpa [blankA, blankL_length] using ht) p]
    exact World.cell?_of_block (w := w) (Below.heap_alloc w _ p.block hp)
  · rw [World.frozen?_setCells]
    exact World.frozen?_of_block (w := w) (Below.heap_alloc w _ p.block hp)
end Go.Proofs.Ytgimhfbpipgoeaa
