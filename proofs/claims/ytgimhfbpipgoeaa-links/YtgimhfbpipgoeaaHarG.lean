import Derived.Test.YtgimhfbpipgoeaaHarF
namespace Go.Proofs.Ytgimhfbpipgoeaa
open Go.RowKit

set_option maxHeartbeats 1000000 in
theorem opened_no (yb : Nat) (n : Int) (w : World) (h : n < 2 ∨ 5 < n) :
    Calls Try.prog 8 #[.pointer (some ⟨yb, 0, none⟩), .int .i64 n] w fun e w' => e = .returned (.bool true) ∧ w = w' := by
  go_enter Try.func8, Try.ntmps8
  go_wp2_with (first | (go_at_call 13; refine (pnew_no n _ h).mono ?_; rintro e w1 ⟨rfl, rfl⟩) | (go_at_call 14; refine (rnew_no n _ h).mono ?_; rintro e w2 ⟨rfl, rfl⟩))
  go_ret
  exact ⟨rfl, rfl⟩

set_option maxHeartbeats 1000000 in
theorem opened_ok (yb B n : Nat) (ρ : Nat → Part) (ns : List NetD) (w : World) (h2 : 2 ≤ n) (h5 : n ≤ 5) (hI : Inv w B ρ yb ns) (hL : ns.length + 1 ≤ maxLen) (hY : (ns.length + 1) * 16 ≤ 140737488355328) :
    Calls Try.prog 8 #[.pointer (some ⟨yb, 0, none⟩), .int .i64 n] w fun e w' => e = .returned (.bool true) ∧ ∃ ρ' N, Inv w' B ρ' yb (ns ++ [N]) ∧ Below B w w' ∧ (∀ k, k < w.heap.size → ρ' k = ρ k) ∧ (∀ k, k < w.heap.size → (ρ k).1 = 0 → ρ k ≠ (0, 1) → ρ k ≠ (0, 2) → w'.heap[k]? = w.heap[k]?) := by
  obtain ⟨v, y1, y2, y3⟩ := hI.y
  obtain ⟨i, z, hi1, hi2, hi3, hi4, hi5⟩ := infoB
  have I1 : Hid (Try.prog.info? 42 = some i) := hi1; have I2 : Hid (i.zero = some z) := hi2; have I3 : Hid (i.size = 2) := hi3; have I4 : Hid (i.bytes = 16) := hi4; have I5 : Hid (z.cells.size = 2) := hi5
  clear hi1 hi2 hi3 hi4 hi5
  have HL : Hid (ns.length + 1 ≤ maxLen) := hL; clear hL
  have HY : Hid ((ns.length + 1) * 16 ≤ 140737488355328) := hY; clear hY
  have HI : Hid (Inv w B ρ yb ns) := hI; clear hI
  have Y1 : Hid (Whole w yb 32 #[v, .slice none 0 0]) := y1; clear y1
  have Y2 : Hid (w.ownsRow B 42 2 v ns.length (ptrs ns)) := y2; clear y2
  have Y3 : Hid (∀ k, v.ownBlock = some k → ρ k = (0, 2)) := y3; clear y3
  go_enter Try.func8, Try.ntmps8
  go_wp2_with (first | (go_at_call 13; refine (pnew_ok n _ h2 h5).mono ?_; rintro e w1 ⟨bx, bs, lx, ls, rfl, p1, b1⟩) |
    (go_at_call 14; refine (rnew_ok n _ h2 h5).mono ?_; rintro e w2 ⟨br, lr, rfl, r2, b2⟩
     have P2 : Hid (PN w2 bx bs n (fun _ _ => 0) (fun _ _ => .slice none 0 0)) := p1.below (by omega) b2
     have R2 : Hid (RN w2 br n (fun _ _ => 0) (fun _ _ => .slice none 0 0)) := r2
     have B2 : Hid (Below w.heap.size w w2) := b1.trans (b2.mono b1.size)
     have nxr : Hid (bx ≠ br) := Nat.ne_of_lt (Nat.lt_of_lt_of_le p1.lt lr)
     have nsr : Hid (bs ≠ br) := Nat.ne_of_lt (Nat.lt_of_lt_of_le (p1.lts (by omega)) lr)
     have LX : Hid (w.heap.size ≤ bx) := lx
     have LS : Hid (w.heap.size ≤ bs) := ls
     have LR : Hid (w.heap.size ≤ br) := Nat.le_trans b1.size lr
     have yw := (Y1.out.below B2.out)
     have c0 : w2.cell? ⟨yb, 0, none⟩ = some v := (yw.cell 0).trans rfl
     have ly := yw.lt
     have O2 : Hid ((w2.alloc (.cells #[.pointer (some ⟨bx, 0, none⟩), .pointer (some ⟨br, 0, none⟩)] 42)).ownsRow B 42 2 v ns.length (ptrs ns)) := (ownsRow_of Y2.out fun g hg => B2.out.block g (Y2.out.lt g hg).2).alloc _
     have HBw : Hid (B ≤ (w2.alloc (.cells #[.pointer (some ⟨bx, 0, none⟩), .pointer (some ⟨br, 0, none⟩)] 42)).heap.size) := (by have h1 := HI.out.hB; have h2 := B2.out.size; show B ≤ (w2.alloc (.cells #[.pointer (some ⟨bx, 0, none⟩), .pointer (some ⟨br, 0, none⟩)] 42)).heap.size; simp; omega)
     have YW : Hid (Whole w2 yb 32 #[v, .slice none 0 0]) := yw
     clear p1 r2 b1 b2 lx ls lr yw) |
    (at_builtin; refine wpList_append_lies _ (by rfl) _ _ 27 (by rfl) B 42 i z 2 16 Try.underlying27 I1.out I2.out I3.out I4.out I5.out (by omega) v ns.length (ptrs ns) (by rfl) O2.out ⟨w2.heap.size, 0, none⟩ 1 1 [.pointer (some ⟨bx, 0, none⟩), .pointer (some ⟨br, 0, none⟩)] (by rfl) rfl (World.news_of_block (heap_alloc_new w2 _)) (by simp [Value.oneCell']) (by omega) HL.out HY.out HBw.out (w2.heap.size + 1) (by simp) ?_; intro g cap w3 ho hgrow hat hlt
     have yw3 : Whole w3 yb 32 #[v, .slice none 0 0] := (YW.out.alloc _).of (hgrow.block yb (by simp; omega) (fun e => by have h1 := Y3.out yb e.symm; rw [HI.out.py] at h1; simp at h1))
     have c3 : w3.cell? ⟨yb, 0, none⟩ = some v := (yw3.cell 0).trans rfl
     have f3 := yw3.frozen 0
     clear yw3))
  go_ret
  obtain ⟨ρ', q1, q2, q3, q4⟩ := Inv.opened HI.out h2 h5 LX.out LS.out LR.out nxr.out nsr.out P2.out R2.out B2.out Y1.out Y2.out Y3.out (w0 := w2.alloc (.cells #[.pointer (some ⟨bx, 0, none⟩), .pointer (some ⟨br, 0, none⟩)] 42)) ((Below.refl _ _).alloc (Nat.le_refl _) _) (by simp) ho hgrow hat hlt
  exact ⟨rfl, ρ', _, q1, q2, q3, q4⟩
end Go.Proofs.Ytgimhfbpipgoeaa
