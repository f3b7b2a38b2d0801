import Derived.Test.YtdoodnbobpijoaaProA
namespace Go.Proofs.Ytdoodnbobpijoaa
open Go.RowKit

/-! ### Trace -/
def nextI (A : Nt) (r d : Nat) : Int := if r = d ∨ (A.rs r).dn = true then -1 else ((A.rs r).t.ro d).nx
set_option maxHeartbeats 400000 in
theorem next_any (bx bs r d : Nat) (A : Nt) (V : Nat → Nat → Value) (w : World) (hn : A.n ≤ 5) (hr : r < A.n) (hd : d < A.n) (hR : PN w bx bs A V) :
    Calls Try.prog 45 #[.pointer (some ⟨bx, 0, none⟩), .int .i64 r, .int .i64 d] w fun e w' => e = .returned (.int .i64 (nextI A r d)) ∧ w = w' := by
  have hN := hR.rs
  have dnc := hR.dn r hr
  obtain ⟨d0, _, _, _, _⟩ := hR.ro5 r d hr (by omega)
  have hr' : (r : Int) < (A.n : Int) := by omega
  have hd' : (d : Int) < 5 := by omega
  by_cases h : r = d
  · subst h
    have hE : nextI A r r = -1 := by unfold nextI; rw [if_pos (.inl rfl)]
    have h' : ((r : Int) == (r : Int)) = true := by simp
    rw [hE]
    clear hR
    go_enter Try.func45, Try.ntmps45
    go_wp2
    go_ret
    exact ⟨rfl, rfl⟩
  · have h' : ((r : Int) == (d : Int)) = false := by rw [beq_eq_false_iff_ne]; omega
    by_cases hdn : (A.rs r).dn = true
    · have hE : nextI A r d = -1 := by unfold nextI; rw [if_pos (.inr hdn)]
      rw [hE]
      rw [hdn] at dnc
      clear hR
      go_enter Try.func45, Try.ntmps45
      go_wp2
      go_ret
      exact ⟨rfl, rfl⟩
    · have hE : nextI A r d = ((A.rs r).t.ro d).nx := by unfold nextI; rw [if_neg (by rintro (e | e); exact h e; exact hdn e)]
      have hdn : (A.rs r).dn = false := by simpa using hdn
      rw [hE]
      rw [hdn] at dnc
      clear hR
      go_enter Try.func45, Try.ntmps45
      go_wp2
      go_ret
      exact ⟨rfl, rfl⟩
attribute [local go_sem ↓] Go.wp_at_zero Go.wp_at_succ
set_option maxHeartbeats 2000000 in
set_option maxRecDepth 100000 in
theorem ptrace_ok (bx bs r d : Nat) (A : Nt) (V : Nat → Nat → Value) (w : World) (g : GoodP A) (hR : PN w bx bs A V) (hr : r < A.n) (hd : d < A.n) :
    Calls Try.prog 19 #[.pointer (some ⟨bx, 0, none⟩), .int .i64 r, .int .i64 d] w fun e w' => ∃ nv, e = .returned (.tuple #[nv, .int .i64 0]) ∧ w'.ownsRow w.heap.size 3 1 nv (trace A r d).length (ints (trace A r d)) ∧ Below w.heap.size w w' := by
  have hn := g.n5
  have hN := hR.rs
  have hlt := hR.lt
  have i1 : isB A.n r = true := isB_nat hr
  have i2 : isB A.n d = true := isB_nat hd
  have HG : Hid (GoodP A) := g; clear g
  have HR : Hid (PN w bx bs A V) := hR; clear hR
  obtain ⟨i, z, hi1, hi2, hi3, hi4, hi5⟩ := infoI
  have I1 : Hid (Try.prog.info? 3 = some i) := hi1; have I2 : Hid (i.zero = some z) := hi2; have I3 : Hid (i.size = 1) := hi3; have I4 : Hid (i.bytes = 8) := hi4; have I5 : Hid (z.cells.size = 1) := hi5
  clear hi1 hi2 hi3 hi4 hi5
  go_enter Try.func19, Try.ntmps19
  go_wp2_with (go_at_call 44; refine (has_any bx A.n bs _ _ hN).mono ?_; rintro e w' ⟨rfl, rfl⟩)
  go_loopw [1, 8, 27] (fun rv lv kv wr => ∃ (l : List Nat) (x : Nat), rv = .int .i64 x ∧ kv = .int .i64 l.length ∧ x < A.n ∧ l.length ≤ A.n ∧ trF A d A.n r = l ++ trF A d (A.n - l.length) x ∧ wr.ownsRow w.heap.size 3 1 lv (l.length + 1) (ints (l ++ [x])) ∧ Below w.heap.size w wr) (fun _ _ kv _ => A.n - (intOf kv).toNat)
  case atStart =>
    refine ⟨[], r, rfl, rfl, hr, Nat.zero_le _, rfl, ?_, (Below.refl _ _).alloc (Nat.le_refl _) _⟩
    exact World.ownsRow_lit (base := w.heap.size) (e := 3) (size := 1) w #[I (r : Nat)] 1 (Nat.le_refl _) (by unfold maxLen; omega) rfl
  case round =>
    obtain ⟨l, x, rfl, rfl, hx, hl, hT, ho, hb⟩ := hrel
    have r1 : PN wr bx bs A V := HR.out.below (by omega) hb
    obtain ⟨ad, cp, hform⟩ := owns_form ho
    subst hform
    have Ho : Hid (wr.ownsRow w.heap.size 3 1 (.slice ad (l.length + 1) cp) (l.length + 1) (ints (l ++ [x]))) := ho; clear ho
    have HT : Hid (trF A d A.n r = l ++ trF A d (A.n - l.length) x) := hT; clear hT
    have done : ends A d x ∨ l.length = A.n → trace A r d = l ++ [x] := fun h => by
      unfold trace
      rw [HT.out]
      rcases h with h | h
      · rw [trF_end h]
      · rw [h, Nat.sub_self]; rfl
    have Done : Hid (ends A d x ∨ l.length = A.n → trace A r d = l ++ [x]) := done; clear done
    have R1 : Hid (PN wr bx bs A V) := r1; clear r1
    by_cases hlen : l.length < A.n
    · have hlen' : (l.length : Int) < (A.n : Int) := by omega
      by_cases hnx : nextI A x d < 0
      · have hends : ends A d x := by
          unfold nextI at hnx
          by_cases h : x = d ∨ (A.rs x).dn = true
          · rcases h with h | h
            · exact .inl h
            · exact .inr (.inl h)
          · rw [if_neg h] at hnx; exact .inr (.inr hnx)
        have HE : Hid (ends A d x) := hends; clear hends
        go_wp2_with (go_at_call 45; refine (next_any bx bs x d A V _ hn hx hd R1.out).mono ?_; rintro e w' ⟨rfl, rfl⟩)
        go_ret2
        have e := Done.out (.inl HE.out)
        refine ⟨_, rfl, ?_, hb⟩
        rw [e, List.length_append, List.length_singleton]; exact Ho.out
      · have hnx' : 0 ≤ nextI A x d := by omega
        have hne : ¬ ends A d x := fun he => by
          unfold nextI at hnx'
          rcases he with he | he | he
          · rw [if_pos (.inl he)] at hnx'; omega
          · rw [if_pos (.inr he)] at hnx'; omega
          · by_cases h : x = d ∨ (A.rs x).dn = true
            · rw [if_pos h] at hnx'; omega
            · rw [if_neg h] at hnx'; omega
        have hnI : nextI A x d = ((A.rs x).t.ro d).nx := by unfold nextI; rw [if_neg (fun h => hne (h.elim .inl (fun h => .inr (.inl h))))]
        obtain ⟨y, hy⟩ := Int.eq_ofNat_of_zero_le hnx'
        have hyn : y < A.n := by have := ((HG.out.t x hx).toNat d (by omega)).1; rw [← hnI, hy, Int.toNat_natCast] at this; exact this
        have hstep : trF A d (A.n - l.length) x = x :: trF A d (A.n - (l.length + 1)) y := by
          rw [show A.n - l.length = (A.n - (l.length + 1)) + 1 by omega, trF_go hne, ← hnI, hy, Int.toNat_natCast]
        have HS : Hid (trF A d (A.n - l.length) x = x :: trF A d (A.n - (l.length + 1)) y) := hstep; clear hstep hne hnI
        have hy0 : ¬ (y : Int) < 0 := by omega
        have Hown : Hid ((wr.alloc (.cells #[I (y : Nat)] 3)).ownsRow w.heap.size 3 1 (.slice ad (l.length + 1) cp) (l.length + 1) (ints (l ++ [x]))) := Ho.out.alloc _
        have Hnews : Hid (∀ j u, [I (y : Nat)][j]? = some u → (wr.alloc (.cells #[I (y : Nat)] 3)).cell? ((⟨wr.heap.size, 0, none⟩ : Addr).add j) = some u) := World.news_of_block (heap_alloc_new wr _)
        have Hone : Hid (∀ u ∈ [I (y : Nat)], u.oneCell' = true) := (show ∀ u ∈ [I (y : Nat)], u.oneCell' = true from fun u hu => by rw [List.mem_singleton.1 hu]; rfl)
        have Hmx : Hid (l.length + 1 + 1 ≤ maxLen) := (show l.length + 1 + 1 ≤ maxLen by unfold maxLen; omega)
        have Hby : Hid ((l.length + 1 + 1) * 8 ≤ 140737488355328) := (show (l.length + 1 + 1) * 8 ≤ 140737488355328 by omega)
        have HBw : Hid (w.heap.size ≤ (wr.alloc (.cells #[I (y : Nat)] 3)).heap.size) := (show w.heap.size ≤ (wr.alloc (.cells #[I (y : Nat)] 3)).heap.size by have := hb.size; simp; omega)
        go_wp2_with (first | (go_at_call 45; refine (next_any bx bs x d A V _ hn hx hd R1.out).mono ?_; rw [hy]; rintro e w' ⟨rfl, rfl⟩) | (refine wpList_append_lies _ (by rfl) _ _ 24 (by rfl) w.heap.size 3 i z 1 8 Try.underlying24 I1.out I2.out I3.out I4.out I5.out (by omega) (.slice ad (l.length + 1) cp) (l.length + 1) (ints (l ++ [x])) (by rfl) Hown.out ⟨wr.heap.size, 0, none⟩ 1 1 [I (y : Nat)] (by rfl) (by rfl) Hnews.out Hone.out (by omega) Hmx.out Hby.out HBw.out (wr.heap.size + 1) (by simp) ?_; intro g' cap' w2 ho2 hgrow hat hlt2))
        go_roundw
        case rel =>
          refine ⟨l ++ [x], y, rfl, by simp, hyn, by simp; omega, ?_, ?_, ?_⟩
          · rw [HT.out, HS.out, List.length_append, List.length_singleton, List.append_assoc]; rfl
          · have : ints (l ++ [x] ++ [y]) = ints (l ++ [x]) ++ [I (y : Nat)] := by simp [ints]
            rw [this, List.length_append, List.length_singleton]; exact ho2
          · have hbs : ∀ g, (Value.slice ad (l.length + 1) cp).ownBlock = some g → w.heap.size ≤ g := fun g hg => (Ho.out.lt g hg).1
            refine ⟨hgrow.os.trans hb.os, hgrow.tape.trans hb.tape, hgrow.output.trans hb.output, by have := hgrow.size; have := hb.size; simp at *; omega, fun j hj => ?_⟩
            rw [hgrow.block j (by have := hb.size; simp; omega) (fun e => by have := hbs j e.symm; omega), Below.heap_alloc wr _ j (by have := hb.size; omega)]
            exact hb.block j hj
        case measure => simp [intOf]; omega
    · have hle : l.length = A.n := by omega
      have HL : Hid (l.length = A.n) := hle; clear hle
      go_wp2
      go_ret2
      have e := Done.out (.inr HL.out)
      refine ⟨_, rfl, ?_, hb⟩
      rw [e, List.length_append, List.length_singleton]; exact Ho.out
end Go.Proofs.Ytdoodnbobpijoaa

namespace Go.Proofs.Ytdoodnbobpijoaa
open Go.RowKit
set_option maxHeartbeats 1000000 in
theorem ptrace (bx bs : Nat) (r d : Int) (A : Nt) (V : Nat → Nat → Value) (w : World) (g : GoodP A) (hR : PN w bx bs A V) :
    Calls Try.prog 19 #[.pointer (some ⟨bx, 0, none⟩), .int .i64 r, .int .i64 d] w fun e w' => ∃ nv, e = .returned (.tuple #[nv, .int .i64 (traceE A r d)]) ∧ w'.ownsRow w.heap.size 3 1 nv (traceL A r d).length (ints (traceL A r d)) ∧ Below w.heap.size w w' := by
  by_cases h : isB A.n r = true ∧ isB A.n d = true
  · obtain ⟨r, rfl⟩ := Int.eq_ofNat_of_zero_le (isB_true h.1).1
    obtain ⟨d, rfl⟩ := Int.eq_ofNat_of_zero_le (isB_true h.2).1
    have e1 : traceE A r d = 0 := by unfold traceE; rw [if_pos h]
    have e2 : traceL A r d = trace A r d := by unfold traceL; rw [if_pos h]; rfl
    rw [e1, e2]
    exact ptrace_ok bx bs r d A V w g hR (by have := (isB_true h.1).2; omega) (by have := (isB_true h.2).2; omega)
  · have e1 : traceE A r d = 2 := by unfold traceE; rw [if_neg h]
    have e2 : traceL A r d = [] := by unfold traceL; rw [if_neg h]
    have hN := hR.rs
    rw [e1, e2]
    by_cases h1 : isB A.n r = true
    · have h2 : isB A.n d = false := by
        rcases Bool.eq_false_or_eq_true (isB A.n d) with e | e
        · exact absurd ⟨h1, e⟩ h
        · exact e
      go_enter Try.func19, Try.ntmps19
      go_wp2_with (go_at_call 44; refine (has_any bx A.n bs _ _ hN).mono ?_; rintro e w' ⟨rfl, rfl⟩)
      go_ret2
      exact ⟨_, rfl, ⟨rfl, .inl ⟨rfl, rfl⟩⟩, Below.refl _ _⟩
    · have h1 : isB A.n r = false := by simpa using h1
      go_enter Try.func19, Try.ntmps19
      go_wp2_with (go_at_call 44; refine (has_any bx A.n bs _ _ hN).mono ?_; rintro e w' ⟨rfl, rfl⟩)
      go_ret2
      exact ⟨_, rfl, ⟨rfl, .inl ⟨rfl, rfl⟩⟩, Below.refl _ _⟩
end Go.Proofs.Ytdoodnbobpijoaa

