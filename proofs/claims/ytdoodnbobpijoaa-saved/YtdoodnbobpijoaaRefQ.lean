import Derived.Test.YtdoodnbobpijoaaRefG
namespace Go.Proofs.Ytdoodnbobpijoaa
open Go.RowKit

/-! ### Trace -/
def ints (l : List Nat) : List Value := l.map fun k => I (k : Nat)
theorem ints_length (l : List Nat) : (ints l).length = l.length := by simp [ints]
theorem ints_one (l : List Nat) : ∀ u ∈ ints l, u.oneCell' = true := by
  intro u hu
  obtain ⟨k, _, rfl⟩ := List.mem_map.1 hu
  rfl
/-- What Trace answers. -/
def traceE (A : Nt) (r d : Int) : Int := if isB A.n r = true ∧ isB A.n d = true then 0 else 2
def traceL (A : Nt) (r d : Int) : List Nat := if isB A.n r = true ∧ isB A.n d = true then trace A r.toNat d.toNat else []
def lenV : Value → Int
  | .slice _ n _ => n
  | _ => 0
theorem infoI : ∃ i z, Try.prog.info? 3 = some i ∧ i.zero = some z ∧ i.size = 1 ∧ i.bytes = 8 ∧ z.cells.size = 1 := by
  have h : (match Try.prog.info? 3 with | some i => (match i.zero with | some z => i.size == 1 && i.bytes == 8 && z.cells.size == 1 | none => false) | none => false) = true := by kernel_rfl
  cases hi : Try.prog.info? 3 with
  | none => simp [hi] at h
  | some i =>
    cases hz : i.zero with
    | none => simp [hi, hz] at h
    | some z =>
      simp [hi, hz] at h
      exact ⟨i, z, rfl, hz, h.1.1, h.1.2, h.2⟩
attribute [local go_sem ↓] Go.wp_at_zero Go.wp_at_succ
set_option maxHeartbeats 2000000 in
set_option maxRecDepth 100000 in
theorem rtrace_ok (b r d : Nat) (A : Nt) (V : Nat → Nat → Value) (w : World) (g : Good A) (hR : RN w b A V) (hr : r < A.n) (hd : d < A.n) :
    Calls Try.prog 89 #[.pointer (some ⟨b, 0, none⟩), .int .i64 r, .int .i64 d] w fun e w' => ∃ nv, e = .returned (.tuple #[nv, .int .i64 0]) ∧ w'.ownsRow w.heap.size 3 1 nv (trace A r d).length (ints (trace A r d)) ∧ Below w.heap.size w w' := by
  have hn := g.n5
  have hN := hR.n
  have hlt := hR.lt
  have i1 : isB A.n r = true := isB_nat hr
  have i2 : isB A.n d = true := isB_nat hd
  have hd' : (d : Int) < 5 := by omega
  have HG : Hid (Good A) := g; clear g
  have HR : Hid (RN w b A V) := hR; clear hR
  obtain ⟨i, z, hi1, hi2, hi3, hi4, hi5⟩ := infoI
  have I1 : Hid (Try.prog.info? 3 = some i) := hi1; have I2 : Hid (i.zero = some z) := hi2; have I3 : Hid (i.size = 1) := hi3; have I4 : Hid (i.bytes = 8) := hi4; have I5 : Hid (z.cells.size = 1) := hi5
  clear hi1 hi2 hi3 hi4 hi5
  go_enter Try.func89, Try.ntmps89
  go_wp2_with (go_at_call 113; refine (is_any b A.n _ _ hN).mono ?_; rintro e w' ⟨rfl, rfl⟩)
  go_loopw [1, 10] (fun rv lv wr => ∃ (l : List Nat) (x : Nat), rv = .int .i64 x ∧ x < A.n ∧ l.length ≤ 2 * A.n ∧ trF A d (2 * A.n) r = l ++ trF A d (2 * A.n - l.length) x ∧ wr.ownsRow w.heap.size 3 1 lv (l.length + 1) (ints (l ++ [x])) ∧ Below w.heap.size w wr) (fun _ lv _ => 2 * A.n + 1 - (lenV lv).toNat)
  case atStart =>
    refine ⟨[], r, rfl, hr, Nat.zero_le _, rfl, ?_, (Below.refl _ _).alloc (Nat.le_refl _) _⟩
    exact World.ownsRow_lit (base := w.heap.size) (e := 3) (size := 1) w #[I (r : Nat)] 1 (Nat.le_refl _) (by unfold maxLen; omega) rfl
  case round =>
    obtain ⟨l, x, rfl, hx, hl, hT, ho, hb⟩ := hrel
    have hx5 : x < 5 := by omega
    have hx' : (x : Int) < 5 := by omega
    have r1 : RN wr b A V := HR.out.of (hb.block b hlt)
    have dnc := r1.dn x hx5
    obtain ⟨d0, _, _, _, _⟩ := r1.ro5 x d hx5 (by omega)
    have cn : wr.cell? ⟨b, 0, none⟩ = some (I A.n) := r1.n
    obtain ⟨ad, cp, hform⟩ := owns_form ho
    subst hform
    have Ho : Hid (wr.ownsRow w.heap.size 3 1 (.slice ad (l.length + 1) cp) (l.length + 1) (ints (l ++ [x]))) := ho; clear ho
    have HT : Hid (trF A d (2 * A.n) r = l ++ trF A d (2 * A.n - l.length) x) := hT; clear hT
    have done : ends A d x ∨ l.length = 2 * A.n → trace A r d = l ++ [x] := fun h => by
      unfold trace
      rw [← trF_whole HG.out d (2 * A.n) r hr (by omega), HT.out]
      rcases h with h | h
      · rw [trF_end h]
      · rw [h, Nat.sub_self]; rfl
    have Done : Hid (ends A d x ∨ l.length = 2 * A.n → trace A r d = l ++ [x]) := done; clear done
    by_cases hxd : x = d
    · subst hxd
      have hxd' : ((x : Int) != (x : Int)) = false := by simp
      go_wp2
      go_ret2
      have e := Done.out (.inl (.inl rfl))
      refine ⟨_, rfl, ?_, hb⟩
      rw [e, List.length_append, List.length_singleton]; exact Ho.out
    · have hxd' : ((x : Int) != (d : Int)) = true := by rw [bne_iff_ne]; omega
      by_cases hdn : (A.rs x).dn = true
      · rw [hdn] at dnc
        go_wp2
        go_ret2
        have e := Done.out (.inl (.inr (.inl hdn)))
        refine ⟨_, rfl, ?_, hb⟩
        rw [e, List.length_append, List.length_singleton]; exact Ho.out
      · have hdn' : (A.rs x).dn = false := by simpa using hdn
        rw [hdn'] at dnc
        by_cases hnx : ((A.rs x).t.ro d).nx < 0
        · have hnx' : ¬ 0 ≤ ((A.rs x).t.ro d).nx := by omega
          go_wp2
          go_ret2
          have e := Done.out (.inl (.inr (.inr hnx)))
          refine ⟨_, rfl, ?_, hb⟩
          rw [e, List.length_append, List.length_singleton]; exact Ho.out
        · have hnx' : 0 ≤ ((A.rs x).t.ro d).nx := by omega
          by_cases hlen : l.length = 2 * A.n
          · have hl' : ¬ ((l.length + 1 : Nat) : Int) ≤ 2 * (A.n : Int) := by omega
            have HL : Hid (l.length = 2 * A.n) := hlen; clear hlen
            go_wp2
            go_ret2
            have e := Done.out (.inr HL.out)
            refine ⟨_, rfl, ?_, hb⟩
            rw [e, List.length_append, List.length_singleton]; exact Ho.out
          · have hl' : ((l.length + 1 : Nat) : Int) ≤ 2 * (A.n : Int) := by omega
            obtain ⟨y, hy⟩ := Int.eq_ofNat_of_zero_le hnx'
            have hyn : y < A.n := by have := ((HG.out.t x hx).toNat d hnx').1; rw [hy, Int.toNat_natCast] at this; exact this
            rw [hy] at d0
            have hnx2 : (0 : Int) ≤ (y : Int) := by omega
            have hstep : trF A d (2 * A.n - l.length) x = x :: trF A d (2 * A.n - (l.length + 1)) y := by
              rw [show 2 * A.n - l.length = (2 * A.n - (l.length + 1)) + 1 by omega, trF_go (fun he => by
                rcases he with he | he | he
                · exact hxd he
                · exact hdn he
                · omega), hy, Int.toNat_natCast]
            have HS : Hid (trF A d (2 * A.n - l.length) x = x :: trF A d (2 * A.n - (l.length + 1)) y) := hstep; clear hstep
            have Hown : Hid ((wr.alloc (.cells #[I (y : Nat)] 3)).ownsRow w.heap.size 3 1 (.slice ad (l.length + 1) cp) (l.length + 1) (ints (l ++ [x]))) := Ho.out.alloc _
            have Hnews : Hid (∀ j u, [I (y : Nat)][j]? = some u → (wr.alloc (.cells #[I (y : Nat)] 3)).cell? ((⟨wr.heap.size, 0, none⟩ : Addr).add j) = some u) := World.news_of_block (heap_alloc_new wr _)
            have Hone : Hid (∀ u ∈ [I (y : Nat)], u.oneCell' = true) := (show ∀ u ∈ [I (y : Nat)], u.oneCell' = true from fun u hu => by rw [List.mem_singleton.1 hu]; rfl)
            have Hmx : Hid (l.length + 1 + 1 ≤ maxLen) := (show l.length + 1 + 1 ≤ maxLen by unfold maxLen; omega)
            have Hby : Hid ((l.length + 1 + 1) * 8 ≤ 140737488355328) := (show (l.length + 1 + 1) * 8 ≤ 140737488355328 by omega)
            have HBw : Hid (w.heap.size ≤ (wr.alloc (.cells #[I (y : Nat)] 3)).heap.size) := (show w.heap.size ≤ (wr.alloc (.cells #[I (y : Nat)] 3)).heap.size by have := hb.size; simp; omega)
            go_wp2_with (first | (refine wpList_append_lies _ (by rfl) _ _ 24 (by rfl) w.heap.size 3 i z 1 8 Try.underlying24 I1.out I2.out I3.out I4.out I5.out (by omega) (.slice ad (l.length + 1) cp) (l.length + 1) (ints (l ++ [x])) (by rfl) Hown.out ⟨wr.heap.size, 0, none⟩ 1 1 [I (y : Nat)] (by rfl) (by rfl) Hnews.out Hone.out (by omega) Hmx.out Hby.out HBw.out (wr.heap.size + 1) (by simp) ?_; intro g' cap' w2 ho2 hgrow hat hlt2))
            go_roundw
            case rel =>
              refine ⟨l ++ [x], y, rfl, hyn, by simp; omega, ?_, ?_, ?_⟩
              · rw [HT.out, HS.out, List.length_append, List.length_singleton, List.append_assoc]; rfl
              · have : ints (l ++ [x] ++ [y]) = ints (l ++ [x]) ++ [I (y : Nat)] := by simp [ints]
                rw [this, List.length_append, List.length_singleton]; exact ho2
              · have hbs : ∀ g, (Value.slice ad (l.length + 1) cp).ownBlock = some g → w.heap.size ≤ g := fun g hg => (Ho.out.lt g hg).1
                refine ⟨hgrow.os.trans hb.os, hgrow.tape.trans hb.tape, hgrow.output.trans hb.output, by have := hgrow.size; have := hb.size; simp at *; omega, fun j hj => ?_⟩
                rw [hgrow.block j (by have := hb.size; simp; omega) (fun e => by have := hbs j e.symm; omega), Below.heap_alloc wr _ j (by have := hb.size; omega)]
                exact hb.block j hj
            case measure => simp [lenV]; omega
set_option maxHeartbeats 1000000 in
theorem rtrace (b : Nat) (r d : Int) (A : Nt) (V : Nat → Nat → Value) (w : World) (g : Good A) (hR : RN w b A V) :
    Calls Try.prog 89 #[.pointer (some ⟨b, 0, none⟩), .int .i64 r, .int .i64 d] w fun e w' => ∃ nv, e = .returned (.tuple #[nv, .int .i64 (traceE A r d)]) ∧ w'.ownsRow w.heap.size 3 1 nv (traceL A r d).length (ints (traceL A r d)) ∧ Below w.heap.size w w' := by
  by_cases h : isB A.n r = true ∧ isB A.n d = true
  · obtain ⟨r, rfl⟩ := Int.eq_ofNat_of_zero_le (isB_true h.1).1
    obtain ⟨d, rfl⟩ := Int.eq_ofNat_of_zero_le (isB_true h.2).1
    have e1 : traceE A r d = 0 := by unfold traceE; rw [if_pos h]
    have e2 : traceL A r d = trace A r d := by unfold traceL; rw [if_pos h]; rfl
    rw [e1, e2]
    exact rtrace_ok b r d A V w g hR (by have := (isB_true h.1).2; omega) (by have := (isB_true h.2).2; omega)
  · have e1 : traceE A r d = 2 := by unfold traceE; rw [if_neg h]
    have e2 : traceL A r d = [] := by unfold traceL; rw [if_neg h]
    have hN := hR.n
    rw [e1, e2]
    by_cases h1 : isB A.n r = true
    · have h2 : isB A.n d = false := by
        rcases Bool.eq_false_or_eq_true (isB A.n d) with e | e
        · exact absurd ⟨h1, e⟩ h
        · exact e
      go_enter Try.func89, Try.ntmps89
      go_wp2_with (go_at_call 113; refine (is_any b A.n _ _ hN).mono ?_; rintro e w' ⟨rfl, rfl⟩)
      go_ret2
      exact ⟨_, rfl, ⟨rfl, .inl ⟨rfl, rfl⟩⟩, Below.refl _ _⟩
    · have h1 : isB A.n r = false := by simpa using h1
      go_enter Try.func89, Try.ntmps89
      go_wp2_with (go_at_call 113; refine (is_any b A.n _ _ hN).mono ?_; rintro e w' ⟨rfl, rfl⟩)
      go_ret2
      exact ⟨_, rfl, ⟨rfl, .inl ⟨rfl, rfl⟩⟩, Below.refl _ _⟩
end Go.Proofs.Ytdoodnbobpijoaa
