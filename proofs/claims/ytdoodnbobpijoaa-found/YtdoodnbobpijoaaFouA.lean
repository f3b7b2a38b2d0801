import Derived.Test.YtdoodnbobpijoaaBunL
import Derived.Test.YtdoodnbobpijoaaBunL
import Derived.Test.YtdoodnbobpijoaaBunJ
import Derived.Test.YtdoodnbobpijoaaBunG
import Derived.Test.YtdoodnbobpijoaaBunH
import Derived.BigQuiet
namespace Go.Proofs.Ytdoodnbobpijoaa
open Go.RowKit

/-! ### Found -/
theorem list_trace {w : World} {B : Nat} {ρ : Nat → Part} {i bk bx bs : Nat} {A : Nt} {C : Nat → Nat → Int} {V : Nat → Nat → Value} (h : KN w B ρ i bk bx bs A C V) (r d : Nat) (hr : r < A.n) (hd : d < A.n) :
    Calls Try.prog 19 #[.pointer (some ⟨bx, 0, none⟩), .int .i64 r, .int .i64 d] w fun e w' => ∃ g cap, e = .returned (.tuple #[.slice (some ⟨g, 0, none⟩) (trace A r d).length cap, .int .i64 0]) ∧ g < w'.heap.size ∧ (∀ k, k < (trace A r d).length → w'.cell? ⟨g, k, none⟩ = some (I ((trace A r d).getD k 0 : Nat))) ∧ Below w.heap.size w w' := by
  refine (some_trace h r d hr hd).mono ?_
  rintro e w' ⟨nv, h1, h2, h3⟩
  obtain ⟨g, cap, hv, g1, g2, g3⟩ := row_at h2 (trOk h.g r d hr hd).pos
  refine ⟨g, cap, by rw [h1, hv], g2, fun k hk => ?_, h3⟩
  refine g3 k _ ?_
  unfold ints
  rw [List.getElem?_map, List.getElem?_eq_getElem hk, getD_at hk]; rfl
/-- A way, when all is quiet. -/
structure FoL (F : Nt) (n a b : Nat) (L : List Nat) : Prop where
  pos : 0 < L.length
  len : L.length ≤ n
  lt : ∀ k, k < L.length → L.getD k 0 < n
  lone : 1000 ≤ dist F.co a b → L.length = 1
  reach : dist F.co a b < 1000 → L.getD (L.length - 1) 0 = b ∧ sumUp F.co L (L.length - 1) = dist F.co a b
theorem found_list {F : Nt} {n : Nat} (h : Found F) (hn : F.n = n) (a b : Nat) (ha : a < n) (hb : b < n) : FoL F n a b (trace F a b) := by
  subst hn
  have t := trOk h.calm.good a b ha hb
  refine ⟨t.pos, t.len, t.lt, fun hf => by rw [h.lone a b ha hb hf]; rfl, fun hf => ?_⟩
  obtain ⟨h1, h2⟩ := h.reach a b ha hb hf
  refine ⟨?_, h2⟩
  have hp := t.pos
  rw [List.getLast?_eq_getElem?, List.getElem?_eq_getElem (by omega)] at h1
  rw [getD_at (by omega)]
  exact Option.some.inj h1
theorem sumUp_bd {A : Nt} (g : Good A) (L : List Nat) : ∀ j : Nat, 0 ≤ sumUp A.co L j ∧ sumUp A.co L j ≤ 9 * (j : Int)
  | 0 => ⟨Int.le_refl _, by show (0 : Int) ≤ _; omega⟩
  | j + 1 => by
    have h1 := sumUp_bd g L j
    have h2 := g.c0 (L.getD j 0) (L.getD (j + 1) 0)
    have h3 := g.c9 (L.getD j 0) (L.getD (j + 1) 0)
    show 0 ≤ sumUp A.co L j + _ ∧ sumUp A.co L j + _ ≤ _
    omega
attribute [local go_sem ↓] Go.wp_at_zero Go.wp_at_succ st25 alc25
attribute [local go_sem] vb_ptr vo_ptr cellsL_agg size_setCells
set_option maxHeartbeats 8000000 in
set_option maxRecDepth 100000 in
theorem found_any (w : World) (size : Int) (fs : Fits size) (sa : Option Addr) (len cap : Nat) (f : Nat → St) (hS : Scp w sa len f) :
    Calls Try.prog 7 #[.int .i64 size, .slice sa len cap] w fun e w' => e = .returned (.bool true) ∧ Below w.heap.size w w' := by
  obtain ⟨n, hn, n2, n5⟩ := size_pick size
  have KL : Hid (Calls Try.prog 14 #[.int .i64 size] w fun e w' => ∃ bk bx bs, e = .returned (.pointer (some ⟨bk, 0, none⟩)) ∧ PostK w.heap.size 0 (fun _ => (0, 0)) bk bx bs (laidN n) w w') := klaid size n fs.1 fs.2 hn (fun _ _ => rfl) (Nat.le_refl _)
  have HG : Hid (Tame (laidN n) 0 ∧ (laidN n).n = n) := ⟨laid_tame n n2 n5, (laid_good n n2 n5).2⟩
  have HS : Hid (Scp w sa len f) := hS
  clear hS hn fs
  go_enter Try.func7, Try.ntmps7
  go_wp2_with fail
  refine (KL.out).mono ?_
  rintro e w1 ⟨bk, bx, bs, rfl, ρ1, V1, q1, q2⟩
  clear KL
  have Q1 : Hid (KI w1 w.heap.size ρ1 0 bk bx bs (laidN n) V1) := q1
  have Q2 : Hid (Aft 0 (fun _ => (0, 0)) ρ1 w w1) := q2
  clear q1 q2
  go_wp2_with fail
  go_loopw [6] (fun v wr => ∃ k : Nat, k ≤ len ∧ k ≤ 150 ∧ v = .int .i64 k ∧ ∃ ρ' V', KI wr w.heap.size ρ' 0 bk bx bs (playF (laidN n) f k) V' ∧ Aft 0 (fun _ => (0, 0)) ρ' w wr) (fun v _ => 150 - (intOf v).toNat)
  case atStart => exact ⟨0, by omega, by omega, rfl, ρ1, V1, Q1.out, Q2.out⟩
  case round =>
    clear Q1 Q2
    obtain ⟨k, hk, hkm, rfl, ρ2, V2, q1, q2⟩ := hrel
    by_cases hgo : k < len ∧ k < 150
    · obtain ⟨hkl, hk1⟩ := hgo
      have hkl' : (k : Int) < (len : Int) := by omega
      have hk1' : (k : Int) < 150 := by omega
      have hk0 : (0 : Int) ≤ (k : Int) := by omega
      obtain ⟨sb, so, rfl, ⟨s0, s1, s2, s3⟩, ft⟩ := HS.out.at q2.all hkl
      have CX : Hid (Calls Try.prog 15 #[.pointer (some ⟨bk, 0, none⟩), .agg #[.int .i64 (f k).k, .int .i64 (f k).a, .int .i64 (f k).b, .int .i64 (f k).c]] wr fun e w' => e = .returned (.tuple #[]) ∧ PostK w.heap.size 0 ρ2 bk bx bs (playF (laidN n) f (k + 1)) wr w') := kdoes q1 q2.new q2.only.size (f k) ft
      have Q2 : Hid (Aft 0 (fun _ => (0, 0)) ρ2 w wr) := q2
      clear q1 q2 ft
      go_wp2_with (go_at_call 15; refine (CX.out).mono ?_; rintro e w2 ⟨rfl, ρ3, V3, t1, t2⟩)
      go_roundw
      case rel => exact ⟨k + 1, by omega, by omega, by go_num, ρ3, V3, t1, Q2.out.trans t2⟩
      case measure => simp [intOf]; omega
    · have hex : ¬ (k : Int) < (len : Int) ∨ ((k : Int) < (len : Int) ∧ ¬ (k : Int) < 150) := by omega
      have HTm : Hid (Tame (playF (laidN n) f k) (0 + (k : Int)) ∧ (playF (laidN n) f k).n = n) := ⟨playF_tame HG.out.1 f k, (playF_n HG.out.1.good f k).2.trans HG.out.2⟩
      have hk9 : (0 : Int) + (k : Int) < 900 := by omega
      have Q1 : Hid (KI wr w.heap.size ρ2 0 bk bx bs (playF (laidN n) f k) V2) := q1
      have Q2 : Hid (Aft 0 (fun _ => (0, 0)) ρ2 w wr) := q2
      clear q1 q2 hgo hkm hk
      generalize (playF (laidN n) f k) = P at *
      obtain ⟨wo, rfl⟩ : ∃ wo : World, wo = wr := ⟨_, rfl⟩
      rcases hex with hex | ⟨hex1, hex⟩
      all_goals (
        have CQ : Hid (Calls Try.prog 17 #[.pointer (some ⟨bk, 0, none⟩)] wo fun e w' => e = .returned (.bool true) ∧ PostK w.heap.size 0 ρ2 bk bx bs (quietN P) wo w') := kquiet Q1.out Q2.out.new Q2.out.only.size HTm.out.1 (by omega)
        have HF : Hid (Found (quietN P) ∧ (quietN P).n = n) := ⟨(quiet_found HTm.out.1 (by omega)).1, (quiet_found HTm.out.1 (by omega)).2.1.trans HTm.out.2⟩
        generalize quietN P = F at *
        have CF : Hid (∀ W ρ' V', KI W w.heap.size ρ' 0 bk bx bs F V' → Calls Try.prog 18 #[.pointer (some ⟨bk, 0, none⟩)] W fun e w' => e = .returned (.agg (matA (dist F.co))) ∧ Below W.heap.size W w') := fun W ρ' V' hK => kfar hK (fun a b => ⟨hK.g.c0 a b, hK.g.c9 a b⟩)
        go_wp2_with fail
        refine (CQ.out).mono ?_
        rintro e w2 ⟨rfl, ρ3, V3, t1, t2⟩
        have Q3 : Hid (KI w2 w.heap.size ρ3 0 bk bx bs F V3) := t1
        have Q4 : Hid (Below w.heap.size w w2) := (Q2.out.trans t2).all
        clear t1 t2 CQ Q1 Q2
        go_wp2_with fail
        refine (CF.out _ _ _ Q3.out).mono ?_
        rintro e w3 ⟨rfl, b3⟩
        have ag := aggOk_mat (dist F.co)
        have n0 := Whole.new w3 35 (matA fun _ _ => 0)
        have th := n0.there (matA_size _)
        have b4 : Below w3.heap.size w3 ((w3.alloc (.cells (matA fun _ _ => 0) 35)).setCells w3.heap.size 0 (matA (dist F.co)).toList) := Below.setCells ((Below.refl _ _).alloc (Nat.le_refl _) _) (Nat.le_refl _) _ _
        have D4 : Hid (Whole ((w3.alloc (.cells (matA fun _ _ => 0) 35)).setCells w3.heap.size 0 (matA (dist F.co)).toList) w3.heap.size 35 (matA (dist F.co))) := n0.over (matA (dist F.co)) rfl
        have K4 : Hid (KI ((w3.alloc (.cells (matA fun _ _ => 0) 35)).setCells w3.heap.size 0 (matA (dist F.co)).toList) w.heap.size ρ3 0 bk bx bs F V3) := (Q3.out.below b3).below b4
        have B4 : Hid (Below w.heap.size w ((w3.alloc (.cells (matA fun _ _ => 0) 35)).setCells w3.heap.size 0 (matA (dist F.co)).toList)) := (Q4.out.trans (b3.mono Q4.out.size)).trans (b4.mono (Nat.le_trans Q4.out.size b3.size))
        clear b3 b4 n0 Q3 Q4 CF
        obtain ⟨dB, hdB⟩ : ∃ dB, dB = w3.heap.size := ⟨_, rfl⟩
        go_wp2
        rw [← hdB] at D4 K4 B4 ⊢
        go_loopw [9] (fun v wr => ∃ a : Nat, a ≤ n ∧ v = .int .i64 a ∧ KI wr w.heap.size ρ3 0 bk bx bs F V3 ∧ Whole wr dB 35 (matA (dist F.co)) ∧ Below w.heap.size w wr) (fun v _ => n - (intOf v).toNat)
        case atStart => exact ⟨0, by omega, rfl, K4.out, D4.out, B4.out⟩
        case round =>
          clear K4 D4 B4 ag th hdB
          obtain ⟨a, ha, rfl, q1, q2, q3⟩ := hrel
          have c1 := q1.k1
          rw [HF.out.2] at c1
          by_cases han : a < n
          · have han' : (a : Int) < (n : Int) := by omega
            have ha5' : (a : Int) < 5 := by omega
            have K5 : Hid (KI wr w.heap.size ρ3 0 bk bx bs F V3) := q1
            have D5 : Hid (Whole wr dB 35 (matA (dist F.co))) := q2
            have B5 : Hid (Below w.heap.size w wr) := q3
            clear q1 q2 q3
            obtain ⟨wp, rfl⟩ : ∃ wp : World, wp = wr := ⟨_, rfl⟩
            go_wp2
            go_loopw [10] (fun v wr => ∃ b : Nat, b ≤ n ∧ v = .int .i64 b ∧ KI wr w.heap.size ρ3 0 bk bx bs F V3 ∧ Whole wr dB 35 (matA (dist F.co)) ∧ Below w.heap.size w wr) (fun v _ => n - (intOf v).toNat)
            case atStart => exact ⟨0, by omega, rfl, K5.out, D5.out, B5.out⟩
            case round =>
              clear K5 D5 B5 c1
              obtain ⟨b, hb, rfl, q1, q2, q3⟩ := hrel
              have c1 := q1.k1
              rw [HF.out.2] at c1
              by_cases hbn : b < n
              · have hbn' : (b : Int) < (n : Int) := by omega
                have hb5' : (b : Int) < 5 := by omega
                have c0 := q1.k0
                have CT : Hid (Calls Try.prog 19 #[.pointer (some ⟨bx, 0, none⟩), .int .i64 a, .int .i64 b] wr fun e w' => ∃ g cap, e = .returned (.tuple #[.slice (some ⟨g, 0, none⟩) (trace F a b).length cap, .int .i64 0]) ∧ g < w'.heap.size ∧ (∀ k, k < (trace F a b).length → w'.cell? ⟨g, k, none⟩ = some (I ((trace F a b).getD k 0 : Nat))) ∧ Below wr.heap.size wr w') := list_trace q1 a b (by rw [HF.out.2]; exact han) (by rw [HF.out.2]; exact hbn)
                have HL : Hid (FoL F n a b (trace F a b)) := found_list HF.out.1 HF.out.2 a b han hbn
                have K5 : Hid (KI wr w.heap.size ρ3 0 bk bx bs F V3) := q1
                have D5 : Hid (Whole wr dB 35 (matA (dist F.co))) := q2
                have B5 : Hid (Below w.heap.size w wr) := q3
                clear q1 q2 q3
                generalize trace F a b = L at *
                obtain ⟨m, hm⟩ : ∃ m, L.length = m + 1 := ⟨L.length - 1, by have := HL.out.pos; omega⟩
                rw [hm] at CT
                have hm4 : m + 1 ≤ 5 := by have := HL.out.len; omega
                have hlen1 : ¬ ((m + 1 : Nat) : Int) < 1 := by omega
                obtain ⟨wq, rfl⟩ : ∃ wq : World, wq = wr := ⟨_, rfl⟩
                go_wp2_with fail
                refine (CT.out).mono ?_
                rintro e w5 ⟨g, cap', rfl, g1, g2, b5⟩
                have K6 : Hid (KI w5 w.heap.size ρ3 0 bk bx bs F V3) := K5.out.below b5
                have D6 : Hid (Whole w5 dB 35 (matA (dist F.co))) := D5.out.below b5
                have B6 : Hid (Below w.heap.size w w5) := B5.out.trans (b5.mono B5.out.size)
                have G6 : Hid (∀ k, k < m + 1 → w5.cell? ⟨g, k, none⟩ = some (I (L.getD k 0 : Nat))) := g2
                clear g1 g2 b5 K5 D5 B5 CT c0 c1
                have hb1 : decide (((m + 1 : Nat) : Int) < 1) = false := decide_eq_false (by omega)
                go_wp2_with fail
                obtain ⟨w6, hw6⟩ : ∃ w6 : World, w6 = w5 := ⟨_, rfl⟩
                have SM : Hid (∀ u : World, Sim w5 u → KI u w.heap.size ρ3 0 bk bx bs F V3 ∧ (∀ k, k < m + 1 → u.cell? ⟨g, k, none⟩ = some (I (L.getD k 0 : Nat)))) := fun u hu => ⟨K6.out.of (fun k _ _ => by rw [hu.heap]) (fun _ _ => rfl), fun k hk => by rw [World.cell?_of_block (w := w5) (by rw [hu.heap])]; exact G6.out k hk⟩
                go_loopw [13, 14] (fun s v wr => ∃ j : Nat, j ≤ m ∧ v = .int .i64 (j + 1 : Nat) ∧ s = .int .i64 (sumUp F.co L j) ∧ Sim w5 wr) (fun _ v _ => 10 - (intOf v).toNat)
                case atStart => exact ⟨0, by omega, rfl, rfl, ⟨rfl, rfl, rfl, rfl⟩⟩
                case round =>
                  obtain ⟨j, hj, rfl, rfl, hsim⟩ := hrel
                  obtain ⟨k5, g5⟩ := SM.out wr hsim
                  have HSm : Hid (Sim w5 wr) := hsim
                  by_cases hjm : j < m
                  · have hjm' : ((j + 1 : Nat) : Int) < ((m + 1 : Nat) : Int) := by omega
                    have hsb := sumUp_bd k5.g L j
                    have hstep : Hid (sumUp F.co L (j + 1) = sumUp F.co L j + F.co (L.getD j 0) (L.getD (j + 1) 0)) := rfl
                    have l1 := HL.out.lt j (by omega)
                    have l2 := HL.out.lt (j + 1) (by omega)
                    have e1 := g5 j (by omega)
                    have e2 := g5 (j + 1) (by omega)
                    have e3 := k5.kc (L.getD j 0) (L.getD (j + 1) 0) (by omega) (by omega)
                    have h9 := k5.g.c9 (L.getD j 0) (L.getD (j + 1) 0)
                    have h0 := k5.g.c0 (L.getD j 0) (L.getD (j + 1) 0)
                    have hjs : ((j + 1 : Nat) : Int) - 1 = (j : Int) := by omega
                    generalize L.getD j 0 = y1 at *
                    generalize L.getD (j + 1) 0 = y2 at *
                    have l1' : (y1 : Int) < 5 := by omega
                    have l2' : (y2 : Int) < 5 := by omega
                    have hj0 : (0 : Int) ≤ (j : Int) := by omega
                    have hjl : (j : Int) < ((m + 1 : Nat) : Int) := by omega
                    generalize F.co y1 y2 = cc at *
                    generalize sumUp F.co L j = ss at *
                    obtain ⟨hs0, hs1⟩ := hsb
                    clear hsim k5 g5
                    go_wp2_with fail
                    go_quiet (fail)
                    go_wp2
                    go_roundw
                    case rel => exact ⟨j + 1, by omega, by go_num, by rw [hstep.out], ⟨HSm.out.heap, HSm.out.os, HSm.out.tape, HSm.out.output⟩⟩
                    case measure => simp [intOf]; omega
                  · have hjm' : ¬ ((j + 1 : Nat) : Int) < ((m + 1 : Nat) : Int) := by omega
                    have e : j = m := by omega
                    subst e
                    have K7 : Hid (KI wr w.heap.size ρ3 0 bk bx bs F V3 ∧ Whole wr dB 35 (matA (dist F.co)) ∧ Below w.heap.size w wr) := ⟨k5, D6.out.of (by rw [hsim.heap]), B6.out.trans (hsim.below _)⟩
                    have d1 : wr.cell? ⟨dB, a * 5 + b, none⟩ = some (I (dist F.co a b)) := K7.out.2.1.matc a b (by omega) (by omega)
                    have e1 := g5 j (by omega)
                    have hjs : ((j + 1 : Nat) : Int) - 1 = (j : Int) := by omega
                    have hj0 : (0 : Int) ≤ (j : Int) := by omega
                    have hjl : (j : Int) < ((j + 1 : Nat) : Int) := by omega
                    clear k5 g5 hsim
                    by_cases hfar : 1000 ≤ dist F.co a b
                    · have hone := HL.out.lone hfar
                      have e : j = 0 := by omega
                      subst e
                      have hf' : ¬ dist F.co a b < 1000 := by omega
                      generalize dist F.co a b = dd at *
                      go_wp2
                      go_roundw
                      case rel => exact ⟨b + 1, by omega, by go_num, K7.out⟩
                      case measure => simp [intOf]; omega
                    · have hf' : dist F.co a b < 1000 := by omega
                      obtain ⟨hl, hsum⟩ := HL.out.reach hf'
                      rw [hm, Nat.add_sub_cancel] at hl hsum
                      rw [hsum]
                      rw [hl] at e1
                      generalize dist F.co a b = dd at *
                      go_wp2
                      go_roundw
                      case rel => exact ⟨b + 1, by omega, by go_num, K7.out⟩
                      case measure => simp [intOf]; omega
              · have hbn' : ¬ (b : Int) < (n : Int) := by omega
                have K5 : Hid (KI wr w.heap.size ρ3 0 bk bx bs F V3 ∧ Whole wr dB 35 (matA (dist F.co)) ∧ Below w.heap.size w wr) := ⟨q1, q2, q3⟩
                clear q1 q2 q3
                go_wp2
                go_roundw
                case rel => exact ⟨a + 1, by omega, by go_num, K5.out⟩
                case measure => simp [intOf]; omega
          · have han' : ¬ (a : Int) < (n : Int) := by omega
            have B5 : Hid (Below w.heap.size w wr) := q3
            clear q1 q2 q3
            go_wp2
            go_ret
            exact ⟨rfl, B5.out⟩)
end Go.Proofs.Ytdoodnbobpijoaa
