import Derived.Test.YtdoodnbobpijoaaBunN
import Derived.Test.YtdoodnbobpijoaaAbsF
import Derived.Test.YtdoodnbobpijoaaWk
import Derived.BigRegion
import Derived.Test.YtdoodnbobpijoaaBunH
import Derived.BigQuiet
import Derived.Test.YtdoodnbobpijoaaRows
import Derived.Carry
namespace Go.Proofs.Ytdoodnbobpijoaa
open Go.RowKit

/-! ### Quiet -/
theorem bump_goes {A : Nt} {s : Int} (h : Tame A s) (hs : s < 1000) (k : Nat) (hk : k < A.n) : bumpE (bumpTo (wokenN A) k) k = 0 ∧ bumpC (bumpTo (wokenN A) k) k = bumpTo (wokenN A) (k + 1) := by
  obtain ⟨w1, w2, w3, w4⟩ := woken_ok h
  obtain ⟨b1, b2, b3, b4, b5⟩ := bumpTo_ok w1.good (fun r hr => by rw [w2] at hr; have := w4 r hr; omega) k (by rw [w2]; omega)
  have hu : upE (bumpTo (wokenN A) k) k = 0 := upE_nat (by rw [b2, w2]; exact hk) (by rw [(b5 k).1]; exact w1.up k (by rw [w2]; exact hk))
  have hE : bumpE (bumpTo (wokenN A) k) k = 0 := by
    unfold bumpE
    rw [if_neg (by rw [hu]; simp), Int.toNat_natCast, (b5 k).2.2, if_neg (Nat.lt_irrefl k), if_neg]
    have := w4 k hk
    omega
  refine ⟨hE, ?_⟩
  unfold bumpC
  rw [if_pos hE, Int.toNat_natCast]; rfl
theorem quiet_mid {A : Nt} {s : Int} (h : Tame A s) (hs : s < 1000) : (bumpTo (wokenN A) A.n).n = A.n ∧ ∀ k, Calm (roundsN (bumpTo (wokenN A) A.n) k) ∧ (roundsN (bumpTo (wokenN A) A.n) k).n = A.n := by
  obtain ⟨w1, w2, w3, w4⟩ := woken_ok h
  obtain ⟨b1, b2, b3, b4, b5⟩ := bumpTo_ok w1.good (fun r hr => by rw [w2] at hr; have := w4 r hr; omega) (wokenN A).n (Nat.le_refl _)
  rw [w2] at b1 b2 b3 b4 b5
  have q : Calm (bumpTo (wokenN A) A.n) := ⟨b1, fun r hr => by rw [(b5 r).1]; exact w1.up r (by rw [w2]; rw [b2] at hr; exact hr), fun x y => by rw [b4]; exact w1.wa x y, fun x y => by rw [b3]; exact w1.c5 x y⟩
  refine ⟨b2, fun k => ?_⟩
  obtain ⟨r1, r2, r3, r4, r5⟩ := rounds_ok q (fun d hd => by
    rw [b2] at hd
    rw [(b5 d).2.1, (b5 d).2.2, if_pos hd]
    have := w1.good.sq d (by rw [w2]; exact hd)
    omega) k
  exact ⟨r1, r2.trans b2⟩
section
variable {w : World} {B : Nat} {ρ : Nat → Part} {i bk bx bs : Nat} {A : Nt} {V : Nat → Nat → Value}
set_option maxHeartbeats 4000000 in
theorem kquiet (h : KI w B ρ i bk bx bs A V) (hn : ∀ k, w.heap.size ≤ k → ρ k = (0, 0)) (hB : B ≤ w.heap.size) {s : Int} (ht : Tame A s) (hs : s < 1000) :
    Calls Try.prog 17 #[.pointer (some ⟨bk, 0, none⟩)] w fun e w' => e = .returned (.bool true) ∧ PostK B i ρ bk bx bs (quietN A) w w' := by
  have g0 : Hid (Good A) := h.g
  have n5 := h.g.n5
  have aR := Aft.below (i := i) (Below.refl w.heap.size w) hn
  have HT : Hid (Tame A s) := ht
  have HR : Hid (∀ k, k ≤ A.n → (restTo A k).n = A.n) := fun k hk => (restTo_ok h.g k hk).1.n
  have HW : Hid ((wokenN A).n = A.n) := (woken_ok ht).2.1
  have HBm : Hid (∀ k, k < A.n → bumpE (bumpTo (wokenN A) k) k = 0 ∧ bumpC (bumpTo (wokenN A) k) k = bumpTo (wokenN A) (k + 1)) := fun k hk => bump_goes ht hs k hk
  have HBn : Hid (∀ k, k ≤ A.n → (bumpTo (wokenN A) k).n = A.n) := fun k hk => by
    obtain ⟨w1, w2, w3, w4⟩ := woken_ok ht
    exact ((bumpTo_ok w1.good (fun r hr => by rw [w2] at hr; have := w4 r hr; omega) k (by rw [w2]; omega)).2.1).trans w2
  have HM : Hid (∀ k, Calm (roundsN (bumpTo (wokenN A) A.n) k) ∧ (roundsN (bumpTo (wokenN A) A.n) k).n = A.n) := (quiet_mid ht hs).2
  have HQ : Hid (quietN A = roundsN (bumpTo (wokenN A) A.n) (A.n + 2)) := rfl
  have HRa : Hid (allN (restTo A A.n) = wokenN A) := rfl
  clear ht
  go_enter Try.func17, Try.ntmps17
  go_wp2
  go_loopw [3] (fun v wr => ∃ k : Nat, k ≤ A.n ∧ v = .int .i64 k ∧ ∃ ρ' V', KI wr B ρ' i bk bx bs (restTo A k) V' ∧ Aft i ρ ρ' w wr) (fun v _ => A.n - (intOf v).toNat)
  case atStart => exact ⟨0, by omega, rfl, ρ, V, h, aR⟩
  case round =>
    clear h aR
    obtain ⟨k, hk, rfl, ρ1, V1, q1, q2⟩ := hrel
    have c1 := q1.k1
    rw [HR.out k hk] at c1
    by_cases hkn : k < A.n
    · have hkn' : (k : Int) < (A.n : Int) := by omega
      have c0 := q1.k0
      have CX : Hid (Calls Try.prog 21 #[.pointer (some ⟨bx, 0, none⟩), .int .i64 k] wr fun e w' => e = .returned (.int .i64 (restartE (restTo A k) k)) ∧ PostK B i ρ1 bk bx bs (restTo A (k + 1)) wr w') := krestart q1 q2.new k
      have Q2 : Hid (Aft i ρ ρ1 w wr) := q2
      clear q1 q2
      go_wp2_with (go_at_call 21; refine (CX.out).mono ?_; rintro e w1 ⟨rfl, ρ2, V2, t1, t2⟩)
      go_roundw
      case rel => exact ⟨k + 1, by omega, by go_num, ρ2, V2, t1, Q2.out.trans t2⟩
      case measure => simp [intOf]; omega
    · have hkn' : ¬ (k : Int) < (A.n : Int) := by omega
      have e : k = A.n := by omega
      subst e
      have CX : Hid (Calls Try.prog 32 #[.pointer (some ⟨bk, 0, none⟩)] wr fun e w' => e = .returned (.tuple #[]) ∧ PostK B i ρ1 bk bx bs (wokenN A) wr w') := kall q1 q2.new
      have Q2 : Hid (Aft i ρ ρ1 w wr) := q2
      clear q1 q2
      obtain ⟨wo, rfl⟩ : ∃ wo : World, wo = wr := ⟨_, rfl⟩
      go_wp2_with (go_at_call 32; refine (CX.out).mono ?_; rintro e w1 ⟨rfl, ρ2, V2, t1, t2⟩; have T1 : Hid (KI w1 B ρ2 i bk bx bs (wokenN A) V2) := t1; have T2 : Hid (Aft i ρ ρ2 w w1) := Q2.out.trans t2; clear t1 t2)
      go_loopw [4] (fun v wr => ∃ k : Nat, k ≤ A.n ∧ v = .int .i64 k ∧ ∃ ρ' V', KI wr B ρ' i bk bx bs (bumpTo (wokenN A) k) V' ∧ Aft i ρ ρ' w wr) (fun v _ => A.n - (intOf v).toNat)
      case atStart => exact ⟨0, by omega, rfl, ρ2, V2, T1.out, T2.out⟩
      case round =>
        clear T1 T2
        obtain ⟨k, hk, rfl, ρ3, V3, q1, q2⟩ := hrel
        have c1 := q1.k1
        rw [HBn.out k hk] at c1
        by_cases hkn : k < A.n
        · have hkn' : (k : Int) < (A.n : Int) := by omega
          have c0 := q1.k0
          have CX : Hid (Calls Try.prog 43 #[.pointer (some ⟨bx, 0, none⟩), .int .i64 k] wr fun e w' => e = .returned (.int .i64 0) ∧ PostK B i ρ3 bk bx bs (bumpTo (wokenN A) (k + 1)) wr w') := by
            have := kbump q1 q2.new k
            rw [(HBm.out k hkn).1, (HBm.out k hkn).2] at this
            exact this
          have Q2 : Hid (Aft i ρ ρ3 w wr) := q2
          clear q1 q2
          go_wp2_with (go_at_call 43; refine (CX.out).mono ?_; rintro e w1 ⟨rfl, ρ4, V4, t1, t2⟩)
          go_roundw
          case rel => exact ⟨k + 1, by omega, by go_num, ρ4, V4, t1, Q2.out.trans t2⟩
          case measure => simp [intOf]; omega
        · have hkn' : ¬ (k : Int) < (A.n : Int) := by omega
          have e : k = A.n := by omega
          subst e
          have Q1 : Hid (KI wr B ρ3 i bk bx bs (bumpTo (wokenN A) A.n) V3) := q1
          have Q2 : Hid (Aft i ρ ρ3 w wr) := q2
          clear q1 q2
          generalize bumpTo (wokenN A) A.n = M at *
          obtain ⟨wo, rfl⟩ : ∃ wo : World, wo = wr := ⟨_, rfl⟩
          go_wp2
          go_loopw [6] (fun v wr => ∃ k : Nat, k ≤ A.n + 2 ∧ v = .int .i64 k ∧ ∃ ρ' V', KI wr B ρ' i bk bx bs (roundsN M k) V' ∧ Aft i ρ ρ' w wr) (fun v _ => A.n + 2 - (intOf v).toNat)
          case atStart => exact ⟨0, by omega, rfl, ρ3, V3, Q1.out, Q2.out⟩
          case round =>
            clear Q1 Q2
            obtain ⟨k, hk, rfl, ρ4, V4, q1, q2⟩ := hrel
            have c1 := q1.k1
            rw [(HM.out k).2] at c1
            by_cases hkn : k < A.n + 2
            · have hkn' : (k : Int) < (A.n : Int) + 2 := by omega
              have Q1 : Hid (KI wr B ρ4 i bk bx bs (roundsN M k) V4) := q1
              have Q2 : Hid (Aft i ρ ρ4 w wr) := q2
              have HD : Hid (∀ j, j ≤ A.n → (dumps (roundsN M k) j).n = A.n ∧ ∀ r, r < A.n → ((dumps (roundsN M k) j).rs r).dn = false) := fun j hj => by
                obtain ⟨d1, d2, d3, d4, _⟩ := dumps_ok (HM.out k).1 j (by rw [(HM.out k).2]; exact hj)
                exact ⟨d2.trans (HM.out k).2, fun r hr => by rw [d4]; exact (HM.out k).1.up r (by rw [(HM.out k).2]; exact hr)⟩
              have HN : Hid (roundsN M (k + 1) = allN (dumps (roundsN M k) A.n)) := by
                show allN (dumps (roundsN M k) (roundsN M k).n) = _
                rw [(HM.out k).2]
              clear q1 q2
              generalize roundsN M k = R at *
              obtain ⟨wp, rfl⟩ : ∃ wp : World, wp = wr := ⟨_, rfl⟩
              go_wp2
              go_loopw [7] (fun v wr => ∃ j : Nat, j ≤ A.n ∧ v = .int .i64 j ∧ ∃ ρ' V', KI wr B ρ' i bk bx bs (dumps R j) V' ∧ Aft i ρ ρ' w wr) (fun v _ => A.n - (intOf v).toNat)
              case atStart => exact ⟨0, by omega, rfl, ρ4, V4, Q1.out, Q2.out⟩
              case round =>
                clear Q1 Q2
                obtain ⟨j, hj, rfl, ρ5, V5, q1, q2⟩ := hrel
                have c1 := q1.k1
                rw [(HD.out j hj).1] at c1
                have z1 : B ≤ wr.heap.size := Nat.le_trans hB q2.only.size
                by_cases hjn : j < A.n
                · have hjn' : (j : Int) < (A.n : Int) := by omega
                  have CX : Hid (Calls Try.prog 26 #[.pointer (some ⟨bk, 0, none⟩), .int .i64 j] wr fun e w' => e = .returned (.bool true) ∧ PostK B i ρ5 bk bx bs (dumps R (j + 1)) wr w') := kdumps q1 q2.new z1 j (by rw [(HD.out j hj).1]; exact hjn) ((HD.out j hj).2 j hjn)
                  have Q2 : Hid (Aft i ρ ρ5 w wr) := q2
                  clear q1 q2
                  go_wp2_with (go_at_call 26; refine (CX.out).mono ?_; rintro e w1 ⟨rfl, ρ6, V6, t1, t2⟩)
                  go_roundw
                  case rel => exact ⟨j + 1, by omega, by go_num, ρ6, V6, t1, Q2.out.trans t2⟩
                  case measure => simp [intOf]; omega
                · have hjn' : ¬ (j : Int) < (A.n : Int) := by omega
                  have e : j = A.n := by omega
                  subst e
                  have CX : Hid (Calls Try.prog 32 #[.pointer (some ⟨bk, 0, none⟩)] wr fun e w' => e = .returned (.tuple #[]) ∧ PostK B i ρ5 bk bx bs (roundsN M (k + 1)) wr w') := by
                    have := kall q1 q2.new
                    rw [← HN.out] at this
                    exact this
                  have Q2 : Hid (Aft i ρ ρ5 w wr) := q2
                  clear q1 q2
                  go_wp2_with (go_at_call 32; refine (CX.out).mono ?_; rintro e w1 ⟨rfl, ρ6, V6, t1, t2⟩)
                  go_roundw
                  case rel => exact ⟨k + 1, by omega, by go_num, ρ6, V6, t1, Q2.out.trans t2⟩
                  case measure => simp [intOf]; omega
            · have hkn' : ¬ (k : Int) < (A.n : Int) + 2 := by omega
              have e : k = A.n + 2 := by omega
              subst e
              have Q1 : Hid (KI wr B ρ4 i bk bx bs (quietN A) V4) := by rw [HQ.out]; exact q1
              have Q2 : Hid (Aft i ρ ρ4 w wr) := q2
              clear q1 q2
              go_wp2
              go_ret
              exact ⟨rfl, ρ4, V4, Q1.out, Q2.out⟩
end
end Go.Proofs.Ytdoodnbobpijoaa

namespace Go.Proofs.Ytdoodnbobpijoaa

/-! ### How far it is, reckoned in place -/
/-- In round k, behind what is ahead of (a, b). -/
def fwIn (C : Nat → Nat → Int) (k a b : Nat) : Nat → Nat → Int := fun x y => if x < a ∨ (x = a ∧ y < b) then fwN C (k + 1) x y else fwN C k x y
theorem fwIn_zero (C : Nat → Nat → Int) (k : Nat) : fwIn C k 0 0 = fwN C k := by
  funext x y
  unfold fwIn
  rw [if_neg (by omega)]
theorem fwN_col (C : Nat → Nat → Int) (k x : Nat) : fwN C (k + 1) x k = fwN C k x k := by
  rw [fwN_succ, fwN_diag]; omega
theorem fwN_row (C : Nat → Nat → Int) (k y : Nat) : fwN C (k + 1) k y = fwN C k k y := by
  rw [fwN_succ, fwN_diag]; omega
theorem fwIn_col (C : Nat → Nat → Int) (k a b x : Nat) : fwIn C k a b x k = fwN C k x k := by
  unfold fwIn; split
  · exact fwN_col C k x
  · rfl
theorem fwIn_row (C : Nat → Nat → Int) (k a b y : Nat) : fwIn C k a b k y = fwN C k k y := by
  unfold fwIn; split
  · exact fwN_row C k y
  · rfl
/-- One place more. -/
theorem fwIn_step (C : Nat → Nat → Int) (k a b : Nat) : (fun x y => if x = a ∧ y = b then min (fwIn C k a b a b) (fwIn C k a b a k + fwIn C k a b k b) else fwIn C k a b x y) = fwIn C k a (b + 1) := by
  funext x y
  by_cases e : x = a ∧ y = b
  · obtain ⟨rfl, rfl⟩ := e
    show (if x = x ∧ y = y then _ else _) = _
    rw [if_pos ⟨rfl, rfl⟩, fwIn_col, fwIn_row]
    unfold fwIn
    rw [if_neg (by omega), if_pos (by omega), fwN_succ]
  · show (if x = a ∧ y = b then _ else _) = _
    rw [if_neg e]
    unfold fwIn
    by_cases h : x < a ∨ (x = a ∧ y < b)
    · rw [if_pos h, if_pos (by omega)]
    · rw [if_neg h, if_neg (by omega)]
/-- A row more, a round more (of those places that there are). -/
theorem fwIn_next (C : Nat → Nat → Int) (k a x y : Nat) (hy : y < 5) : fwIn C k a 5 x y = fwIn C k (a + 1) 0 x y := by
  unfold fwIn
  by_cases h : x < a ∨ (x = a ∧ y < 5)
  · rw [if_pos h, if_pos (by omega)]
  · rw [if_neg h, if_neg (by omega)]
theorem fwIn_round (C : Nat → Nat → Int) (k x y : Nat) (hx : x < 5) : fwIn C k 5 0 x y = fwN C (k + 1) x y := by
  unfold fwIn
  rw [if_pos (by omega)]
end Go.Proofs.Ytdoodnbobpijoaa

namespace Go.Proofs.Ytdoodnbobpijoaa
open Go.RowKit

/-! ### Five by five numbers -/
def matA (M : Nat → Nat → Int) : Array Value := #[I (M 0 0), I (M 0 1), I (M 0 2), I (M 0 3), I (M 0 4), I (M 1 0), I (M 1 1), I (M 1 2), I (M 1 3), I (M 1 4), I (M 2 0), I (M 2 1), I (M 2 2), I (M 2 3), I (M 2 4), I (M 3 0), I (M 3 1), I (M 3 2), I (M 3 3), I (M 3 4), I (M 4 0), I (M 4 1), I (M 4 2), I (M 4 3), I (M 4 4)]
theorem five_cases {p : Nat → Prop} (h0 : p 0) (h1 : p 1) (h2 : p 2) (h3 : p 3) (h4 : p 4) : ∀ a, a < 5 → p a := fun a ha => by
  rcases (by omega : a = 0 ∨ a = 1 ∨ a = 2 ∨ a = 3 ∨ a = 4) with rfl | rfl | rfl | rfl | rfl
  · exact h0
  · exact h1
  · exact h2
  · exact h3
  · exact h4
theorem matA_at (M : Nat → Nat → Int) : ∀ a, a < 5 → ∀ b, b < 5 → (matA M)[a * 5 + b]? = some (I (M a b)) := by
  apply five_cases <;> apply five_cases <;> rfl
theorem matA_set (M : Nat → Nat → Int) (v : Int) : ∀ a, a < 5 → ∀ b, b < 5 → (matA M).setIfInBounds (a * 5 + b) (I v) = matA (fun x y => if x = a ∧ y = b then v else M x y) := by
  apply five_cases <;> apply five_cases <;> rfl
theorem matA_congr {M N : Nat → Nat → Int} (h : ∀ a, a < 5 → ∀ b, b < 5 → M a b = N a b) : matA M = matA N := by
  unfold matA
  rw [h 0 (by omega) 0 (by omega), h 0 (by omega) 1 (by omega), h 0 (by omega) 2 (by omega), h 0 (by omega) 3 (by omega), h 0 (by omega) 4 (by omega), h 1 (by omega) 0 (by omega), h 1 (by omega) 1 (by omega), h 1 (by omega) 2 (by omega), h 1 (by omega) 3 (by omega), h 1 (by omega) 4 (by omega), h 2 (by omega) 0 (by omega), h 2 (by omega) 1 (by omega), h 2 (by omega) 2 (by omega), h 2 (by omega) 3 (by omega), h 2 (by omega) 4 (by omega), h 3 (by omega) 0 (by omega), h 3 (by omega) 1 (by omega), h 3 (by omega) 2 (by omega), h 3 (by omega) 3 (by omega), h 3 (by omega) 4 (by omega), h 4 (by omega) 0 (by omega), h 4 (by omega) 1 (by omega), h 4 (by omega) 2 (by omega), h 4 (by omega) 3 (by omega), h 4 (by omega) 4 (by omega)]
theorem matA_size (M : Nat → Nat → Int) : (matA M).size = 25 := rfl
end Go.Proofs.Ytdoodnbobpijoaa

namespace Go.Proofs.Ytdoodnbobpijoaa
open Go.RowKit

/-! ### How far it is, walked -/
theorem al25 (w : World) : (Instr.alloc 35 true (.tuple #[])).run Try.prog w = .ok (.pointer (some ⟨w.heap.size, 0, none⟩)) (w.alloc (.cells (matA fun _ _ => 0) 35)) := by kernel_rfl
theorem size25 : (Try.prog.info? 35).map (·.size) = some 25 := by kernel_rfl
theorem ld25 (w : World) (ρ : Operand → Value) (x : Operand) (ds : Option Tmp) (ty : TypeId) (ps : String) (af : Array Edge) (g : Option (Nat × Bool))
    (h1 : ρ x = .pointer (some ⟨vb (ρ x), vo (ρ x), none⟩)) (h2 : MidOk w (vb (ρ x)) (vo (ρ x)) 25) :
    (execOp ρ { dst := ds, op := .load 35 x, type := ty, pos := ps, after := af, guard := g }).run Try.prog w = .ok (.value (.agg (midA w (vb (ρ x)) (vo (ρ x)) 25))) w :=
  load_rule Try.underlying35 rfl size25 w ρ x ds ty ps af g h1 h2
theorem st25 (w : World) (ρ : Operand → Value) (x y : Operand) (ds : Option Tmp) (ty : TypeId) (ps : String) (af : Array Edge) (g : Option (Nat × Bool))
    (h1 : ρ x = .pointer (some ⟨vb (ρ x), vo (ρ x), none⟩)) (h3 : AggOk 25 (ρ y)) (h2 : w.there (vb (ρ x)) (vo (ρ x)) 25) :
    (execOp ρ { dst := ds, op := .store 35 x y, type := ty, pos := ps, after := af, guard := g }).run Try.prog w = .ok .skip (w.setCells (vb (ρ x)) (vo (ρ x)) (cellsL (ρ y))) :=
  store_rule size25 w ρ x y ds ty ps af g h1 h3 h2
theorem alc25 (w : World) (ρ : Operand → Value) (ds : Option Tmp) (ty : TypeId) (ps : String) (af : Array Edge) (g : Option (Nat × Bool)) :
    (execOp ρ { dst := ds, op := .alloc 35, type := ty, pos := ps, after := af, guard := g }).run Try.prog w = .ok (.value (.pointer (some ⟨w.heap.size, 0, none⟩))) (w.alloc (.cells (matA fun _ _ => 0) 35)) :=
  alloc_rule al25 w ρ ds ty ps af g
theorem aggOk_mat (M : Nat → Nat → Int) : AggOk 25 (.agg (matA M)) := ⟨rfl, rfl, by simp [Value.cells, matA, Value.oneCell', I]⟩
theorem fwN_le (C : Nat → Nat → Int) (h : ∀ a b, C a b ≤ 9) (k a b : Nat) : fwN C k a b ≤ 1000 := by
  have h0 := fwN_mono C 0 k a b
  rw [Nat.zero_add] at h0
  have h1 : fwN C 0 a b = fw0 C a b := rfl
  have h2 := h a b
  unfold fw0 at h1
  split at h1
  · omega
  · split at h1 <;> omega
/-- The beginning. -/
def iniM (C : Nat → Nat → Int) (a b : Nat) : Nat → Nat → Int := fun x y => if x < a then fw0 C x y else if x = a ∧ y < b then (if 0 < C x y then C x y else 1000) else 0
theorem ini_zero (C : Nat → Nat → Int) : matA (iniM C 0 0) = matA fun _ _ => 0 := matA_congr fun x _ y _ => by
  show (if x < 0 then _ else if x = 0 ∧ y < 0 then _ else _) = _
  rw [if_neg (by omega), if_neg (by omega)]
theorem ini_set (C : Nat → Nat → Int) (a b : Nat) (v : Int) (hv : v = if 0 < C a b then C a b else 1000) : (fun x y => if x = a ∧ y = b then v else iniM C a b x y) = iniM C a (b + 1) := by
  funext x y
  show (if x = a ∧ y = b then v else if x < a then fw0 C x y else if x = a ∧ y < b then _ else _) = if x < a then fw0 C x y else if x = a ∧ y < b + 1 then _ else _
  by_cases e : x = a ∧ y = b
  · obtain ⟨rfl, rfl⟩ := e
    rw [if_pos ⟨rfl, rfl⟩, if_neg (by omega), if_pos ⟨rfl, by omega⟩]; exact hv
  · rw [if_neg e]
    by_cases h1 : x < a
    · rw [if_pos h1, if_pos h1]
    · rw [if_neg h1, if_neg h1]
      by_cases h2 : x = a ∧ y < b
      · rw [if_pos h2]
        have h3 : x = a ∧ y < b + 1 := ⟨h2.1, by omega⟩
        simp only [h3, and_self, if_true]
      · have h3 : ¬ (x = a ∧ y < b + 1) := by omega
        rw [if_neg h2, if_neg h3]
theorem set_set (M : Nat → Nat → Int) (a b : Nat) (u v : Int) : (fun x y => if x = a ∧ y = b then v else (fun x y => if x = a ∧ y = b then u else M x y) x y) = fun x y => if x = a ∧ y = b then v else M x y := by
  funext x y
  show (if x = a ∧ y = b then v else if x = a ∧ y = b then u else M x y) = _
  by_cases e : x = a ∧ y = b
  · rw [if_pos e, if_pos e]
  · rw [if_neg e, if_neg e, if_neg e]
theorem ini_row (C : Nat → Nat → Int) (a : Nat) : matA (fun x y => if x = a ∧ y = a then 0 else iniM C a 5 x y) = matA (iniM C (a + 1) 0) := matA_congr fun x _ y hy => by
  show (if x = a ∧ y = a then 0 else if x < a then fw0 C x y else if x = a ∧ y < 5 then (if 0 < C x y then C x y else 1000) else 0) = if x < a + 1 then fw0 C x y else if x = a + 1 ∧ y < 0 then _ else 0
  by_cases e : x = a ∧ y = a
  · obtain ⟨rfl, rfl⟩ := e
    rw [if_pos ⟨rfl, rfl⟩, if_pos (by omega)]; unfold fw0; rw [if_pos rfl]
  · rw [if_neg e]
    by_cases h1 : x < a
    · rw [if_pos h1, if_pos (by omega)]
    · rw [if_neg h1]
      by_cases h2 : x = a
      · subst h2
        have h3 : x < x + 1 := by omega
        have h4 : ¬ x = y := by omega
        simp only [hy, h3, and_self, if_true, fw0, h4, if_false]
      · have h3 : ¬ (x = a ∧ y < 5) := by omega
        have h4 : ¬ x < a + 1 := by omega
        have h5 : ¬ (x = a + 1 ∧ y < 0) := by omega
        rw [if_neg h3, if_neg h4, if_neg h5]
theorem ini_end (C : Nat → Nat → Int) : matA (iniM C 5 0) = matA (fwN C 0) := matA_congr fun x hx y _ => by
  show (if x < 5 then _ else _) = _
  rw [if_pos hx]; rfl
theorem Whole.mat {w : World} {b : Nat} {t : TypeId} {M : Nat → Nat → Int} (h : Whole w b t (matA M)) (x y : Nat) (hx : x < 5) (hy : y < 5) (v : Int) : Whole (w.setCell ⟨b, x * 5 + y, none⟩ (I v)) b t (matA fun x' y' => if x' = x ∧ y' = y then v else M x' y') := by
  have := h.setAt (x * 5 + y) (I v)
  rw [matA_set M v x hx y hy] at this
  exact this
theorem Whole.matc {w : World} {b : Nat} {t : TypeId} {M : Nat → Nat → Int} (h : Whole w b t (matA M)) (x y : Nat) (hx : x < 5) (hy : y < 5) : w.cell? ⟨b, x * 5 + y, none⟩ = some (I (M x y)) := by
  rw [h.cell, matA_at M x hx y hy]
section
variable {w : World} {B : Nat} {ρ : Nat → Part} {i bk bx bs : Nat} {A : Nt} {C : Nat → Nat → Int} {V : Nat → Nat → Value}
attribute [local go_sem ↓] Go.wp_at_zero Go.wp_at_succ ld25 st25 alc25
attribute [local go_sem] vb_ptr vo_ptr cellsL_agg size_setCells
set_option maxHeartbeats 4000000 in
set_option maxRecDepth 100000 in
theorem kfar (h : KN w B ρ i bk bx bs A C V) (hC : ∀ a b, 0 ≤ C a b ∧ C a b ≤ 9) :
    Calls Try.prog 18 #[.pointer (some ⟨bk, 0, none⟩)] w fun e w' => e = .returned (.agg (matA (dist C))) ∧ Below w.heap.size w w' := by
  have H : Hid (KN w B ρ i bk bx bs A C V) := h
  have lk := h.lt
  clear h
  have n0 := (Whole.new w 35 (matA fun _ _ => 0)).alloc (.cells (matA fun _ _ => 0) 35)
  have n1 := Whole.new (w.alloc (.cells (matA fun _ _ => 0) 35)) 35 (matA fun _ _ => 0)
  simp only [World.size_alloc] at n1
  have hb : Below w.heap.size w ((w.alloc (.cells (matA fun _ _ => 0) 35)).alloc (.cells (matA fun _ _ => 0) 35)) := ((Below.refl _ _).alloc (Nat.le_refl _) _).alloc (by simp) _
  have N0 : Hid (Whole ((w.alloc (.cells (matA fun _ _ => 0) 35)).alloc (.cells (matA fun _ _ => 0) 35)) w.heap.size 35 (matA fun _ _ => 0)) := n0
  have N1 : Hid (Whole ((w.alloc (.cells (matA fun _ _ => 0) 35)).alloc (.cells (matA fun _ _ => 0) 35)) (w.heap.size + 1) 35 (matA fun _ _ => 0)) := n1
  have HB : Hid (Below w.heap.size w ((w.alloc (.cells (matA fun _ _ => 0) 35)).alloc (.cells (matA fun _ _ => 0) 35))) := hb
  clear n0 n1 hb
  have hne : w.heap.size ≠ w.heap.size + 1 := by omega
  have hle : w.heap.size ≤ w.heap.size + 1 := by omega
  have hkd : bk ≠ w.heap.size + 1 := by omega
  go_enter Try.func18, Try.ntmps18
  go_wp2
  go_loopw [4] (fun v wr => ∃ a : Nat, a ≤ 5 ∧ v = .int .i64 a ∧ Whole wr w.heap.size 35 (matA fun _ _ => 0) ∧ Whole wr (w.heap.size + 1) 35 (matA (iniM C a 0)) ∧ Below w.heap.size w wr) (fun v _ => 5 - (intOf v).toNat)
  case atStart => exact ⟨0, by omega, rfl, N0.out, by rw [ini_zero]; exact N1.out, HB.out⟩
  case round =>
    clear N0 N1 HB
    obtain ⟨a, ha, rfl, q0, q1, q2⟩ := hrel
    by_cases ha5 : a < 5
    · have ha' : (a : Int) < 5 := by omega
      have Q0 : Hid (Whole wr w.heap.size 35 (matA fun _ _ => 0)) := q0
      have Q1 : Hid (Whole wr (w.heap.size + 1) 35 (matA (iniM C a 0))) := q1
      have Q2 : Hid (Below w.heap.size w wr) := q2
      clear q0 q1 q2
      obtain ⟨wo, rfl⟩ : ∃ wo : World, wo = wr := ⟨_, rfl⟩
      go_wp2
      go_loopw [5] (fun v wr => ∃ b : Nat, b ≤ 5 ∧ v = .int .i64 b ∧ Whole wr w.heap.size 35 (matA fun _ _ => 0) ∧ Whole wr (w.heap.size + 1) 35 (matA (iniM C a b)) ∧ Below w.heap.size w wr) (fun v _ => 5 - (intOf v).toNat)
      case atStart => exact ⟨0, by omega, rfl, Q0.out, Q1.out, Q2.out⟩
      case round =>
        clear Q0 Q1 Q2
        obtain ⟨b, hb, rfl, q0, q1, q2⟩ := hrel
        have f1 := q1.frozen
        by_cases hb5 : b < 5
        · have hb' : (b : Int) < 5 := by omega
          have d1 := q1.matc a b ha5 hb5
          have r1 := q1.mat a b ha5 hb5 1000
          have d2 := r1.matc a b ha5 hb5
          have c1 : (wr.setCell ⟨w.heap.size + 1, a * 5 + b, none⟩ (I 1000)).cell? ⟨bk, 2 + a * 5 + b, none⟩ = some (I (C a b)) := by
            rw [World.cell?_of_block (heap_setCell_other _ _ _ _ hkd)]
            exact (H.out.below q2).kc a b ha5 hb5
          have P0 : Hid (Whole (wr.setCell ⟨w.heap.size + 1, a * 5 + b, none⟩ (I 1000)) w.heap.size 35 (matA fun _ _ => 0)) := q0.setCell (p := ⟨w.heap.size + 1, a * 5 + b, none⟩) hne _
          have P1 : Hid (Whole (wr.setCell ⟨w.heap.size + 1, a * 5 + b, none⟩ (I 1000)) (w.heap.size + 1) 35 (matA fun x' y' => if x' = a ∧ y' = b then 1000 else iniM C a b x' y')) := r1
          have P2 : Hid (Below w.heap.size w (wr.setCell ⟨w.heap.size + 1, a * 5 + b, none⟩ (I 1000))) := q2.setCell (p := ⟨w.heap.size + 1, a * 5 + b, none⟩) hle _
          have hI := ini_set C a b
          have f2 := r1.frozen
          clear q0 q1 q2 r1
          by_cases hc : 0 < C a b
          · have HI : Hid ((fun x y => if x = a ∧ y = b then C a b else iniM C a b x y) = iniM C a (b + 1)) := hI _ (by rw [if_pos hc])
            clear hI
            go_wp2
            go_region
            go_wp2
            go_roundw
            case rel =>
              refine ⟨b + 1, by omega, by go_num, (P0.out.setCell (p := ⟨w.heap.size + 1, a * 5 + b, none⟩) hne _).drew, ?_, (P2.out.setCell (p := ⟨w.heap.size + 1, a * 5 + b, none⟩) hle _).drew⟩
              have := P1.out.mat a b ha5 hb5 (C a b)
              rw [set_set, HI.out] at this
              exact this.drew
            case measure => simp [intOf]; omega
          · have HI : Hid ((fun x y => if x = a ∧ y = b then 1000 else iniM C a b x y) = iniM C a (b + 1)) := hI _ (by rw [if_neg hc])
            clear hI
            go_wp2
            go_roundw
            case rel =>
              refine ⟨b + 1, by omega, by go_num, P0.out, ?_, P2.out⟩
              have := P1.out
              rw [HI.out] at this
              exact this
            case measure => simp [intOf]; omega
        · have e : b = 5 := by omega
          subst e
          have d1 := q1.matc a a ha5 ha5
          have r1 := q1.mat a a ha5 ha5 0
          rw [ini_row] at r1
          have P0 : Hid (Whole (wr.setCell ⟨w.heap.size + 1, a * 5 + a, none⟩ (I 0)) w.heap.size 35 (matA fun _ _ => 0)) := q0.setCell (p := ⟨w.heap.size + 1, a * 5 + a, none⟩) hne _
          have P1 : Hid (Whole (wr.setCell ⟨w.heap.size + 1, a * 5 + a, none⟩ (I 0)) (w.heap.size + 1) 35 (matA (iniM C (a + 1) 0))) := r1
          have P2 : Hid (Below w.heap.size w (wr.setCell ⟨w.heap.size + 1, a * 5 + a, none⟩ (I 0))) := q2.setCell (p := ⟨w.heap.size + 1, a * 5 + a, none⟩) hle _
          clear q0 q1 q2 r1
          go_wp2
          go_roundw
          case rel => exact ⟨a + 1, by omega, by go_num, P0.out, P1.out, P2.out⟩
          case measure => simp [intOf]; omega
    · have e : a = 5 := by omega
      subst e
      rw [ini_end] at q1
      have Q0 : Hid (Whole wr w.heap.size 35 (matA fun _ _ => 0)) := q0
      have Q1 : Hid (Whole wr (w.heap.size + 1) 35 (matA (fwN C 0))) := q1
      have Q2 : Hid (Below w.heap.size w wr) := q2
      clear q0 q1 q2
      obtain ⟨wo, rfl⟩ : ∃ wo : World, wo = wr := ⟨_, rfl⟩
      go_wp2
      go_loopw [6] (fun v wr => ∃ k : Nat, k ≤ 5 ∧ v = .int .i64 k ∧ Whole wr w.heap.size 35 (matA fun _ _ => 0) ∧ Whole wr (w.heap.size + 1) 35 (matA (fwN C k)) ∧ Below w.heap.size w wr) (fun v _ => 5 - (intOf v).toNat)
      case atStart => exact ⟨0, by omega, rfl, Q0.out, Q1.out, Q2.out⟩
      case round =>
        clear Q0 Q1 Q2
        obtain ⟨k, hk, rfl, q0, q1, q2⟩ := hrel
        by_cases hk5 : k < 5
        · have hk' : (k : Int) < 5 := by omega
          have Q0 : Hid (Whole wr w.heap.size 35 (matA fun _ _ => 0)) := q0
          have Q1 : Hid (Whole wr (w.heap.size + 1) 35 (matA (fwIn C k 0 0))) := by rw [fwIn_zero]; exact q1
          have Q2 : Hid (Below w.heap.size w wr) := q2
          clear q0 q1 q2
          obtain ⟨wp, rfl⟩ : ∃ wp : World, wp = wr := ⟨_, rfl⟩
          go_wp2
          go_loopw [7] (fun v wr => ∃ a : Nat, a ≤ 5 ∧ v = .int .i64 a ∧ Whole wr w.heap.size 35 (matA fun _ _ => 0) ∧ Whole wr (w.heap.size + 1) 35 (matA (fwIn C k a 0)) ∧ Below w.heap.size w wr) (fun v _ => 5 - (intOf v).toNat)
          case atStart => exact ⟨0, by omega, rfl, Q0.out, Q1.out, Q2.out⟩
          case round =>
            clear Q0 Q1 Q2
            obtain ⟨a, ha, rfl, q0, q1, q2⟩ := hrel
            by_cases ha5 : a < 5
            · have ha' : (a : Int) < 5 := by omega
              have Q0 : Hid (Whole wr w.heap.size 35 (matA fun _ _ => 0)) := q0
              have Q1 : Hid (Whole wr (w.heap.size + 1) 35 (matA (fwIn C k a 0))) := q1
              have Q2 : Hid (Below w.heap.size w wr) := q2
              clear q0 q1 q2
              obtain ⟨wq, rfl⟩ : ∃ wq : World, wq = wr := ⟨_, rfl⟩
              go_wp2
              go_loopw [8] (fun v wr => ∃ b : Nat, b ≤ 5 ∧ v = .int .i64 b ∧ Whole wr w.heap.size 35 (matA fun _ _ => 0) ∧ Whole wr (w.heap.size + 1) 35 (matA (fwIn C k a b)) ∧ Below w.heap.size w wr) (fun v _ => 5 - (intOf v).toNat)
              case atStart => exact ⟨0, by omega, rfl, Q0.out, Q1.out, Q2.out⟩
              case round =>
                clear Q0 Q1 Q2
                obtain ⟨b, hb, rfl, q0, q1, q2⟩ := hrel
                by_cases hb5 : b < 5
                · have hb' : (b : Int) < 5 := by omega
                  have d1 := q1.matc a b ha5 hb5
                  have d2 := q1.matc a k ha5 hk5
                  have d3 := q1.matc k b hk5 hb5
                  have f1 := q1.frozen
                  have HI : Hid ((fun x y => if x = a ∧ y = b then min (fwIn C k a b a b) (fwIn C k a b a k + fwIn C k a b k b) else fwIn C k a b x y) = fwIn C k a (b + 1)) := fwIn_step C k a b
                  have g2 : 0 ≤ fwIn C k a b a k ∧ fwIn C k a b a k ≤ 1000 := by rw [fwIn_col]; exact ⟨fwN_nonneg C k a k, fwN_le C (fun a b => (hC a b).2) k a k⟩
                  have g3 : 0 ≤ fwIn C k a b k b ∧ fwIn C k a b k b ≤ 1000 := by rw [fwIn_row]; exact ⟨fwN_nonneg C k k b, fwN_le C (fun a b => (hC a b).2) k k b⟩
                  have Q0 : Hid (Whole wr w.heap.size 35 (matA fun _ _ => 0)) := q0
                  have Q1 : Hid (Whole wr (w.heap.size + 1) 35 (matA (fwIn C k a b))) := q1
                  have Q2 : Hid (Below w.heap.size w wr) := q2
                  clear q0 q1 q2
                  generalize fwIn C k a b a b = x1 at *
                  generalize fwIn C k a b a k = x2 at *
                  generalize fwIn C k a b k b = x3 at *
                  obtain ⟨g2, g2'⟩ := g2
                  obtain ⟨g3, g3'⟩ := g3
                  go_wp2
                  go_region
                  go_wp2
                  go_roundw
                  case rel =>
                    refine ⟨b + 1, by omega, by go_num, (Q0.out.setCell (p := ⟨w.heap.size + 1, a * 5 + b, none⟩) hne _).drew, ?_, (Q2.out.setCell (p := ⟨w.heap.size + 1, a * 5 + b, none⟩) hle _).drew⟩
                    have hmin : min x1 (x2 + x3) = if x2 + x3 < x1 then x2 + x3 else x1 := by split <;> omega
                    have := Q1.out.mat a b ha5 hb5 (min x1 (x2 + x3))
                    rw [HI.out, hmin] at this
                    exact this.drew
                  case measure => simp [intOf]; omega
                · have e : b = 5 := by omega
                  subst e
                  have Q1 : Hid (Whole wr (w.heap.size + 1) 35 (matA (fwIn C k (a + 1) 0))) := by rw [← matA_congr fun x _ y hy => fwIn_next C k a x y hy]; exact q1
                  have Q0 : Hid (Whole wr w.heap.size 35 (matA fun _ _ => 0)) := q0
                  have Q2 : Hid (Below w.heap.size w wr) := q2
                  clear q0 q1 q2
                  go_wp2
                  go_roundw
                  case rel => exact ⟨a + 1, by omega, by go_num, Q0.out, Q1.out, Q2.out⟩
                  case measure => simp [intOf]; omega
            · have e : a = 5 := by omega
              subst e
              have Q1 : Hid (Whole wr (w.heap.size + 1) 35 (matA (fwN C (k + 1)))) := by rw [← matA_congr fun x hx y _ => fwIn_round C k x y hx]; exact q1
              have Q0 : Hid (Whole wr w.heap.size 35 (matA fun _ _ => 0)) := q0
              have Q2 : Hid (Below w.heap.size w wr) := q2
              clear q0 q1 q2
              go_wp2
              go_roundw
              case rel => exact ⟨k + 1, by omega, by go_num, Q0.out, Q1.out, Q2.out⟩
              case measure => simp [intOf]; omega
        · have e : k = 5 := by omega
          subst e
          obtain ⟨j1, j2⟩ := q1.mid (matA_size _)
          have j3 := q0.there (matA_size _)
          have ag := aggOk_mat (fwN C 5)
          have Q0 : Hid (Whole wr w.heap.size 35 (matA fun _ _ => 0)) := q0
          have Q2 : Hid (Below w.heap.size w wr) := q2
          clear q0 q1 q2
          go_wp2
          refine bodyPost_ret (v := .agg (matA (dist C))) (results_cell0 (t := 35) rfl _ _ w.heap.size (matA (dist C)) rfl (Q0.out.over (matA (dist C)) rfl) _ Try.underlying35 rfl (by rw [size25]; rfl)) rfl ⟨rfl, Below.setCells Q2.out (Nat.le_refl _) _ _⟩
end
end Go.Proofs.Ytdoodnbobpijoaa

namespace Go.Proofs.Ytdoodnbobpijoaa
open Go.RowKit

/-- A number of Go. -/
def Fits (k : Int) : Prop := -9223372036854775808 ≤ k ∧ k ≤ 9223372036854775807
/-- What the walk of a step wants. -/
theorem does_head {w : World} {B : Nat} {ρ : Nat → Part} {i bk bx bs : Nat} {A : Nt} {V : Nat → Nat → Value} (h : KI w B ρ i bk bx bs A V) (hn : ∀ k, w.heap.size ≤ k → ρ k = (0, 0)) (hB : B ≤ w.heap.size) (k a b c : Int) (fk : Fits k) (fa : Fits a) (fb : Fits b) (fc : Fits c) :
    ∃ kk x y, DoH w B ρ i bk bx bs A V k a b c kk x y ∧ (0 ≤ kk ∧ kk < 20) ∧ doesN A ⟨k, a, b, c⟩ = stepN A kk (x : Nat) (y : Nat) c := by
  have b0 := WS_below w k a b c
  have n0 : (0 : Int) < (A.n : Int) := by have := h.g.n2; omega
  have pa := pickI_ok a A.n n0
  have pb := pickI_ok b A.n n0
  have ea : pickI a A.n = ((pickI a A.n).toNat : Int) := by omega
  have eb : pickI b A.n = ((pickI b A.n).toNat : Int) := by omega
  refine ⟨pickI k 20, (pickI a A.n).toNat, (pickI b A.n).toNat, ⟨h.below b0, fun j hj => hn j (Nat.le_trans b0.size hj), hn, Nat.le_trans hB b0.size, rfl, ea, eb, by omega, by omega, fk, fa, fb, fc⟩, pickI_ok k 20 (by omega), ?_⟩
  unfold doesN
  rw [← ea, ← eb]
end Go.Proofs.Ytdoodnbobpijoaa

namespace Go.Proofs.Ytdoodnbobpijoaa
open Go.ChangeShapes Go.WideShapes Go.ChangeAt Go.RowKit Go.Deep

theorem Try.cellsStep : Try.prog.cellsOf 31 = 4 := by kernel_rfl
theorem list_four {α : Type} : ∀ (l : List α), l.length = 4 → ∃ a b c d, l = [a, b, c, d]
  | [a, b, c, d], _ => ⟨a, b, c, d, rfl⟩
  | [], h => by simp at h
  | [_], h => by simp at h
  | [_, _], h => by simp at h
  | [_, _, _], h => by simp at h
  | _ :: _ :: _ :: _ :: _ :: _, h => by simp at h
theorem fieldsStep : ∃ fs : Array Field, Try.prog.underlying 31 = some (.struct fs) ∧ fs.size = 4 ∧ ∀ i, i < 4 → ∃ f, fs[i]? = some f ∧ f.type = 3 ∧ f.offset = i := by
  refine ⟨_, Try.underlying31, rfl, fun i hi => ?_⟩
  rcases i with _ | _ | _ | _ | i
  · exact ⟨_, rfl, rfl, rfl⟩
  · exact ⟨_, rfl, rfl, rfl⟩
  · exact ⟨_, rfl, rfl, rfl⟩
  · exact ⟨_, rfl, rfl, rfl⟩
  · omega
/-- A raw step, opened: four numbers. -/
theorem open_step {H : Type} {enc : TypeId × Value → H} {w : World} {base : Nat} {spare : Nat → Bool} {held : Bool} {n : Nat} {cs : List Value} {x : DataW H × List MemPlace}
    (h : DataW.trod enc Try.prog w base spare held n 31 cs = some x) : ∃ s : St, cs = [.int .i64 s.k, .int .i64 s.a, .int .i64 s.b, .int .i64 s.c] ∧ Fits s.k ∧ Fits s.a ∧ Fits s.b ∧ Fits s.c := by
  obtain ⟨fs, hu, hsz, hfs⟩ := fieldsStep
  obtain ⟨xs, m, _, _, hl, hx, hf⟩ := DataW.trod_struct hu h
  rw [Try.cellsStep] at hl
  obtain ⟨c0, c1, c2, c3, rfl⟩ := list_four cs hl
  have g : ∀ i, i < 4 → ∃ v : Int, (([c0, c1, c2, c3] : List Value).drop i).take 1 = [.int .i64 v] ∧ Fits v := fun i hi => by
    obtain ⟨f, h1, h2, h3⟩ := hfs i hi
    have := hf i f h1
    rw [h2, h3, Try.cellsI, List.getElem?_eq_getElem (by omega)] at this
    obtain ⟨v, e, _, wv⟩ := DataW.trod_int Try.underlying3 this
    exact ⟨v, e, bounds_i64 wv⟩
  obtain ⟨k, e0, w0⟩ := g 0 (by omega)
  obtain ⟨a, e1, w1⟩ := g 1 (by omega)
  obtain ⟨b, e2, w2⟩ := g 2 (by omega)
  obtain ⟨c, e3, w3⟩ := g 3 (by omega)
  simp at e0 e1 e2 e3
  subst e0 e1 e2 e3
  exact ⟨⟨k, a, b, c⟩, rfl, w0, w1, w2, w3⟩
/-- Raw steps, as they lie in memory. -/
structure Ste (w : World) (sb so len : Nat) (f : Nat → St) : Prop where
  at_ : ∀ i, i < len → w.cell? ⟨sb, so + i * 4, none⟩ = some (.int .i64 (f i).k) ∧ w.cell? ⟨sb, so + i * 4 + 1, none⟩ = some (.int .i64 (f i).a) ∧ w.cell? ⟨sb, so + i * 4 + 2, none⟩ = some (.int .i64 (f i).b) ∧ w.cell? ⟨sb, so + i * 4 + 3, none⟩ = some (.int .i64 (f i).c)
  fits : ∀ i, i < len → Fits (f i).k ∧ Fits (f i).a ∧ Fits (f i).b ∧ Fits (f i).c
theorem Ste.of {w w' : World} {sb so len : Nat} {f : Nat → St} (h : Ste w sb so len f) (hb : w'.heap[sb]? = w.heap[sb]?) : Ste w' sb so len f :=
  ⟨fun i hi => by
    have hc : ∀ o, w'.cell? ⟨sb, o, none⟩ = w.cell? ⟨sb, o, none⟩ := fun o => World.cell?_of_block (w := w) hb
    rw [hc, hc, hc, hc]; exact h.at_ i hi, h.fits⟩
theorem open_steps {H : Type} {enc : TypeId × Value → H} {W : World} {spare : Nat → Bool} {held : Bool} {a0 : Option Addr} {len cap : Nat} {d0 : DataW H} {p : List MemPlace} (h0 : ∃ n, DataW.trod enc Try.prog W 0 spare held n 26 (Value.slice a0 len cap).cells.toList = some (d0, p)) :
    len = 0 ∨ ∃ ab ao, a0 = some ⟨ab, ao, none⟩ ∧ ∃ f, Ste W ab ao len f := by
  obtain ⟨fuel, hf⟩ := h0
  rcases open_slice Try.underlying26 hf with ⟨hcs, _⟩ | ⟨a, l, c, m, n, D, Pq, hcs, _, hl, hm, hmm, hx, hel⟩
  · simp [Value.cells] at hcs
    exact .inl hcs.2.1
  · simp [Value.cells] at hcs
    obtain ⟨rfl, rfl, rfl⟩ := hcs
    by_cases hl0 : len = 0
    · exact .inl hl0
    · refine .inr ?_
      obtain ⟨ab, ao, asp⟩ := a
      rw [Try.cellsStep] at hel
      have hlm : len ≤ m := by
        have hq : m = if spare ab = true then cap else len := by simpa using hmm
        rw [hq]; split <;> omega
      have hops : ∀ i, i < len → ∃ t : St, (∀ j, j < 4 → W.cell? (((⟨ab, ao, asp⟩ : Addr).add (i * 4)).add j) = ([.int .i64 t.k, .int .i64 t.a, .int .i64 t.b, .int .i64 t.c] : List Value)[j]?) ∧ Fits t.k ∧ Fits t.a ∧ Fits t.b ∧ Fits t.c := fun i hi => by
        obtain ⟨cs', h1, h2⟩ := hel i (by omega)
        obtain ⟨s, rfl, ws⟩ := open_step h2
        exact ⟨s, (World.cells?_some h1).2.2, ws⟩
      have hin : Inhabited St := ⟨⟨0, 0, 0, 0⟩⟩
      obtain ⟨F, hF⟩ := choose_lt hops
      have hsp : asp = none := by
        have := (hF 0 (by omega)).1 0 (by omega)
        have := World.cell?_spot (this.trans rfl)
        simpa [Addr.add] using this
      subst hsp
      have hc : ∀ i, i < len → ∀ j, j < 4 → W.cell? ⟨ab, ao + i * 4 + j, none⟩ = ([.int .i64 (F i).k, .int .i64 (F i).a, .int .i64 (F i).b, .int .i64 (F i).c] : List Value)[j]? := fun i hi j hj => by
        have := (hF i hi).1 j hj
        rw [Addr.add_mid, Addr.add_mid] at this
        exact this
      exact ⟨ab, ao, rfl, F, fun i hi => ⟨(hc i hi 0 (by omega)).trans rfl, (hc i hi 1 (by omega)).trans rfl, (hc i hi 2 (by omega)).trans rfl, (hc i hi 3 (by omega)).trans rfl⟩, fun i hi => (hF i hi).2⟩
end Go.Proofs.Ytdoodnbobpijoaa

namespace Go.Proofs.Ytdoodnbobpijoaa
open Go.ChangeShapes Go.WideShapes Go.ChangeAt Go.RowKit Go.Deep

/-! ### A script of raw steps, played -/
def playF (A : Nt) (f : Nat → St) : Nat → Nt
  | 0 => A
  | k + 1 => doesN (playF A f k) (f k)
theorem playF_tame {A : Nt} {s : Int} (h : Tame A s) (f : Nat → St) : ∀ k : Nat, Tame (playF A f k) (s + k)
  | 0 => by simpa [playF] using h
  | k + 1 => by
    have := (playF_tame h f k).does (f k)
    rw [show s + ((k + 1 : Nat) : Int) = s + (k : Int) + 1 by omega]
    exact this
theorem playF_n {A : Nt} (g : Good A) (f : Nat → St) : ∀ k, Good (playF A f k) ∧ (playF A f k).n = A.n
  | 0 => ⟨g, rfl⟩
  | k + 1 => by
    have ih := playF_n g f k
    have s := Steps.does ih.1 (f k)
    exact ⟨s.good, s.n.trans ih.2⟩
section
variable {w : World} {B : Nat} {ρ : Nat → Part} {i bk bx bs : Nat} {A : Nt} {V : Nat → Nat → Value}
theorem kdoes (h : KI w B ρ i bk bx bs A V) (hn : ∀ k, w.heap.size ≤ k → ρ k = (0, 0)) (hB : B ≤ w.heap.size) (s : St) (fs : Fits s.k ∧ Fits s.a ∧ Fits s.b ∧ Fits s.c) :
    Calls Try.prog 15 #[.pointer (some ⟨bk, 0, none⟩), .agg #[.int .i64 s.k, .int .i64 s.a, .int .i64 s.b, .int .i64 s.c]] w fun e w' => e = .returned (.tuple #[]) ∧ PostK B i ρ bk bx bs (doesN A s) w w' := by
  obtain ⟨kk, x, y, h1, h2, h3⟩ := does_head h hn hB s.k s.a s.b s.c fs.1 fs.2.1 fs.2.2.1 fs.2.2.2
  have e : doesN A s = stepN A kk (x : Nat) (y : Nat) s.c := h3
  rw [e]
  exact does_some h1 h2.2
end
/-- No block is a net's: what was there stays. -/
theorem Aft.all {i : Nat} {ρ' : Nat → Part} {w w' : World} (h : Aft i (fun _ => (0, 0)) ρ' w w') : Below w.heap.size w w' :=
  ⟨h.only.os, h.only.tape, h.only.output, h.only.size, fun k hk => h.only.block k hk (by simp)⟩
/-- The net at the head of a script, with its number of routers. -/
theorem size_pick (size : Int) : ∃ n : Nat, 2 + pickI size 4 = (n : Int) ∧ 2 ≤ n ∧ n ≤ 5 := by
  have hp := pickI_ok size 4 (by omega)
  exact ⟨(2 + pickI size 4).toNat, by omega, by omega, by omega⟩
theorem who_pick (who : Int) (n : Nat) (h : 0 < n) : ∃ r : Nat, pickI who n = (r : Int) ∧ r < n := by
  have hp := pickI_ok who n (by omega)
  exact ⟨(pickI who n).toNat, by omega, by omega⟩
/-- The script: nothing, or raw steps that lie in memory. -/
def Scp (w : World) (sa : Option Addr) (len : Nat) (f : Nat → St) : Prop := len = 0 ∨ ∃ sb so, sa = some ⟨sb, so, none⟩ ∧ sb < w.heap.size ∧ Ste w sb so len f
theorem Scp.at {w w' : World} {sa : Option Addr} {len k : Nat} {f : Nat → St} (h : Scp w sa len f) (hb : Below w.heap.size w w') (hk : k < len) : ∃ sb so, sa = some ⟨sb, so, none⟩ ∧ (w'.cell? ⟨sb, so + k * 4, none⟩ = some (.int .i64 (f k).k) ∧ w'.cell? ⟨sb, so + k * 4 + 1, none⟩ = some (.int .i64 (f k).a) ∧ w'.cell? ⟨sb, so + k * 4 + 2, none⟩ = some (.int .i64 (f k).b) ∧ w'.cell? ⟨sb, so + k * 4 + 3, none⟩ = some (.int .i64 (f k).c)) ∧ (Fits (f k).k ∧ Fits (f k).a ∧ Fits (f k).b ∧ Fits (f k).c) := by
  rcases h with h | ⟨sb, so, e, hsb, h⟩
  · omega
  · exact ⟨sb, so, e, (h.of (hb.block sb hsb)).at_ k hk, h.fits k hk⟩
theorem open_int {H : Type} {enc : TypeId × Value → H} {W : World} {spare : Nat → Bool} {held : Bool} {n : Int} {d : DataW H} {p : List MemPlace} (h : DataW.Trod enc Try.prog W 0 spare held 3 (.int .i64 n) d p) : Fits n := by
  obtain ⟨m, hm⟩ := h
  obtain ⟨x, e, _, wf⟩ := DataW.trod_int Try.underlying3 hm
  have hx : n = x := by simpa [Value.cells] using e
  rw [hx]; exact bounds_i64 wf
theorem open_scp {H : Type} {enc : TypeId × Value → H} {W : World} {spare : Nat → Bool} {held : Bool} {a0 : Option Addr} {len cap : Nat} {d0 : DataW H} {p : List MemPlace} (h0 : ∃ n, DataW.trod enc Try.prog W 0 spare held n 26 (Value.slice a0 len cap).cells.toList = some (d0, p)) : ∃ f, Scp W a0 len f := by
  by_cases hl : len = 0
  · exact ⟨fun _ => ⟨0, 0, 0, 0⟩, .inl hl⟩
  · rcases open_steps h0 with h | ⟨ab, ao, e, f, hf⟩
    · exact absurd h hl
    · exact ⟨f, .inr ⟨ab, ao, e, lt_of_cell (hf.at_ 0 (by omega)).1, hf⟩⟩
end Go.Proofs.Ytdoodnbobpijoaa

namespace Go.Proofs.Ytdoodnbobpijoaa
open Go.RowKit

/-! ### What the rows' loops want of the pure half -/
theorem Tame.restart {A : Nt} {s : Int} (h : Tame A s) (r : Nat) : Tame (restartC A r) (s + 1) := by
  have := h.step 18 r 0 0
  simpa [stepN] using this
theorem tick_goes {A : Nt} {r : Nat} (h : Good A ∧ r < A.n ∧ (A.rs r).dn = false) (j : Nat) : upE (tickTo A r j) r = 0 ∧ tickC (tickTo A r j) r = tickTo A r (j + 1) := by
  obtain ⟨g, hr, hd⟩ := h
  obtain ⟨t1, t2, t3, t4, t5⟩ := tickTo_ok g r j
  have hu : upE (tickTo A r j) r = 0 := upE_nat (by rw [t2]; exact hr) (by rw [t5]; exact hd)
  refine ⟨hu, ?_⟩
  unfold tickC
  rw [if_pos hu, Int.toNat_natCast]; rfl
theorem tickTo_sq (A : Nt) (r j : Nat) : ∀ k, ((tickTo A r k).rs j).t.sq = (A.rs j).t.sq
  | 0 => rfl
  | k + 1 => by
    show ((tickN (tickTo A r k) r).rs j).t.sq = _
    by_cases e : j = r
    · subst e; rw [tickN_same]; exact tickTo_sq A j j k
    · rw [tickN_other _ _ _ e]; exact tickTo_sq A r j k
theorem tickTo_tame {A : Nt} {s : Int} (h : Tame A s) (r k : Nat) : Tame (tickTo A r k) s := by
  obtain ⟨t1, t2, t3, t4, t5⟩ := tickTo_ok h.good r k
  exact ⟨t1, fun j hj => by rw [tickTo_sq]; exact h.sq j (by rw [← t2]; exact hj), fun a b => by rw [t3]; exact h.c5 a b⟩
theorem aged_eq {A : Nt} {r n : Nat} (hA : A.n = n) (h3 : (tickTo A r 3).n = n) : agedN A r = lastTo (dumpTill (tickTo (allN (restTo (tickTo A r 3) n)) r 3) r) r n := by
  unfold agedN wokenN
  rw [hA, h3]
theorem aged_facts {A : Nt} {s : Int} {r n : Nat} (h : Tame A s) (hA : A.n = n) (hr : r < n) : (∀ j, j < n → ((agedN A r).rs j).dn = false) ∧ (∀ d, (((agedN A r).rs r).t.ro d).nx < 0) ∧ (∀ y d, y < n → y ≠ r → d ≠ r → (((agedN A r).rs y).t.ro d).nx ≠ r) ∧ (agedN A r).n = n ∧ Good (agedN A r) := by
  subst hA
  obtain ⟨a1, a2, a3, a4, a5⟩ := aged h r hr
  exact ⟨a3, a4, a5, a2, a1⟩
theorem woken_at {M : Nt} {s : Int} {n : Nat} (h : Tame M s) (hn : M.n = n) : Calm (allN (restTo M n)) ∧ (allN (restTo M n)).n = n := by
  subst hn
  obtain ⟨w1, w2, _⟩ := woken_ok h
  exact ⟨w1, w2⟩
theorem last_ok {D : Nt} {r n : Nat} (g : Good D) (hn : D.n = n) : ∀ b, Good (lastTo D r b) ∧ (lastTo D r b).n = n
  | 0 => ⟨g, hn⟩
  | b + 1 => by
    obtain ⟨i1, i2⟩ := last_ok (r := r) g hn b
    have s := Steps.deliver i1 (r : Int) (b : Int) (((lastTo D r b).wa r b).length - 1 : Int)
    exact ⟨s.good, s.n.trans i2⟩
theorem last_zero (D : Nt) (r b : Nat) (h : waitN (lastTo D r b) r b = 0) : lastTo D r (b + 1) = lastTo D r b := by
  show deliverC (lastTo D r b) r (b : Nat) (((lastTo D r b).wa r b).length - 1 : Int) = _
  generalize lastTo D r b = M at *
  unfold deliverC
  rw [if_neg]
  unfold msgE
  unfold waitN at h
  by_cases hp : pairE M.n r b = 0
  · rw [if_pos hp, Int.toNat_natCast, Int.toNat_natCast] at h
    rw [if_neg (by simpa using hp), if_pos (.inl (by omega))]
    omega
  · rw [if_pos hp]; exact hp
theorem last_some (D : Nt) (r b : Nat) (h : waitN (lastTo D r b) r b ≠ 0) : deliverC (lastTo D r b) r b (waitN (lastTo D r b) r b - 1) = lastTo D r (b + 1) := by
  show _ = deliverC (lastTo D r b) r (b : Nat) (((lastTo D r b).wa r b).length - 1 : Int)
  generalize lastTo D r b = M at *
  have e : waitN M r b = ((M.wa r b).length : Nat) := by
    unfold waitN at h ⊢
    by_cases hp : pairE M.n r b = 0
    · rw [if_pos hp, Int.toNat_natCast, Int.toNat_natCast]
    · rw [if_neg hp] at h; exact absurd rfl h
  rw [e]
section
variable {w : World} {B : Nat} {ρ : Nat → Part} {i bk bx bs : Nat} {A : Nt} {C : Nat → Nat → Int} {V : Nat → Nat → Value}
/-- Any trace of routers that there are. -/
theorem some_trace (h : KN w B ρ i bk bx bs A C V) (r d : Nat) (hr : r < A.n) (hd : d < A.n) :
    Calls Try.prog 19 #[.pointer (some ⟨bx, 0, none⟩), .int .i64 r, .int .i64 d] w fun e w' => ∃ nv, e = .returned (.tuple #[nv, .int .i64 0]) ∧ w'.ownsRow w.heap.size 3 1 nv (trace A r d).length (ints (trace A r d)) ∧ Below w.heap.size w w' := by
  have hb : isB A.n (r : Int) = true ∧ isB A.n (d : Int) = true := ⟨isB_nat hr, isB_nat hd⟩
  have := ktrace h r d
  have hE : traceE A r d = 0 := by unfold traceE; rw [if_pos hb]
  have hT : traceL A r d = trace A r d := by unfold traceL; rw [if_pos hb]; rfl
  rw [hE, hT] at this
  exact this
theorem lone_trace (h : KN w B ρ i bk bx bs A C V) (r d : Nat) (hr : r < A.n) (hd : d < A.n) (hx : ((A.rs r).t.ro d).nx < 0) :
    Calls Try.prog 19 #[.pointer (some ⟨bx, 0, none⟩), .int .i64 r, .int .i64 d] w fun e w' => ∃ ad cap, e = .returned (.tuple #[.slice ad 1 cap, .int .i64 0]) ∧ Below w.heap.size w w' := by
  refine (some_trace h r d hr hd).mono ?_
  rintro e w' ⟨nv, h1, h2, h3⟩
  have hT : trace A r d = [r] := trF_end (.inr (.inr hx)) _
  rw [hT] at h2
  obtain ⟨ad, cap, hv⟩ := row_form h2
  exact ⟨ad, cap, by rw [h1, hv]; rfl, h3⟩
theorem asks_up {A : Nt} {y d : Nat} (hy : y < A.n) (hd : d < A.n) (hyd : y ≠ d) (hu : (A.rs y).dn = false) : asksE A y d = 0 := by
  unfold asksE
  rw [if_neg (by rw [pairE_nat hy hd hyd]; simp), Int.toNat_natCast, hu]; rfl
theorem route_by (h : KN w B ρ i bk bx bs A C V) (y d r : Nat) (hy : y < A.n) (hd : d < A.n) (hyd : y ≠ d) (hu : (A.rs y).dn = false) (hx : ((A.rs y).t.ro d).nx ≠ r) :
    Calls Try.prog 28 #[.pointer (some ⟨bx, 0, none⟩), .int .i64 y, .int .i64 d] w fun e w' => ∃ x1 x2 x3 x4 x5, e = .returned (.tuple #[.agg #[.int .i64 x1, .int .i64 x2, .int .i64 x3, .int .i64 x4, .int .i64 x5], .int .i64 0]) ∧ x1 ≠ (r : Int) ∧ Below w.heap.size w w' := by
  refine (kroute h y d).mono ?_
  rintro e w' ⟨h1, h2⟩
  have ha := asks_up hy hd hyd hu
  have hR : routeN A y d = (A.rs y).t.ro d := by unfold routeN; rw [if_pos ha]; rfl
  rw [ha, hR] at h1
  exact ⟨_, _, _, _, _, h1, hx, h2⟩
end
end Go.Proofs.Ytdoodnbobpijoaa

namespace Go.Proofs.Ytdoodnbobpijoaa
open Go.RowKit

/-! ### A way, as it is looked at -/
structure TrOk (A : Nt) (r d : Nat) (L : List Nat) : Prop where
  pos : 0 < L.length
  len : L.length ≤ A.n
  head : L.getD 0 0 = r
  lt : ∀ k, k < L.length → L.getD k 0 < A.n
  nodup : L.Nodup
  step : ∀ k, k + 1 < L.length → asksE A (L.getD k 0 : Nat) d = 0 ∧ (routeN A (L.getD k 0 : Nat) d).nx = (L.getD (k + 1) 0 : Nat)
theorem getD_at {L : List Nat} {k : Nat} (h : k < L.length) : L.getD k 0 = L[k] := by simp [List.getD_eq_getElem?_getD, h]
theorem trOk {A : Nt} (g : Good A) (r d : Nat) (hr : r < A.n) (hd : d < A.n) : TrOk A r d (trace A r d) := by
  obtain ⟨l, hl⟩ := trF_head A d A.n r
  obtain ⟨h1, h2, _⟩ := trF_ok g d A.n r hr
  have e : trace A r d = r :: l := hl
  refine ⟨by rw [e]; simp, trF_length g d A.n r hr, by rw [e]; rfl, fun k hk => ?_, h2, fun k hk => ?_⟩
  · rw [getD_at hk]; exact h1 _ (List.getElem_mem hk)
  · obtain ⟨s1, s2⟩ := trF_step A d A.n r k hk
    have s2' : (trace A r d)[k + 1] = ((A.rs ((trace A r d)[k]'(by omega))).t.ro d).nx.toNat := s2
    have s1' : ¬ ends A d ((trace A r d)[k]'(by omega)) := s1
    have hk1 : (trace A r d)[k]'(by omega) < A.n := h1 _ (List.getElem_mem (l := trace A r d) (by omega))
    rw [getD_at (by omega : k < (trace A r d).length), getD_at hk, s2']
    generalize ((trace A r d)[k]'(by omega)) = x at *
    unfold ends at s1'
    have e1 : x ≠ d := fun e => s1' (.inl e)
    have e2 : (A.rs x).dn = false := by
      cases hh : (A.rs x).dn with
      | false => rfl
      | true => exact absurd (.inr (.inl hh)) s1'
    have e3 : 0 ≤ ((A.rs x).t.ro d).nx := by
      by_cases hh : ((A.rs x).t.ro d).nx < 0
      · exact absurd (.inr (.inr hh)) s1'
      · omega
    have ha : asksE A (x : Nat) (d : Nat) = 0 := by
      unfold asksE
      rw [if_neg (by rw [pairE_nat hk1 hd e1]; simp), Int.toNat_natCast, e2]; rfl
    refine ⟨ha, ?_⟩
    unfold routeN
    rw [if_pos ha]
    show ((A.rs x).t.ro d).nx = _
    omega
theorem row_at {w : World} {B e n : Nat} {v : Value} {xs : List Value} (h : w.ownsRow B e 1 v n xs) (hn : 0 < n) : ∃ g cap, v = .slice (some ⟨g, 0, none⟩) n cap ∧ B ≤ g ∧ g < w.heap.size ∧ (∀ j u, xs[j]? = some u → w.cell? ⟨g, j, none⟩ = some u) := by
  have hlt := h.lt
  rcases h.2 with ⟨h1, h2⟩ | ⟨g, cap, cur, hv, h1, h2, h3, h4, h5, h6⟩
  · omega
  · have hg := hlt g (by rw [hv]; rfl)
    refine ⟨g, cap, hv, hg.1, hg.2, fun j u hu => ?_⟩
    rw [cell_of_row w g j cur e (0, 0) h2, ← Array.getElem?_toList]
    rw [← h6, List.getElem?_take] at hu
    split at hu
    · exact hu
    · cases hu
/-! ### Which were come by -/
def seenA (L : List Nat) (j : Nat) : Array Value := #[.bool (decide (0 ∈ L.take j)), .bool (decide (1 ∈ L.take j)), .bool (decide (2 ∈ L.take j)), .bool (decide (3 ∈ L.take j)), .bool (decide (4 ∈ L.take j))]
theorem take_mem {L : List Nat} {j x : Nat} (hj : j < L.length) : x ∈ L.take (j + 1) ↔ x ∈ L.take j ∨ x = L.getD j 0 := by
  rw [List.take_succ_eq_append_getElem hj, List.mem_append, getD_at hj]
  simp
theorem not_seen {L : List Nat} (hd : L.Nodup) {j : Nat} (hj : j < L.length) : L.getD j 0 ∉ L.take j := by
  rw [getD_at hj]
  intro hm
  obtain ⟨k, hk, he⟩ := List.getElem_of_mem hm
  simp at hk
  rw [List.getElem_take] at he
  exact List.pairwise_iff_getElem.1 hd k j (by omega) hj (by omega) he
theorem seenA_at {L : List Nat} (hd : L.Nodup) {j : Nat} (hj : j < L.length) (h5 : L.getD j 0 < 5) : (seenA L j)[L.getD j 0]? = some (.bool false) := by
  have hn := not_seen hd hj
  generalize L.getD j 0 = x at *
  rcases (by omega : x = 0 ∨ x = 1 ∨ x = 2 ∨ x = 3 ∨ x = 4) with rfl | rfl | rfl | rfl | rfl <;> simp [seenA, hn]
theorem seenA_next {L : List Nat} {j : Nat} (hj : j < L.length) (h5 : L.getD j 0 < 5) : (seenA L j).setIfInBounds (L.getD j 0) (.bool true) = seenA L (j + 1) := by
  have hm := fun x => take_mem (L := L) (x := x) hj
  unfold seenA
  simp only [hm]
  generalize L.getD j 0 = x at *
  rcases (by omega : x = 0 ∨ x = 1 ∨ x = 2 ∨ x = 3 ∨ x = 4) with rfl | rfl | rfl | rfl | rfl <;> simp
structure Str (w wr : World) (g sb j : Nat) (L : List Nat) : Prop where
  b : Below w.heap.size w wr
  gl : g < wr.heap.size
  row : ∀ k, k < L.length → wr.cell? ⟨g, k, none⟩ = some (I (L.getD k 0 : Nat))
  sn : Whole wr sb 83 (seenA L j)
  ne : g ≠ sb
  lo : w.heap.size ≤ sb
theorem Str.below {w wr w' : World} {g sb j : Nat} {L : List Nat} (h : Str w wr g sb j L) (hb : Below wr.heap.size wr w') : Str w w' g sb j L :=
  ⟨h.b.trans (hb.mono h.b.size), Nat.lt_of_lt_of_le h.gl hb.size, fun k hk => by rw [World.cell?_of_block (w := wr) (hb.block g h.gl)]; exact h.row k hk, h.sn.below hb, h.ne, h.lo⟩
theorem Str.unseen {w wr : World} {g sb j : Nat} {L : List Nat} (h : Str w wr g sb j L) (hd : L.Nodup) (hj : j < L.length) (h5 : L.getD j 0 < 5) : wr.cell? ⟨sb, L.getD j 0, none⟩ = some (.bool false) := by
  rw [h.sn.cell]; exact seenA_at hd hj h5
theorem Str.mark {w wr : World} {g sb j : Nat} {L : List Nat} (h : Str w wr g sb j L) (hj : j < L.length) (h5 : L.getD j 0 < 5) : Str w (wr.setCell ⟨sb, L.getD j 0, none⟩ (.bool true)) g sb (j + 1) L := by
  have hb : (wr.setCell ⟨sb, L.getD j 0, none⟩ (.bool true)).heap[g]? = wr.heap[g]? := heap_setCell_other _ _ _ _ h.ne
  have hs := h.sn.setAt (L.getD j 0) (.bool true)
  rw [seenA_next hj h5] at hs
  exact ⟨h.b.setCell h.lo _, by simpa using h.gl, fun k hk => by rw [World.cell?_of_block (w := wr) hb]; exact h.row k hk, hs, h.ne, h.lo⟩
end Go.Proofs.Ytdoodnbobpijoaa

namespace Go.Proofs.Ytdoodnbobpijoaa
open Go.RowKit

/-! ### Found -/
theorem list_trace {w : World} {B : Nat} {ρ : Nat → Part} {i bk bx bs : Nat} {A : Nt} {C : Nat → Nat → Int} {V : Nat → Nat → Value} (h : KN w B ρ i bk bx bs A C V) (r d : Nat) (hr : r < A.n) (hd : d < A.n) :
    Calls Try.prog 19 #[.pointer (some ⟨bx, 0, none⟩), .int .i64 r, .int .i64 d] w fun e w' => ∃ g cap, e = .returned (.tuple #[.slice (some ⟨g, 0, none⟩) (trace A r d).length cap, .int .i64 0]) ∧ g < w'.heap.size ∧ (∀ k, k < (trace A r d).length → w'.cell? ⟨g, k, none⟩ = some (I ((trace A r d).getD k 0 : Nat))) ∧ Below w.heap.size w w' := by
  refine (some_trace h r d hr hd).mono ?_
  rintro e w' ⟨nv, h1, h2, h3⟩
  obtain ⟨g, cap, hv, g1, g2, g3⟩ := row_at h2 (trOk h.g r d hr hd).pos
  refine ⟨g, cap, by rw [h1, hv], g2, fun k hk => ?_, h3⟩
  refine g3 k _ ?_
  unfold ints
  rw [List.getElem?_map, List.getElem?_eq_getElem hk, getD_at hk]; rfl
/-- A way, when all is quiet. -/
structure FoL (F : Nt) (n a b : Nat) (L : List Nat) : Prop where
  pos : 0 < L.length
  len : L.length ≤ n
  lt : ∀ k, k < L.length → L.getD k 0 < n
  lone : 1000 ≤ dist F.co a b → L.length = 1
  reach : dist F.co a b < 1000 → L.getD (L.length - 1) 0 = b ∧ sumUp F.co L (L.length - 1) = dist F.co a b
theorem found_list {F : Nt} {n : Nat} (h : Found F) (hn : F.n = n) (a b : Nat) (ha : a < n) (hb : b < n) : FoL F n a b (trace F a b) := by
  subst hn
  have t := trOk h.calm.good a b ha hb
  refine ⟨t.pos, t.len, t.lt, fun hf => by rw [h.lone a b ha hb hf]; rfl, fun hf => ?_⟩
  obtain ⟨h1, h2⟩ := h.reach a b ha hb hf
  refine ⟨?_, h2⟩
  have hp := t.pos
  rw [List.getLast?_eq_getElem?, List.getElem?_eq_getElem (by omega)] at h1
  rw [getD_at (by omega)]
  exact Option.some.inj h1
theorem sumUp_bd {A : Nt} (g : Good A) (L : List Nat) : ∀ j : Nat, 0 ≤ sumUp A.co L j ∧ sumUp A.co L j ≤ 9 * (j : Int)
  | 0 => ⟨Int.le_refl _, by show (0 : Int) ≤ _; omega⟩
  | j + 1 => by
    have h1 := sumUp_bd g L j
    have h2 := g.c0 (L.getD j 0) (L.getD (j + 1) 0)
    have h3 := g.c9 (L.getD j 0) (L.getD (j + 1) 0)
    show 0 ≤ sumUp A.co L j + _ ∧ sumUp A.co L j + _ ≤ _
    omega
attribute [local go_sem ↓] Go.wp_at_zero Go.wp_at_succ st25 alc25
attribute [local go_sem] vb_ptr vo_ptr cellsL_agg size_setCells
set_option maxHeartbeats 8000000 in
set_option maxRecDepth 100000 in
theorem found_any (w : World) (size : Int) (fs : Fits size) (sa : Option Addr) (len cap : Nat) (f : Nat → St) (hS : Scp w sa len f) :
    Calls Try.prog 7 #[.int .i64 size, .slice sa len cap] w fun e w' => e = .returned (.bool true) ∧ Below w.heap.size w w' := by
  obtain ⟨n, hn, n2, n5⟩ := size_pick size
  have KL : Hid (Calls Try.prog 14 #[.int .i64 size] w fun e w' => ∃ bk bx bs, e = .returned (.pointer (some ⟨bk, 0, none⟩)) ∧ PostK w.heap.size 0 (fun _ => (0, 0)) bk bx bs (laidN n) w w') := klaid size n fs.1 fs.2 hn (fun _ _ => rfl) (Nat.le_refl _)
  have HG : Hid (Tame (laidN n) 0 ∧ (laidN n).n = n) := ⟨laid_tame n n2 n5, (laid_good n n2 n5).2⟩
  have HS : Hid (Scp w sa len f) := hS
  clear hS hn fs
  go_enter Try.func7, Try.ntmps7
  go_wp2_with fail
  refine (KL.out).mono ?_
  rintro e w1 ⟨bk, bx, bs, rfl, ρ1, V1, q1, q2⟩
  clear KL
  have Q1 : Hid (KI w1 w.heap.size ρ1 0 bk bx bs (laidN n) V1) := q1
  have Q2 : Hid (Aft 0 (fun _ => (0, 0)) ρ1 w w1) := q2
  clear q1 q2
  go_wp2_with fail
  go_loopw [6] (fun v wr => ∃ k : Nat, k ≤ len ∧ k ≤ 150 ∧ v = .int .i64 k ∧ ∃ ρ' V', KI wr w.heap.size ρ' 0 bk bx bs (playF (laidN n) f k) V' ∧ Aft 0 (fun _ => (0, 0)) ρ' w wr) (fun v _ => 150 - (intOf v).toNat)
  case atStart => exact ⟨0, by omega, by omega, rfl, ρ1, V1, Q1.out, Q2.out⟩
  case round =>
    clear Q1 Q2
    obtain ⟨k, hk, hkm, rfl, ρ2, V2, q1, q2⟩ := hrel
    by_cases hgo : k < len ∧ k < 150
    · obtain ⟨hkl, hk1⟩ := hgo
      have hkl' : (k : Int) < (len : Int) := by omega
      have hk1' : (k : Int) < 150 := by omega
      have hk0 : (0 : Int) ≤ (k : Int) := by omega
      obtain ⟨sb, so, rfl, ⟨s0, s1, s2, s3⟩, ft⟩ := HS.out.at q2.all hkl
      have CX : Hid (Calls Try.prog 15 #[.pointer (some ⟨bk, 0, none⟩), .agg #[.int .i64 (f k).k, .int .i64 (f k).a, .int .i64 (f k).b, .int .i64 (f k).c]] wr fun e w' => e = .returned (.tuple #[]) ∧ PostK w.heap.size 0 ρ2 bk bx bs (playF (laidN n) f (k + 1)) wr w') := kdoes q1 q2.new q2.only.size (f k) ft
      have Q2 : Hid (Aft 0 (fun _ => (0, 0)) ρ2 w wr) := q2
      clear q1 q2 ft
      go_wp2_with (go_at_call 15; refine (CX.out).mono ?_; rintro e w2 ⟨rfl, ρ3, V3, t1, t2⟩)
      go_roundw
      case rel => exact ⟨k + 1, by omega, by omega, by go_num, ρ3, V3, t1, Q2.out.trans t2⟩
      case measure => simp [intOf]; omega
    · have hex : ¬ (k : Int) < (len : Int) ∨ ((k : Int) < (len : Int) ∧ ¬ (k : Int) < 150) := by omega
      have HTm : Hid (Tame (playF (laidN n) f k) (0 + (k : Int)) ∧ (playF (laidN n) f k).n = n) := ⟨playF_tame HG.out.1 f k, (playF_n HG.out.1.good f k).2.trans HG.out.2⟩
      have hk9 : (0 : Int) + (k : Int) < 900 := by omega
      have Q1 : Hid (KI wr w.heap.size ρ2 0 bk bx bs (playF (laidN n) f k) V2) := q1
      have Q2 : Hid (Aft 0 (fun _ => (0, 0)) ρ2 w wr) := q2
      clear q1 q2 hgo hkm hk
      generalize (playF (laidN n) f k) = P at *
      obtain ⟨wo, rfl⟩ : ∃ wo : World, wo = wr := ⟨_, rfl⟩
      rcases hex with hex | ⟨hex1, hex⟩
      all_goals (
        have CQ : Hid (Calls Try.prog 17 #[.pointer (some ⟨bk, 0, none⟩)] wo fun e w' => e = .returned (.bool true) ∧ PostK w.heap.size 0 ρ2 bk bx bs (quietN P) wo w') := kquiet Q1.out Q2.out.new Q2.out.only.size HTm.out.1 (by omega)
        have HF : Hid (Found (quietN P) ∧ (quietN P).n = n) := ⟨(quiet_found HTm.out.1 (by omega)).1, (quiet_found HTm.out.1 (by omega)).2.1.trans HTm.out.2⟩
        generalize quietN P = F at *
        have CF : Hid (∀ W ρ' V', KI W w.heap.size ρ' 0 bk bx bs F V' → Calls Try.prog 18 #[.pointer (some ⟨bk, 0, none⟩)] W fun e w' => e = .returned (.agg (matA (dist F.co))) ∧ Below W.heap.size W w') := fun W ρ' V' hK => kfar hK (fun a b => ⟨hK.g.c0 a b, hK.g.c9 a b⟩)
        go_wp2_with fail
        refine (CQ.out).mono ?_
        rintro e w2 ⟨rfl, ρ3, V3, t1, t2⟩
        have Q3 : Hid (KI w2 w.heap.size ρ3 0 bk bx bs F V3) := t1
        have Q4 : Hid (Below w.heap.size w w2) := (Q2.out.trans t2).all
        clear t1 t2 CQ Q1 Q2
        go_wp2_with fail
        refine (CF.out _ _ _ Q3.out).mono ?_
        rintro e w3 ⟨rfl, b3⟩
        have ag := aggOk_mat (dist F.co)
        have n0 := Whole.new w3 35 (matA fun _ _ => 0)
        have th := n0.there (matA_size _)
        have b4 : Below w3.heap.size w3 ((w3.alloc (.cells (matA fun _ _ => 0) 35)).setCells w3.heap.size 0 (matA (dist F.co)).toList) := Below.setCells ((Below.refl _ _).alloc (Nat.le_refl _) _) (Nat.le_refl _) _ _
        have D4 : Hid (Whole ((w3.alloc (.cells (matA fun _ _ => 0) 35)).setCells w3.heap.size 0 (matA (dist F.co)).toList) w3.heap.size 35 (matA (dist F.co))) := n0.over (matA (dist F.co)) rfl
        have K4 : Hid (KI ((w3.alloc (.cells (matA fun _ _ => 0) 35)).setCells w3.heap.size 0 (matA (dist F.co)).toList) w.heap.size ρ3 0 bk bx bs F V3) := (Q3.out.below b3).below b4
        have B4 : Hid (Below w.heap.size w ((w3.alloc (.cells (matA fun _ _ => 0) 35)).setCells w3.heap.size 0 (matA (dist F.co)).toList)) := (Q4.out.trans (b3.mono Q4.out.size)).trans (b4.mono (Nat.le_trans Q4.out.size b3.size))
        clear b3 b4 n0 Q3 Q4 CF
        obtain ⟨dB, hdB⟩ : ∃ dB, dB = w3.heap.size := ⟨_, rfl⟩
        go_wp2
        rw [← hdB] at D4 K4 B4 ⊢
        go_loopw [9] (fun v wr => ∃ a : Nat, a ≤ n ∧ v = .int .i64 a ∧ KI wr w.heap.size ρ3 0 bk bx bs F V3 ∧ Whole wr dB 35 (matA (dist F.co)) ∧ Below w.heap.size w wr) (fun v _ => n - (intOf v).toNat)
        case atStart => exact ⟨0, by omega, rfl, K4.out, D4.out, B4.out⟩
        case round =>
          clear K4 D4 B4 ag th hdB
          obtain ⟨a, ha, rfl, q1, q2, q3⟩ := hrel
          have c1 := q1.k1
          rw [HF.out.2] at c1
          by_cases han : a < n
          · have han' : (a : Int) < (n : Int) := by omega
            have ha5' : (a : Int) < 5 := by omega
            have K5 : Hid (KI wr w.heap.size ρ3 0 bk bx bs F V3) := q1
            have D5 : Hid (Whole wr dB 35 (matA (dist F.co))) := q2
            have B5 : Hid (Below w.heap.size w wr) := q3
            clear q1 q2 q3
            obtain ⟨wp, rfl⟩ : ∃ wp : World, wp = wr := ⟨_, rfl⟩
            go_wp2
            go_loopw [10] (fun v wr => ∃ b : Nat, b ≤ n ∧ v = .int .i64 b ∧ KI wr w.heap.size ρ3 0 bk bx bs F V3 ∧ Whole wr dB 35 (matA (dist F.co)) ∧ Below w.heap.size w wr) (fun v _ => n - (intOf v).toNat)
            case atStart => exact ⟨0, by omega, rfl, K5.out, D5.out, B5.out⟩
            case round =>
              clear K5 D5 B5 c1
              obtain ⟨b, hb, rfl, q1, q2, q3⟩ := hrel
              have c1 := q1.k1
              rw [HF.out.2] at c1
              by_cases hbn : b < n
              · have hbn' : (b : Int) < (n : Int) := by omega
                have hb5' : (b : Int) < 5 := by omega
                have c0 := q1.k0
                have CT : Hid (Calls Try.prog 19 #[.pointer (some ⟨bx, 0, none⟩), .int .i64 a, .int .i64 b] wr fun e w' => ∃ g cap, e = .returned (.tuple #[.slice (some ⟨g, 0, none⟩) (trace F a b).length cap, .int .i64 0]) ∧ g < w'.heap.size ∧ (∀ k, k < (trace F a b).length → w'.cell? ⟨g, k, none⟩ = some (I ((trace F a b).getD k 0 : Nat))) ∧ Below wr.heap.size wr w') := list_trace q1 a b (by rw [HF.out.2]; exact han) (by rw [HF.out.2]; exact hbn)
                have HL : Hid (FoL F n a b (trace F a b)) := found_list HF.out.1 HF.out.2 a b han hbn
                have K5 : Hid (KI wr w.heap.size ρ3 0 bk bx bs F V3) := q1
                have D5 : Hid (Whole wr dB 35 (matA (dist F.co))) := q2
                have B5 : Hid (Below w.heap.size w wr) := q3
                clear q1 q2 q3
                generalize trace F a b = L at *
                obtain ⟨m, hm⟩ : ∃ m, L.length = m + 1 := ⟨L.length - 1, by have := HL.out.pos; omega⟩
                rw [hm] at CT
                have hm4 : m + 1 ≤ 5 := by have := HL.out.len; omega
                have hlen1 : ¬ ((m + 1 : Nat) : Int) < 1 := by omega
                obtain ⟨wq, rfl⟩ : ∃ wq : World, wq = wr := ⟨_, rfl⟩
                go_wp2_with fail
                refine (CT.out).mono ?_
                rintro e w5 ⟨g, cap', rfl, g1, g2, b5⟩
                have K6 : Hid (KI w5 w.heap.size ρ3 0 bk bx bs F V3) := K5.out.below b5
                have D6 : Hid (Whole w5 dB 35 (matA (dist F.co))) := D5.out.below b5
                have B6 : Hid (Below w.heap.size w w5) := B5.out.trans (b5.mono B5.out.size)
                have G6 : Hid (∀ k, k < m + 1 → w5.cell? ⟨g, k, none⟩ = some (I (L.getD k 0 : Nat))) := g2
                clear g1 g2 b5 K5 D5 B5 CT c0 c1
                have hb1 : decide (((m + 1 : Nat) : Int) < 1) = false := decide_eq_false (by omega)
                go_wp2_with fail
                obtain ⟨w6, hw6⟩ : ∃ w6 : World, w6 = w5 := ⟨_, rfl⟩
                have SM : Hid (∀ u : World, Sim w5 u → KI u w.heap.size ρ3 0 bk bx bs F V3 ∧ (∀ k, k < m + 1 → u.cell? ⟨g, k, none⟩ = some (I (L.getD k 0 : Nat)))) := fun u hu => ⟨K6.out.of (fun k _ _ => by rw [hu.heap]) (fun _ _ => rfl), fun k hk => by rw [World.cell?_of_block (w := w5) (by rw [hu.heap])]; exact G6.out k hk⟩
                go_loopw [13, 14] (fun s v wr => ∃ j : Nat, j ≤ m ∧ v = .int .i64 (j + 1 : Nat) ∧ s = .int .i64 (sumUp F.co L j) ∧ Sim w5 wr) (fun _ v _ => 10 - (intOf v).toNat)
                case atStart => exact ⟨0, by omega, rfl, rfl, ⟨rfl, rfl, rfl, rfl⟩⟩
                case round =>
                  obtain ⟨j, hj, rfl, rfl, hsim⟩ := hrel
                  obtain ⟨k5, g5⟩ := SM.out wr hsim
                  have HSm : Hid (Sim w5 wr) := hsim
                  by_cases hjm : j < m
                  · have hjm' : ((j + 1 : Nat) : Int) < ((m + 1 : Nat) : Int) := by omega
                    have hsb := sumUp_bd k5.g L j
                    have hstep : Hid (sumUp F.co L (j + 1) = sumUp F.co L j + F.co (L.getD j 0) (L.getD (j + 1) 0)) := rfl
                    have l1 := HL.out.lt j (by omega)
                    have l2 := HL.out.lt (j + 1) (by omega)
                    have e1 := g5 j (by omega)
                    have e2 := g5 (j + 1) (by omega)
                    have e3 := k5.kc (L.getD j 0) (L.getD (j + 1) 0) (by omega) (by omega)
                    have h9 := k5.g.c9 (L.getD j 0) (L.getD (j + 1) 0)
                    have h0 := k5.g.c0 (L.getD j 0) (L.getD (j + 1) 0)
                    have hjs : ((j + 1 : Nat) : Int) - 1 = (j : Int) := by omega
                    generalize L.getD j 0 = y1 at *
                    generalize L.getD (j + 1) 0 = y2 at *
                    have l1' : (y1 : Int) < 5 := by omega
                    have l2' : (y2 : Int) < 5 := by omega
                    have hj0 : (0 : Int) ≤ (j : Int) := by omega
                    have hjl : (j : Int) < ((m + 1 : Nat) : Int) := by omega
                    generalize F.co y1 y2 = cc at *
                    generalize sumUp F.co L j = ss at *
                    obtain ⟨hs0, hs1⟩ := hsb
                    clear hsim k5 g5
                    go_wp2_with fail
                    go_quiet (fail)
                    go_wp2
                    go_roundw
                    case rel => exact ⟨j + 1, by omega, by go_num, by rw [hstep.out], ⟨HSm.out.heap, HSm.out.os, HSm.out.tape, HSm.out.output⟩⟩
                    case measure => simp [intOf]; omega
                  · have hjm' : ¬ ((j + 1 : Nat) : Int) < ((m + 1 : Nat) : Int) := by omega
                    have e : j = m := by omega
                    subst e
                    have K7 : Hid (KI wr w.heap.size ρ3 0 bk bx bs F V3 ∧ Whole wr dB 35 (matA (dist F.co)) ∧ Below w.heap.size w wr) := ⟨k5, D6.out.of (by rw [hsim.heap]), B6.out.trans (hsim.below _)⟩
                    have d1 : wr.cell? ⟨dB, a * 5 + b, none⟩ = some (I (dist F.co a b)) := K7.out.2.1.matc a b (by omega) (by omega)
                    have e1 := g5 j (by omega)
                    have hjs : ((j + 1 : Nat) : Int) - 1 = (j : Int) := by omega
                    have hj0 : (0 : Int) ≤ (j : Int) := by omega
                    have hjl : (j : Int) < ((j + 1 : Nat) : Int) := by omega
                    clear k5 g5 hsim
                    by_cases hfar : 1000 ≤ dist F.co a b
                    · have hone := HL.out.lone hfar
                      have e : j = 0 := by omega
                      subst e
                      have hf' : ¬ dist F.co a b < 1000 := by omega
                      generalize dist F.co a b = dd at *
                      go_wp2
                      go_roundw
                      case rel => exact ⟨b + 1, by omega, by go_num, K7.out⟩
                      case measure => simp [intOf]; omega
                    · have hf' : dist F.co a b < 1000 := by omega
                      obtain ⟨hl, hsum⟩ := HL.out.reach hf'
                      rw [hm, Nat.add_sub_cancel] at hl hsum
                      rw [hsum]
                      rw [hl] at e1
                      generalize dist F.co a b = dd at *
                      go_wp2
                      go_roundw
                      case rel => exact ⟨b + 1, by omega, by go_num, K7.out⟩
                      case measure => simp [intOf]; omega
              · have hbn' : ¬ (b : Int) < (n : Int) := by omega
                have K5 : Hid (KI wr w.heap.size ρ3 0 bk bx bs F V3 ∧ Whole wr dB 35 (matA (dist F.co)) ∧ Below w.heap.size w wr) := ⟨q1, q2, q3⟩
                clear q1 q2 q3
                go_wp2
                go_roundw
                case rel => exact ⟨a + 1, by omega, by go_num, K5.out⟩
                case measure => simp [intOf]; omega
          · have han' : ¬ (a : Int) < (n : Int) := by omega
            have B5 : Hid (Below w.heap.size w wr) := q3
            clear q1 q2 q3
            go_wp2
            go_ret
            exact ⟨rfl, B5.out⟩)
end Go.Proofs.Ytdoodnbobpijoaa

namespace Go.Proofs.Ytdoodnbobpijoaa
open Go.ChangeShapes Go.WideShapes Go.ChangeAt Go.RowKit Go.Deep

set_option maxRecDepth 100000 in
theorem found_lifted (os : Os) (started : os.Started) (H : Type) (enc : TypeId × Value → H) :
    ReturnsInHanded {} Try.checked os 7 .any (Rows.foundSpec.pre6 enc Try.prog Try.f7 Rows.foundRow.domain false) (Rows.foundSpec.post enc Try.prog Try.f7 false true false false) := by
  refine returnsInHanded_of_change_sized (C := Try.checked) Try.own started (by kernel_rfl) Try.func7
    (ChangeSpec.witness6 (enc := enc) (C := Try.checked) false ⟨#[], #[.int .i64 0, .slice none 0 0], []⟩ 8 (by kernel_rfl) (by kernel_rfl) (by kernel_rfl) (by kernel_rfl)) ?_
  intro W base args ds gs before hval0 hW hcnd hsz0 _
  have hval : ∀ (j : Nat) t v, Try.f7.params[j]? = some t → args[j]? = some v → Value.okWide Try.prog W .any base t v := hval0
  have hW' := hW
  obtain ⟨p, q, hA0, hV, rfl, hfz, hnd⟩ := hW
  have hA : DataW.TrodAll enc Try.prog W 0 (fun _ => true) true Try.f7.params.toList args.toList ds p := hA0
  rw [Try.params7] at hA hval
  obtain ⟨v0, v1, d0, d1, p0, p1, rfl, rfl, rfl, h0, h1⟩ := trodAll_two hA
  obtain ⟨rfl, rfl⟩ := trodVars_none hV
  obtain ⟨x0, rfl⟩ := okWide_int Try.underlying3 (hval 0 3 v0 rfl rfl)
  have fit0 := open_int h0
  have lt0 : ∀ x ∈ p0, x.block < W.heap.size := by obtain ⟨m, hm⟩ := h0; exact DataW.trod_lt m _ _ _ hm
  obtain ⟨a1, len1, cap1, rfl⟩ := okWide_slice Try.underlying26 (hval 1 26 v1 rfl rfl)
  obtain ⟨f1, hS1⟩ := open_scp h1
  have lt1 : ∀ x ∈ p1, x.block < W.heap.size := by obtain ⟨m, hm⟩ := h1; exact DataW.trod_lt m _ _ _ hm
  clear hA0 hval0 hsz0
  have fin : Calls Try.prog 7 #[.int .i64 x0, .slice a1 len1 cap1] W fun e W' => e = .returned (.bool true) ∧ Below W.heap.size W W' := found_any W x0 fit0 a1 len1 cap1 f1 hS1
  refine fin.mono fun e W' ⟨he, bel⟩ => ?_
  subst he
  exact ⟨_, rfl, _, _, _, [], _, [], hW', trodAll_mk1 (shut_bool Try.underlying4 _), trodAll_mk2 (Below.trod Try.laidOut (by kernel_rfl) (of_decide_eq_true (by kernel_rfl)) h0 bel lt0) (Below.trod Try.laidOut (by kernel_rfl) (of_decide_eq_true (by kernel_rfl)) h1 bel lt1), rfl, bel.frame _, fun h => by cases h⟩
theorem found_holds : Rows.FoundSaid :=
  OpenClaim.holds_of_wide 7 Try.f7 rfl rfl rfl rfl rfl rfl rfl ⟨rfl, rfl, rfl, rfl, rfl⟩ rfl rfl rfl rfl rfl (by kernel_rfl) Try.func7 (by kernel_rfl)
    (of_decide_eq_true (by kernel_rfl)) (by unfold Func.isWrapper; first | (rw [if_pos (by decide +kernel)]; kernel_rfl) | (rw [if_neg (by decide +kernel)]; exact ⟨rfl, rfl⟩))
    (fun os started H enc _ => found_lifted os started H enc)
#print axioms found_holds
end Go.Proofs.Ytdoodnbobpijoaa

