import Derived.Test.YtdoodnbobpijoaaAbsF
import Derived.Test.YtdoodnbobpijoaaBunN
import Derived.Test.YtdoodnbobpijoaaWk
import Derived.BigRegion
import Derived.ChangeKeysEq
namespace Go.Proofs.Ytdoodnbobpijoaa

/-! ### How far it is, reckoned in place -/
/-- In round k, behind what is ahead of (a, b). -/
def fwIn (C : Nat → Nat → Int) (k a b : Nat) : Nat → Nat → Int := fun x y => if x < a ∨ (x = a ∧ y < b) then fwN C (k + 1) x y else fwN C k x y
theorem fwIn_zero (C : Nat → Nat → Int) (k : Nat) : fwIn C k 0 0 = fwN C k := by
  funext x y
  unfold fwIn
  rw [if_neg (by omega)]
theorem fwN_col (C : Nat → Nat → Int) (k x : Nat) : fwN C (k + 1) x k = fwN C k x k := by
  rw [fwN_succ, fwN_diag]; omega
theorem fwN_row (C : Nat → Nat → Int) (k y : Nat) : fwN C (k + 1) k y = fwN C k k y := by
  rw [fwN_succ, fwN_diag]; omega
theorem fwIn_col (C : Nat → Nat → Int) (k a b x : Nat) : fwIn C k a b x k = fwN C k x k := by
  unfold fwIn; split
  · exact fwN_col C k x
  · rfl
theorem fwIn_row (C : Nat → Nat → Int) (k a b y : Nat) : fwIn C k a b k y = fwN C k k y := by
  unfold fwIn; split
  · exact fwN_row C k y
  · rfl
/-- One place more. -/
theorem fwIn_step (C : Nat → Nat → Int) (k a b : Nat) : (fun x y => if x = a ∧ y = b then min (fwIn C k a b a b) (fwIn C k a b a k + fwIn C k a b k b) else fwIn C k a b x y) = fwIn C k a (b + 1) := by
  funext x y
  by_cases e : x = a ∧ y = b
  · obtain ⟨rfl, rfl⟩ := e
    show (if x = x ∧ y = y then _ else _) = _
    rw [if_pos ⟨rfl, rfl⟩, fwIn_col, fwIn_row]
    unfold fwIn
    rw [if_neg (by omega), if_pos (by omega), fwN_succ]
  · show (if x = a ∧ y = b then _ else _) = _
    rw [if_neg e]
    unfold fwIn
    by_cases h : x < a ∨ (x = a ∧ y < b)
    · rw [if_pos h, if_pos (by omega)]
    · rw [if_neg h, if_neg (by omega)]
/-- A row more, a round more (of those places that there are). -/
theorem fwIn_next (C : Nat → Nat → Int) (k a x y : Nat) (hy : y < 5) : fwIn C k a 5 x y = fwIn C k (a + 1) 0 x y := by
  unfold fwIn
  by_cases h : x < a ∨ (x = a ∧ y < 5)
  · rw [if_pos h, if_pos (by omega)]
  · rw [if_neg h, if_neg (by omega)]
theorem fwIn_round (C : Nat → Nat → Int) (k x y : Nat) (hx : x < 5) : fwIn C k 5 0 x y = fwN C (k + 1) x y := by
  unfold fwIn
  rw [if_pos (by omega)]
end Go.Proofs.Ytdoodnbobpijoaa

namespace Go.Proofs.Ytdoodnbobpijoaa
open Go.RowKit

/-! ### Five by five numbers -/
def matA (M : Nat → Nat → Int) : Array Value := #[I (M 0 0), I (M 0 1), I (M 0 2), I (M 0 3), I (M 0 4), I (M 1 0), I (M 1 1), I (M 1 2), I (M 1 3), I (M 1 4), I (M 2 0), I (M 2 1), I (M 2 2), I (M 2 3), I (M 2 4), I (M 3 0), I (M 3 1), I (M 3 2), I (M 3 3), I (M 3 4), I (M 4 0), I (M 4 1), I (M 4 2), I (M 4 3), I (M 4 4)]
theorem five_cases {p : Nat → Prop} (h0 : p 0) (h1 : p 1) (h2 : p 2) (h3 : p 3) (h4 : p 4) : ∀ a, a < 5 → p a := fun a ha => by
  rcases (by omega : a = 0 ∨ a = 1 ∨ a = 2 ∨ a = 3 ∨ a = 4) with rfl | rfl | rfl | rfl | rfl
  · exact h0
  · exact h1
  · exact h2
  · exact h3
  · exact h4
theorem matA_at (M : Nat → Nat → Int) : ∀ a, a < 5 → ∀ b, b < 5 → (matA M)[a * 5 + b]? = some (I (M a b)) := by
  apply five_cases <;> apply five_cases <;> rfl
theorem matA_set (M : Nat → Nat → Int) (v : Int) : ∀ a, a < 5 → ∀ b, b < 5 → (matA M).setIfInBounds (a * 5 + b) (I v) = matA (fun x y => if x = a ∧ y = b then v else M x y) := by
  apply five_cases <;> apply five_cases <;> rfl
theorem matA_congr {M N : Nat → Nat → Int} (h : ∀ a, a < 5 → ∀ b, b < 5 → M a b = N a b) : matA M = matA N := by
  unfold matA
  rw [h 0 (by omega) 0 (by omega), h 0 (by omega) 1 (by omega), h 0 (by omega) 2 (by omega), h 0 (by omega) 3 (by omega), h 0 (by omega) 4 (by omega), h 1 (by omega) 0 (by omega), h 1 (by omega) 1 (by omega), h 1 (by omega) 2 (by omega), h 1 (by omega) 3 (by omega), h 1 (by omega) 4 (by omega), h 2 (by omega) 0 (by omega), h 2 (by omega) 1 (by omega), h 2 (by omega) 2 (by omega), h 2 (by omega) 3 (by omega), h 2 (by omega) 4 (by omega), h 3 (by omega) 0 (by omega), h 3 (by omega) 1 (by omega), h 3 (by omega) 2 (by omega), h 3 (by omega) 3 (by omega), h 3 (by omega) 4 (by omega), h 4 (by omega) 0 (by omega), h 4 (by omega) 1 (by omega), h 4 (by omega) 2 (by omega), h 4 (by omega) 3 (by omega), h 4 (by omega) 4 (by omega)]
theorem matA_size (M : Nat → Nat → Int) : (matA M).size = 25 := rfl
end Go.Proofs.Ytdoodnbobpijoaa

namespace Go.Proofs.Ytdoodnbobpijoaa
open Go.RowKit

/-! ### Quiet -/
theorem bump_goes {A : Nt} {s : Int} (h : Tame A s) (hs : s < 1000) (k : Nat) (hk : k < A.n) : bumpE (bumpTo (wokenN A) k) k = 0 ∧ bumpC (bumpTo (wokenN A) k) k = bumpTo (wokenN A) (k + 1) := by
  obtain ⟨w1, w2, w3, w4⟩ := woken_ok h
  obtain ⟨b1, b2, b3, b4, b5⟩ := bumpTo_ok w1.good (fun r hr => by rw [w2] at hr; have := w4 r hr; omega) k (by rw [w2]; omega)
  have hu : upE (bumpTo (wokenN A) k) k = 0 := upE_nat (by rw [b2, w2]; exact hk) (by rw [(b5 k).1]; exact w1.up k (by rw [w2]; exact hk))
  have hE : bumpE (bumpTo (wokenN A) k) k = 0 := by
    unfold bumpE
    rw [if_neg (by rw [hu]; simp), Int.toNat_natCast, (b5 k).2.2, if_neg (Nat.lt_irrefl k), if_neg]
    have := w4 k hk
    omega
  refine ⟨hE, ?_⟩
  unfold bumpC
  rw [if_pos hE, Int.toNat_natCast]; rfl
theorem quiet_mid {A : Nt} {s : Int} (h : Tame A s) (hs : s < 1000) : (bumpTo (wokenN A) A.n).n = A.n ∧ ∀ k, Calm (roundsN (bumpTo (wokenN A) A.n) k) ∧ (roundsN (bumpTo (wokenN A) A.n) k).n = A.n := by
  obtain ⟨w1, w2, w3, w4⟩ := woken_ok h
  obtain ⟨b1, b2, b3, b4, b5⟩ := bumpTo_ok w1.good (fun r hr => by rw [w2] at hr; have := w4 r hr; omega) (wokenN A).n (Nat.le_refl _)
  rw [w2] at b1 b2 b3 b4 b5
  have q : Calm (bumpTo (wokenN A) A.n) := ⟨b1, fun r hr => by rw [(b5 r).1]; exact w1.up r (by rw [w2]; rw [b2] at hr; exact hr), fun x y => by rw [b4]; exact w1.wa x y, fun x y => by rw [b3]; exact w1.c5 x y⟩
  refine ⟨b2, fun k => ?_⟩
  obtain ⟨r1, r2, r3, r4, r5⟩ := rounds_ok q (fun d hd => by
    rw [b2] at hd
    rw [(b5 d).2.1, (b5 d).2.2, if_pos hd]
    have := w1.good.sq d (by rw [w2]; exact hd)
    omega) k
  exact ⟨r1, r2.trans b2⟩
section
variable {w : World} {B : Nat} {ρ : Nat → Part} {i bk bx bs : Nat} {A : Nt} {V : Nat → Nat → Value}
set_option maxHeartbeats 4000000 in
theorem kquiet (h : KI w B ρ i bk bx bs A V) (hn : ∀ k, w.heap.size ≤ k → ρ k = (0, 0)) (hB : B ≤ w.heap.size) {s : Int} (ht : Tame A s) (hs : s < 1000) :
    Calls Try.prog 17 #[.pointer (some ⟨bk, 0, none⟩)] w fun e w' => e = .returned (.bool true) ∧ PostK B i ρ bk bx bs (quietN A) w w' := by
  have g0 : Hid (Good A) := h.g
  have n5 := h.g.n5
  have aR := Aft.below (i := i) (Below.refl w.heap.size w) hn
  have HT : Hid (Tame A s) := ht
  have HR : Hid (∀ k, k ≤ A.n → (restTo A k).n = A.n) := fun k hk => (restTo_ok h.g k hk).1.n
  have HW : Hid ((wokenN A).n = A.n) := (woken_ok ht).2.1
  have HBm : Hid (∀ k, k < A.n → bumpE (bumpTo (wokenN A) k) k = 0 ∧ bumpC (bumpTo (wokenN A) k) k = bumpTo (wokenN A) (k + 1)) := fun k hk => bump_goes ht hs k hk
  have HBn : Hid (∀ k, k ≤ A.n → (bumpTo (wokenN A) k).n = A.n) := fun k hk => by
    obtain ⟨w1, w2, w3, w4⟩ := woken_ok ht
    exact ((bumpTo_ok w1.good (fun r hr => by rw [w2] at hr; have := w4 r hr; omega) k (by rw [w2]; omega)).2.1).trans w2
  have HM : Hid (∀ k, Calm (roundsN (bumpTo (wokenN A) A.n) k) ∧ (roundsN (bumpTo (wokenN A) A.n) k).n = A.n) := (quiet_mid ht hs).2
  have HQ : Hid (quietN A = roundsN (bumpTo (wokenN A) A.n) (A.n + 2)) := rfl
  have HRa : Hid (allN (restTo A A.n) = wokenN A) := rfl
  clear ht
  go_enter Try.func17, Try.ntmps17
  go_wp2
  go_loopw [3] (fun v wr => ∃ k : Nat, k ≤ A.n ∧ v = .int .i64 k ∧ ∃ ρ' V', KI wr B ρ' i bk bx bs (restTo A k) V' ∧ Aft i ρ ρ' w wr) (fun v _ => A.n - (intOf v).toNat)
  case atStart => exact ⟨0, by omega, rfl, ρ, V, h, aR⟩
  case round =>
    clear h aR
    obtain ⟨k, hk, rfl, ρ1, V1, q1, q2⟩ := hrel
    have c1 := q1.k1
    rw [HR.out k hk] at c1
    by_cases hkn : k < A.n
    · have hkn' : (k : Int) < (A.n : Int) := by omega
      have c0 := q1.k0
      have CX : Hid (Calls Try.prog 21 #[.pointer (some ⟨bx, 0, none⟩), .int .i64 k] wr fun e w' => e = .returned (.int .i64 (restartE (restTo A k) k)) ∧ PostK B i ρ1 bk bx bs (restTo A (k + 1)) wr w') := krestart q1 q2.new k
      have Q2 : Hid (Aft i ρ ρ1 w wr) := q2
      clear q1 q2
      go_wp2_with (go_at_call 21; refine (CX.out).mono ?_; rintro e w1 ⟨rfl, ρ2, V2, t1, t2⟩)
      go_roundw
      case rel => exact ⟨k + 1, by omega, by go_num, ρ2, V2, t1, Q2.out.trans t2⟩
      case measure => simp [intOf]; omega
    · have hkn' : ¬ (k : Int) < (A.n : Int) := by omega
      have e : k = A.n := by omega
      subst e
      have CX : Hid (Calls Try.prog 32 #[.pointer (some ⟨bk, 0, none⟩)] wr fun e w' => e = .returned (.tuple #[]) ∧ PostK B i ρ1 bk bx bs (wokenN A) wr w') := kall q1 q2.new
      have Q2 : Hid (Aft i ρ ρ1 w wr) := q2
      clear q1 q2
      obtain ⟨wo, rfl⟩ : ∃ wo : World, wo = wr := ⟨_, rfl⟩
      go_wp2_with (go_at_call 32; refine (CX.out).mono ?_; rintro e w1 ⟨rfl, ρ2, V2, t1, t2⟩; have T1 : Hid (KI w1 B ρ2 i bk bx bs (wokenN A) V2) := t1; have T2 : Hid (Aft i ρ ρ2 w w1) := Q2.out.trans t2; clear t1 t2)
      go_loopw [4] (fun v wr => ∃ k : Nat, k ≤ A.n ∧ v = .int .i64 k ∧ ∃ ρ' V', KI wr B ρ' i bk bx bs (bumpTo (wokenN A) k) V' ∧ Aft i ρ ρ' w wr) (fun v _ => A.n - (intOf v).toNat)
      case atStart => exact ⟨0, by omega, rfl, ρ2, V2, T1.out, T2.out⟩
      case round =>
        clear T1 T2
        obtain ⟨k, hk, rfl, ρ3, V3, q1, q2⟩ := hrel
        have c1 := q1.k1
        rw [HBn.out k hk] at c1
        by_cases hkn : k < A.n
        · have hkn' : (k : Int) < (A.n : Int) := by omega
          have c0 := q1.k0
          have CX : Hid (Calls Try.prog 43 #[.pointer (some ⟨bx, 0, none⟩), .int .i64 k] wr fun e w' => e = .returned (.int .i64 0) ∧ PostK B i ρ3 bk bx bs (bumpTo (wokenN A) (k + 1)) wr w') := by
            have := kbump q1 q2.new k
            rw [(HBm.out k hkn).1, (HBm.out k hkn).2] at this
            exact this
          have Q2 : Hid (Aft i ρ ρ3 w wr) := q2
          clear q1 q2
          go_wp2_with (go_at_call 43; refine (CX.out).mono ?_; rintro e w1 ⟨rfl, ρ4, V4, t1, t2⟩)
          go_roundw
          case rel => exact ⟨k + 1, by omega, by go_num, ρ4, V4, t1, Q2.out.trans t2⟩
          case measure => simp [intOf]; omega
        · have hkn' : ¬ (k : Int) < (A.n : Int) := by omega
          have e : k = A.n := by omega
          subst e
          have Q1 : Hid (KI wr B ρ3 i bk bx bs (bumpTo (wokenN A) A.n) V3) := q1
          have Q2 : Hid (Aft i ρ ρ3 w wr) := q2
          clear q1 q2
          generalize bumpTo (wokenN A) A.n = M at *
          obtain ⟨wo, rfl⟩ : ∃ wo : World, wo = wr := ⟨_, rfl⟩
          go_wp2
          go_loopw [6] (fun v wr => ∃ k : Nat, k ≤ A.n + 2 ∧ v = .int .i64 k ∧ ∃ ρ' V', KI wr B ρ' i bk bx bs (roundsN M k) V' ∧ Aft i ρ ρ' w wr) (fun v _ => A.n + 2 - (intOf v).toNat)
          case atStart => exact ⟨0, by omega, rfl, ρ3, V3, Q1.out, Q2.out⟩
          case round =>
            clear Q1 Q2
            obtain ⟨k, hk, rfl, ρ4, V4, q1, q2⟩ := hrel
            have c1 := q1.k1
            rw [(HM.out k).2] at c1
            by_cases hkn : k < A.n + 2
            · have hkn' : (k : Int) < (A.n : Int) + 2 := by omega
              have Q1 : Hid (KI wr B ρ4 i bk bx bs (roundsN M k) V4) := q1
              have Q2 : Hid (Aft i ρ ρ4 w wr) := q2
              have HD : Hid (∀ j, j ≤ A.n → (dumps (roundsN M k) j).n = A.n ∧ ∀ r, r < A.n → ((dumps (roundsN M k) j).rs r).dn = false) := fun j hj => by
                obtain ⟨d1, d2, d3, d4, _⟩ := dumps_ok (HM.out k).1 j (by rw [(HM.out k).2]; exact hj)
                exact ⟨d2.trans (HM.out k).2, fun r hr => by rw [d4]; exact (HM.out k).1.up r (by rw [(HM.out k).2]; exact hr)⟩
              have HN : Hid (roundsN M (k + 1) = allN (dumps (roundsN M k) A.n)) := by
                show allN (dumps (roundsN M k) (roundsN M k).n) = _
                rw [(HM.out k).2]
              clear q1 q2
              generalize roundsN M k = R at *
              obtain ⟨wp, rfl⟩ : ∃ wp : World, wp = wr := ⟨_, rfl⟩
              go_wp2
              go_loopw [7] (fun v wr => ∃ j : Nat, j ≤ A.n ∧ v = .int .i64 j ∧ ∃ ρ' V', KI wr B ρ' i bk bx bs (dumps R j) V' ∧ Aft i ρ ρ' w wr) (fun v _ => A.n - (intOf v).toNat)
              case atStart => exact ⟨0, by omega, rfl, ρ4, V4, Q1.out, Q2.out⟩
              case round =>
                clear Q1 Q2
                obtain ⟨j, hj, rfl, ρ5, V5, q1, q2⟩ := hrel
                have c1 := q1.k1
                rw [(HD.out j hj).1] at c1
                have z1 : B ≤ wr.heap.size := Nat.le_trans hB q2.only.size
                by_cases hjn : j < A.n
                · have hjn' : (j : Int) < (A.n : Int) := by omega
                  have CX : Hid (Calls Try.prog 26 #[.pointer (some ⟨bk, 0, none⟩), .int .i64 j] wr fun e w' => e = .returned (.bool true) ∧ PostK B i ρ5 bk bx bs (dumps R (j + 1)) wr w') := kdumps q1 q2.new z1 j (by rw [(HD.out j hj).1]; exact hjn) ((HD.out j hj).2 j hjn)
                  have Q2 : Hid (Aft i ρ ρ5 w wr) := q2
                  clear q1 q2
                  go_wp2_with (go_at_call 26; refine (CX.out).mono ?_; rintro e w1 ⟨rfl, ρ6, V6, t1, t2⟩)
                  go_roundw
                  case rel => exact ⟨j + 1, by omega, by go_num, ρ6, V6, t1, Q2.out.trans t2⟩
                  case measure => simp [intOf]; omega
                · have hjn' : ¬ (j : Int) < (A.n : Int) := by omega
                  have e : j = A.n := by omega
                  subst e
                  have CX : Hid (Calls Try.prog 32 #[.pointer (some ⟨bk, 0, none⟩)] wr fun e w' => e = .returned (.tuple #[]) ∧ PostK B i ρ5 bk bx bs (roundsN M (k + 1)) wr w') := by
                    have := kall q1 q2.new
                    rw [← HN.out] at this
                    exact this
                  have Q2 : Hid (Aft i ρ ρ5 w wr) := q2
                  clear q1 q2
                  go_wp2_with (go_at_call 32; refine (CX.out).mono ?_; rintro e w1 ⟨rfl, ρ6, V6, t1, t2⟩)
                  go_roundw
                  case rel => exact ⟨k + 1, by omega, by go_num, ρ6, V6, t1, Q2.out.trans t2⟩
                  case measure => simp [intOf]; omega
            · have hkn' : ¬ (k : Int) < (A.n : Int) + 2 := by omega
              have e : k = A.n + 2 := by omega
              subst e
              have Q1 : Hid (KI wr B ρ4 i bk bx bs (quietN A) V4) := by rw [HQ.out]; exact q1
              have Q2 : Hid (Aft i ρ ρ4 w wr) := q2
              clear q1 q2
              go_wp2
              go_ret
              exact ⟨rfl, ρ4, V4, Q1.out, Q2.out⟩
end
end Go.Proofs.Ytdoodnbobpijoaa

namespace Go.Proofs.Ytdoodnbobpijoaa
open Go.RowKit

/-! ### How far it is, walked -/
theorem al25 (w : World) : (Instr.alloc 35 true (.tuple #[])).run Try.prog w = .ok (.pointer (some ⟨w.heap.size, 0, none⟩)) (w.alloc (.cells (matA fun _ _ => 0) 35)) := by kernel_rfl
theorem size25 : (Try.prog.info? 35).map (·.size) = some 25 := by kernel_rfl
theorem ld25 (w : World) (ρ : Operand → Value) (x : Operand) (ds : Option Tmp) (ty : TypeId) (ps : String) (af : Array Edge) (g : Option (Nat × Bool))
    (h1 : ρ x = .pointer (some ⟨vb (ρ x), vo (ρ x), none⟩)) (h2 : MidOk w (vb (ρ x)) (vo (ρ x)) 25) :
    (execOp ρ { dst := ds, op := .load 35 x, type := ty, pos := ps, after := af, guard := g }).run Try.prog w = .ok (.value (.agg (midA w (vb (ρ x)) (vo (ρ x)) 25))) w :=
  load_rule Try.underlying35 rfl size25 w ρ x ds ty ps af g h1 h2
theorem st25 (w : World) (ρ : Operand → Value) (x y : Operand) (ds : Option Tmp) (ty : TypeId) (ps : String) (af : Array Edge) (g : Option (Nat × Bool))
    (h1 : ρ x = .pointer (some ⟨vb (ρ x), vo (ρ x), none⟩)) (h3 : AggOk 25 (ρ y)) (h2 : w.there (vb (ρ x)) (vo (ρ x)) 25) :
    (execOp ρ { dst := ds, op := .store 35 x y, type := ty, pos := ps, after := af, guard := g }).run Try.prog w = .ok .skip (w.setCells (vb (ρ x)) (vo (ρ x)) (cellsL (ρ y))) :=
  store_rule size25 w ρ x y ds ty ps af g h1 h3 h2
theorem alc25 (w : World) (ρ : Operand → Value) (ds : Option Tmp) (ty : TypeId) (ps : String) (af : Array Edge) (g : Option (Nat × Bool)) :
    (execOp ρ { dst := ds, op := .alloc 35, type := ty, pos := ps, after := af, guard := g }).run Try.prog w = .ok (.value (.pointer (some ⟨w.heap.size, 0, none⟩))) (w.alloc (.cells (matA fun _ _ => 0) 35)) :=
  alloc_rule al25 w ρ ds ty ps af g
theorem aggOk_mat (M : Nat → Nat → Int) : AggOk 25 (.agg (matA M)) := ⟨rfl, rfl, by simp [Value.cells, matA, Value.oneCell', I]⟩
theorem fwN_le (C : Nat → Nat → Int) (h : ∀ a b, C a b ≤ 9) (k a b : Nat) : fwN C k a b ≤ 1000 := by
  have h0 := fwN_mono C 0 k a b
  rw [Nat.zero_add] at h0
  have h1 : fwN C 0 a b = fw0 C a b := rfl
  have h2 := h a b
  unfold fw0 at h1
  split at h1
  · omega
  · split at h1 <;> omega
/-- The beginning. -/
def iniM (C : Nat → Nat → Int) (a b : Nat) : Nat → Nat → Int := fun x y => if x < a then fw0 C x y else if x = a ∧ y < b then (if 0 < C x y then C x y else 1000) else 0
theorem ini_zero (C : Nat → Nat → Int) : matA (iniM C 0 0) = matA fun _ _ => 0 := matA_congr fun x _ y _ => by
  show (if x < 0 then _ else if x = 0 ∧ y < 0 then _ else _) = _
  rw [if_neg (by omega), if_neg (by omega)]
theorem ini_set (C : Nat → Nat → Int) (a b : Nat) (v : Int) (hv : v = if 0 < C a b then C a b else 1000) : (fun x y => if x = a ∧ y = b then v else iniM C a b x y) = iniM C a (b + 1) := by
  funext x y
  show (if x = a ∧ y = b then v else if x < a then fw0 C x y else if x = a ∧ y < b then _ else _) = if x < a then fw0 C x y else if x = a ∧ y < b + 1 then _ else _
  by_cases e : x = a ∧ y = b
  · obtain ⟨rfl, rfl⟩ := e
    rw [if_pos ⟨rfl, rfl⟩, if_neg (by omega), if_pos ⟨rfl, by omega⟩]; exact hv
  · rw [if_neg e]
    by_cases h1 : x < a
    · rw [if_pos h1, if_pos h1]
    · rw [if_neg h1, if_neg h1]
      by_cases h2 : x = a ∧ y < b
      · rw [if_pos h2]
        have h3 : x = a ∧ y < b + 1 := ⟨h2.1, by omega⟩
        simp only [h3, and_self, if_true]
      · have h3 : ¬ (x = a ∧ y < b + 1) := by omega
        rw [if_neg h2, if_neg h3]
theorem set_set (M : Nat → Nat → Int) (a b : Nat) (u v : Int) : (fun x y => if x = a ∧ y = b then v else (fun x y => if x = a ∧ y = b then u else M x y) x y) = fun x y => if x = a ∧ y = b then v else M x y := by
  funext x y
  show (if x = a ∧ y = b then v else if x = a ∧ y = b then u else M x y) = _
  by_cases e : x = a ∧ y = b
  · rw [if_pos e, if_pos e]
  · rw [if_neg e, if_neg e, if_neg e]
theorem ini_row (C : Nat → Nat → Int) (a : Nat) : matA (fun x y => if x = a ∧ y = a then 0 else iniM C a 5 x y) = matA (iniM C (a + 1) 0) := matA_congr fun x _ y hy => by
  show (if x = a ∧ y = a then 0 else if x < a then fw0 C x y else if x = a ∧ y < 5 then (if 0 < C x y then C x y else 1000) else 0) = if x < a + 1 then fw0 C x y else if x = a + 1 ∧ y < 0 then _ else 0
  by_cases e : x = a ∧ y = a
  · obtain ⟨rfl, rfl⟩ := e
    rw [if_pos ⟨rfl, rfl⟩, if_pos (by omega)]; unfold fw0; rw [if_pos rfl]
  · rw [if_neg e]
    by_cases h1 : x < a
    · rw [if_pos h1, if_pos (by omega)]
    · rw [if_neg h1]
      by_cases h2 : x = a
      · subst h2
        have h3 : x < x + 1 := by omega
        have h4 : ¬ x = y := by omega
        simp only [hy, h3, and_self, if_true, fw0, h4, if_false]
      · have h3 : ¬ (x = a ∧ y < 5) := by omega
        have h4 : ¬ x < a + 1 := by omega
        have h5 : ¬ (x = a + 1 ∧ y < 0) := by omega
        rw [if_neg h3, if_neg h4, if_neg h5]
theorem ini_end (C : Nat → Nat → Int) : matA (iniM C 5 0) = matA (fwN C 0) := matA_congr fun x hx y _ => by
  show (if x < 5 then _ else _) = _
  rw [if_pos hx]; rfl
theorem Whole.mat {w : World} {b : Nat} {t : TypeId} {M : Nat → Nat → Int} (h : Whole w b t (matA M)) (x y : Nat) (hx : x < 5) (hy : y < 5) (v : Int) : Whole (w.setCell ⟨b, x * 5 + y, none⟩ (I v)) b t (matA fun x' y' => if x' = x ∧ y' = y then v else M x' y') := by
  have := h.setAt (x * 5 + y) (I v)
  rw [matA_set M v x hx y hy] at this
  exact this
theorem Whole.matc {w : World} {b : Nat} {t : TypeId} {M : Nat → Nat → Int} (h : Whole w b t (matA M)) (x y : Nat) (hx : x < 5) (hy : y < 5) : w.cell? ⟨b, x * 5 + y, none⟩ = some (I (M x y)) := by
  rw [h.cell, matA_at M x hx y hy]
section
variable {w : World} {B : Nat} {ρ : Nat → Part} {i bk bx bs : Nat} {A : Nt} {C : Nat → Nat → Int} {V : Nat → Nat → Value}
attribute [local go_sem ↓] Go.wp_at_zero Go.wp_at_succ ld25 st25 alc25
attribute [local go_sem] vb_ptr vo_ptr cellsL_agg size_setCells
set_option maxHeartbeats 4000000 in
set_option maxRecDepth 100000 in
theorem kfar (h : KN w B ρ i bk bx bs A C V) (hC : ∀ a b, 0 ≤ C a b ∧ C a b ≤ 9) :
    Calls Try.prog 18 #[.pointer (some ⟨bk, 0, none⟩)] w fun e w' => e = .returned (.agg (matA (dist C))) ∧ Below w.heap.size w w' := by
  have H : Hid (KN w B ρ i bk bx bs A C V) := h
  have lk := h.lt
  clear h
  have n0 := (Whole.new w 35 (matA fun _ _ => 0)).alloc (.cells (matA fun _ _ => 0) 35)
  have n1 := Whole.new (w.alloc (.cells (matA fun _ _ => 0) 35)) 35 (matA fun _ _ => 0)
  simp only [World.size_alloc] at n1
  have hb : Below w.heap.size w ((w.alloc (.cells (matA fun _ _ => 0) 35)).alloc (.cells (matA fun _ _ => 0) 35)) := ((Below.refl _ _).alloc (Nat.le_refl _) _).alloc (by simp) _
  have N0 : Hid (Whole ((w.alloc (.cells (matA fun _ _ => 0) 35)).alloc (.cells (matA fun _ _ => 0) 35)) w.heap.size 35 (matA fun _ _ => 0)) := n0
  have N1 : Hid (Whole ((w.alloc (.cells (matA fun _ _ => 0) 35)).alloc (.cells (matA fun _ _ => 0) 35)) (w.heap.size + 1) 35 (matA fun _ _ => 0)) := n1
  have HB : Hid (Below w.heap.size w ((w.alloc (.cells (matA fun _ _ => 0) 35)).alloc (.cells (matA fun _ _ => 0) 35))) := hb
  clear n0 n1 hb
  have hne : w.heap.size ≠ w.heap.size + 1 := by omega
  have hle : w.heap.size ≤ w.heap.size + 1 := by omega
  have hkd : bk ≠ w.heap.size + 1 := by omega
  go_enter Try.func18, Try.ntmps18
  go_wp2
  go_loopw [4] (fun v wr => ∃ a : Nat, a ≤ 5 ∧ v = .int .i64 a ∧ Whole wr w.heap.size 35 (matA fun _ _ => 0) ∧ Whole wr (w.heap.size + 1) 35 (matA (iniM C a 0)) ∧ Below w.heap.size w wr) (fun v _ => 5 - (intOf v).toNat)
  case atStart => exact ⟨0, by omega, rfl, N0.out, by rw [ini_zero]; exact N1.out, HB.out⟩
  case round =>
    clear N0 N1 HB
    obtain ⟨a, ha, rfl, q0, q1, q2⟩ := hrel
    by_cases ha5 : a < 5
    · have ha' : (a : Int) < 5 := by omega
      have Q0 : Hid (Whole wr w.heap.size 35 (matA fun _ _ => 0)) := q0
      have Q1 : Hid (Whole wr (w.heap.size + 1) 35 (matA (iniM C a 0))) := q1
      have Q2 : Hid (Below w.heap.size w wr) := q2
      clear q0 q1 q2
      obtain ⟨wo, rfl⟩ : ∃ wo : World, wo = wr := ⟨_, rfl⟩
      go_wp2
      go_loopw [5] (fun v wr => ∃ b : Nat, b ≤ 5 ∧ v = .int .i64 b ∧ Whole wr w.heap.size 35 (matA fun _ _ => 0) ∧ Whole wr (w.heap.size + 1) 35 (matA (iniM C a b)) ∧ Below w.heap.size w wr) (fun v _ => 5 - (intOf v).toNat)
      case atStart => exact ⟨0, by omega, rfl, Q0.out, Q1.out, Q2.out⟩
      case round =>
        clear Q0 Q1 Q2
        obtain ⟨b, hb, rfl, q0, q1, q2⟩ := hrel
        have f1 := q1.frozen
        by_cases hb5 : b < 5
        · have hb' : (b : Int) < 5 := by omega
          have d1 := q1.matc a b ha5 hb5
          have r1 := q1.mat a b ha5 hb5 1000
          have d2 := r1.matc a b ha5 hb5
          have c1 : (wr.setCell ⟨w.heap.size + 1, a * 5 + b, none⟩ (I 1000)).cell? ⟨bk, 2 + a * 5 + b, none⟩ = some (I (C a b)) := by
            rw [World.cell?_of_block (heap_setCell_other _ _ _ _ hkd)]
            exact (H.out.below q2).kc a b ha5 hb5
          have P0 : Hid (Whole (wr.setCell ⟨w.heap.size + 1, a * 5 + b, none⟩ (I 1000)) w.heap.size 35 (matA fun _ _ => 0)) := q0.setCell (p := ⟨w.heap.size + 1, a * 5 + b, none⟩) hne _
          have P1 : Hid (Whole (wr.setCell ⟨w.heap.size + 1, a * 5 + b, none⟩ (I 1000)) (w.heap.size + 1) 35 (matA fun x' y' => if x' = a ∧ y' = b then 1000 else iniM C a b x' y')) := r1
          have P2 : Hid (Below w.heap.size w (wr.setCell ⟨w.heap.size + 1, a * 5 + b, none⟩ (I 1000))) := q2.setCell (p := ⟨w.heap.size + 1, a * 5 + b, none⟩) hle _
          have hI := ini_set C a b
          have f2 := r1.frozen
          clear q0 q1 q2 r1
          by_cases hc : 0 < C a b
          · have HI : Hid ((fun x y => if x = a ∧ y = b then C a b else iniM C a b x y) = iniM C a (b + 1)) := hI _ (by rw [if_pos hc])
            clear hI
            go_wp2
            go_region
            go_wp2
            go_roundw
            case rel =>
              refine ⟨b + 1, by omega, by go_num, (P0.out.setCell (p := ⟨w.heap.size + 1, a * 5 + b, none⟩) hne _).drew, ?_, (P2.out.setCell (p := ⟨w.heap.size + 1, a * 5 + b, none⟩) hle _).drew⟩
              have := P1.out.mat a b ha5 hb5 (C a b)
              rw [set_set, HI.out] at this
              exact this.drew
            case measure => simp [intOf]; omega
          · have HI : Hid ((fun x y => if x = a ∧ y = b then 1000 else iniM C a b x y) = iniM C a (b + 1)) := hI _ (by rw [if_neg hc])
            clear hI
            go_wp2
            go_roundw
            case rel =>
              refine ⟨b + 1, by omega, by go_num, P0.out, ?_, P2.out⟩
              have := P1.out
              rw [HI.out] at this
              exact this
            case measure => simp [intOf]; omega
        · have e : b = 5 := by omega
          subst e
          have d1 := q1.matc a a ha5 ha5
          have r1 := q1.mat a a ha5 ha5 0
          rw [ini_row] at r1
          have P0 : Hid (Whole (wr.setCell ⟨w.heap.size + 1, a * 5 + a, none⟩ (I 0)) w.heap.size 35 (matA fun _ _ => 0)) := q0.setCell (p := ⟨w.heap.size + 1, a * 5 + a, none⟩) hne _
          have P1 : Hid (Whole (wr.setCell ⟨w.heap.size + 1, a * 5 + a, none⟩ (I 0)) (w.heap.size + 1) 35 (matA (iniM C (a + 1) 0))) := r1
          have P2 : Hid (Below w.heap.size w (wr.setCell ⟨w.heap.size + 1, a * 5 + a, none⟩ (I 0))) := q2.setCell (p := ⟨w.heap.size + 1, a * 5 + a, none⟩) hle _
          clear q0 q1 q2 r1
          go_wp2
          go_roundw
          case rel => exact ⟨a + 1, by omega, by go_num, P0.out, P1.out, P2.out⟩
          case measure => simp [intOf]; omega
    · have e : a = 5 := by omega
      subst e
      rw [ini_end] at q1
      have Q0 : Hid (Whole wr w.heap.size 35 (matA fun _ _ => 0)) := q0
      have Q1 : Hid (Whole wr (w.heap.size + 1) 35 (matA (fwN C 0))) := q1
      have Q2 : Hid (Below w.heap.size w wr) := q2
      clear q0 q1 q2
      obtain ⟨wo, rfl⟩ : ∃ wo : World, wo = wr := ⟨_, rfl⟩
      go_wp2
      go_loopw [6] (fun v wr => ∃ k : Nat, k ≤ 5 ∧ v = .int .i64 k ∧ Whole wr w.heap.size 35 (matA fun _ _ => 0) ∧ Whole wr (w.heap.size + 1) 35 (matA (fwN C k)) ∧ Below w.heap.size w wr) (fun v _ => 5 - (intOf v).toNat)
      case atStart => exact ⟨0, by omega, rfl, Q0.out, Q1.out, Q2.out⟩
      case round =>
        clear Q0 Q1 Q2
        obtain ⟨k, hk, rfl, q0, q1, q2⟩ := hrel
        by_cases hk5 : k < 5
        · have hk' : (k : Int) < 5 := by omega
          have Q0 : Hid (Whole wr w.heap.size 35 (matA fun _ _ => 0)) := q0
          have Q1 : Hid (Whole wr (w.heap.size + 1) 35 (matA (fwIn C k 0 0))) := by rw [fwIn_zero]; exact q1
          have Q2 : Hid (Below w.heap.size w wr) := q2
          clear q0 q1 q2
          obtain ⟨wp, rfl⟩ : ∃ wp : World, wp = wr := ⟨_, rfl⟩
          go_wp2
          go_loopw [7] (fun v wr => ∃ a : Nat, a ≤ 5 ∧ v = .int .i64 a ∧ Whole wr w.heap.size 35 (matA fun _ _ => 0) ∧ Whole wr (w.heap.size + 1) 35 (matA (fwIn C k a 0)) ∧ Below w.heap.size w wr) (fun v _ => 5 - (intOf v).toNat)
          case atStart => exact ⟨0, by omega, rfl, Q0.out, Q1.out, Q2.out⟩
          case round =>
            clear Q0 Q1 Q2
            obtain ⟨a, ha, rfl, q0, q1, q2⟩ := hrel
            by_cases ha5 : a < 5
            · have ha' : (a : Int) < 5 := by omega
              have Q0 : Hid (Whole wr w.heap.size 35 (matA fun _ _ => 0)) := q0
              have Q1 : Hid (Whole wr (w.heap.size + 1) 35 (matA (fwIn C k a 0))) := q1
              have Q2 : Hid (Below w.heap.size w wr) := q2
              clear q0 q1 q2
              obtain ⟨wq, rfl⟩ : ∃ wq : World, wq = wr := ⟨_, rfl⟩
              go_wp2
              go_loopw [8] (fun v wr => ∃ b : Nat, b ≤ 5 ∧ v = .int .i64 b ∧ Whole wr w.heap.size 35 (matA fun _ _ => 0) ∧ Whole wr (w.heap.size + 1) 35 (matA (fwIn C k a b)) ∧ Below w.heap.size w wr) (fun v _ => 5 - (intOf v).toNat)
              case atStart => exact ⟨0, by omega, rfl, Q0.out, Q1.out, Q2.out⟩
              case round =>
                clear Q0 Q1 Q2
                obtain ⟨b, hb, rfl, q0, q1, q2⟩ := hrel
                by_cases hb5 : b < 5
                · have hb' : (b : Int) < 5 := by omega
                  have d1 := q1.matc a b ha5 hb5
                  have d2 := q1.matc a k ha5 hk5
                  have d3 := q1.matc k b hk5 hb5
                  have f1 := q1.frozen
                  have HI : Hid ((fun x y => if x = a ∧ y = b then min (fwIn C k a b a b) (fwIn C k a b a k + fwIn C k a b k b) else fwIn C k a b x y) = fwIn C k a (b + 1)) := fwIn_step C k a b
                  have g2 : 0 ≤ fwIn C k a b a k ∧ fwIn C k a b a k ≤ 1000 := by rw [fwIn_col]; exact ⟨fwN_nonneg C k a k, fwN_le C (fun a b => (hC a b).2) k a k⟩
                  have g3 : 0 ≤ fwIn C k a b k b ∧ fwIn C k a b k b ≤ 1000 := by rw [fwIn_row]; exact ⟨fwN_nonneg C k k b, fwN_le C (fun a b => (hC a b).2) k k b⟩
                  have Q0 : Hid (Whole wr w.heap.size 35 (matA fun _ _ => 0)) := q0
                  have Q1 : Hid (Whole wr (w.heap.size + 1) 35 (matA (fwIn C k a b))) := q1
                  have Q2 : Hid (Below w.heap.size w wr) := q2
                  clear q0 q1 q2
                  generalize fwIn C k a b a b = x1 at *
                  generalize fwIn C k a b a k = x2 at *
                  generalize fwIn C k a b k b = x3 at *
                  obtain ⟨g2, g2'⟩ := g2
                  obtain ⟨g3, g3'⟩ := g3
                  go_wp2
                  go_region
                  go_wp2
                  go_roundw
                  case rel =>
                    refine ⟨b + 1, by omega, by go_num, (Q0.out.setCell (p := ⟨w.heap.size + 1, a * 5 + b, none⟩) hne _).drew, ?_, (Q2.out.setCell (p := ⟨w.heap.size + 1, a * 5 + b, none⟩) hle _).drew⟩
                    have hmin : min x1 (x2 + x3) = if x2 + x3 < x1 then x2 + x3 else x1 := by split <;> omega
                    have := Q1.out.mat a b ha5 hb5 (min x1 (x2 + x3))
                    rw [HI.out, hmin] at this
                    exact this.drew
                  case measure => simp [intOf]; omega
                · have e : b = 5 := by omega
                  subst e
                  have Q1 : Hid (Whole wr (w.heap.size + 1) 35 (matA (fwIn C k (a + 1) 0))) := by rw [← matA_congr fun x _ y hy => fwIn_next C k a x y hy]; exact q1
                  have Q0 : Hid (Whole wr w.heap.size 35 (matA fun _ _ => 0)) := q0
                  have Q2 : Hid (Below w.heap.size w wr) := q2
                  clear q0 q1 q2
                  go_wp2
                  go_roundw
                  case rel => exact ⟨a + 1, by omega, by go_num, Q0.out, Q1.out, Q2.out⟩
                  case measure => simp [intOf]; omega
            · have e : a = 5 := by omega
              subst e
              have Q1 : Hid (Whole wr (w.heap.size + 1) 35 (matA (fwN C (k + 1)))) := by rw [← matA_congr fun x hx y _ => fwIn_round C k x y hx]; exact q1
              have Q0 : Hid (Whole wr w.heap.size 35 (matA fun _ _ => 0)) := q0
              have Q2 : Hid (Below w.heap.size w wr) := q2
              clear q0 q1 q2
              go_wp2
              go_roundw
              case rel => exact ⟨k + 1, by omega, by go_num, Q0.out, Q1.out, Q2.out⟩
              case measure => simp [intOf]; omega
        · have e : k = 5 := by omega
          subst e
          obtain ⟨j1, j2⟩ := q1.mid (matA_size _)
          have j3 := q0.there (matA_size _)
          have ag := aggOk_mat (fwN C 5)
          have Q0 : Hid (Whole wr w.heap.size 35 (matA fun _ _ => 0)) := q0
          have Q2 : Hid (Below w.heap.size w wr) := q2
          clear q0 q1 q2
          go_wp2
          refine bodyPost_ret (v := .agg (matA (dist C))) (results_cell0 (t := 35) rfl _ _ w.heap.size (matA (dist C)) rfl (Q0.out.over (matA (dist C)) rfl) _ Try.underlying35 rfl (by rw [size25]; rfl)) rfl ⟨rfl, Below.setCells Q2.out (Nat.le_refl _) _ _⟩
end
end Go.Proofs.Ytdoodnbobpijoaa

namespace Go.Proofs.Ytdoodnbobpijoaa
open Go.RowKit

/-! ### How many wait -/
def wsum (A : Nt) (r : Nat) : Nat → Int
  | 0 => 0
  | k + 1 => wsum A r k + waitN A r k
theorem waitN_bd {A : Nt} (g : Good A) (a b : Int) : 0 ≤ waitN A a b ∧ waitN A a b ≤ 6 := by
  unfold waitN
  split
  · have := g.wl a.toNat b.toNat
    omega
  · omega
theorem wsum_bd {A : Nt} (g : Good A) (r : Nat) : ∀ k : Nat, 0 ≤ wsum A r k ∧ wsum A r k ≤ 6 * (k : Int)
  | 0 => ⟨Int.le_refl _, by show (0 : Int) ≤ _; omega⟩
  | k + 1 => by
    have h1 := wsum_bd g r k
    have h2 := waitN_bd g (r : Int) (k : Int)
    show 0 ≤ wsum A r k + waitN A r k ∧ wsum A r k + waitN A r k ≤ _
    omega
section
variable {w : World} {B : Nat} {ρ : Nat → Part} {i bk bx bs : Nat} {A : Nt} {C : Nat → Nat → Int} {V : Nat → Nat → Value}
set_option maxHeartbeats 1000000 in
theorem kwaiting_all (h : KN w B ρ i bk bx bs A C V) (r : Nat) :
    Calls Try.prog 24 #[.pointer (some ⟨bk, 0, none⟩), .int .i64 r] w fun e w' => e = .returned (.int .i64 (wsum A r A.n)) ∧ w = w' := by
  have c0 := h.k0
  have c1 := h.k1
  have n5 := h.g.n5
  have HC : Hid (∀ k : Nat, Calls Try.prog 33 #[.pointer (some ⟨bx, 0, none⟩), .int .i64 r, .int .i64 k] w fun e w' => e = .returned (.tuple #[.int .i64 (waitN A r k), .int .i64 (pairE A.n r k)]) ∧ w = w') := fun k => kwaiting h r k
  have HS : Hid (∀ k, wsum A r (k + 1) = wsum A r k + waitN A r k) := fun _ => rfl
  have hB1 := fun k => wsum_bd h.g r k
  have hB2 := fun k : Nat => waitN_bd h.g r k
  clear h
  go_enter Try.func24, Try.ntmps24
  go_wp2
  go_loopw [5, 6] (fun u v wr => ∃ k : Nat, k ≤ A.n ∧ v = .int .i64 k ∧ u = .int .i64 (wsum A r k) ∧ w = wr) (fun _ v _ => A.n - (intOf v).toNat)
  case atStart => exact ⟨0, by omega, rfl, rfl, rfl⟩
  case round =>
    obtain ⟨k, hk, rfl, rfl, rfl⟩ := hrel
    by_cases hkn : k < A.n
    · have hkn' : (k : Int) < (A.n : Int) := by omega
      have b1 := hB1 k
      have b2 := hB2 k
      have HE := HS.out k
      have CX : Hid (Calls Try.prog 33 #[.pointer (some ⟨bx, 0, none⟩), .int .i64 r, .int .i64 k] w fun e w' => e = .returned (.tuple #[.int .i64 (waitN A r k), .int .i64 (pairE A.n r k)]) ∧ w = w') := HC.out k
      have HE' : Hid (wsum A r (k + 1) = wsum A r k + waitN A r k) := HE
      clear HE hB1 hB2
      generalize waitN A r k = y at *
      generalize wsum A r k = x at *
      obtain ⟨b1, b1'⟩ := b1
      obtain ⟨b2, b2'⟩ := b2
      go_wp2_with (go_at_call 33; refine (CX.out).mono ?_; rintro e w' ⟨rfl, rfl⟩)
      go_roundw
      case rel => exact ⟨k + 1, by omega, by go_num, by rw [HE'.out], by trivial⟩
      case measure => simp [intOf]; omega
    · have hkn' : ¬ (k : Int) < (A.n : Int) := by omega
      have e : k = A.n := by omega
      subst e
      clear hB1 hB2
      go_wp2
      go_ret
      exact ⟨rfl, rfl⟩
end
/-! ### A sheet -/
def sheetA (R : Nat → Rt) (E : Nat → Bs) : Array Value := #[I (R 0).nx, I (R 0).sq, I (R 0).mt, I (R 0).ag, I (R 0).st, I (R 1).nx, I (R 1).sq, I (R 1).mt, I (R 1).ag, I (R 1).st, I (R 2).nx, I (R 2).sq, I (R 2).mt, I (R 2).ag, I (R 2).st, I (R 3).nx, I (R 3).sq, I (R 3).mt, I (R 3).ag, I (R 3).st, I (R 4).nx, I (R 4).sq, I (R 4).mt, I (R 4).ag, I (R 4).st, I (E 0).sq, I (E 0).mt, I (E 1).sq, I (E 1).mt, I (E 2).sq, I (E 2).mt, I (E 3).sq, I (E 3).mt, I (E 4).sq, I (E 4).mt]
abbrev zeR : Rt := ⟨0, 0, 0, 0, 0⟩
abbrev zeB : Bs := ⟨0, 0⟩
def setN {α : Type} (f : Nat → α) (d : Nat) (x : α) : Nat → α := fun j => if j = d then x else f j
theorem sheet_setR (R : Nat → Rt) (E : Nat → Bs) (x : Rt) : ∀ d, d < 5 → (((((sheetA R E).setIfInBounds (d * 5) (I x.nx)).setIfInBounds (d * 5 + 1) (I x.sq)).setIfInBounds (d * 5 + 2) (I x.mt)).setIfInBounds (d * 5 + 3) (I x.ag)).setIfInBounds (d * 5 + 4) (I x.st) = sheetA (setN R d x) E := by
  apply five_cases <;> rfl
theorem sheet_setB (R : Nat → Rt) (E : Nat → Bs) (x : Bs) : ∀ d, d < 5 → ((sheetA R E).setIfInBounds (25 + d * 2) (I x.sq)).setIfInBounds (25 + d * 2 + 1) (I x.mt) = sheetA R (setN E d x) := by
  apply five_cases <;> rfl
theorem sheet_ro (R : Nat → Rt) (E : Nat → Bs) : ∀ d, d < 5 → (sheetA R E)[d * 5]? = some (I (R d).nx) ∧ (sheetA R E)[d * 5 + 1]? = some (I (R d).sq) ∧ (sheetA R E)[d * 5 + 2]? = some (I (R d).mt) ∧ (sheetA R E)[d * 5 + 3]? = some (I (R d).ag) ∧ (sheetA R E)[d * 5 + 4]? = some (I (R d).st) := by
  apply five_cases <;> exact ⟨rfl, rfl, rfl, rfl, rfl⟩
theorem sheet_be (R : Nat → Rt) (E : Nat → Bs) : ∀ d, d < 5 → (sheetA R E)[25 + d * 2]? = some (I (E d).sq) ∧ (sheetA R E)[25 + d * 2 + 1]? = some (I (E d).mt) := by
  apply five_cases <;> exact ⟨rfl, rfl⟩
theorem sheet_size (R : Nat → Rt) (E : Nat → Bs) : (sheetA R E).size = 35 := rfl
theorem sheet_congr {R R' : Nat → Rt} {E E' : Nat → Bs} (h : ∀ d, d < 5 → R d = R' d) (k : ∀ d, d < 5 → E d = E' d) : sheetA R E = sheetA R' E' := by
  unfold sheetA
  rw [h 0 (by omega), h 1 (by omega), h 2 (by omega), h 3 (by omega), h 4 (by omega), k 0 (by omega), k 1 (by omega), k 2 (by omega), k 3 (by omega), k 4 (by omega)]
theorem al35 (w : World) : (Instr.alloc 53 true (.tuple #[])).run Try.prog w = .ok (.pointer (some ⟨w.heap.size, 0, none⟩)) (w.alloc (.cells (sheetA (fun _ => zeR) fun _ => zeB) 53)) := by kernel_rfl
theorem size35 : (Try.prog.info? 53).map (·.size) = some 35 := by kernel_rfl
theorem ld35 (w : World) (ρ : Operand → Value) (x : Operand) (ds : Option Tmp) (ty : TypeId) (ps : String) (af : Array Edge) (g : Option (Nat × Bool))
    (h1 : ρ x = .pointer (some ⟨vb (ρ x), vo (ρ x), none⟩)) (h2 : MidOk w (vb (ρ x)) (vo (ρ x)) 35) :
    (execOp ρ { dst := ds, op := .load 53 x, type := ty, pos := ps, after := af, guard := g }).run Try.prog w = .ok (.value (.agg (midA w (vb (ρ x)) (vo (ρ x)) 35))) w :=
  load_rule Try.underlying53 rfl size35 w ρ x ds ty ps af g h1 h2
theorem st35 (w : World) (ρ : Operand → Value) (x y : Operand) (ds : Option Tmp) (ty : TypeId) (ps : String) (af : Array Edge) (g : Option (Nat × Bool))
    (h1 : ρ x = .pointer (some ⟨vb (ρ x), vo (ρ x), none⟩)) (h3 : AggOk 35 (ρ y)) (h2 : w.there (vb (ρ x)) (vo (ρ x)) 35) :
    (execOp ρ { dst := ds, op := .store 53 x y, type := ty, pos := ps, after := af, guard := g }).run Try.prog w = .ok .skip (w.setCells (vb (ρ x)) (vo (ρ x)) (cellsL (ρ y))) :=
  store_rule size35 w ρ x y ds ty ps af g h1 h3 h2
theorem alc35 (w : World) (ρ : Operand → Value) (ds : Option Tmp) (ty : TypeId) (ps : String) (af : Array Edge) (g : Option (Nat × Bool)) :
    (execOp ρ { dst := ds, op := .alloc 53, type := ty, pos := ps, after := af, guard := g }).run Try.prog w = .ok (.value (.pointer (some ⟨w.heap.size, 0, none⟩))) (w.alloc (.cells (sheetA (fun _ => zeR) fun _ => zeB) 53)) :=
  alloc_rule al35 w ρ ds ty ps af g
theorem aggOk_sheet (R : Nat → Rt) (E : Nat → Bs) : AggOk 35 (.agg (sheetA R E)) := ⟨rfl, rfl, by simp [Value.cells, sheetA, Value.oneCell', I]⟩
theorem Whole.sheetR {w : World} {b : Nat} {t : TypeId} {R : Nat → Rt} {E : Nat → Bs} (h : Whole w b t (sheetA R E)) (d : Nat) (hd : d < 5) (x : Rt) :
    Whole (((((w.setCell ⟨b, d * 5, none⟩ (I x.nx)).setCell ⟨b, d * 5 + 1, none⟩ (I x.sq)).setCell ⟨b, d * 5 + 2, none⟩ (I x.mt)).setCell ⟨b, d * 5 + 3, none⟩ (I x.ag)).setCell ⟨b, d * 5 + 4, none⟩ (I x.st)) b t (sheetA (setN R d x) E) := by
  rw [← sheet_setR R E x d hd]
  exact ((((h.setAt _ _).setAt _ _).setAt _ _).setAt _ _).setAt _ _
theorem Whole.sheetB {w : World} {b : Nat} {t : TypeId} {R : Nat → Rt} {E : Nat → Bs} (h : Whole w b t (sheetA R E)) (d : Nat) (hd : d < 5) (x : Bs) :
    Whole ((w.setCell ⟨b, 25 + d * 2, none⟩ (I x.sq)).setCell ⟨b, 25 + d * 2 + 1, none⟩ (I x.mt)) b t (sheetA R (setN E d x)) := by
  rw [← sheet_setB R E x d hd]
  exact (h.setAt _ _).setAt _ _
/-- What a sheet holds, of the routers below k. -/
def shR (A : Nt) (r k : Nat) : Nat → Rt := fun d => if d < k ∧ d ≠ r then routeN A r d else zeR
def shB (A : Nt) (r k : Nat) : Nat → Bs := fun d => if d < k ∧ d ≠ r then bestN A r d else zeB
theorem shR_step (A : Nt) (r k : Nat) (h : k ≠ r) : setN (shR A r k) k (routeN A r k) = shR A r (k + 1) := by
  funext d
  show (if d = k then _ else if d < k ∧ d ≠ r then _ else _) = if d < k + 1 ∧ d ≠ r then _ else _
  by_cases e : d = k
  · subst e; rw [if_pos rfl, if_pos ⟨by omega, h⟩]
  · rw [if_neg e]
    have : (d < k ∧ d ≠ r) ↔ (d < k + 1 ∧ d ≠ r) := by omega
    simp only [this]
theorem shB_step (A : Nt) (r k : Nat) (h : k ≠ r) : setN (shB A r k) k (bestN A r k) = shB A r (k + 1) := by
  funext d
  show (if d = k then _ else if d < k ∧ d ≠ r then _ else _) = if d < k + 1 ∧ d ≠ r then _ else _
  by_cases e : d = k
  · subst e; rw [if_pos rfl, if_pos ⟨by omega, h⟩]
  · rw [if_neg e]
    have : (d < k ∧ d ≠ r) ↔ (d < k + 1 ∧ d ≠ r) := by omega
    simp only [this]
theorem shR_skip (A : Nt) (r : Nat) : shR A r (r + 1) = shR A r r := by
  funext d
  show (if d < r + 1 ∧ d ≠ r then _ else _) = if d < r ∧ d ≠ r then _ else _
  have : (d < r + 1 ∧ d ≠ r) ↔ (d < r ∧ d ≠ r) := by omega
  simp only [this]
theorem shB_skip (A : Nt) (r : Nat) : shB A r (r + 1) = shB A r r := by
  funext d
  show (if d < r + 1 ∧ d ≠ r then _ else _) = if d < r ∧ d ≠ r then _ else _
  have : (d < r + 1 ∧ d ≠ r) ↔ (d < r ∧ d ≠ r) := by omega
  simp only [this]
theorem sh_zero (A : Nt) (r : Nat) : sheetA (shR A r 0) (shB A r 0) = sheetA (fun _ => zeR) fun _ => zeB := sheet_congr (fun d _ => if_neg (by omega)) (fun d _ => if_neg (by omega))
section
variable {w : World} {B : Nat} {ρ : Nat → Part} {i bk bx bs : Nat} {A : Nt} {C : Nat → Nat → Int} {V : Nat → Nat → Value}
attribute [local go_sem ↓] Go.wp_at_zero Go.wp_at_succ ld35 st35 alc35
attribute [local go_sem] vb_ptr vo_ptr cellsL_agg size_setCells
set_option maxHeartbeats 4000000 in
set_option maxRecDepth 100000 in
theorem ksheet (h : KN w B ρ i bk bx bs A C V) (r : Nat) :
    Calls Try.prog 23 #[.pointer (some ⟨bk, 0, none⟩), .int .i64 r] w fun e w' => e = .returned (.agg (sheetA (shR A r A.n) (shB A r A.n))) ∧ Below w.heap.size w w' := by
  have H : Hid (KN w B ρ i bk bx bs A C V) := h
  have lk := h.lt
  have n5 := h.g.n5
  clear h
  have n0 := (Whole.new w 53 (sheetA (fun _ => zeR) fun _ => zeB)).alloc (.cells (sheetA (fun _ => zeR) fun _ => zeB) 53)
  have n1 := Whole.new (w.alloc (.cells (sheetA (fun _ => zeR) fun _ => zeB) 53)) 53 (sheetA (fun _ => zeR) fun _ => zeB)
  simp only [World.size_alloc] at n1
  have hb : Below w.heap.size w ((w.alloc (.cells (sheetA (fun _ => zeR) fun _ => zeB) 53)).alloc (.cells (sheetA (fun _ => zeR) fun _ => zeB) 53)) := ((Below.refl _ _).alloc (Nat.le_refl _) _).alloc (by simp) _
  have N0 : Hid (Whole ((w.alloc (.cells (sheetA (fun _ => zeR) fun _ => zeB) 53)).alloc (.cells (sheetA (fun _ => zeR) fun _ => zeB) 53)) w.heap.size 53 (sheetA (fun _ => zeR) fun _ => zeB)) := n0
  have N1 : Hid (Whole ((w.alloc (.cells (sheetA (fun _ => zeR) fun _ => zeB) 53)).alloc (.cells (sheetA (fun _ => zeR) fun _ => zeB) 53)) (w.heap.size + 1) 53 (sheetA (fun _ => zeR) fun _ => zeB)) := n1
  have HB : Hid (Below w.heap.size w ((w.alloc (.cells (sheetA (fun _ => zeR) fun _ => zeB) 53)).alloc (.cells (sheetA (fun _ => zeR) fun _ => zeB) 53))) := hb
  clear n0 n1 hb
  have hne : w.heap.size ≠ w.heap.size + 1 := by omega
  have hle : w.heap.size ≤ w.heap.size + 1 := by omega
  go_enter Try.func23, Try.ntmps23
  go_wp2
  go_loopw [6] (fun v wr => ∃ k : Nat, k ≤ A.n ∧ v = .int .i64 k ∧ Whole wr w.heap.size 53 (sheetA (fun _ => zeR) fun _ => zeB) ∧ Whole wr (w.heap.size + 1) 53 (sheetA (shR A r k) (shB A r k)) ∧ Below w.heap.size w wr) (fun v _ => A.n - (intOf v).toNat)
  case atStart => exact ⟨0, by omega, rfl, N0.out, by rw [sh_zero]; exact N1.out, HB.out⟩
  case round =>
    clear N0 N1 HB
    obtain ⟨k, hk, rfl, q0, q1, q2⟩ := hrel
    have hK := H.out.below q2
    have c1 := hK.k1
    by_cases hkn : k < A.n
    · have hkn' : (k : Int) < (A.n : Int) := by omega
      have hk5 : k < 5 := by omega
      have hk5' : (k : Int) < 5 := by omega
      by_cases hkr : k = r
      · subst hkr
        have Q1 : Hid (Whole wr (w.heap.size + 1) 53 (sheetA (shR A k (k + 1)) (shB A k (k + 1)))) := by rw [shR_skip, shB_skip]; exact q1
        have Q0 : Hid (Whole wr w.heap.size 53 (sheetA (fun _ => zeR) fun _ => zeB)) := q0
        have Q2 : Hid (Below w.heap.size w wr) := q2
        clear q0 q1 q2 hK
        go_wp2
        go_roundw
        case rel => exact ⟨k + 1, by omega, by go_num, Q0.out, Q1.out, Q2.out⟩
        case measure => simp [intOf]; omega
      · have hkr' : ((k : Int) == (r : Int)) = false := by rw [beq_eq_false_iff_ne]; omega
        have c0 := hK.k0
        have HSR : Hid (setN (shR A r k) k (routeN A r k) = shR A r (k + 1)) := shR_step A r k hkr
        have HSB : Hid (setN (shB A r k) k (bestN A r k) = shB A r (k + 1)) := shB_step A r k hkr
        have CR : Hid (∀ W : World, KN W B ρ i bk bx bs A C V → Calls Try.prog 28 #[.pointer (some ⟨bx, 0, none⟩), .int .i64 r, .int .i64 k] W fun e w' => e = .returned (.tuple #[.agg #[.int .i64 (routeN A r k).nx, .int .i64 (routeN A r k).sq, .int .i64 (routeN A r k).mt, .int .i64 (routeN A r k).ag, .int .i64 (routeN A r k).st], .int .i64 (asksE A r k)]) ∧ Below W.heap.size W w') := fun W hW => kroute hW r k
        have CB : Hid (∀ W : World, KN W B ρ i bk bx bs A C V → Calls Try.prog 29 #[.pointer (some ⟨bx, 0, none⟩), .int .i64 r, .int .i64 k] W fun e w' => e = .returned (.tuple #[.agg #[.int .i64 (bestN A r k).sq, .int .i64 (bestN A r k).mt], .int .i64 (asksE A r k)]) ∧ Below W.heap.size W w') := fun W hW => kbest hW r k
        have Q0 : Hid (Whole wr w.heap.size 53 (sheetA (fun _ => zeR) fun _ => zeB)) := q0
        have Q1 : Hid (Whole wr (w.heap.size + 1) 53 (sheetA (shR A r k) (shB A r k))) := q1
        have Q2 : Hid (Below w.heap.size w wr) := q2
        have HK : Hid (KN wr B ρ i bk bx bs A C V) := hK
        clear q0 q1 q2 hK
        generalize routeN A r k = X at *
        generalize bestN A r k = Y at *
        generalize asksE A r k = Z at *
        generalize shR A r k = R0 at *
        generalize shB A r k = E0 at *
        obtain ⟨x1, x2, x3, x4, x5⟩ := X
        obtain ⟨y1, y2⟩ := Y
        go_wp2_with fail
        refine ((CR.out) _ HK.out).mono ?_
        rintro e w1 ⟨rfl, b1⟩
        have p1 := Q1.out.below b1
        have e1 := sheet_ro R0 E0 k hk5
        have c2 := p1.cell
        have f2 := p1.frozen
        have d1 : w1.cell? ⟨w.heap.size + 1, k * 5, none⟩ = some (I (R0 k).nx) := by rw [c2]; exact e1.1
        have d2 : w1.cell? ⟨w.heap.size + 1, k * 5 + 1, none⟩ = some (I (R0 k).sq) := by rw [c2]; exact e1.2.1
        have d3 : w1.cell? ⟨w.heap.size + 1, k * 5 + 2, none⟩ = some (I (R0 k).mt) := by rw [c2]; exact e1.2.2.1
        have d4 : w1.cell? ⟨w.heap.size + 1, k * 5 + 3, none⟩ = some (I (R0 k).ag) := by rw [c2]; exact e1.2.2.2.1
        have d5 : w1.cell? ⟨w.heap.size + 1, k * 5 + 4, none⟩ = some (I (R0 k).st) := by rw [c2]; exact e1.2.2.2.2
        have p2 := p1.sheetR k hk5 ⟨x1, x2, x3, x4, x5⟩
        have B1 := Q2.out.trans (b1.mono Q2.out.size)
        have B2 := ((((B1.setCell (p := ⟨w.heap.size + 1, k * 5, none⟩) hle (I x1)).setCell (p := ⟨w.heap.size + 1, k * 5 + 1, none⟩) hle (I x2)).setCell (p := ⟨w.heap.size + 1, k * 5 + 2, none⟩) hle (I x3)).setCell (p := ⟨w.heap.size + 1, k * 5 + 3, none⟩) hle (I x4)).setCell (p := ⟨w.heap.size + 1, k * 5 + 4, none⟩) hle (I x5)
        have O2 := (((((Q0.out.below b1).setCell (p := ⟨w.heap.size + 1, k * 5, none⟩) hne (I x1)).setCell (p := ⟨w.heap.size + 1, k * 5 + 1, none⟩) hne (I x2)).setCell (p := ⟨w.heap.size + 1, k * 5 + 2, none⟩) hne (I x3)).setCell (p := ⟨w.heap.size + 1, k * 5 + 3, none⟩) hne (I x4)).setCell (p := ⟨w.heap.size + 1, k * 5 + 4, none⟩) hne (I x5)
        have hK2 := H.out.below B2
        have g0 := hK2.k0
        have P2 : Hid (Whole (((((w1.setCell ⟨w.heap.size + 1, k * 5, none⟩ (I x1)).setCell ⟨w.heap.size + 1, k * 5 + 1, none⟩ (I x2)).setCell ⟨w.heap.size + 1, k * 5 + 2, none⟩ (I x3)).setCell ⟨w.heap.size + 1, k * 5 + 3, none⟩ (I x4)).setCell ⟨w.heap.size + 1, k * 5 + 4, none⟩ (I x5)) (w.heap.size + 1) 53 (sheetA (setN R0 k ⟨x1, x2, x3, x4, x5⟩) E0)) := p2
        have HB2 : Hid (Below w.heap.size w (((((w1.setCell ⟨w.heap.size + 1, k * 5, none⟩ (I x1)).setCell ⟨w.heap.size + 1, k * 5 + 1, none⟩ (I x2)).setCell ⟨w.heap.size + 1, k * 5 + 2, none⟩ (I x3)).setCell ⟨w.heap.size + 1, k * 5 + 3, none⟩ (I x4)).setCell ⟨w.heap.size + 1, k * 5 + 4, none⟩ (I x5))) := B2
        have HO2 : Hid (Whole (((((w1.setCell ⟨w.heap.size + 1, k * 5, none⟩ (I x1)).setCell ⟨w.heap.size + 1, k * 5 + 1, none⟩ (I x2)).setCell ⟨w.heap.size + 1, k * 5 + 2, none⟩ (I x3)).setCell ⟨w.heap.size + 1, k * 5 + 3, none⟩ (I x4)).setCell ⟨w.heap.size + 1, k * 5 + 4, none⟩ (I x5)) w.heap.size 53 (sheetA (fun _ => zeR) fun _ => zeB)) := O2
        have HK2 : Hid (KN (((((w1.setCell ⟨w.heap.size + 1, k * 5, none⟩ (I x1)).setCell ⟨w.heap.size + 1, k * 5 + 1, none⟩ (I x2)).setCell ⟨w.heap.size + 1, k * 5 + 2, none⟩ (I x3)).setCell ⟨w.heap.size + 1, k * 5 + 3, none⟩ (I x4)).setCell ⟨w.heap.size + 1, k * 5 + 4, none⟩ (I x5)) B ρ i bk bx bs A C V) := hK2
        clear p1 e1 c2 p2 B1 B2 O2 hK2 b1
        go_wp2_with fail
        refine ((CB.out) _ HK2.out).mono ?_
        rintro e w2 ⟨rfl, b2⟩
        have p3 := P2.out.below b2
        have e3 := sheet_be (setN R0 k ⟨x1, x2, x3, x4, x5⟩) E0 k hk5
        have f3 := p3.frozen
        have d6 : w2.cell? ⟨w.heap.size + 1, 25 + k * 2, none⟩ = some (I (E0 k).sq) := by rw [p3.cell]; exact e3.1
        have d7 : w2.cell? ⟨w.heap.size + 1, 25 + k * 2 + 1, none⟩ = some (I (E0 k).mt) := by rw [p3.cell]; exact e3.2
        have p4 := p3.sheetB k hk5 ⟨y1, y2⟩
        have B3 := HB2.out.trans (b2.mono HB2.out.size)
        have B4 := (B3.setCell (p := ⟨w.heap.size + 1, 25 + k * 2, none⟩) hle (I y1)).setCell (p := ⟨w.heap.size + 1, 25 + k * 2 + 1, none⟩) hle (I y2)
        have O4 := ((HO2.out.below b2).setCell (p := ⟨w.heap.size + 1, 25 + k * 2, none⟩) hne (I y1)).setCell (p := ⟨w.heap.size + 1, 25 + k * 2 + 1, none⟩) hne (I y2)
        have P4 : Hid (Whole ((w2.setCell ⟨w.heap.size + 1, 25 + k * 2, none⟩ (I y1)).setCell ⟨w.heap.size + 1, 25 + k * 2 + 1, none⟩ (I y2)) (w.heap.size + 1) 53 (sheetA (setN R0 k ⟨x1, x2, x3, x4, x5⟩) (setN E0 k ⟨y1, y2⟩))) := p4
        have HB4 : Hid (Below w.heap.size w ((w2.setCell ⟨w.heap.size + 1, 25 + k * 2, none⟩ (I y1)).setCell ⟨w.heap.size + 1, 25 + k * 2 + 1, none⟩ (I y2))) := B4
        have HO4 : Hid (Whole ((w2.setCell ⟨w.heap.size + 1, 25 + k * 2, none⟩ (I y1)).setCell ⟨w.heap.size + 1, 25 + k * 2 + 1, none⟩ (I y2)) w.heap.size 53 (sheetA (fun _ => zeR) fun _ => zeB)) := O4
        clear p3 e3 p4 B3 B4 O4 b2 P2 HB2 HO2 HK2 d1 d2 d3 d4 d5
        go_wp2
        go_roundw
        case rel => exact ⟨k + 1, by omega, by go_num, HO4.out, by rw [← HSR.out, ← HSB.out]; exact P4.out, HB4.out⟩
        case measure => simp [intOf]; omega
    · have hkn' : ¬ (k : Int) < (A.n : Int) := by omega
      have e : k = A.n := by omega
      subst e
      obtain ⟨j1, j2⟩ := q1.mid (sheet_size _ _)
      have j3 := q0.there (sheet_size _ _)
      have ag := aggOk_sheet (shR A r A.n) (shB A r A.n)
      have Q0 : Hid (Whole wr w.heap.size 53 (sheetA (fun _ => zeR) fun _ => zeB)) := q0
      have Q2 : Hid (Below w.heap.size w wr) := q2
      clear q0 q1 q2 hK
      go_wp2
      refine bodyPost_ret (v := .agg (sheetA (shR A r A.n) (shB A r A.n))) (results_cell0 (t := 53) rfl _ _ w.heap.size (sheetA (shR A r A.n) (shB A r A.n)) rfl (Q0.out.over (sheetA (shR A r A.n) (shB A r A.n)) rfl) _ Try.underlying53 rfl (by rw [size35]; rfl)) rfl ⟨rfl, Below.setCells Q2.out (Nat.le_refl _) _ _⟩
end
end Go.Proofs.Ytdoodnbobpijoaa

