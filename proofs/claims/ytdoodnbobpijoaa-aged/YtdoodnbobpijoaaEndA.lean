import Derived.Test.YtdoodnbobpijoaaBunN
import Derived.Test.YtdoodnbobpijoaaAbsF
import Derived.Test.YtdoodnbobpijoaaWk
import Derived.ChangeKeysEq
import Derived.Test.YtdoodnbobpijoaaBunH
import Derived.Test.YtdoodnbobpijoaaRows
import Derived.Carry
namespace Go.Proofs.Ytdoodnbobpijoaa
open Go.RowKit

/-! ### Quiet -/
theorem bump_goes {A : Nt} {s : Int} (h : Tame A s) (hs : s < 1000) (k : Nat) (hk : k < A.n) : bumpE (bumpTo (wokenN A) k) k = 0 ∧ bumpC (bumpTo (wokenN A) k) k = bumpTo (wokenN A) (k + 1) := by
  obtain ⟨w1, w2, w3, w4⟩ := woken_ok h
  obtain ⟨b1, b2, b3, b4, b5⟩ := bumpTo_ok w1.good (fun r hr => by rw [w2] at hr; have := w4 r hr; omega) k (by rw [w2]; omega)
  have hu : upE (bumpTo (wokenN A) k) k = 0 := upE_nat (by rw [b2, w2]; exact hk) (by rw [(b5 k).1]; exact w1.up k (by rw [w2]; exact hk))
  have hE : bumpE (bumpTo (wokenN A) k) k = 0 := by
    unfold bumpE
    rw [if_neg (by rw [hu]; simp), Int.toNat_natCast, (b5 k).2.2, if_neg (Nat.lt_irrefl k), if_neg]
    have := w4 k hk
    omega
  refine ⟨hE, ?_⟩
  unfold bumpC
  rw [if_pos hE, Int.toNat_natCast]; rfl
theorem quiet_mid {A : Nt} {s : Int} (h : Tame A s) (hs : s < 1000) : (bumpTo (wokenN A) A.n).n = A.n ∧ ∀ k, Calm (roundsN (bumpTo (wokenN A) A.n) k) ∧ (roundsN (bumpTo (wokenN A) A.n) k).n = A.n := by
  obtain ⟨w1, w2, w3, w4⟩ := woken_ok h
  obtain ⟨b1, b2, b3, b4, b5⟩ := bumpTo_ok w1.good (fun r hr => by rw [w2] at hr; have := w4 r hr; omega) (wokenN A).n (Nat.le_refl _)
  rw [w2] at b1 b2 b3 b4 b5
  have q : Calm (bumpTo (wokenN A) A.n) := ⟨b1, fun r hr => by rw [(b5 r).1]; exact w1.up r (by rw [w2]; rw [b2] at hr; exact hr), fun x y => by rw [b4]; exact w1.wa x y, fun x y => by rw [b3]; exact w1.c5 x y⟩
  refine ⟨b2, fun k => ?_⟩
  obtain ⟨r1, r2, r3, r4, r5⟩ := rounds_ok q (fun d hd => by
    rw [b2] at hd
    rw [(b5 d).2.1, (b5 d).2.2, if_pos hd]
    have := w1.good.sq d (by rw [w2]; exact hd)
    omega) k
  exact ⟨r1, r2.trans b2⟩
section
variable {w : World} {B : Nat} {ρ : Nat → Part} {i bk bx bs : Nat} {A : Nt} {V : Nat → Nat → Value}
set_option maxHeartbeats 4000000 in
theorem kquiet (h : KI w B ρ i bk bx bs A V) (hn : ∀ k, w.heap.size ≤ k → ρ k = (0, 0)) (hB : B ≤ w.heap.size) {s : Int} (ht : Tame A s) (hs : s < 1000) :
    Calls Try.prog 17 #[.pointer (some ⟨bk, 0, none⟩)] w fun e w' => e = .returned (.bool true) ∧ PostK B i ρ bk bx bs (quietN A) w w' := by
  have g0 : Hid (Good A) := h.g
  have n5 := h.g.n5
  have aR := Aft.below (i := i) (Below.refl w.heap.size w) hn
  have HT : Hid (Tame A s) := ht
  have HR : Hid (∀ k, k ≤ A.n → (restTo A k).n = A.n) := fun k hk => (restTo_ok h.g k hk).1.n
  have HW : Hid ((wokenN A).n = A.n) := (woken_ok ht).2.1
  have HBm : Hid (∀ k, k < A.n → bumpE (bumpTo (wokenN A) k) k = 0 ∧ bumpC (bumpTo (wokenN A) k) k = bumpTo (wokenN A) (k + 1)) := fun k hk => bump_goes ht hs k hk
  have HBn : Hid (∀ k, k ≤ A.n → (bumpTo (wokenN A) k).n = A.n) := fun k hk => by
    obtain ⟨w1, w2, w3, w4⟩ := woken_ok ht
    exact ((bumpTo_ok w1.good (fun r hr => by rw [w2] at hr; have := w4 r hr; omega) k (by rw [w2]; omega)).2.1).trans w2
  have HM : Hid (∀ k, Calm (roundsN (bumpTo (wokenN A) A.n) k) ∧ (roundsN (bumpTo (wokenN A) A.n) k).n = A.n) := (quiet_mid ht hs).2
  have HQ : Hid (quietN A = roundsN (bumpTo (wokenN A) A.n) (A.n + 2)) := rfl
  have HRa : Hid (allN (restTo A A.n) = wokenN A) := rfl
  clear ht
  go_enter Try.func17, Try.ntmps17
  go_wp2
  go_loopw [3] (fun v wr => ∃ k : Nat, k ≤ A.n ∧ v = .int .i64 k ∧ ∃ ρ' V', KI wr B ρ' i bk bx bs (restTo A k) V' ∧ Aft i ρ ρ' w wr) (fun v _ => A.n - (intOf v).toNat)
  case atStart => exact ⟨0, by omega, rfl, ρ, V, h, aR⟩
  case round =>
    clear h aR
    obtain ⟨k, hk, rfl, ρ1, V1, q1, q2⟩ := hrel
    have c1 := q1.k1
    rw [HR.out k hk] at c1
    by_cases hkn : k < A.n
    · have hkn' : (k : Int) < (A.n : Int) := by omega
      have c0 := q1.k0
      have CX : Hid (Calls Try.prog 21 #[.pointer (some ⟨bx, 0, none⟩), .int .i64 k] wr fun e w' => e = .returned (.int .i64 (restartE (restTo A k) k)) ∧ PostK B i ρ1 bk bx bs (restTo A (k + 1)) wr w') := krestart q1 q2.new k
      have Q2 : Hid (Aft i ρ ρ1 w wr) := q2
      clear q1 q2
      go_wp2_with (go_at_call 21; refine (CX.out).mono ?_; rintro e w1 ⟨rfl, ρ2, V2, t1, t2⟩)
      go_roundw
      case rel => exact ⟨k + 1, by omega, by go_num, ρ2, V2, t1, Q2.out.trans t2⟩
      case measure => simp [intOf]; omega
    · have hkn' : ¬ (k : Int) < (A.n : Int) := by omega
      have e : k = A.n := by omega
      subst e
      have CX : Hid (Calls Try.prog 32 #[.pointer (some ⟨bk, 0, none⟩)] wr fun e w' => e = .returned (.tuple #[]) ∧ PostK B i ρ1 bk bx bs (wokenN A) wr w') := kall q1 q2.new
      have Q2 : Hid (Aft i ρ ρ1 w wr) := q2
      clear q1 q2
      obtain ⟨wo, rfl⟩ : ∃ wo : World, wo = wr := ⟨_, rfl⟩
      go_wp2_with (go_at_call 32; refine (CX.out).mono ?_; rintro e w1 ⟨rfl, ρ2, V2, t1, t2⟩; have T1 : Hid (KI w1 B ρ2 i bk bx bs (wokenN A) V2) := t1; have T2 : Hid (Aft i ρ ρ2 w w1) := Q2.out.trans t2; clear t1 t2)
      go_loopw [4] (fun v wr => ∃ k : Nat, k ≤ A.n ∧ v = .int .i64 k ∧ ∃ ρ' V', KI wr B ρ' i bk bx bs (bumpTo (wokenN A) k) V' ∧ Aft i ρ ρ' w wr) (fun v _ => A.n - (intOf v).toNat)
      case atStart => exact ⟨0, by omega, rfl, ρ2, V2, T1.out, T2.out⟩
      case round =>
        clear T1 T2
        obtain ⟨k, hk, rfl, ρ3, V3, q1, q2⟩ := hrel
        have c1 := q1.k1
        rw [HBn.out k hk] at c1
        by_cases hkn : k < A.n
        · have hkn' : (k : Int) < (A.n : Int) := by omega
          have c0 := q1.k0
          have CX : Hid (Calls Try.prog 43 #[.pointer (some ⟨bx, 0, none⟩), .int .i64 k] wr fun e w' => e = .returned (.int .i64 0) ∧ PostK B i ρ3 bk bx bs (bumpTo (wokenN A) (k + 1)) wr w') := by
            have := kbump q1 q2.new k
            rw [(HBm.out k hkn).1, (HBm.out k hkn).2] at this
            exact this
          have Q2 : Hid (Aft i ρ ρ3 w wr) := q2
          clear q1 q2
          go_wp2_with (go_at_call 43; refine (CX.out).mono ?_; rintro e w1 ⟨rfl, ρ4, V4, t1, t2⟩)
          go_roundw
          case rel => exact ⟨k + 1, by omega, by go_num, ρ4, V4, t1, Q2.out.trans t2⟩
          case measure => simp [intOf]; omega
        · have hkn' : ¬ (k : Int) < (A.n : Int) := by omega
          have e : k = A.n := by omega
          subst e
          have Q1 : Hid (KI wr B ρ3 i bk bx bs (bumpTo (wokenN A) A.n) V3) := q1
          have Q2 : Hid (Aft i ρ ρ3 w wr) := q2
          clear q1 q2
          generalize bumpTo (wokenN A) A.n = M at *
          obtain ⟨wo, rfl⟩ : ∃ wo : World, wo = wr := ⟨_, rfl⟩
          go_wp2
          go_loopw [6] (fun v wr => ∃ k : Nat, k ≤ A.n + 2 ∧ v = .int .i64 k ∧ ∃ ρ' V', KI wr B ρ' i bk bx bs (roundsN M k) V' ∧ Aft i ρ ρ' w wr) (fun v _ => A.n + 2 - (intOf v).toNat)
          case atStart => exact ⟨0, by omega, rfl, ρ3, V3, Q1.out, Q2.out⟩
          case round =>
            clear Q1 Q2
            obtain ⟨k, hk, rfl, ρ4, V4, q1, q2⟩ := hrel
            have c1 := q1.k1
            rw [(HM.out k).2] at c1
            by_cases hkn : k < A.n + 2
            · have hkn' : (k : Int) < (A.n : Int) + 2 := by omega
              have Q1 : Hid (KI wr B ρ4 i bk bx bs (roundsN M k) V4) := q1
              have Q2 : Hid (Aft i ρ ρ4 w wr) := q2
              have HD : Hid (∀ j, j ≤ A.n → (dumps (roundsN M k) j).n = A.n ∧ ∀ r, r < A.n → ((dumps (roundsN M k) j).rs r).dn = false) := fun j hj => by
                obtain ⟨d1, d2, d3, d4, _⟩ := dumps_ok (HM.out k).1 j (by rw [(HM.out k).2]; exact hj)
                exact ⟨d2.trans (HM.out k).2, fun r hr => by rw [d4]; exact (HM.out k).1.up r (by rw [(HM.out k).2]; exact hr)⟩
              have HN : Hid (roundsN M (k + 1) = allN (dumps (roundsN M k) A.n)) := by
                show allN (dumps (roundsN M k) (roundsN M k).n) = _
                rw [(HM.out k).2]
              clear q1 q2
              generalize roundsN M k = R at *
              obtain ⟨wp, rfl⟩ : ∃ wp : World, wp = wr := ⟨_, rfl⟩
              go_wp2
              go_loopw [7] (fun v wr => ∃ j : Nat, j ≤ A.n ∧ v = .int .i64 j ∧ ∃ ρ' V', KI wr B ρ' i bk bx bs (dumps R j) V' ∧ Aft i ρ ρ' w wr) (fun v _ => A.n - (intOf v).toNat)
              case atStart => exact ⟨0, by omega, rfl, ρ4, V4, Q1.out, Q2.out⟩
              case round =>
                clear Q1 Q2
                obtain ⟨j, hj, rfl, ρ5, V5, q1, q2⟩ := hrel
                have c1 := q1.k1
                rw [(HD.out j hj).1] at c1
                have z1 : B ≤ wr.heap.size := Nat.le_trans hB q2.only.size
                by_cases hjn : j < A.n
                · have hjn' : (j : Int) < (A.n : Int) := by omega
                  have CX : Hid (Calls Try.prog 26 #[.pointer (some ⟨bk, 0, none⟩), .int .i64 j] wr fun e w' => e = .returned (.bool true) ∧ PostK B i ρ5 bk bx bs (dumps R (j + 1)) wr w') := kdumps q1 q2.new z1 j (by rw [(HD.out j hj).1]; exact hjn) ((HD.out j hj).2 j hjn)
                  have Q2 : Hid (Aft i ρ ρ5 w wr) := q2
                  clear q1 q2
                  go_wp2_with (go_at_call 26; refine (CX.out).mono ?_; rintro e w1 ⟨rfl, ρ6, V6, t1, t2⟩)
                  go_roundw
                  case rel => exact ⟨j + 1, by omega, by go_num, ρ6, V6, t1, Q2.out.trans t2⟩
                  case measure => simp [intOf]; omega
                · have hjn' : ¬ (j : Int) < (A.n : Int) := by omega
                  have e : j = A.n := by omega
                  subst e
                  have CX : Hid (Calls Try.prog 32 #[.pointer (some ⟨bk, 0, none⟩)] wr fun e w' => e = .returned (.tuple #[]) ∧ PostK B i ρ5 bk bx bs (roundsN M (k + 1)) wr w') := by
                    have := kall q1 q2.new
                    rw [← HN.out] at this
                    exact this
                  have Q2 : Hid (Aft i ρ ρ5 w wr) := q2
                  clear q1 q2
                  go_wp2_with (go_at_call 32; refine (CX.out).mono ?_; rintro e w1 ⟨rfl, ρ6, V6, t1, t2⟩)
                  go_roundw
                  case rel => exact ⟨k + 1, by omega, by go_num, ρ6, V6, t1, Q2.out.trans t2⟩
                  case measure => simp [intOf]; omega
            · have hkn' : ¬ (k : Int) < (A.n : Int) + 2 := by omega
              have e : k = A.n + 2 := by omega
              subst e
              have Q1 : Hid (KI wr B ρ4 i bk bx bs (quietN A) V4) := by rw [HQ.out]; exact q1
              have Q2 : Hid (Aft i ρ ρ4 w wr) := q2
              clear q1 q2
              go_wp2
              go_ret
              exact ⟨rfl, ρ4, V4, Q1.out, Q2.out⟩
end
end Go.Proofs.Ytdoodnbobpijoaa

namespace Go.Proofs.Ytdoodnbobpijoaa

/-! ### How far it is, reckoned in place -/
/-- In round k, behind what is ahead of (a, b). -/
def fwIn (C : Nat → Nat → Int) (k a b : Nat) : Nat → Nat → Int := fun x y => if x < a ∨ (x = a ∧ y < b) then fwN C (k + 1) x y else fwN C k x y
theorem fwIn_zero (C : Nat → Nat → Int) (k : Nat) : fwIn C k 0 0 = fwN C k := by
  funext x y
  unfold fwIn
  rw [if_neg (by omega)]
theorem fwN_col (C : Nat → Nat → Int) (k x : Nat) : fwN C (k + 1) x k = fwN C k x k := by
  rw [fwN_succ, fwN_diag]; omega
theorem fwN_row (C : Nat → Nat → Int) (k y : Nat) : fwN C (k + 1) k y = fwN C k k y := by
  rw [fwN_succ, fwN_diag]; omega
theorem fwIn_col (C : Nat → Nat → Int) (k a b x : Nat) : fwIn C k a b x k = fwN C k x k := by
  unfold fwIn; split
  · exact fwN_col C k x
  · rfl
theorem fwIn_row (C : Nat → Nat → Int) (k a b y : Nat) : fwIn C k a b k y = fwN C k k y := by
  unfold fwIn; split
  · exact fwN_row C k y
  · rfl
/-- One place more. -/
theorem fwIn_step (C : Nat → Nat → Int) (k a b : Nat) : (fun x y => if x = a ∧ y = b then min (fwIn C k a b a b) (fwIn C k a b a k + fwIn C k a b k b) else fwIn C k a b x y) = fwIn C k a (b + 1) := by
  funext x y
  by_cases e : x = a ∧ y = b
  · obtain ⟨rfl, rfl⟩ := e
    show (if x = x ∧ y = y then _ else _) = _
    rw [if_pos ⟨rfl, rfl⟩, fwIn_col, fwIn_row]
    unfold fwIn
    rw [if_neg (by omega), if_pos (by omega), fwN_succ]
  · show (if x = a ∧ y = b then _ else _) = _
    rw [if_neg e]
    unfold fwIn
    by_cases h : x < a ∨ (x = a ∧ y < b)
    · rw [if_pos h, if_pos (by omega)]
    · rw [if_neg h, if_neg (by omega)]
/-- A row more, a round more (of those places that there are). -/
theorem fwIn_next (C : Nat → Nat → Int) (k a x y : Nat) (hy : y < 5) : fwIn C k a 5 x y = fwIn C k (a + 1) 0 x y := by
  unfold fwIn
  by_cases h : x < a ∨ (x = a ∧ y < 5)
  · rw [if_pos h, if_pos (by omega)]
  · rw [if_neg h, if_neg (by omega)]
theorem fwIn_round (C : Nat → Nat → Int) (k x y : Nat) (hx : x < 5) : fwIn C k 5 0 x y = fwN C (k + 1) x y := by
  unfold fwIn
  rw [if_pos (by omega)]
end Go.Proofs.Ytdoodnbobpijoaa

namespace Go.Proofs.Ytdoodnbobpijoaa
open Go.RowKit

/-! ### Five by five numbers -/
def matA (M : Nat → Nat → Int) : Array Value := #[I (M 0 0), I (M 0 1), I (M 0 2), I (M 0 3), I (M 0 4), I (M 1 0), I (M 1 1), I (M 1 2), I (M 1 3), I (M 1 4), I (M 2 0), I (M 2 1), I (M 2 2), I (M 2 3), I (M 2 4), I (M 3 0), I (M 3 1), I (M 3 2), I (M 3 3), I (M 3 4), I (M 4 0), I (M 4 1), I (M 4 2), I (M 4 3), I (M 4 4)]
theorem five_cases {p : Nat → Prop} (h0 : p 0) (h1 : p 1) (h2 : p 2) (h3 : p 3) (h4 : p 4) : ∀ a, a < 5 → p a := fun a ha => by
  rcases (by omega : a = 0 ∨ a = 1 ∨ a = 2 ∨ a = 3 ∨ a = 4) with rfl | rfl | rfl | rfl | rfl
  · exact h0
  · exact h1
  · exact h2
  · exact h3
  · exact h4
theorem matA_at (M : Nat → Nat → Int) : ∀ a, a < 5 → ∀ b, b < 5 → (matA M)[a * 5 + b]? = some (I (M a b)) := by
  apply five_cases <;> apply five_cases <;> rfl
theorem matA_set (M : Nat → Nat → Int) (v : Int) : ∀ a, a < 5 → ∀ b, b < 5 → (matA M).setIfInBounds (a * 5 + b) (I v) = matA (fun x y => if x = a ∧ y = b then v else M x y) := by
  apply five_cases <;> apply five_cases <;> rfl
theorem matA_congr {M N : Nat → Nat → Int} (h : ∀ a, a < 5 → ∀ b, b < 5 → M a b = N a b) : matA M = matA N := by
  unfold matA
  rw [h 0 (by omega) 0 (by omega), h 0 (by omega) 1 (by omega), h 0 (by omega) 2 (by omega), h 0 (by omega) 3 (by omega), h 0 (by omega) 4 (by omega), h 1 (by omega) 0 (by omega), h 1 (by omega) 1 (by omega), h 1 (by omega) 2 (by omega), h 1 (by omega) 3 (by omega), h 1 (by omega) 4 (by omega), h 2 (by omega) 0 (by omega), h 2 (by omega) 1 (by omega), h 2 (by omega) 2 (by omega), h 2 (by omega) 3 (by omega), h 2 (by omega) 4 (by omega), h 3 (by omega) 0 (by omega), h 3 (by omega) 1 (by omega), h 3 (by omega) 2 (by omega), h 3 (by omega) 3 (by omega), h 3 (by omega) 4 (by omega), h 4 (by omega) 0 (by omega), h 4 (by omega) 1 (by omega), h 4 (by omega) 2 (by omega), h 4 (by omega) 3 (by omega), h 4 (by omega) 4 (by omega)]
theorem matA_size (M : Nat → Nat → Int) : (matA M).size = 25 := rfl
end Go.Proofs.Ytdoodnbobpijoaa

namespace Go.Proofs.Ytdoodnbobpijoaa
open Go.RowKit

/-! ### How many wait -/
def wsum (A : Nt) (r : Nat) : Nat → Int
  | 0 => 0
  | k + 1 => wsum A r k + waitN A r k
theorem waitN_bd {A : Nt} (g : Good A) (a b : Int) : 0 ≤ waitN A a b ∧ waitN A a b ≤ 6 := by
  unfold waitN
  split
  · have := g.wl a.toNat b.toNat
    omega
  · omega
theorem wsum_bd {A : Nt} (g : Good A) (r : Nat) : ∀ k : Nat, 0 ≤ wsum A r k ∧ wsum A r k ≤ 6 * (k : Int)
  | 0 => ⟨Int.le_refl _, by show (0 : Int) ≤ _; omega⟩
  | k + 1 => by
    have h1 := wsum_bd g r k
    have h2 := waitN_bd g (r : Int) (k : Int)
    show 0 ≤ wsum A r k + waitN A r k ∧ wsum A r k + waitN A r k ≤ _
    omega
section
variable {w : World} {B : Nat} {ρ : Nat → Part} {i bk bx bs : Nat} {A : Nt} {C : Nat → Nat → Int} {V : Nat → Nat → Value}
set_option maxHeartbeats 1000000 in
theorem kwaiting_all (h : KN w B ρ i bk bx bs A C V) (r : Nat) :
    Calls Try.prog 24 #[.pointer (some ⟨bk, 0, none⟩), .int .i64 r] w fun e w' => e = .returned (.int .i64 (wsum A r A.n)) ∧ w = w' := by
  have c0 := h.k0
  have c1 := h.k1
  have n5 := h.g.n5
  have HC : Hid (∀ k : Nat, Calls Try.prog 33 #[.pointer (some ⟨bx, 0, none⟩), .int .i64 r, .int .i64 k] w fun e w' => e = .returned (.tuple #[.int .i64 (waitN A r k), .int .i64 (pairE A.n r k)]) ∧ w = w') := fun k => kwaiting h r k
  have HS : Hid (∀ k, wsum A r (k + 1) = wsum A r k + waitN A r k) := fun _ => rfl
  have hB1 := fun k => wsum_bd h.g r k
  have hB2 := fun k : Nat => waitN_bd h.g r k
  clear h
  go_enter Try.func24, Try.ntmps24
  go_wp2
  go_loopw [5, 6] (fun u v wr => ∃ k : Nat, k ≤ A.n ∧ v = .int .i64 k ∧ u = .int .i64 (wsum A r k) ∧ w = wr) (fun _ v _ => A.n - (intOf v).toNat)
  case atStart => exact ⟨0, by omega, rfl, rfl, rfl⟩
  case round =>
    obtain ⟨k, hk, rfl, rfl, rfl⟩ := hrel
    by_cases hkn : k < A.n
    · have hkn' : (k : Int) < (A.n : Int) := by omega
      have b1 := hB1 k
      have b2 := hB2 k
      have HE := HS.out k
      have CX : Hid (Calls Try.prog 33 #[.pointer (some ⟨bx, 0, none⟩), .int .i64 r, .int .i64 k] w fun e w' => e = .returned (.tuple #[.int .i64 (waitN A r k), .int .i64 (pairE A.n r k)]) ∧ w = w') := HC.out k
      have HE' : Hid (wsum A r (k + 1) = wsum A r k + waitN A r k) := HE
      clear HE hB1 hB2
      generalize waitN A r k = y at *
      generalize wsum A r k = x at *
      obtain ⟨b1, b1'⟩ := b1
      obtain ⟨b2, b2'⟩ := b2
      go_wp2_with (go_at_call 33; refine (CX.out).mono ?_; rintro e w' ⟨rfl, rfl⟩)
      go_roundw
      case rel => exact ⟨k + 1, by omega, by go_num, by rw [HE'.out], by trivial⟩
      case measure => simp [intOf]; omega
    · have hkn' : ¬ (k : Int) < (A.n : Int) := by omega
      have e : k = A.n := by omega
      subst e
      clear hB1 hB2
      go_wp2
      go_ret
      exact ⟨rfl, rfl⟩
end
/-! ### A sheet -/
def sheetA (R : Nat → Rt) (E : Nat → Bs) : Array Value := #[I (R 0).nx, I (R 0).sq, I (R 0).mt, I (R 0).ag, I (R 0).st, I (R 1).nx, I (R 1).sq, I (R 1).mt, I (R 1).ag, I (R 1).st, I (R 2).nx, I (R 2).sq, I (R 2).mt, I (R 2).ag, I (R 2).st, I (R 3).nx, I (R 3).sq, I (R 3).mt, I (R 3).ag, I (R 3).st, I (R 4).nx, I (R 4).sq, I (R 4).mt, I (R 4).ag, I (R 4).st, I (E 0).sq, I (E 0).mt, I (E 1).sq, I (E 1).mt, I (E 2).sq, I (E 2).mt, I (E 3).sq, I (E 3).mt, I (E 4).sq, I (E 4).mt]
abbrev zeR : Rt := ⟨0, 0, 0, 0, 0⟩
abbrev zeB : Bs := ⟨0, 0⟩
def setN {α : Type} (f : Nat → α) (d : Nat) (x : α) : Nat → α := fun j => if j = d then x else f j
theorem sheet_setR (R : Nat → Rt) (E : Nat → Bs) (x : Rt) : ∀ d, d < 5 → (((((sheetA R E).setIfInBounds (d * 5) (I x.nx)).setIfInBounds (d * 5 + 1) (I x.sq)).setIfInBounds (d * 5 + 2) (I x.mt)).setIfInBounds (d * 5 + 3) (I x.ag)).setIfInBounds (d * 5 + 4) (I x.st) = sheetA (setN R d x) E := by
  apply five_cases <;> rfl
theorem sheet_setB (R : Nat → Rt) (E : Nat → Bs) (x : Bs) : ∀ d, d < 5 → ((sheetA R E).setIfInBounds (25 + d * 2) (I x.sq)).setIfInBounds (25 + d * 2 + 1) (I x.mt) = sheetA R (setN E d x) := by
  apply five_cases <;> rfl
theorem sheet_ro (R : Nat → Rt) (E : Nat → Bs) : ∀ d, d < 5 → (sheetA R E)[d * 5]? = some (I (R d).nx) ∧ (sheetA R E)[d * 5 + 1]? = some (I (R d).sq) ∧ (sheetA R E)[d * 5 + 2]? = some (I (R d).mt) ∧ (sheetA R E)[d * 5 + 3]? = some (I (R d).ag) ∧ (sheetA R E)[d * 5 + 4]? = some (I (R d).st) := by
  apply five_cases <;> exact ⟨rfl, rfl, rfl, rfl, rfl⟩
theorem sheet_be (R : Nat → Rt) (E : Nat → Bs) : ∀ d, d < 5 → (sheetA R E)[25 + d * 2]? = some (I (E d).sq) ∧ (sheetA R E)[25 + d * 2 + 1]? = some (I (E d).mt) := by
  apply five_cases <;> exact ⟨rfl, rfl⟩
theorem sheet_size (R : Nat → Rt) (E : Nat → Bs) : (sheetA R E).size = 35 := rfl
theorem sheet_congr {R R' : Nat → Rt} {E E' : Nat → Bs} (h : ∀ d, d < 5 → R d = R' d) (k : ∀ d, d < 5 → E d = E' d) : sheetA R E = sheetA R' E' := by
  unfold sheetA
  rw [h 0 (by omega), h 1 (by omega), h 2 (by omega), h 3 (by omega), h 4 (by omega), k 0 (by omega), k 1 (by omega), k 2 (by omega), k 3 (by omega), k 4 (by omega)]
theorem al35 (w : World) : (Instr.alloc 53 true (.tuple #[])).run Try.prog w = .ok (.pointer (some ⟨w.heap.size, 0, none⟩)) (w.alloc (.cells (sheetA (fun _ => zeR) fun _ => zeB) 53)) := by kernel_rfl
theorem size35 : (Try.prog.info? 53).map (·.size) = some 35 := by kernel_rfl
theorem ld35 (w : World) (ρ : Operand → Value) (x : Operand) (ds : Option Tmp) (ty : TypeId) (ps : String) (af : Array Edge) (g : Option (Nat × Bool))
    (h1 : ρ x = .pointer (some ⟨vb (ρ x), vo (ρ x), none⟩)) (h2 : MidOk w (vb (ρ x)) (vo (ρ x)) 35) :
    (execOp ρ { dst := ds, op := .load 53 x, type := ty, pos := ps, after := af, guard := g }).run Try.prog w = .ok (.value (.agg (midA w (vb (ρ x)) (vo (ρ x)) 35))) w :=
  load_rule Try.underlying53 rfl size35 w ρ x ds ty ps af g h1 h2
theorem st35 (w : World) (ρ : Operand → Value) (x y : Operand) (ds : Option Tmp) (ty : TypeId) (ps : String) (af : Array Edge) (g : Option (Nat × Bool))
    (h1 : ρ x = .pointer (some ⟨vb (ρ x), vo (ρ x), none⟩)) (h3 : AggOk 35 (ρ y)) (h2 : w.there (vb (ρ x)) (vo (ρ x)) 35) :
    (execOp ρ { dst := ds, op := .store 53 x y, type := ty, pos := ps, after := af, guard := g }).run Try.prog w = .ok .skip (w.setCells (vb (ρ x)) (vo (ρ x)) (cellsL (ρ y))) :=
  store_rule size35 w ρ x y ds ty ps af g h1 h3 h2
theorem alc35 (w : World) (ρ : Operand → Value) (ds : Option Tmp) (ty : TypeId) (ps : String) (af : Array Edge) (g : Option (Nat × Bool)) :
    (execOp ρ { dst := ds, op := .alloc 53, type := ty, pos := ps, after := af, guard := g }).run Try.prog w = .ok (.value (.pointer (some ⟨w.heap.size, 0, none⟩))) (w.alloc (.cells (sheetA (fun _ => zeR) fun _ => zeB) 53)) :=
  alloc_rule al35 w ρ ds ty ps af g
theorem aggOk_sheet (R : Nat → Rt) (E : Nat → Bs) : AggOk 35 (.agg (sheetA R E)) := ⟨rfl, rfl, by simp [Value.cells, sheetA, Value.oneCell', I]⟩
theorem Whole.sheetR {w : World} {b : Nat} {t : TypeId} {R : Nat → Rt} {E : Nat → Bs} (h : Whole w b t (sheetA R E)) (d : Nat) (hd : d < 5) (x : Rt) :
    Whole (((((w.setCell ⟨b, d * 5, none⟩ (I x.nx)).setCell ⟨b, d * 5 + 1, none⟩ (I x.sq)).setCell ⟨b, d * 5 + 2, none⟩ (I x.mt)).setCell ⟨b, d * 5 + 3, none⟩ (I x.ag)).setCell ⟨b, d * 5 + 4, none⟩ (I x.st)) b t (sheetA (setN R d x) E) := by
  rw [← sheet_setR R E x d hd]
  exact ((((h.setAt _ _).setAt _ _).setAt _ _).setAt _ _).setAt _ _
theorem Whole.sheetB {w : World} {b : Nat} {t : TypeId} {R : Nat → Rt} {E : Nat → Bs} (h : Whole w b t (sheetA R E)) (d : Nat) (hd : d < 5) (x : Bs) :
    Whole ((w.setCell ⟨b, 25 + d * 2, none⟩ (I x.sq)).setCell ⟨b, 25 + d * 2 + 1, none⟩ (I x.mt)) b t (sheetA R (setN E d x)) := by
  rw [← sheet_setB R E x d hd]
  exact (h.setAt _ _).setAt _ _
/-- What a sheet holds, of the routers below k. -/
def shR (A : Nt) (r k : Nat) : Nat → Rt := fun d => if d < k ∧ d ≠ r then routeN A r d else zeR
def shB (A : Nt) (r k : Nat) : Nat → Bs := fun d => if d < k ∧ d ≠ r then bestN A r d else zeB
theorem shR_step (A : Nt) (r k : Nat) (h : k ≠ r) : setN (shR A r k) k (routeN A r k) = shR A r (k + 1) := by
  funext d
  show (if d = k then _ else if d < k ∧ d ≠ r then _ else _) = if d < k + 1 ∧ d ≠ r then _ else _
  by_cases e : d = k
  · subst e; rw [if_pos rfl, if_pos ⟨by omega, h⟩]
  · rw [if_neg e]
    have : (d < k ∧ d ≠ r) ↔ (d < k + 1 ∧ d ≠ r) := by omega
    simp only [this]
theorem shB_step (A : Nt) (r k : Nat) (h : k ≠ r) : setN (shB A r k) k (bestN A r k) = shB A r (k + 1) := by
  funext d
  show (if d = k then _ else if d < k ∧ d ≠ r then _ else _) = if d < k + 1 ∧ d ≠ r then _ else _
  by_cases e : d = k
  · subst e; rw [if_pos rfl, if_pos ⟨by omega, h⟩]
  · rw [if_neg e]
    have : (d < k ∧ d ≠ r) ↔ (d < k + 1 ∧ d ≠ r) := by omega
    simp only [this]
theorem shR_skip (A : Nt) (r : Nat) : shR A r (r + 1) = shR A r r := by
  funext d
  show (if d < r + 1 ∧ d ≠ r then _ else _) = if d < r ∧ d ≠ r then _ else _
  have : (d < r + 1 ∧ d ≠ r) ↔ (d < r ∧ d ≠ r) := by omega
  simp only [this]
theorem shB_skip (A : Nt) (r : Nat) : shB A r (r + 1) = shB A r r := by
  funext d
  show (if d < r + 1 ∧ d ≠ r then _ else _) = if d < r ∧ d ≠ r then _ else _
  have : (d < r + 1 ∧ d ≠ r) ↔ (d < r ∧ d ≠ r) := by omega
  simp only [this]
theorem sh_zero (A : Nt) (r : Nat) : sheetA (shR A r 0) (shB A r 0) = sheetA (fun _ => zeR) fun _ => zeB := sheet_congr (fun d _ => if_neg (by omega)) (fun d _ => if_neg (by omega))
section
variable {w : World} {B : Nat} {ρ : Nat → Part} {i bk bx bs : Nat} {A : Nt} {C : Nat → Nat → Int} {V : Nat → Nat → Value}
attribute [local go_sem ↓] Go.wp_at_zero Go.wp_at_succ ld35 st35 alc35
attribute [local go_sem] vb_ptr vo_ptr cellsL_agg size_setCells
set_option maxHeartbeats 4000000 in
set_option maxRecDepth 100000 in
theorem ksheet (h : KN w B ρ i bk bx bs A C V) (r : Nat) :
    Calls Try.prog 23 #[.pointer (some ⟨bk, 0, none⟩), .int .i64 r] w fun e w' => e = .returned (.agg (sheetA (shR A r A.n) (shB A r A.n))) ∧ Below w.heap.size w w' := by
  have H : Hid (KN w B ρ i bk bx bs A C V) := h
  have lk := h.lt
  have n5 := h.g.n5
  clear h
  have n0 := (Whole.new w 53 (sheetA (fun _ => zeR) fun _ => zeB)).alloc (.cells (sheetA (fun _ => zeR) fun _ => zeB) 53)
  have n1 := Whole.new (w.alloc (.cells (sheetA (fun _ => zeR) fun _ => zeB) 53)) 53 (sheetA (fun _ => zeR) fun _ => zeB)
  simp only [World.size_alloc] at n1
  have hb : Below w.heap.size w ((w.alloc (.cells (sheetA (fun _ => zeR) fun _ => zeB) 53)).alloc (.cells (sheetA (fun _ => zeR) fun _ => zeB) 53)) := ((Below.refl _ _).alloc (Nat.le_refl _) _).alloc (by simp) _
  have N0 : Hid (Whole ((w.alloc (.cells (sheetA (fun _ => zeR) fun _ => zeB) 53)).alloc (.cells (sheetA (fun _ => zeR) fun _ => zeB) 53)) w.heap.size 53 (sheetA (fun _ => zeR) fun _ => zeB)) := n0
  have N1 : Hid (Whole ((w.alloc (.cells (sheetA (fun _ => zeR) fun _ => zeB) 53)).alloc (.cells (sheetA (fun _ => zeR) fun _ => zeB) 53)) (w.heap.size + 1) 53 (sheetA (fun _ => zeR) fun _ => zeB)) := n1
  have HB : Hid (Below w.heap.size w ((w.alloc (.cells (sheetA (fun _ => zeR) fun _ => zeB) 53)).alloc (.cells (sheetA (fun _ => zeR) fun _ => zeB) 53))) := hb
  clear n0 n1 hb
  have hne : w.heap.size ≠ w.heap.size + 1 := by omega
  have hle : w.heap.size ≤ w.heap.size + 1 := by omega
  go_enter Try.func23, Try.ntmps23
  go_wp2
  go_loopw [6] (fun v wr => ∃ k : Nat, k ≤ A.n ∧ v = .int .i64 k ∧ Whole wr w.heap.size 53 (sheetA (fun _ => zeR) fun _ => zeB) ∧ Whole wr (w.heap.size + 1) 53 (sheetA (shR A r k) (shB A r k)) ∧ Below w.heap.size w wr) (fun v _ => A.n - (intOf v).toNat)
  case atStart => exact ⟨0, by omega, rfl, N0.out, by rw [sh_zero]; exact N1.out, HB.out⟩
  case round =>
    clear N0 N1 HB
    obtain ⟨k, hk, rfl, q0, q1, q2⟩ := hrel
    have hK := H.out.below q2
    have c1 := hK.k1
    by_cases hkn : k < A.n
    · have hkn' : (k : Int) < (A.n : Int) := by omega
      have hk5 : k < 5 := by omega
      have hk5' : (k : Int) < 5 := by omega
      by_cases hkr : k = r
      · subst hkr
        have Q1 : Hid (Whole wr (w.heap.size + 1) 53 (sheetA (shR A k (k + 1)) (shB A k (k + 1)))) := by rw [shR_skip, shB_skip]; exact q1
        have Q0 : Hid (Whole wr w.heap.size 53 (sheetA (fun _ => zeR) fun _ => zeB)) := q0
        have Q2 : Hid (Below w.heap.size w wr) := q2
        clear q0 q1 q2 hK
        go_wp2
        go_roundw
        case rel => exact ⟨k + 1, by omega, by go_num, Q0.out, Q1.out, Q2.out⟩
        case measure => simp [intOf]; omega
      · have hkr' : ((k : Int) == (r : Int)) = false := by rw [beq_eq_false_iff_ne]; omega
        have c0 := hK.k0
        have HSR : Hid (setN (shR A r k) k (routeN A r k) = shR A r (k + 1)) := shR_step A r k hkr
        have HSB : Hid (setN (shB A r k) k (bestN A r k) = shB A r (k + 1)) := shB_step A r k hkr
        have CR : Hid (∀ W : World, KN W B ρ i bk bx bs A C V → Calls Try.prog 28 #[.pointer (some ⟨bx, 0, none⟩), .int .i64 r, .int .i64 k] W fun e w' => e = .returned (.tuple #[.agg #[.int .i64 (routeN A r k).nx, .int .i64 (routeN A r k).sq, .int .i64 (routeN A r k).mt, .int .i64 (routeN A r k).ag, .int .i64 (routeN A r k).st], .int .i64 (asksE A r k)]) ∧ Below W.heap.size W w') := fun W hW => kroute hW r k
        have CB : Hid (∀ W : World, KN W B ρ i bk bx bs A C V → Calls Try.prog 29 #[.pointer (some ⟨bx, 0, none⟩), .int .i64 r, .int .i64 k] W fun e w' => e = .returned (.tuple #[.agg #[.int .i64 (bestN A r k).sq, .int .i64 (bestN A r k).mt], .int .i64 (asksE A r k)]) ∧ Below W.heap.size W w') := fun W hW => kbest hW r k
        have Q0 : Hid (Whole wr w.heap.size 53 (sheetA (fun _ => zeR) fun _ => zeB)) := q0
        have Q1 : Hid (Whole wr (w.heap.size + 1) 53 (sheetA (shR A r k) (shB A r k))) := q1
        have Q2 : Hid (Below w.heap.size w wr) := q2
        have HK : Hid (KN wr B ρ i bk bx bs A C V) := hK
        clear q0 q1 q2 hK
        generalize routeN A r k = X at *
        generalize bestN A r k = Y at *
        generalize asksE A r k = Z at *
        generalize shR A r k = R0 at *
        generalize shB A r k = E0 at *
        obtain ⟨x1, x2, x3, x4, x5⟩ := X
        obtain ⟨y1, y2⟩ := Y
        go_wp2_with fail
        refine ((CR.out) _ HK.out).mono ?_
        rintro e w1 ⟨rfl, b1⟩
        have p1 := Q1.out.below b1
        have e1 := sheet_ro R0 E0 k hk5
        have c2 := p1.cell
        have f2 := p1.frozen
        have d1 : w1.cell? ⟨w.heap.size + 1, k * 5, none⟩ = some (I (R0 k).nx) := by rw [c2]; exact e1.1
        have d2 : w1.cell? ⟨w.heap.size + 1, k * 5 + 1, none⟩ = some (I (R0 k).sq) := by rw [c2]; exact e1.2.1
        have d3 : w1.cell? ⟨w.heap.size + 1, k * 5 + 2, none⟩ = some (I (R0 k).mt) := by rw [c2]; exact e1.2.2.1
        have d4 : w1.cell? ⟨w.heap.size + 1, k * 5 + 3, none⟩ = some (I (R0 k).ag) := by rw [c2]; exact e1.2.2.2.1
        have d5 : w1.cell? ⟨w.heap.size + 1, k * 5 + 4, none⟩ = some (I (R0 k).st) := by rw [c2]; exact e1.2.2.2.2
        have p2 := p1.sheetR k hk5 ⟨x1, x2, x3, x4, x5⟩
        have B1 := Q2.out.trans (b1.mono Q2.out.size)
        have B2 := ((((B1.setCell (p := ⟨w.heap.size + 1, k * 5, none⟩) hle (I x1)).setCell (p := ⟨w.heap.size + 1, k * 5 + 1, none⟩) hle (I x2)).setCell (p := ⟨w.heap.size + 1, k * 5 + 2, none⟩) hle (I x3)).setCell (p := ⟨w.heap.size + 1, k * 5 + 3, none⟩) hle (I x4)).setCell (p := ⟨w.heap.size + 1, k * 5 + 4, none⟩) hle (I x5)
        have O2 := (((((Q0.out.below b1).setCell (p := ⟨w.heap.size + 1, k * 5, none⟩) hne (I x1)).setCell (p := ⟨w.heap.size + 1, k * 5 + 1, none⟩) hne (I x2)).setCell (p := ⟨w.heap.size + 1, k * 5 + 2, none⟩) hne (I x3)).setCell (p := ⟨w.heap.size + 1, k * 5 + 3, none⟩) hne (I x4)).setCell (p := ⟨w.heap.size + 1, k * 5 + 4, none⟩) hne (I x5)
        have hK2 := H.out.below B2
        have g0 := hK2.k0
        have P2 : Hid (Whole (((((w1.setCell ⟨w.heap.size + 1, k * 5, none⟩ (I x1)).setCell ⟨w.heap.size + 1, k * 5 + 1, none⟩ (I x2)).setCell ⟨w.heap.size + 1, k * 5 + 2, none⟩ (I x3)).setCell ⟨w.heap.size + 1, k * 5 + 3, none⟩ (I x4)).setCell ⟨w.heap.size + 1, k * 5 + 4, none⟩ (I x5)) (w.heap.size + 1) 53 (sheetA (setN R0 k ⟨x1, x2, x3, x4, x5⟩) E0)) := p2
        have HB2 : Hid (Below w.heap.size w (((((w1.setCell ⟨w.heap.size + 1, k * 5, none⟩ (I x1)).setCell ⟨w.heap.size + 1, k * 5 + 1, none⟩ (I x2)).setCell ⟨w.heap.size + 1, k * 5 + 2, none⟩ (I x3)).setCell ⟨w.heap.size + 1, k * 5 + 3, none⟩ (I x4)).setCell ⟨w.heap.size + 1, k * 5 + 4, none⟩ (I x5))) := B2
        have HO2 : Hid (Whole (((((w1.setCell ⟨w.heap.size + 1, k * 5, none⟩ (I x1)).setCell ⟨w.heap.size + 1, k * 5 + 1, none⟩ (I x2)).setCell ⟨w.heap.size + 1, k * 5 + 2, none⟩ (I x3)).setCell ⟨w.heap.size + 1, k * 5 + 3, none⟩ (I x4)).setCell ⟨w.heap.size + 1, k * 5 + 4, none⟩ (I x5)) w.heap.size 53 (sheetA (fun _ => zeR) fun _ => zeB)) := O2
        have HK2 : Hid (KN (((((w1.setCell ⟨w.heap.size + 1, k * 5, none⟩ (I x1)).setCell ⟨w.heap.size + 1, k * 5 + 1, none⟩ (I x2)).setCell ⟨w.heap.size + 1, k * 5 + 2, none⟩ (I x3)).setCell ⟨w.heap.size + 1, k * 5 + 3, none⟩ (I x4)).setCell ⟨w.heap.size + 1, k * 5 + 4, none⟩ (I x5)) B ρ i bk bx bs A C V) := hK2
        clear p1 e1 c2 p2 B1 B2 O2 hK2 b1
        go_wp2_with fail
        refine ((CB.out) _ HK2.out).mono ?_
        rintro e w2 ⟨rfl, b2⟩
        have p3 := P2.out.below b2
        have e3 := sheet_be (setN R0 k ⟨x1, x2, x3, x4, x5⟩) E0 k hk5
        have f3 := p3.frozen
        have d6 : w2.cell? ⟨w.heap.size + 1, 25 + k * 2, none⟩ = some (I (E0 k).sq) := by rw [p3.cell]; exact e3.1
        have d7 : w2.cell? ⟨w.heap.size + 1, 25 + k * 2 + 1, none⟩ = some (I (E0 k).mt) := by rw [p3.cell]; exact e3.2
        have p4 := p3.sheetB k hk5 ⟨y1, y2⟩
        have B3 := HB2.out.trans (b2.mono HB2.out.size)
        have B4 := (B3.setCell (p := ⟨w.heap.size + 1, 25 + k * 2, none⟩) hle (I y1)).setCell (p := ⟨w.heap.size + 1, 25 + k * 2 + 1, none⟩) hle (I y2)
        have O4 := ((HO2.out.below b2).setCell (p := ⟨w.heap.size + 1, 25 + k * 2, none⟩) hne (I y1)).setCell (p := ⟨w.heap.size + 1, 25 + k * 2 + 1, none⟩) hne (I y2)
        have P4 : Hid (Whole ((w2.setCell ⟨w.heap.size + 1, 25 + k * 2, none⟩ (I y1)).setCell ⟨w.heap.size + 1, 25 + k * 2 + 1, none⟩ (I y2)) (w.heap.size + 1) 53 (sheetA (setN R0 k ⟨x1, x2, x3, x4, x5⟩) (setN E0 k ⟨y1, y2⟩))) := p4
        have HB4 : Hid (Below w.heap.size w ((w2.setCell ⟨w.heap.size + 1, 25 + k * 2, none⟩ (I y1)).setCell ⟨w.heap.size + 1, 25 + k * 2 + 1, none⟩ (I y2))) := B4
        have HO4 : Hid (Whole ((w2.setCell ⟨w.heap.size + 1, 25 + k * 2, none⟩ (I y1)).setCell ⟨w.heap.size + 1, 25 + k * 2 + 1, none⟩ (I y2)) w.heap.size 53 (sheetA (fun _ => zeR) fun _ => zeB)) := O4
        clear p3 e3 p4 B3 B4 O4 b2 P2 HB2 HO2 HK2 d1 d2 d3 d4 d5
        go_wp2
        go_roundw
        case rel => exact ⟨k + 1, by omega, by go_num, HO4.out, by rw [← HSR.out, ← HSB.out]; exact P4.out, HB4.out⟩
        case measure => simp [intOf]; omega
    · have hkn' : ¬ (k : Int) < (A.n : Int) := by omega
      have e : k = A.n := by omega
      subst e
      obtain ⟨j1, j2⟩ := q1.mid (sheet_size _ _)
      have j3 := q0.there (sheet_size _ _)
      have ag := aggOk_sheet (shR A r A.n) (shB A r A.n)
      have Q0 : Hid (Whole wr w.heap.size 53 (sheetA (fun _ => zeR) fun _ => zeB)) := q0
      have Q2 : Hid (Below w.heap.size w wr) := q2
      clear q0 q1 q2 hK
      go_wp2
      refine bodyPost_ret (v := .agg (sheetA (shR A r A.n) (shB A r A.n))) (results_cell0 (t := 53) rfl _ _ w.heap.size (sheetA (shR A r A.n) (shB A r A.n)) rfl (Q0.out.over (sheetA (shR A r A.n) (shB A r A.n)) rfl) _ Try.underlying53 rfl (by rw [size35]; rfl)) rfl ⟨rfl, Below.setCells Q2.out (Nat.le_refl _) _ _⟩
end
end Go.Proofs.Ytdoodnbobpijoaa

namespace Go.Proofs.Ytdoodnbobpijoaa
open Go.RowKit

/-- A number of Go. -/
def Fits (k : Int) : Prop := -9223372036854775808 ≤ k ∧ k ≤ 9223372036854775807
/-- What the walk of a step wants. -/
theorem does_head {w : World} {B : Nat} {ρ : Nat → Part} {i bk bx bs : Nat} {A : Nt} {V : Nat → Nat → Value} (h : KI w B ρ i bk bx bs A V) (hn : ∀ k, w.heap.size ≤ k → ρ k = (0, 0)) (hB : B ≤ w.heap.size) (k a b c : Int) (fk : Fits k) (fa : Fits a) (fb : Fits b) (fc : Fits c) :
    ∃ kk x y, DoH w B ρ i bk bx bs A V k a b c kk x y ∧ (0 ≤ kk ∧ kk < 20) ∧ doesN A ⟨k, a, b, c⟩ = stepN A kk (x : Nat) (y : Nat) c := by
  have b0 := WS_below w k a b c
  have n0 : (0 : Int) < (A.n : Int) := by have := h.g.n2; omega
  have pa := pickI_ok a A.n n0
  have pb := pickI_ok b A.n n0
  have ea : pickI a A.n = ((pickI a A.n).toNat : Int) := by omega
  have eb : pickI b A.n = ((pickI b A.n).toNat : Int) := by omega
  refine ⟨pickI k 20, (pickI a A.n).toNat, (pickI b A.n).toNat, ⟨h.below b0, fun j hj => hn j (Nat.le_trans b0.size hj), hn, Nat.le_trans hB b0.size, rfl, ea, eb, by omega, by omega, fk, fa, fb, fc⟩, pickI_ok k 20 (by omega), ?_⟩
  unfold doesN
  rw [← ea, ← eb]
end Go.Proofs.Ytdoodnbobpijoaa

namespace Go.Proofs.Ytdoodnbobpijoaa
open Go.ChangeShapes Go.WideShapes Go.ChangeAt Go.RowKit Go.Deep

theorem Try.cellsStep : Try.prog.cellsOf 31 = 4 := by kernel_rfl
theorem list_four {α : Type} : ∀ (l : List α), l.length = 4 → ∃ a b c d, l = [a, b, c, d]
  | [a, b, c, d], _ => ⟨a, b, c, d, rfl⟩
  | [], h => by simp at h
  | [_], h => by simp at h
  | [_, _], h => by simp at h
  | [_, _, _], h => by simp at h
  | _ :: _ :: _ :: _ :: _ :: _, h => by simp at h
theorem fieldsStep : ∃ fs : Array Field, Try.prog.underlying 31 = some (.struct fs) ∧ fs.size = 4 ∧ ∀ i, i < 4 → ∃ f, fs[i]? = some f ∧ f.type = 3 ∧ f.offset = i := by
  refine ⟨_, Try.underlying31, rfl, fun i hi => ?_⟩
  rcases i with _ | _ | _ | _ | i
  · exact ⟨_, rfl, rfl, rfl⟩
  · exact ⟨_, rfl, rfl, rfl⟩
  · exact ⟨_, rfl, rfl, rfl⟩
  · exact ⟨_, rfl, rfl, rfl⟩
  · omega
/-- A raw step, opened: four numbers. -/
theorem open_step {H : Type} {enc : TypeId × Value → H} {w : World} {base : Nat} {spare : Nat → Bool} {held : Bool} {n : Nat} {cs : List Value} {x : DataW H × List MemPlace}
    (h : DataW.trod enc Try.prog w base spare held n 31 cs = some x) : ∃ s : St, cs = [.int .i64 s.k, .int .i64 s.a, .int .i64 s.b, .int .i64 s.c] ∧ Fits s.k ∧ Fits s.a ∧ Fits s.b ∧ Fits s.c := by
  obtain ⟨fs, hu, hsz, hfs⟩ := fieldsStep
  obtain ⟨xs, m, _, _, hl, hx, hf⟩ := DataW.trod_struct hu h
  rw [Try.cellsStep] at hl
  obtain ⟨c0, c1, c2, c3, rfl⟩ := list_four cs hl
  have g : ∀ i, i < 4 → ∃ v : Int, (([c0, c1, c2, c3] : List Value).drop i).take 1 = [.int .i64 v] ∧ Fits v := fun i hi => by
    obtain ⟨f, h1, h2, h3⟩ := hfs i hi
    have := hf i f h1
    rw [h2, h3, Try.cellsI, List.getElem?_eq_getElem (by omega)] at this
    obtain ⟨v, e, _, wv⟩ := DataW.trod_int Try.underlying3 this
    exact ⟨v, e, bounds_i64 wv⟩
  obtain ⟨k, e0, w0⟩ := g 0 (by omega)
  obtain ⟨a, e1, w1⟩ := g 1 (by omega)
  obtain ⟨b, e2, w2⟩ := g 2 (by omega)
  obtain ⟨c, e3, w3⟩ := g 3 (by omega)
  simp at e0 e1 e2 e3
  subst e0 e1 e2 e3
  exact ⟨⟨k, a, b, c⟩, rfl, w0, w1, w2, w3⟩
/-- Raw steps, as they lie in memory. -/
structure Ste (w : World) (sb so len : Nat) (f : Nat → St) : Prop where
  at_ : ∀ i, i < len → w.cell? ⟨sb, so + i * 4, none⟩ = some (.int .i64 (f i).k) ∧ w.cell? ⟨sb, so + i * 4 + 1, none⟩ = some (.int .i64 (f i).a) ∧ w.cell? ⟨sb, so + i * 4 + 2, none⟩ = some (.int .i64 (f i).b) ∧ w.cell? ⟨sb, so + i * 4 + 3, none⟩ = some (.int .i64 (f i).c)
  fits : ∀ i, i < len → Fits (f i).k ∧ Fits (f i).a ∧ Fits (f i).b ∧ Fits (f i).c
theorem Ste.of {w w' : World} {sb so len : Nat} {f : Nat → St} (h : Ste w sb so len f) (hb : w'.heap[sb]? = w.heap[sb]?) : Ste w' sb so len f :=
  ⟨fun i hi => by
    have hc : ∀ o, w'.cell? ⟨sb, o, none⟩ = w.cell? ⟨sb, o, none⟩ := fun o => World.cell?_of_block (w := w) hb
    rw [hc, hc, hc, hc]; exact h.at_ i hi, h.fits⟩
theorem open_steps {H : Type} {enc : TypeId × Value → H} {W : World} {spare : Nat → Bool} {held : Bool} {a0 : Option Addr} {len cap : Nat} {d0 : DataW H} {p : List MemPlace} (h0 : ∃ n, DataW.trod enc Try.prog W 0 spare held n 26 (Value.slice a0 len cap).cells.toList = some (d0, p)) :
    len = 0 ∨ ∃ ab ao, a0 = some ⟨ab, ao, none⟩ ∧ ∃ f, Ste W ab ao len f := by
  obtain ⟨fuel, hf⟩ := h0
  rcases open_slice Try.underlying26 hf with ⟨hcs, _⟩ | ⟨a, l, c, m, n, D, Pq, hcs, _, hl, hm, hmm, hx, hel⟩
  · simp [Value.cells] at hcs
    exact .inl hcs.2.1
  · simp [Value.cells] at hcs
    obtain ⟨rfl, rfl, rfl⟩ := hcs
    by_cases hl0 : len = 0
    · exact .inl hl0
    · refine .inr ?_
      obtain ⟨ab, ao, asp⟩ := a
      rw [Try.cellsStep] at hel
      have hlm : len ≤ m := by
        have hq : m = if spare ab = true then cap else len := by simpa using hmm
        rw [hq]; split <;> omega
      have hops : ∀ i, i < len → ∃ t : St, (∀ j, j < 4 → W.cell? (((⟨ab, ao, asp⟩ : Addr).add (i * 4)).add j) = ([.int .i64 t.k, .int .i64 t.a, .int .i64 t.b, .int .i64 t.c] : List Value)[j]?) ∧ Fits t.k ∧ Fits t.a ∧ Fits t.b ∧ Fits t.c := fun i hi => by
        obtain ⟨cs', h1, h2⟩ := hel i (by omega)
        obtain ⟨s, rfl, ws⟩ := open_step h2
        exact ⟨s, (World.cells?_some h1).2.2, ws⟩
      have hin : Inhabited St := ⟨⟨0, 0, 0, 0⟩⟩
      obtain ⟨F, hF⟩ := choose_lt hops
      have hsp : asp = none := by
        have := (hF 0 (by omega)).1 0 (by omega)
        have := World.cell?_spot (this.trans rfl)
        simpa [Addr.add] using this
      subst hsp
      have hc : ∀ i, i < len → ∀ j, j < 4 → W.cell? ⟨ab, ao + i * 4 + j, none⟩ = ([.int .i64 (F i).k, .int .i64 (F i).a, .int .i64 (F i).b, .int .i64 (F i).c] : List Value)[j]? := fun i hi j hj => by
        have := (hF i hi).1 j hj
        rw [Addr.add_mid, Addr.add_mid] at this
        exact this
      exact ⟨ab, ao, rfl, F, fun i hi => ⟨(hc i hi 0 (by omega)).trans rfl, (hc i hi 1 (by omega)).trans rfl, (hc i hi 2 (by omega)).trans rfl, (hc i hi 3 (by omega)).trans rfl⟩, fun i hi => (hF i hi).2⟩
end Go.Proofs.Ytdoodnbobpijoaa

namespace Go.Proofs.Ytdoodnbobpijoaa
open Go.ChangeShapes Go.WideShapes Go.ChangeAt Go.RowKit Go.Deep

/-! ### A script of raw steps, played -/
def playF (A : Nt) (f : Nat → St) : Nat → Nt
  | 0 => A
  | k + 1 => doesN (playF A f k) (f k)
theorem playF_tame {A : Nt} {s : Int} (h : Tame A s) (f : Nat → St) : ∀ k : Nat, Tame (playF A f k) (s + k)
  | 0 => by simpa [playF] using h
  | k + 1 => by
    have := (playF_tame h f k).does (f k)
    rw [show s + ((k + 1 : Nat) : Int) = s + (k : Int) + 1 by omega]
    exact this
theorem playF_n {A : Nt} (g : Good A) (f : Nat → St) : ∀ k, Good (playF A f k) ∧ (playF A f k).n = A.n
  | 0 => ⟨g, rfl⟩
  | k + 1 => by
    have ih := playF_n g f k
    have s := Steps.does ih.1 (f k)
    exact ⟨s.good, s.n.trans ih.2⟩
section
variable {w : World} {B : Nat} {ρ : Nat → Part} {i bk bx bs : Nat} {A : Nt} {V : Nat → Nat → Value}
theorem kdoes (h : KI w B ρ i bk bx bs A V) (hn : ∀ k, w.heap.size ≤ k → ρ k = (0, 0)) (hB : B ≤ w.heap.size) (s : St) (fs : Fits s.k ∧ Fits s.a ∧ Fits s.b ∧ Fits s.c) :
    Calls Try.prog 15 #[.pointer (some ⟨bk, 0, none⟩), .agg #[.int .i64 s.k, .int .i64 s.a, .int .i64 s.b, .int .i64 s.c]] w fun e w' => e = .returned (.tuple #[]) ∧ PostK B i ρ bk bx bs (doesN A s) w w' := by
  obtain ⟨kk, x, y, h1, h2, h3⟩ := does_head h hn hB s.k s.a s.b s.c fs.1 fs.2.1 fs.2.2.1 fs.2.2.2
  have e : doesN A s = stepN A kk (x : Nat) (y : Nat) s.c := h3
  rw [e]
  exact does_some h1 h2.2
end
/-- No block is a net's: what was there stays. -/
theorem Aft.all {i : Nat} {ρ' : Nat → Part} {w w' : World} (h : Aft i (fun _ => (0, 0)) ρ' w w') : Below w.heap.size w w' :=
  ⟨h.only.os, h.only.tape, h.only.output, h.only.size, fun k hk => h.only.block k hk (by simp)⟩
/-- The net at the head of a script, with its number of routers. -/
theorem size_pick (size : Int) : ∃ n : Nat, 2 + pickI size 4 = (n : Int) ∧ 2 ≤ n ∧ n ≤ 5 := by
  have hp := pickI_ok size 4 (by omega)
  exact ⟨(2 + pickI size 4).toNat, by omega, by omega, by omega⟩
theorem who_pick (who : Int) (n : Nat) (h : 0 < n) : ∃ r : Nat, pickI who n = (r : Int) ∧ r < n := by
  have hp := pickI_ok who n (by omega)
  exact ⟨(pickI who n).toNat, by omega, by omega⟩
/-- The script: nothing, or raw steps that lie in memory. -/
def Scp (w : World) (sa : Option Addr) (len : Nat) (f : Nat → St) : Prop := len = 0 ∨ ∃ sb so, sa = some ⟨sb, so, none⟩ ∧ sb < w.heap.size ∧ Ste w sb so len f
theorem Scp.at {w w' : World} {sa : Option Addr} {len k : Nat} {f : Nat → St} (h : Scp w sa len f) (hb : Below w.heap.size w w') (hk : k < len) : ∃ sb so, sa = some ⟨sb, so, none⟩ ∧ (w'.cell? ⟨sb, so + k * 4, none⟩ = some (.int .i64 (f k).k) ∧ w'.cell? ⟨sb, so + k * 4 + 1, none⟩ = some (.int .i64 (f k).a) ∧ w'.cell? ⟨sb, so + k * 4 + 2, none⟩ = some (.int .i64 (f k).b) ∧ w'.cell? ⟨sb, so + k * 4 + 3, none⟩ = some (.int .i64 (f k).c)) ∧ (Fits (f k).k ∧ Fits (f k).a ∧ Fits (f k).b ∧ Fits (f k).c) := by
  rcases h with h | ⟨sb, so, e, hsb, h⟩
  · omega
  · exact ⟨sb, so, e, (h.of (hb.block sb hsb)).at_ k hk, h.fits k hk⟩
theorem open_int {H : Type} {enc : TypeId × Value → H} {W : World} {spare : Nat → Bool} {held : Bool} {n : Int} {d : DataW H} {p : List MemPlace} (h : DataW.Trod enc Try.prog W 0 spare held 3 (.int .i64 n) d p) : Fits n := by
  obtain ⟨m, hm⟩ := h
  obtain ⟨x, e, _, wf⟩ := DataW.trod_int Try.underlying3 hm
  have hx : n = x := by simpa [Value.cells] using e
  rw [hx]; exact bounds_i64 wf
theorem open_scp {H : Type} {enc : TypeId × Value → H} {W : World} {spare : Nat → Bool} {held : Bool} {a0 : Option Addr} {len cap : Nat} {d0 : DataW H} {p : List MemPlace} (h0 : ∃ n, DataW.trod enc Try.prog W 0 spare held n 26 (Value.slice a0 len cap).cells.toList = some (d0, p)) : ∃ f, Scp W a0 len f := by
  by_cases hl : len = 0
  · exact ⟨fun _ => ⟨0, 0, 0, 0⟩, .inl hl⟩
  · rcases open_steps h0 with h | ⟨ab, ao, e, f, hf⟩
    · exact absurd h hl
    · exact ⟨f, .inr ⟨ab, ao, e, lt_of_cell (hf.at_ 0 (by omega)).1, hf⟩⟩
end Go.Proofs.Ytdoodnbobpijoaa

namespace Go.Proofs.Ytdoodnbobpijoaa
open Go.RowKit

/-! ### What the rows' loops want of the pure half -/
theorem Tame.restart {A : Nt} {s : Int} (h : Tame A s) (r : Nat) : Tame (restartC A r) (s + 1) := by
  have := h.step 18 r 0 0
  simpa [stepN] using this
theorem tick_goes {A : Nt} {r : Nat} (h : Good A ∧ r < A.n ∧ (A.rs r).dn = false) (j : Nat) : upE (tickTo A r j) r = 0 ∧ tickC (tickTo A r j) r = tickTo A r (j + 1) := by
  obtain ⟨g, hr, hd⟩ := h
  obtain ⟨t1, t2, t3, t4, t5⟩ := tickTo_ok g r j
  have hu : upE (tickTo A r j) r = 0 := upE_nat (by rw [t2]; exact hr) (by rw [t5]; exact hd)
  refine ⟨hu, ?_⟩
  unfold tickC
  rw [if_pos hu, Int.toNat_natCast]; rfl
theorem tickTo_sq (A : Nt) (r j : Nat) : ∀ k, ((tickTo A r k).rs j).t.sq = (A.rs j).t.sq
  | 0 => rfl
  | k + 1 => by
    show ((tickN (tickTo A r k) r).rs j).t.sq = _
    by_cases e : j = r
    · subst e; rw [tickN_same]; exact tickTo_sq A j j k
    · rw [tickN_other _ _ _ e]; exact tickTo_sq A r j k
theorem tickTo_tame {A : Nt} {s : Int} (h : Tame A s) (r k : Nat) : Tame (tickTo A r k) s := by
  obtain ⟨t1, t2, t3, t4, t5⟩ := tickTo_ok h.good r k
  exact ⟨t1, fun j hj => by rw [tickTo_sq]; exact h.sq j (by rw [← t2]; exact hj), fun a b => by rw [t3]; exact h.c5 a b⟩
theorem aged_eq {A : Nt} {r n : Nat} (hA : A.n = n) (h3 : (tickTo A r 3).n = n) : agedN A r = lastTo (dumpTill (tickTo (allN (restTo (tickTo A r 3) n)) r 3) r) r n := by
  unfold agedN wokenN
  rw [hA, h3]
theorem aged_facts {A : Nt} {s : Int} {r n : Nat} (h : Tame A s) (hA : A.n = n) (hr : r < n) : (∀ j, j < n → ((agedN A r).rs j).dn = false) ∧ (∀ d, (((agedN A r).rs r).t.ro d).nx < 0) ∧ (∀ y d, y < n → y ≠ r → d ≠ r → (((agedN A r).rs y).t.ro d).nx ≠ r) ∧ (agedN A r).n = n ∧ Good (agedN A r) := by
  subst hA
  obtain ⟨a1, a2, a3, a4, a5⟩ := aged h r hr
  exact ⟨a3, a4, a5, a2, a1⟩
theorem woken_at {M : Nt} {s : Int} {n : Nat} (h : Tame M s) (hn : M.n = n) : Calm (allN (restTo M n)) ∧ (allN (restTo M n)).n = n := by
  subst hn
  obtain ⟨w1, w2, _⟩ := woken_ok h
  exact ⟨w1, w2⟩
theorem last_ok {D : Nt} {r n : Nat} (g : Good D) (hn : D.n = n) : ∀ b, Good (lastTo D r b) ∧ (lastTo D r b).n = n
  | 0 => ⟨g, hn⟩
  | b + 1 => by
    obtain ⟨i1, i2⟩ := last_ok (r := r) g hn b
    have s := Steps.deliver i1 (r : Int) (b : Int) (((lastTo D r b).wa r b).length - 1 : Int)
    exact ⟨s.good, s.n.trans i2⟩
theorem last_zero (D : Nt) (r b : Nat) (h : waitN (lastTo D r b) r b = 0) : lastTo D r (b + 1) = lastTo D r b := by
  show deliverC (lastTo D r b) r (b : Nat) (((lastTo D r b).wa r b).length - 1 : Int) = _
  generalize lastTo D r b = M at *
  unfold deliverC
  rw [if_neg]
  unfold msgE
  unfold waitN at h
  by_cases hp : pairE M.n r b = 0
  · rw [if_pos hp, Int.toNat_natCast, Int.toNat_natCast] at h
    rw [if_neg (by simpa using hp), if_pos (.inl (by omega))]
    omega
  · rw [if_pos hp]; exact hp
theorem last_some (D : Nt) (r b : Nat) (h : waitN (lastTo D r b) r b ≠ 0) : deliverC (lastTo D r b) r b (waitN (lastTo D r b) r b - 1) = lastTo D r (b + 1) := by
  show _ = deliverC (lastTo D r b) r (b : Nat) (((lastTo D r b).wa r b).length - 1 : Int)
  generalize lastTo D r b = M at *
  have e : waitN M r b = ((M.wa r b).length : Nat) := by
    unfold waitN at h ⊢
    by_cases hp : pairE M.n r b = 0
    · rw [if_pos hp, Int.toNat_natCast, Int.toNat_natCast]
    · rw [if_neg hp] at h; exact absurd rfl h
  rw [e]
section
variable {w : World} {B : Nat} {ρ : Nat → Part} {i bk bx bs : Nat} {A : Nt} {C : Nat → Nat → Int} {V : Nat → Nat → Value}
/-- Any trace of routers that there are. -/
theorem some_trace (h : KN w B ρ i bk bx bs A C V) (r d : Nat) (hr : r < A.n) (hd : d < A.n) :
    Calls Try.prog 19 #[.pointer (some ⟨bx, 0, none⟩), .int .i64 r, .int .i64 d] w fun e w' => ∃ nv, e = .returned (.tuple #[nv, .int .i64 0]) ∧ w'.ownsRow w.heap.size 3 1 nv (trace A r d).length (ints (trace A r d)) ∧ Below w.heap.size w w' := by
  have hb : isB A.n (r : Int) = true ∧ isB A.n (d : Int) = true := ⟨isB_nat hr, isB_nat hd⟩
  have := ktrace h r d
  have hE : traceE A r d = 0 := by unfold traceE; rw [if_pos hb]
  have hT : traceL A r d = trace A r d := by unfold traceL; rw [if_pos hb]; rfl
  rw [hE, hT] at this
  exact this
theorem lone_trace (h : KN w B ρ i bk bx bs A C V) (r d : Nat) (hr : r < A.n) (hd : d < A.n) (hx : ((A.rs r).t.ro d).nx < 0) :
    Calls Try.prog 19 #[.pointer (some ⟨bx, 0, none⟩), .int .i64 r, .int .i64 d] w fun e w' => ∃ ad cap, e = .returned (.tuple #[.slice ad 1 cap, .int .i64 0]) ∧ Below w.heap.size w w' := by
  refine (some_trace h r d hr hd).mono ?_
  rintro e w' ⟨nv, h1, h2, h3⟩
  have hT : trace A r d = [r] := trF_end (.inr (.inr hx)) _
  rw [hT] at h2
  obtain ⟨ad, cap, hv⟩ := row_form h2
  exact ⟨ad, cap, by rw [h1, hv]; rfl, h3⟩
theorem asks_up {A : Nt} {y d : Nat} (hy : y < A.n) (hd : d < A.n) (hyd : y ≠ d) (hu : (A.rs y).dn = false) : asksE A y d = 0 := by
  unfold asksE
  rw [if_neg (by rw [pairE_nat hy hd hyd]; simp), Int.toNat_natCast, hu]; rfl
theorem route_by (h : KN w B ρ i bk bx bs A C V) (y d r : Nat) (hy : y < A.n) (hd : d < A.n) (hyd : y ≠ d) (hu : (A.rs y).dn = false) (hx : ((A.rs y).t.ro d).nx ≠ r) :
    Calls Try.prog 28 #[.pointer (some ⟨bx, 0, none⟩), .int .i64 y, .int .i64 d] w fun e w' => ∃ x1 x2 x3 x4 x5, e = .returned (.tuple #[.agg #[.int .i64 x1, .int .i64 x2, .int .i64 x3, .int .i64 x4, .int .i64 x5], .int .i64 0]) ∧ x1 ≠ (r : Int) ∧ Below w.heap.size w w' := by
  refine (kroute h y d).mono ?_
  rintro e w' ⟨h1, h2⟩
  have ha := asks_up hy hd hyd hu
  have hR : routeN A y d = (A.rs y).t.ro d := by unfold routeN; rw [if_pos ha]; rfl
  rw [ha, hR] at h1
  exact ⟨_, _, _, _, _, h1, hx, h2⟩
end
end Go.Proofs.Ytdoodnbobpijoaa

namespace Go.Proofs.Ytdoodnbobpijoaa
open Go.RowKit

/-! ### Aged -/
set_option maxHeartbeats 8000000 in
set_option maxRecDepth 100000 in
theorem aged_any (w : World) (size : Int) (fs : Fits size) (sa : Option Addr) (len cap : Nat) (f : Nat → St) (hS : Scp w sa len f) (who : Int) (fw : Fits who) :
    Calls Try.prog 11 #[.int .i64 size, .slice sa len cap, .int .i64 who] w fun e w' => e = .returned (.bool true) ∧ Below w.heap.size w w' := by
  obtain ⟨n, hn, n2, n5⟩ := size_pick size
  have KL : Hid (Calls Try.prog 14 #[.int .i64 size] w fun e w' => ∃ bk bx bs, e = .returned (.pointer (some ⟨bk, 0, none⟩)) ∧ PostK w.heap.size 0 (fun _ => (0, 0)) bk bx bs (laidN n) w w') := klaid size n fs.1 fs.2 hn (fun _ _ => rfl) (Nat.le_refl _)
  have HG : Hid (Tame (laidN n) 0 ∧ (laidN n).n = n) := ⟨laid_tame n n2 n5, (laid_good n n2 n5).2⟩
  have HS : Hid (Scp w sa len f) := hS
  obtain ⟨r, hr0, hrn⟩ := who_pick who n (by omega)
  have PW : Hid (∀ W, Calls Try.prog 20 #[.int .i64 who, .int .i64 n] W fun e w' => e = .returned (.int .i64 r) ∧ W = w') := fun W => by
    have := kpick who n W fw.1 fw.2 (by omega) (by omega)
    rw [hr0] at this; exact this
  clear hr0
  clear hS hn fs fw
  go_enter Try.func11, Try.ntmps11
  go_wp2_with fail
  refine (KL.out).mono ?_
  rintro e w1 ⟨bk, bx, bs, rfl, ρ1, V1, q1, q2⟩
  clear KL
  have Q1 : Hid (KI w1 w.heap.size ρ1 0 bk bx bs (laidN n) V1) := q1
  have Q2 : Hid (Aft 0 (fun _ => (0, 0)) ρ1 w w1) := q2
  clear q1 q2
  go_wp2_with fail
  go_loopw [8] (fun v wr => ∃ k : Nat, k ≤ len ∧ k ≤ 100 ∧ v = .int .i64 k ∧ ∃ ρ' V', KI wr w.heap.size ρ' 0 bk bx bs (playF (laidN n) f k) V' ∧ Aft 0 (fun _ => (0, 0)) ρ' w wr) (fun v _ => 100 - (intOf v).toNat)
  case atStart => exact ⟨0, by omega, by omega, rfl, ρ1, V1, Q1.out, Q2.out⟩
  case round =>
    clear Q1 Q2
    obtain ⟨k, hk, hkm, rfl, ρ2, V2, q1, q2⟩ := hrel
    by_cases hgo : k < len ∧ k < 100
    · obtain ⟨hkl, hk1⟩ := hgo
      have hkl' : (k : Int) < (len : Int) := by omega
      have hk1' : (k : Int) < 100 := by omega
      have hk0 : (0 : Int) ≤ (k : Int) := by omega
      obtain ⟨sb, so, rfl, ⟨s0, s1, s2, s3⟩, ft⟩ := HS.out.at q2.all hkl
      have CX : Hid (Calls Try.prog 15 #[.pointer (some ⟨bk, 0, none⟩), .agg #[.int .i64 (f k).k, .int .i64 (f k).a, .int .i64 (f k).b, .int .i64 (f k).c]] wr fun e w' => e = .returned (.tuple #[]) ∧ PostK w.heap.size 0 ρ2 bk bx bs (playF (laidN n) f (k + 1)) wr w') := kdoes q1 q2.new q2.only.size (f k) ft
      have Q2 : Hid (Aft 0 (fun _ => (0, 0)) ρ2 w wr) := q2
      clear q1 q2 ft
      go_wp2_with (go_at_call 15; refine (CX.out).mono ?_; rintro e w2 ⟨rfl, ρ3, V3, t1, t2⟩)
      go_roundw
      case rel => exact ⟨k + 1, by omega, by omega, by go_num, ρ3, V3, t1, Q2.out.trans t2⟩
      case measure => simp [intOf]; omega
    · have hex : ¬ (k : Int) < (len : Int) ∨ ((k : Int) < (len : Int) ∧ ¬ (k : Int) < 100) := by omega
      have HTm : Hid (Tame (playF (laidN n) f k) (0 + (k : Int)) ∧ (playF (laidN n) f k).n = n) := ⟨playF_tame HG.out.1 f k, (playF_n HG.out.1.good f k).2.trans HG.out.2⟩
      have hk9 : (0 : Int) + (k : Int) < 900 := by omega
      have Q1 : Hid (KI wr w.heap.size ρ2 0 bk bx bs (playF (laidN n) f k) V2) := q1
      have Q2 : Hid (Aft 0 (fun _ => (0, 0)) ρ2 w wr) := q2
      clear q1 q2 hgo hkm hk
      generalize (playF (laidN n) f k) = P at *
      obtain ⟨wo, rfl⟩ : ∃ wo : World, wo = wr := ⟨_, rfl⟩
      rcases hex with hex | ⟨hex1, hex⟩
      all_goals (
        have HA : Hid (Tame (restartC P r) (0 + (k : Int) + 1) ∧ (restartC P r).n = n ∧ ((restartC P r).rs r).dn = false) := ⟨HTm.out.1.restart r, (Risen.restart HTm.out.1.good r (by rw [HTm.out.2]; exact hrn)).1.n.trans HTm.out.2, (Risen.restart HTm.out.1.good r (by rw [HTm.out.2]; exact hrn)).2⟩
        have c0 := Q1.out.k0
        have c1 := Q1.out.k1
        rw [HTm.out.2] at c1
        have CR : Hid (Calls Try.prog 21 #[.pointer (some ⟨bx, 0, none⟩), .int .i64 r] wo fun e w' => e = .returned (.int .i64 (restartE P r)) ∧ PostK w.heap.size 0 ρ2 bk bx bs (restartC P r) wo w') := krestart Q1.out Q2.out.new r
        go_wp2_with (first | (go_at_call 20; refine ((PW.out) _).mono ?_; rintro e w' ⟨rfl, rfl⟩) | (go_at_call 21; refine (CR.out).mono ?_; rintro e w2 ⟨rfl, ρ3, V3, t1, t2⟩))
        have Q3 : Hid (KI w2 w.heap.size ρ3 0 bk bx bs (restartC P r) V3) := t1
        have Q4 : Hid (Aft 0 (fun _ => (0, 0)) ρ3 w w2) := Q2.out.trans t2
        clear t1 t2 CR Q1 Q2 c0 c1
        generalize restartC P r = A at *
        have HU : Hid (Good A ∧ r < A.n ∧ (A.rs r).dn = false) := ⟨HA.out.1.good, by rw [HA.out.2.1]; exact hrn, HA.out.2.2⟩
        have HTk : Hid (∀ j, upE (tickTo A r j) r = 0 ∧ tickC (tickTo A r j) r = tickTo A r (j + 1)) := fun j => tick_goes HU.out j
        go_loopw [10] (fun v wr => ∃ j : Nat, j ≤ 3 ∧ v = .int .i64 j ∧ ∃ ρ' V', KI wr w.heap.size ρ' 0 bk bx bs (tickTo A r j) V' ∧ Aft 0 (fun _ => (0, 0)) ρ' w wr) (fun v _ => 3 - (intOf v).toNat)
        case atStart => exact ⟨0, by omega, rfl, ρ3, V3, Q3.out, Q4.out⟩
        case round =>
          clear Q3 Q4
          obtain ⟨j, hj, rfl, ρ4, V4, q1, q2⟩ := hrel
          by_cases hj3 : j < 3
          · have hj3' : (j : Int) < 3 := by omega
            have c0 := q1.k0
            have CX : Hid (Calls Try.prog 31 #[.pointer (some ⟨bx, 0, none⟩), .int .i64 r] wr fun e w' => e = .returned (.int .i64 0) ∧ PostK w.heap.size 0 ρ4 bk bx bs (tickTo A r (j + 1)) wr w') := by
              have := ktick q1 q2.new r
              rw [(HTk.out j).1, (HTk.out j).2] at this
              exact this
            have Q2 : Hid (Aft 0 (fun _ => (0, 0)) ρ4 w wr) := q2
            clear q1 q2
            go_wp2_with (go_at_call 31; refine (CX.out).mono ?_; rintro e w3 ⟨rfl, ρ5, V5, t1, t2⟩)
            go_roundw
            case rel => exact ⟨j + 1, by omega, by go_num, ρ5, V5, t1, Q2.out.trans t2⟩
            case measure => simp [intOf]; omega
          · have hj3' : ¬ (j : Int) < 3 := by omega
            have e : j = 3 := by omega
            subst e
            have Q5 : Hid (KI wr w.heap.size ρ4 0 bk bx bs (tickTo A r 3) V4) := q1
            have Q6 : Hid (Aft 0 (fun _ => (0, 0)) ρ4 w wr) := q2
            clear q1 q2 HTk hj hj3
            have HT3 : Hid (Tame (tickTo A r 3) (0 + (k : Int) + 1) ∧ (tickTo A r 3).n = n) := ⟨tickTo_tame HA.out.1 r 3, ((tickTo_ok HA.out.1.good r 3).2.1).trans HA.out.2.1⟩
            have HAg : Hid (agedN A r = lastTo (dumpTill (tickTo (allN (restTo (tickTo A r 3) n)) r 3) r) r n) := aged_eq HA.out.2.1 HT3.out.2
            have HAf : Hid ((∀ j, j < n → ((agedN A r).rs j).dn = false) ∧ (∀ d, (((agedN A r).rs r).t.ro d).nx < 0) ∧ (∀ y d, y < n → y ≠ r → d ≠ r → (((agedN A r).rs y).t.ro d).nx ≠ r) ∧ (agedN A r).n = n ∧ Good (agedN A r)) := aged_facts HA.out.1 HA.out.2.1 hrn
            clear HU
            generalize agedN A r = G at *
            generalize tickTo A r 3 = M at *
            obtain ⟨wp, rfl⟩ : ∃ wp : World, wp = wr := ⟨_, rfl⟩
            have HR : Hid (∀ j, j ≤ n → (restTo M j).n = n) := fun j hj => (restTo_ok HT3.out.1.good j (by rw [HT3.out.2]; exact hj)).1.n.trans HT3.out.2
            go_wp2
            go_loopw [12] (fun v wr => ∃ j : Nat, j ≤ n ∧ v = .int .i64 j ∧ ∃ ρ' V', KI wr w.heap.size ρ' 0 bk bx bs (restTo M j) V' ∧ Aft 0 (fun _ => (0, 0)) ρ' w wr) (fun v _ => n - (intOf v).toNat)
            case atStart => exact ⟨0, by omega, rfl, ρ4, V4, Q5.out, Q6.out⟩
            case round =>
              clear Q5 Q6
              obtain ⟨j, hj, rfl, ρ6, V6, q1, q2⟩ := hrel
              have c1 := q1.k1
              rw [HR.out j hj] at c1
              by_cases hjn : j < n
              · have hjn' : (j : Int) < (n : Int) := by omega
                have c0 := q1.k0
                have CX : Hid (Calls Try.prog 21 #[.pointer (some ⟨bx, 0, none⟩), .int .i64 j] wr fun e w' => e = .returned (.int .i64 (restartE (restTo M j) j)) ∧ PostK w.heap.size 0 ρ6 bk bx bs (restTo M (j + 1)) wr w') := krestart q1 q2.new j
                have Q2 : Hid (Aft 0 (fun _ => (0, 0)) ρ6 w wr) := q2
                clear q1 q2
                go_wp2_with (go_at_call 21; refine (CX.out).mono ?_; rintro e w3 ⟨rfl, ρ7, V7, t1, t2⟩)
                go_roundw
                case rel => exact ⟨j + 1, by omega, by go_num, ρ7, V7, t1, Q2.out.trans t2⟩
                case measure => simp [intOf]; omega
              · have hjn' : ¬ (j : Int) < (n : Int) := by omega
                have e : j = n := by omega
                subst e
                have CX : Hid (Calls Try.prog 32 #[.pointer (some ⟨bk, 0, none⟩)] wr fun e w' => e = .returned (.tuple #[]) ∧ PostK w.heap.size 0 ρ6 bk bx bs (allN (restTo M j)) wr w') := kall q1 q2.new
                have HWk : Hid (Calm (allN (restTo M j)) ∧ (allN (restTo M j)).n = j) := woken_at HT3.out.1 HT3.out.2
                have Q2 : Hid (Aft 0 (fun _ => (0, 0)) ρ6 w wr) := q2
                clear q1 q2 hj HR hjn
                generalize allN (restTo M j) = N at *
                obtain ⟨wq, rfl⟩ : ∃ wq : World, wq = wr := ⟨_, rfl⟩
                go_wp2_with (go_at_call 32; refine (CX.out).mono ?_; rintro e w3 ⟨rfl, ρ7, V7, t1, t2⟩)
                have Q7 : Hid (KI w3 w.heap.size ρ7 0 bk bx bs N V7) := t1
                have Q8 : Hid (Aft 0 (fun _ => (0, 0)) ρ7 w w3) := Q2.out.trans t2
                clear t1 t2 CX Q2
                have HU : Hid (Good N ∧ r < N.n ∧ (N.rs r).dn = false) := ⟨HWk.out.1.good, by rw [HWk.out.2]; exact hrn, HWk.out.1.up r (by rw [HWk.out.2]; exact hrn)⟩
                obtain ⟨n, rfl⟩ : ∃ n : Nat, n = j := ⟨_, rfl⟩
                have HTk : Hid (∀ j, upE (tickTo N r j) r = 0 ∧ tickC (tickTo N r j) r = tickTo N r (j + 1)) := fun j => tick_goes HU.out j
                go_loopw [13] (fun v wr => ∃ j : Nat, j ≤ 3 ∧ v = .int .i64 j ∧ ∃ ρ' V', KI wr w.heap.size ρ' 0 bk bx bs (tickTo N r j) V' ∧ Aft 0 (fun _ => (0, 0)) ρ' w wr) (fun v _ => 3 - (intOf v).toNat)
                case atStart => exact ⟨0, by omega, rfl, ρ7, V7, Q7.out, Q8.out⟩
                case round =>
                  clear Q7 Q8
                  obtain ⟨j, hj, rfl, ρ4, V4, q1, q2⟩ := hrel
                  by_cases hj3 : j < 3
                  · have hj3' : (j : Int) < 3 := by omega
                    have c0 := q1.k0
                    have CX : Hid (Calls Try.prog 31 #[.pointer (some ⟨bx, 0, none⟩), .int .i64 r] wr fun e w' => e = .returned (.int .i64 0) ∧ PostK w.heap.size 0 ρ4 bk bx bs (tickTo N r (j + 1)) wr w') := by
                      have := ktick q1 q2.new r
                      rw [(HTk.out j).1, (HTk.out j).2] at this
                      exact this
                    have Q2 : Hid (Aft 0 (fun _ => (0, 0)) ρ4 w wr) := q2
                    clear q1 q2
                    go_wp2_with (go_at_call 31; refine (CX.out).mono ?_; rintro e w3 ⟨rfl, ρ5, V5, t1, t2⟩)
                    go_roundw
                    case rel => exact ⟨j + 1, by omega, by go_num, ρ5, V5, t1, Q2.out.trans t2⟩
                    case measure => simp [intOf]; omega
                  · have hj3' : ¬ (j : Int) < 3 := by omega
                    have e : j = 3 := by omega
                    subst e
                    have Q9 : Hid (KI wr w.heap.size ρ4 0 bk bx bs (tickTo N r 3) V4) := q1
                    have Q10 : Hid (Aft 0 (fun _ => (0, 0)) ρ4 w wr) := q2
                    clear q1 q2 HTk hj hj3
                    have HT4 : Hid ((tickTo N r 3).n = n ∧ ((tickTo N r 3).rs r).dn = false) := ⟨(tickTo_ok HU.out.1 r 3).2.1.trans HWk.out.2, by rw [(tickTo_ok HU.out.1 r 3).2.2.2.2]; exact HU.out.2.2⟩
                    have CX : Hid (Calls Try.prog 26 #[.pointer (some ⟨bk, 0, none⟩), .int .i64 r] wr fun e w' => e = .returned (.bool true) ∧ PostK w.heap.size 0 ρ4 bk bx bs (dumpTill (tickTo N r 3) r) wr w') := kdumps Q9.out Q10.out.new Q10.out.only.size r (by rw [HT4.out.1]; exact hrn) HT4.out.2
                    have HDn : Hid (Good (dumpTill (tickTo N r 3) r) ∧ (dumpTill (tickTo N r 3) r).n = n) := ⟨(tickTo_ok HU.out.1 r 3).1.dumpTill r (by rw [HT4.out.1]; exact hrn) HT4.out.2, HT4.out.1⟩
                    clear HU
                    generalize dumpTill (tickTo N r 3) r = D at *
                    obtain ⟨wq, rfl⟩ : ∃ wq : World, wq = wr := ⟨_, rfl⟩
                    go_wp2_with (go_at_call 26; refine (CX.out).mono ?_; rintro e w4 ⟨rfl, ρ8, V8, t1, t2⟩)
                    have Q11 : Hid (KI w4 w.heap.size ρ8 0 bk bx bs D V8) := t1
                    have Q12 : Hid (Aft 0 (fun _ => (0, 0)) ρ8 w w4) := Q10.out.trans t2
                    clear t1 t2 CX Q9 Q10 HT4
                    have HLn : Hid (∀ b, Good (lastTo D r b) ∧ (lastTo D r b).n = n) := fun b => last_ok HDn.out.1 HDn.out.2 b
                    have HLz : Hid (∀ b : Nat, waitN (lastTo D r b) r b = 0 → lastTo D r (b + 1) = lastTo D r b) := fun b => last_zero D r b
                    have HLs : Hid (∀ b : Nat, waitN (lastTo D r b) r b ≠ 0 → deliverC (lastTo D r b) r b (waitN (lastTo D r b) r b - 1) = lastTo D r (b + 1)) := fun b => last_some D r b
                    go_loopw [15] (fun v wr => ∃ j : Nat, j ≤ n ∧ v = .int .i64 j ∧ ∃ ρ' V', KI wr w.heap.size ρ' 0 bk bx bs (lastTo D r j) V' ∧ Aft 0 (fun _ => (0, 0)) ρ' w wr) (fun v _ => n - (intOf v).toNat)
                    case atStart => exact ⟨0, by omega, rfl, ρ8, V8, Q11.out, Q12.out⟩
                    case round =>
                      clear Q11 Q12
                      obtain ⟨j, hj, rfl, ρ9, V9, q1, q2⟩ := hrel
                      have c1 := q1.k1
                      rw [(HLn.out j).2] at c1
                      by_cases hjn : j < n
                      · have hjn' : (j : Int) < (n : Int) := by omega
                        have c0 := q1.k0
                        have hwb := waitN_bd q1.g r j
                        have CW : Hid (Calls Try.prog 33 #[.pointer (some ⟨bx, 0, none⟩), .int .i64 r, .int .i64 j] wr fun e w' => e = .returned (.tuple #[.int .i64 (waitN (lastTo D r j) r j), .int .i64 (pairE (lastTo D r j).n r j)]) ∧ wr = w') := kwaiting q1 r j
                        by_cases hw0 : waitN (lastTo D r j) r j = 0
                        · have Q1 : Hid (KI wr w.heap.size ρ9 0 bk bx bs (lastTo D r (j + 1)) V9) := by rw [HLz.out j hw0]; exact q1
                          have Q2 : Hid (Aft 0 (fun _ => (0, 0)) ρ9 w wr) := q2
                          rw [hw0] at CW
                          clear q1 q2 hwb hw0
                          generalize pairE (lastTo D r j).n r j = pe at CW
                          go_wp2_with (go_at_call 33; refine (CW.out).mono ?_; rintro e w' ⟨rfl, rfl⟩)
                          go_roundw
                          case rel => exact ⟨j + 1, by omega, by go_num, ρ9, V9, Q1.out, Q2.out⟩
                          case measure => simp [intOf]; omega
                        · have CX : Hid (Calls Try.prog 34 #[.pointer (some ⟨bx, 0, none⟩), .int .i64 r, .int .i64 j, .int .i64 (waitN (lastTo D r j) r j - 1)] wr fun e w' => e = .returned (.int .i64 (msgE (lastTo D r j) r j (waitN (lastTo D r j) r j - 1))) ∧ PostK w.heap.size 0 ρ9 bk bx bs (lastTo D r (j + 1)) wr w') := by
                            have := kdeliver q1 q2.new r j (waitN (lastTo D r j) r j - 1)
                            rw [HLs.out j hw0] at this
                            exact this
                          have Q2 : Hid (Aft 0 (fun _ => (0, 0)) ρ9 w wr) := q2
                          have hw1 : 0 < waitN (lastTo D r j) r j := by omega
                          have hw6 : waitN (lastTo D r j) r j ≤ 6 := hwb.2
                          clear q1 q2 hwb hw0
                          generalize pairE (lastTo D r j).n r j = pe at CW
                          generalize msgE (lastTo D r j) r j (waitN (lastTo D r j) r j - 1) = me at CX
                          generalize waitN (lastTo D r j) r j = wn at *
                          go_wp2_with (first | (go_at_call 33; refine (CW.out).mono ?_; rintro e w' ⟨rfl, rfl⟩) | (go_at_call 34; refine (CX.out).mono ?_; rintro e w5 ⟨rfl, ρ10, V10, t1, t2⟩))
                          go_roundw
                          case rel => exact ⟨j + 1, by omega, by go_num, ρ10, V10, t1, Q2.out.trans t2⟩
                          case measure => simp [intOf]; omega
                      · have hjn' : ¬ (j : Int) < (n : Int) := by omega
                        have e : j = n := by omega
                        subst e
                        have KG : Hid (KN wr w.heap.size ρ9 0 bk bx bs G G.co V9) := by
                          rw [HAg.out]; exact q1
                        have BG : Hid (Below w.heap.size w wr) := q2.all
                        clear q1 q2 HLn HLz HLs HDn hj hjn
                        obtain ⟨n, rfl⟩ : ∃ n : Nat, n = j := ⟨_, rfl⟩
                        obtain ⟨ws, rfl⟩ : ∃ ws : World, ws = wr := ⟨_, rfl⟩
                        go_wp2
                        go_loopw [18] (fun v wr => ∃ d : Nat, d ≤ n ∧ v = .int .i64 d ∧ Below ws.heap.size ws wr) (fun v _ => n - (intOf v).toNat)
                        case atStart => exact ⟨0, by omega, rfl, Below.refl _ _⟩
                        case round =>
                          obtain ⟨d, hd, rfl, b1⟩ := hrel
                          have K1 := KG.out.below b1
                          have c1 := K1.k1
                          rw [HAf.out.2.2.2.1] at c1
                          by_cases hdn : d < n
                          · have hdn' : (d : Int) < (n : Int) := by omega
                            have c0 := K1.k0
                            have CT : Hid (Calls Try.prog 19 #[.pointer (some ⟨bx, 0, none⟩), .int .i64 r, .int .i64 d] wr fun e w' => ∃ ad cap, e = .returned (.tuple #[.slice ad 1 cap, .int .i64 0]) ∧ Below wr.heap.size wr w') := lone_trace K1 r d (by rw [HAf.out.2.2.2.1]; exact hrn) (by rw [HAf.out.2.2.2.1]; exact hdn) (HAf.out.2.1 d)
                            have B1 : Hid (Below ws.heap.size ws wr) := b1
                            clear b1 K1
                            obtain ⟨wt, rfl⟩ : ∃ wt : World, wt = wr := ⟨_, rfl⟩
                            go_wp2_with (go_at_call 19; refine (CT.out).mono ?_; rintro e w6 ⟨ad, cap', rfl, b6⟩; have B6 : Hid (Below ws.heap.size ws w6) := B1.out.trans (b6.mono B1.out.size); clear b6)
                            go_loopw [21] (fun v wr => ∃ y : Nat, y ≤ n ∧ v = .int .i64 y ∧ Below ws.heap.size ws wr) (fun v _ => n - (intOf v).toNat)
                            case atStart => exact ⟨0, by omega, rfl, B6.out⟩
                            case round =>
                              obtain ⟨y, hy, rfl, b1⟩ := hrel
                              have K1 := KG.out.below b1
                              have c1 := K1.k1
                              rw [HAf.out.2.2.2.1] at c1
                              by_cases hyn : y < n
                              · have hyn' : (y : Int) < (n : Int) := by omega
                                have c0 := K1.k0
                                have B7 : Hid (Below ws.heap.size ws wr) := b1
                                by_cases hyr : y = r
                                · subst hyr
                                  clear b1 K1
                                  go_wp2
                                  go_roundw
                                  case rel => exact ⟨y + 1, by omega, by go_num, B7.out⟩
                                  case measure => simp [intOf]; omega
                                · have hyr' : ((y : Int) == (r : Int)) = false := by rw [beq_eq_false_iff_ne]; omega
                                  by_cases hyd : y = d
                                  · subst hyd
                                    clear b1 K1
                                    go_wp2
                                    go_roundw
                                    case rel => exact ⟨y + 1, by omega, by go_num, B7.out⟩
                                    case measure => simp [intOf]; omega
                                  · have hyd' : ((y : Int) == (d : Int)) = false := by rw [beq_eq_false_iff_ne]; omega
                                    by_cases hdr : d = r
                                    · subst hdr
                                      clear b1 K1
                                      go_wp2
                                      go_roundw
                                      case rel => exact ⟨y + 1, by omega, by go_num, B7.out⟩
                                      case measure => simp [intOf]; omega
                                    · have hdr' : ((d : Int) == (r : Int)) = false := by rw [beq_eq_false_iff_ne]; omega
                                      have CT2 : Hid (Calls Try.prog 28 #[.pointer (some ⟨bx, 0, none⟩), .int .i64 y, .int .i64 d] wr fun e w' => ∃ x1 x2 x3 x4 x5, e = .returned (.tuple #[.agg #[.int .i64 x1, .int .i64 x2, .int .i64 x3, .int .i64 x4, .int .i64 x5], .int .i64 0]) ∧ x1 ≠ (r : Int) ∧ Below wr.heap.size wr w') := route_by K1 y d r (by rw [HAf.out.2.2.2.1]; exact hyn) (by rw [HAf.out.2.2.2.1]; exact hdn) hyd (HAf.out.1 y hyn) (HAf.out.2.2.1 y d hyn hyr hdr)
                                      clear b1 K1
                                      go_wp2_with (go_at_call 28; refine (CT2.out).mono ?_; rintro e w7 ⟨x1, x2, x3, x4, x5, rfl, hx1, b7⟩; have hx1' : (x1 == (r : Int)) = false := (by rw [beq_eq_false_iff_ne]; exact hx1); clear hx1)
                                      go_roundw
                                      case rel => exact ⟨y + 1, by omega, by go_num, (B7.out.trans (b7.mono B7.out.size)).alloc (Nat.le_trans B7.out.size b7.size) _⟩
                                      case measure => simp [intOf]; omega
                              · have hyn' : ¬ (y : Int) < (n : Int) := by omega
                                have B7 : Hid (Below ws.heap.size ws wr) := b1
                                clear b1 K1
                                go_wp2
                                go_roundw
                                case rel => exact ⟨d + 1, by omega, by go_num, B7.out⟩
                                case measure => simp [intOf]; omega
                          · have hdn' : ¬ (d : Int) < (n : Int) := by omega
                            have B7 : Hid (Below ws.heap.size ws wr) := b1
                            clear b1 K1
                            go_wp2
                            go_ret
                            exact ⟨rfl, BG.out.trans (B7.out.mono BG.out.size)⟩)
end Go.Proofs.Ytdoodnbobpijoaa

namespace Go.Proofs.Ytdoodnbobpijoaa
open Go.ChangeShapes Go.WideShapes Go.ChangeAt Go.RowKit Go.Deep

set_option maxRecDepth 100000 in
theorem aged_lifted (os : Os) (started : os.Started) (H : Type) (enc : TypeId × Value → H) :
    ReturnsInHanded {} Try.checked os 11 .any (Rows.agedSpec.pre6 enc Try.prog Try.f11 Rows.agedRow.domain false) (Rows.agedSpec.post enc Try.prog Try.f11 false true false false) := by
  refine returnsInHanded_of_change_sized (C := Try.checked) Try.own started (by kernel_rfl) Try.func11
    (ChangeSpec.witness6 (enc := enc) (C := Try.checked) false ⟨#[], #[.int .i64 0, .slice none 0 0, .int .i64 0], []⟩ 8 (by kernel_rfl) (by kernel_rfl) (by kernel_rfl) (by kernel_rfl)) ?_
  intro W base args ds gs before hval0 hW hcnd hsz0 _
  have hval : ∀ (j : Nat) t v, Try.f11.params[j]? = some t → args[j]? = some v → Value.okWide Try.prog W .any base t v := hval0
  have hW' := hW
  obtain ⟨p, q, hA0, hV, rfl, hfz, hnd⟩ := hW
  have hA : DataW.TrodAll enc Try.prog W 0 (fun _ => true) true Try.f11.params.toList args.toList ds p := hA0
  rw [Try.params11] at hA hval
  obtain ⟨v0, v1, v2, d0, d1, d2, p0, p1, p2, rfl, rfl, rfl, h0, h1, h2⟩ := trodAll_three hA
  obtain ⟨rfl, rfl⟩ := trodVars_none hV
  obtain ⟨x0, rfl⟩ := okWide_int Try.underlying3 (hval 0 3 v0 rfl rfl)
  have fit0 := open_int h0
  have lt0 : ∀ x ∈ p0, x.block < W.heap.size := by obtain ⟨m, hm⟩ := h0; exact DataW.trod_lt m _ _ _ hm
  obtain ⟨a1, len1, cap1, rfl⟩ := okWide_slice Try.underlying26 (hval 1 26 v1 rfl rfl)
  obtain ⟨f1, hS1⟩ := open_scp h1
  have lt1 : ∀ x ∈ p1, x.block < W.heap.size := by obtain ⟨m, hm⟩ := h1; exact DataW.trod_lt m _ _ _ hm
  obtain ⟨x2, rfl⟩ := okWide_int Try.underlying3 (hval 2 3 v2 rfl rfl)
  have fit2 := open_int h2
  have lt2 : ∀ x ∈ p2, x.block < W.heap.size := by obtain ⟨m, hm⟩ := h2; exact DataW.trod_lt m _ _ _ hm
  clear hA0 hval0 hsz0
  have fin : Calls Try.prog 11 #[.int .i64 x0, .slice a1 len1 cap1, .int .i64 x2] W fun e W' => e = .returned (.bool true) ∧ Below W.heap.size W W' := aged_any W x0 fit0 a1 len1 cap1 f1 hS1 x2 fit2
  refine fin.mono fun e W' ⟨he, bel⟩ => ?_
  subst he
  exact ⟨_, rfl, _, _, _, [], _, [], hW', trodAll_mk1 (shut_bool Try.underlying4 _), trodAll_mk3 (Below.trod Try.laidOut (by kernel_rfl) (of_decide_eq_true (by kernel_rfl)) h0 bel lt0) (Below.trod Try.laidOut (by kernel_rfl) (of_decide_eq_true (by kernel_rfl)) h1 bel lt1) (Below.trod Try.laidOut (by kernel_rfl) (of_decide_eq_true (by kernel_rfl)) h2 bel lt2), rfl, bel.frame _, fun h => by cases h⟩
theorem aged_holds : Rows.AgedSaid :=
  OpenClaim.holds_of_wide 11 Try.f11 rfl rfl rfl rfl rfl rfl rfl ⟨rfl, rfl, rfl, rfl, rfl⟩ rfl rfl rfl rfl rfl (by kernel_rfl) Try.func11 (by kernel_rfl)
    (of_decide_eq_true (by kernel_rfl)) (by unfold Func.isWrapper; first | (rw [if_pos (by decide +kernel)]; kernel_rfl) | (rw [if_neg (by decide +kernel)]; exact ⟨rfl, rfl⟩))
    (fun os started H enc _ => aged_lifted os started H enc)
#print axioms aged_holds
end Go.Proofs.Ytdoodnbobpijoaa

