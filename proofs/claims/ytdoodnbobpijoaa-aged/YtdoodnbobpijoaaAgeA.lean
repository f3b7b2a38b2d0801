import Derived.Test.YtdoodnbobpijoaaBunL
import Derived.Test.YtdoodnbobpijoaaBunL
import Derived.Test.YtdoodnbobpijoaaBunJ
namespace Go.Proofs.Ytdoodnbobpijoaa
open Go.RowKit

/-! ### Aged -/
set_option maxHeartbeats 8000000 in
set_option maxRecDepth 100000 in
theorem aged_any (w : World) (size : Int) (fs : Fits size) (sa : Option Addr) (len cap : Nat) (f : Nat → St) (hS : Scp w sa len f) (who : Int) (fw : Fits who) :
    Calls Try.prog 11 #[.int .i64 size, .slice sa len cap, .int .i64 who] w fun e w' => e = .returned (.bool true) ∧ Below w.heap.size w w' := by
  obtain ⟨n, hn, n2, n5⟩ := size_pick size
  have KL : Hid (Calls Try.prog 14 #[.int .i64 size] w fun e w' => ∃ bk bx bs, e = .returned (.pointer (some ⟨bk, 0, none⟩)) ∧ PostK w.heap.size 0 (fun _ => (0, 0)) bk bx bs (laidN n) w w') := klaid size n fs.1 fs.2 hn (fun _ _ => rfl) (Nat.le_refl _)
  have HG : Hid (Tame (laidN n) 0 ∧ (laidN n).n = n) := ⟨laid_tame n n2 n5, (laid_good n n2 n5).2⟩
  have HS : Hid (Scp w sa len f) := hS
  obtain ⟨r, hr0, hrn⟩ := who_pick who n (by omega)
  have PW : Hid (∀ W, Calls Try.prog 20 #[.int .i64 who, .int .i64 n] W fun e w' => e = .returned (.int .i64 r) ∧ W = w') := fun W => by
    have := kpick who n W fw.1 fw.2 (by omega) (by omega)
    rw [hr0] at this; exact this
  clear hr0
  clear hS hn fs fw
  go_enter Try.func11, Try.ntmps11
  go_wp2_with fail
  refine (KL.out).mono ?_
  rintro e w1 ⟨bk, bx, bs, rfl, ρ1, V1, q1, q2⟩
  clear KL
  have Q1 : Hid (KI w1 w.heap.size ρ1 0 bk bx bs (laidN n) V1) := q1
  have Q2 : Hid (Aft 0 (fun _ => (0, 0)) ρ1 w w1) := q2
  clear q1 q2
  go_wp2_with fail
  go_loopw [8] (fun v wr => ∃ k : Nat, k ≤ len ∧ k ≤ 100 ∧ v = .int .i64 k ∧ ∃ ρ' V', KI wr w.heap.size ρ' 0 bk bx bs (playF (laidN n) f k) V' ∧ Aft 0 (fun _ => (0, 0)) ρ' w wr) (fun v _ => 100 - (intOf v).toNat)
  case atStart => exact ⟨0, by omega, by omega, rfl, ρ1, V1, Q1.out, Q2.out⟩
  case round =>
    clear Q1 Q2
    obtain ⟨k, hk, hkm, rfl, ρ2, V2, q1, q2⟩ := hrel
    by_cases hgo : k < len ∧ k < 100
    · obtain ⟨hkl, hk1⟩ := hgo
      have hkl' : (k : Int) < (len : Int) := by omega
      have hk1' : (k : Int) < 100 := by omega
      have hk0 : (0 : Int) ≤ (k : Int) := by omega
      obtain ⟨sb, so, rfl, ⟨s0, s1, s2, s3⟩, ft⟩ := HS.out.at q2.all hkl
      have CX : Hid (Calls Try.prog 15 #[.pointer (some ⟨bk, 0, none⟩), .agg #[.int .i64 (f k).k, .int .i64 (f k).a, .int .i64 (f k).b, .int .i64 (f k).c]] wr fun e w' => e = .returned (.tuple #[]) ∧ PostK w.heap.size 0 ρ2 bk bx bs (playF (laidN n) f (k + 1)) wr w') := kdoes q1 q2.new q2.only.size (f k) ft
      have Q2 : Hid (Aft 0 (fun _ => (0, 0)) ρ2 w wr) := q2
      clear q1 q2 ft
      go_wp2_with (go_at_call 15; refine (CX.out).mono ?_; rintro e w2 ⟨rfl, ρ3, V3, t1, t2⟩)
      go_roundw
      case rel => exact ⟨k + 1, by omega, by omega, by go_num, ρ3, V3, t1, Q2.out.trans t2⟩
      case measure => simp [intOf]; omega
    · have hex : ¬ (k : Int) < (len : Int) ∨ ((k : Int) < (len : Int) ∧ ¬ (k : Int) < 100) := by omega
      have HTm : Hid (Tame (playF (laidN n) f k) (0 + (k : Int)) ∧ (playF (laidN n) f k).n = n) := ⟨playF_tame HG.out.1 f k, (playF_n HG.out.1.good f k).2.trans HG.out.2⟩
      have hk9 : (0 : Int) + (k : Int) < 900 := by omega
      have Q1 : Hid (KI wr w.heap.size ρ2 0 bk bx bs (playF (laidN n) f k) V2) := q1
      have Q2 : Hid (Aft 0 (fun _ => (0, 0)) ρ2 w wr) := q2
      clear q1 q2 hgo hkm hk
      generalize (playF (laidN n) f k) = P at *
      obtain ⟨wo, rfl⟩ : ∃ wo : World, wo = wr := ⟨_, rfl⟩
      rcases hex with hex | ⟨hex1, hex⟩
      all_goals (
        have HA : Hid (Tame (restartC P r) (0 + (k : Int) + 1) ∧ (restartC P r).n = n ∧ ((restartC P r).rs r).dn = false) := ⟨HTm.out.1.restart r, (Risen.restart HTm.out.1.good r (by rw [HTm.out.2]; exact hrn)).1.n.trans HTm.out.2, (Risen.restart HTm.out.1.good r (by rw [HTm.out.2]; exact hrn)).2⟩
        have c0 := Q1.out.k0
        have c1 := Q1.out.k1
        rw [HTm.out.2] at c1
        have CR : Hid (Calls Try.prog 21 #[.pointer (some ⟨bx, 0, none⟩), .int .i64 r] wo fun e w' => e = .returned (.int .i64 (restartE P r)) ∧ PostK w.heap.size 0 ρ2 bk bx bs (restartC P r) wo w') := krestart Q1.out Q2.out.new r
        go_wp2_with (first | (go_at_call 20; refine ((PW.out) _).mono ?_; rintro e w' ⟨rfl, rfl⟩) | (go_at_call 21; refine (CR.out).mono ?_; rintro e w2 ⟨rfl, ρ3, V3, t1, t2⟩))
        have Q3 : Hid (KI w2 w.heap.size ρ3 0 bk bx bs (restartC P r) V3) := t1
        have Q4 : Hid (Aft 0 (fun _ => (0, 0)) ρ3 w w2) := Q2.out.trans t2
        clear t1 t2 CR Q1 Q2 c0 c1
        generalize restartC P r = A at *
        have HU : Hid (Good A ∧ r < A.n ∧ (A.rs r).dn = false) := ⟨HA.out.1.good, by rw [HA.out.2.1]; exact hrn, HA.out.2.2⟩
        have HTk : Hid (∀ j, upE (tickTo A r j) r = 0 ∧ tickC (tickTo A r j) r = tickTo A r (j + 1)) := fun j => tick_goes HU.out j
        go_loopw [10] (fun v wr => ∃ j : Nat, j ≤ 3 ∧ v = .int .i64 j ∧ ∃ ρ' V', KI wr w.heap.size ρ' 0 bk bx bs (tickTo A r j) V' ∧ Aft 0 (fun _ => (0, 0)) ρ' w wr) (fun v _ => 3 - (intOf v).toNat)
        case atStart => exact ⟨0, by omega, rfl, ρ3, V3, Q3.out, Q4.out⟩
        case round =>
          clear Q3 Q4
          obtain ⟨j, hj, rfl, ρ4, V4, q1, q2⟩ := hrel
          by_cases hj3 : j < 3
          · have hj3' : (j : Int) < 3 := by omega
            have c0 := q1.k0
            have CX : Hid (Calls Try.prog 31 #[.pointer (some ⟨bx, 0, none⟩), .int .i64 r] wr fun e w' => e = .returned (.int .i64 0) ∧ PostK w.heap.size 0 ρ4 bk bx bs (tickTo A r (j + 1)) wr w') := by
              have := ktick q1 q2.new r
              rw [(HTk.out j).1, (HTk.out j).2] at this
              exact this
            have Q2 : Hid (Aft 0 (fun _ => (0, 0)) ρ4 w wr) := q2
            clear q1 q2
            go_wp2_with (go_at_call 31; refine (CX.out).mono ?_; rintro e w3 ⟨rfl, ρ5, V5, t1, t2⟩)
            go_roundw
            case rel => exact ⟨j + 1, by omega, by go_num, ρ5, V5, t1, Q2.out.trans t2⟩
            case measure => simp [intOf]; omega
          · have hj3' : ¬ (j : Int) < 3 := by omega
            have e : j = 3 := by omega
            subst e
            have Q5 : Hid (KI wr w.heap.size ρ4 0 bk bx bs (tickTo A r 3) V4) := q1
            have Q6 : Hid (Aft 0 (fun _ => (0, 0)) ρ4 w wr) := q2
            clear q1 q2 HTk hj hj3
            have HT3 : Hid (Tame (tickTo A r 3) (0 + (k : Int) + 1) ∧ (tickTo A r 3).n = n) := ⟨tickTo_tame HA.out.1 r 3, ((tickTo_ok HA.out.1.good r 3).2.1).trans HA.out.2.1⟩
            have HAg : Hid (agedN A r = lastTo (dumpTill (tickTo (allN (restTo (tickTo A r 3) n)) r 3) r) r n) := aged_eq HA.out.2.1 HT3.out.2
            have HAf : Hid ((∀ j, j < n → ((agedN A r).rs j).dn = false) ∧ (∀ d, (((agedN A r).rs r).t.ro d).nx < 0) ∧ (∀ y d, y < n → y ≠ r → d ≠ r → (((agedN A r).rs y).t.ro d).nx ≠ r) ∧ (agedN A r).n = n ∧ Good (agedN A r)) := aged_facts HA.out.1 HA.out.2.1 hrn
            clear HU
            generalize agedN A r = G at *
            generalize tickTo A r 3 = M at *
            obtain ⟨wp, rfl⟩ : ∃ wp : World, wp = wr := ⟨_, rfl⟩
            have HR : Hid (∀ j, j ≤ n → (restTo M j).n = n) := fun j hj => (restTo_ok HT3.out.1.good j (by rw [HT3.out.2]; exact hj)).1.n.trans HT3.out.2
            go_wp2
            go_loopw [12] (fun v wr => ∃ j : Nat, j ≤ n ∧ v = .int .i64 j ∧ ∃ ρ' V', KI wr w.heap.size ρ' 0 bk bx bs (restTo M j) V' ∧ Aft 0 (fun _ => (0, 0)) ρ' w wr) (fun v _ => n - (intOf v).toNat)
            case atStart => exact ⟨0, by omega, rfl, ρ4, V4, Q5.out, Q6.out⟩
            case round =>
              clear Q5 Q6
              obtain ⟨j, hj, rfl, ρ6, V6, q1, q2⟩ := hrel
              have c1 := q1.k1
              rw [HR.out j hj] at c1
              by_cases hjn : j < n
              · have hjn' : (j : Int) < (n : Int) := by omega
                have c0 := q1.k0
                have CX : Hid (Calls Try.prog 21 #[.pointer (some ⟨bx, 0, none⟩), .int .i64 j] wr fun e w' => e = .returned (.int .i64 (restartE (restTo M j) j)) ∧ PostK w.heap.size 0 ρ6 bk bx bs (restTo M (j + 1)) wr w') := krestart q1 q2.new j
                have Q2 : Hid (Aft 0 (fun _ => (0, 0)) ρ6 w wr) := q2
                clear q1 q2
                go_wp2_with (go_at_call 21; refine (CX.out).mono ?_; rintro e w3 ⟨rfl, ρ7, V7, t1, t2⟩)
                go_roundw
                case rel => exact ⟨j + 1, by omega, by go_num, ρ7, V7, t1, Q2.out.trans t2⟩
                case measure => simp [intOf]; omega
              · have hjn' : ¬ (j : Int) < (n : Int) := by omega
                have e : j = n := by omega
                subst e
                have CX : Hid (Calls Try.prog 32 #[.pointer (some ⟨bk, 0, none⟩)] wr fun e w' => e = .returned (.tuple #[]) ∧ PostK w.heap.size 0 ρ6 bk bx bs (allN (restTo M j)) wr w') := kall q1 q2.new
                have HWk : Hid (Calm (allN (restTo M j)) ∧ (allN (restTo M j)).n = j) := woken_at HT3.out.1 HT3.out.2
                have Q2 : Hid (Aft 0 (fun _ => (0, 0)) ρ6 w wr) := q2
                clear q1 q2 hj HR hjn
                generalize allN (restTo M j) = N at *
                obtain ⟨wq, rfl⟩ : ∃ wq : World, wq = wr := ⟨_, rfl⟩
                go_wp2_with (go_at_call 32; refine (CX.out).mono ?_; rintro e w3 ⟨rfl, ρ7, V7, t1, t2⟩)
                have Q7 : Hid (KI w3 w.heap.size ρ7 0 bk bx bs N V7) := t1
                have Q8 : Hid (Aft 0 (fun _ => (0, 0)) ρ7 w w3) := Q2.out.trans t2
                clear t1 t2 CX Q2
                have HU : Hid (Good N ∧ r < N.n ∧ (N.rs r).dn = false) := ⟨HWk.out.1.good, by rw [HWk.out.2]; exact hrn, HWk.out.1.up r (by rw [HWk.out.2]; exact hrn)⟩
                obtain ⟨n, rfl⟩ : ∃ n : Nat, n = j := ⟨_, rfl⟩
                have HTk : Hid (∀ j, upE (tickTo N r j) r = 0 ∧ tickC (tickTo N r j) r = tickTo N r (j + 1)) := fun j => tick_goes HU.out j
                go_loopw [13] (fun v wr => ∃ j : Nat, j ≤ 3 ∧ v = .int .i64 j ∧ ∃ ρ' V', KI wr w.heap.size ρ' 0 bk bx bs (tickTo N r j) V' ∧ Aft 0 (fun _ => (0, 0)) ρ' w wr) (fun v _ => 3 - (intOf v).toNat)
                case atStart => exact ⟨0, by omega, rfl, ρ7, V7, Q7.out, Q8.out⟩
                case round =>
                  clear Q7 Q8
                  obtain ⟨j, hj, rfl, ρ4, V4, q1, q2⟩ := hrel
                  by_cases hj3 : j < 3
                  · have hj3' : (j : Int) < 3 := by omega
                    have c0 := q1.k0
                    have CX : Hid (Calls Try.prog 31 #[.pointer (some ⟨bx, 0, none⟩), .int .i64 r] wr fun e w' => e = .returned (.int .i64 0) ∧ PostK w.heap.size 0 ρ4 bk bx bs (tickTo N r (j + 1)) wr w') := by
                      have := ktick q1 q2.new r
                      rw [(HTk.out j).1, (HTk.out j).2] at this
                      exact this
                    have Q2 : Hid (Aft 0 (fun _ => (0, 0)) ρ4 w wr) := q2
                    clear q1 q2
                    go_wp2_with (go_at_call 31; refine (CX.out).mono ?_; rintro e w3 ⟨rfl, ρ5, V5, t1, t2⟩)
                    go_roundw
                    case rel => exact ⟨j + 1, by omega, by go_num, ρ5, V5, t1, Q2.out.trans t2⟩
                    case measure => simp [intOf]; omega
                  · have hj3' : ¬ (j : Int) < 3 := by omega
                    have e : j = 3 := by omega
                    subst e
                    have Q9 : Hid (KI wr w.heap.size ρ4 0 bk bx bs (tickTo N r 3) V4) := q1
                    have Q10 : Hid (Aft 0 (fun _ => (0, 0)) ρ4 w wr) := q2
                    clear q1 q2 HTk hj hj3
                    have HT4 : Hid ((tickTo N r 3).n = n ∧ ((tickTo N r 3).rs r).dn = false) := ⟨(tickTo_ok HU.out.1 r 3).2.1.trans HWk.out.2, by rw [(tickTo_ok HU.out.1 r 3).2.2.2.2]; exact HU.out.2.2⟩
                    have CX : Hid (Calls Try.prog 26 #[.pointer (some ⟨bk, 0, none⟩), .int .i64 r] wr fun e w' => e = .returned (.bool true) ∧ PostK w.heap.size 0 ρ4 bk bx bs (dumpTill (tickTo N r 3) r) wr w') := kdumps Q9.out Q10.out.new Q10.out.only.size r (by rw [HT4.out.1]; exact hrn) HT4.out.2
                    have HDn : Hid (Good (dumpTill (tickTo N r 3) r) ∧ (dumpTill (tickTo N r 3) r).n = n) := ⟨(tickTo_ok HU.out.1 r 3).1.dumpTill r (by rw [HT4.out.1]; exact hrn) HT4.out.2, HT4.out.1⟩
                    clear HU
                    generalize dumpTill (tickTo N r 3) r = D at *
                    obtain ⟨wq, rfl⟩ : ∃ wq : World, wq = wr := ⟨_, rfl⟩
                    go_wp2_with (go_at_call 26; refine (CX.out).mono ?_; rintro e w4 ⟨rfl, ρ8, V8, t1, t2⟩)
                    have Q11 : Hid (KI w4 w.heap.size ρ8 0 bk bx bs D V8) := t1
                    have Q12 : Hid (Aft 0 (fun _ => (0, 0)) ρ8 w w4) := Q10.out.trans t2
                    clear t1 t2 CX Q9 Q10 HT4
                    have HLn : Hid (∀ b, Good (lastTo D r b) ∧ (lastTo D r b).n = n) := fun b => last_ok HDn.out.1 HDn.out.2 b
                    have HLz : Hid (∀ b : Nat, waitN (lastTo D r b) r b = 0 → lastTo D r (b + 1) = lastTo D r b) := fun b => last_zero D r b
                    have HLs : Hid (∀ b : Nat, waitN (lastTo D r b) r b ≠ 0 → deliverC (lastTo D r b) r b (waitN (lastTo D r b) r b - 1) = lastTo D r (b + 1)) := fun b => last_some D r b
                    go_loopw [15] (fun v wr => ∃ j : Nat, j ≤ n ∧ v = .int .i64 j ∧ ∃ ρ' V', KI wr w.heap.size ρ' 0 bk bx bs (lastTo D r j) V' ∧ Aft 0 (fun _ => (0, 0)) ρ' w wr) (fun v _ => n - (intOf v).toNat)
                    case atStart => exact ⟨0, by omega, rfl, ρ8, V8, Q11.out, Q12.out⟩
                    case round =>
                      clear Q11 Q12
                      obtain ⟨j, hj, rfl, ρ9, V9, q1, q2⟩ := hrel
                      have c1 := q1.k1
                      rw [(HLn.out j).2] at c1
                      by_cases hjn : j < n
                      · have hjn' : (j : Int) < (n : Int) := by omega
                        have c0 := q1.k0
                        have hwb := waitN_bd q1.g r j
                        have CW : Hid (Calls Try.prog 33 #[.pointer (some ⟨bx, 0, none⟩), .int .i64 r, .int .i64 j] wr fun e w' => e = .returned (.tuple #[.int .i64 (waitN (lastTo D r j) r j), .int .i64 (pairE (lastTo D r j).n r j)]) ∧ wr = w') := kwaiting q1 r j
                        by_cases hw0 : waitN (lastTo D r j) r j = 0
                        · have Q1 : Hid (KI wr w.heap.size ρ9 0 bk bx bs (lastTo D r (j + 1)) V9) := by rw [HLz.out j hw0]; exact q1
                          have Q2 : Hid (Aft 0 (fun _ => (0, 0)) ρ9 w wr) := q2
                          rw [hw0] at CW
                          clear q1 q2 hwb hw0
                          generalize pairE (lastTo D r j).n r j = pe at CW
                          go_wp2_with (go_at_call 33; refine (CW.out).mono ?_; rintro e w' ⟨rfl, rfl⟩)
                          go_roundw
                          case rel => exact ⟨j + 1, by omega, by go_num, ρ9, V9, Q1.out, Q2.out⟩
                          case measure => simp [intOf]; omega
                        · have CX : Hid (Calls Try.prog 34 #[.pointer (some ⟨bx, 0, none⟩), .int .i64 r, .int .i64 j, .int .i64 (waitN (lastTo D r j) r j - 1)] wr fun e w' => e = .returned (.int .i64 (msgE (lastTo D r j) r j (waitN (lastTo D r j) r j - 1))) ∧ PostK w.heap.size 0 ρ9 bk bx bs (lastTo D r (j + 1)) wr w') := by
                            have := kdeliver q1 q2.new r j (waitN (lastTo D r j) r j - 1)
                            rw [HLs.out j hw0] at this
                            exact this
                          have Q2 : Hid (Aft 0 (fun _ => (0, 0)) ρ9 w wr) := q2
                          have hw1 : 0 < waitN (lastTo D r j) r j := by omega
                          have hw6 : waitN (lastTo D r j) r j ≤ 6 := hwb.2
                          clear q1 q2 hwb hw0
                          generalize pairE (lastTo D r j).n r j = pe at CW
                          generalize msgE (lastTo D r j) r j (waitN (lastTo D r j) r j - 1) = me at CX
                          generalize waitN (lastTo D r j) r j = wn at *
                          go_wp2_with (first | (go_at_call 33; refine (CW.out).mono ?_; rintro e w' ⟨rfl, rfl⟩) | (go_at_call 34; refine (CX.out).mono ?_; rintro e w5 ⟨rfl, ρ10, V10, t1, t2⟩))
                          go_roundw
                          case rel => exact ⟨j + 1, by omega, by go_num, ρ10, V10, t1, Q2.out.trans t2⟩
                          case measure => simp [intOf]; omega
                      · have hjn' : ¬ (j : Int) < (n : Int) := by omega
                        have e : j = n := by omega
                        subst e
                        have KG : Hid (KN wr w.heap.size ρ9 0 bk bx bs G G.co V9) := by
                          rw [HAg.out]; exact q1
                        have BG : Hid (Below w.heap.size w wr) := q2.all
                        clear q1 q2 HLn HLz HLs HDn hj hjn
                        obtain ⟨n, rfl⟩ : ∃ n : Nat, n = j := ⟨_, rfl⟩
                        obtain ⟨ws, rfl⟩ : ∃ ws : World, ws = wr := ⟨_, rfl⟩
                        go_wp2
                        go_loopw [18] (fun v wr => ∃ d : Nat, d ≤ n ∧ v = .int .i64 d ∧ Below ws.heap.size ws wr) (fun v _ => n - (intOf v).toNat)
                        case atStart => exact ⟨0, by omega, rfl, Below.refl _ _⟩
                        case round =>
                          obtain ⟨d, hd, rfl, b1⟩ := hrel
                          have K1 := KG.out.below b1
                          have c1 := K1.k1
                          rw [HAf.out.2.2.2.1] at c1
                          by_cases hdn : d < n
                          · have hdn' : (d : Int) < (n : Int) := by omega
                            have c0 := K1.k0
                            have CT : Hid (Calls Try.prog 19 #[.pointer (some ⟨bx, 0, none⟩), .int .i64 r, .int .i64 d] wr fun e w' => ∃ ad cap, e = .returned (.tuple #[.slice ad 1 cap, .int .i64 0]) ∧ Below wr.heap.size wr w') := lone_trace K1 r d (by rw [HAf.out.2.2.2.1]; exact hrn) (by rw [HAf.out.2.2.2.1]; exact hdn) (HAf.out.2.1 d)
                            have B1 : Hid (Below ws.heap.size ws wr) := b1
                            clear b1 K1
                            obtain ⟨wt, rfl⟩ : ∃ wt : World, wt = wr := ⟨_, rfl⟩
                            go_wp2_with (go_at_call 19; refine (CT.out).mono ?_; rintro e w6 ⟨ad, cap', rfl, b6⟩; have B6 : Hid (Below ws.heap.size ws w6) := B1.out.trans (b6.mono B1.out.size); clear b6)
                            go_loopw [21] (fun v wr => ∃ y : Nat, y ≤ n ∧ v = .int .i64 y ∧ Below ws.heap.size ws wr) (fun v _ => n - (intOf v).toNat)
                            case atStart => exact ⟨0, by omega, rfl, B6.out⟩
                            case round =>
                              obtain ⟨y, hy, rfl, b1⟩ := hrel
                              have K1 := KG.out.below b1
                              have c1 := K1.k1
                              rw [HAf.out.2.2.2.1] at c1
                              by_cases hyn : y < n
                              · have hyn' : (y : Int) < (n : Int) := by omega
                                have c0 := K1.k0
                                have B7 : Hid (Below ws.heap.size ws wr) := b1
                                by_cases hyr : y = r
                                · subst hyr
                                  clear b1 K1
                                  go_wp2
                                  go_roundw
                                  case rel => exact ⟨y + 1, by omega, by go_num, B7.out⟩
                                  case measure => simp [intOf]; omega
                                · have hyr' : ((y : Int) == (r : Int)) = false := by rw [beq_eq_false_iff_ne]; omega
                                  by_cases hyd : y = d
                                  · subst hyd
                                    clear b1 K1
                                    go_wp2
                                    go_roundw
                                    case rel => exact ⟨y + 1, by omega, by go_num, B7.out⟩
                                    case measure => simp [intOf]; omega
                                  · have hyd' : ((y : Int) == (d : Int)) = false := by rw [beq_eq_false_iff_ne]; omega
                                    by_cases hdr : d = r
                                    · subst hdr
                                      clear b1 K1
                                      go_wp2
                                      go_roundw
                                      case rel => exact ⟨y + 1, by omega, by go_num, B7.out⟩
                                      case measure => simp [intOf]; omega
                                    · have hdr' : ((d : Int) == (r : Int)) = false := by rw [beq_eq_false_iff_ne]; omega
                                      have CT2 : Hid (Calls Try.prog 28 #[.pointer (some ⟨bx, 0, none⟩), .int .i64 y, .int .i64 d] wr fun e w' => ∃ x1 x2 x3 x4 x5, e = .returned (.tuple #[.agg #[.int .i64 x1, .int .i64 x2, .int .i64 x3, .int .i64 x4, .int .i64 x5], .int .i64 0]) ∧ x1 ≠ (r : Int) ∧ Below wr.heap.size wr w') := route_by K1 y d r (by rw [HAf.out.2.2.2.1]; exact hyn) (by rw [HAf.out.2.2.2.1]; exact hdn) hyd (HAf.out.1 y hyn) (HAf.out.2.2.1 y d hyn hyr hdr)
                                      clear b1 K1
                                      go_wp2_with (go_at_call 28; refine (CT2.out).mono ?_; rintro e w7 ⟨x1, x2, x3, x4, x5, rfl, hx1, b7⟩; have hx1' : (x1 == (r : Int)) = false := (by rw [beq_eq_false_iff_ne]; exact hx1); clear hx1)
                                      go_roundw
                                      case rel => exact ⟨y + 1, by omega, by go_num, (B7.out.trans (b7.mono B7.out.size)).alloc (Nat.le_trans B7.out.size b7.size) _⟩
                                      case measure => simp [intOf]; omega
                              · have hyn' : ¬ (y : Int) < (n : Int) := by omega
                                have B7 : Hid (Below ws.heap.size ws wr) := b1
                                clear b1 K1
                                go_wp2
                                go_roundw
                                case rel => exact ⟨d + 1, by omega, by go_num, B7.out⟩
                                case measure => simp [intOf]; omega
                          · have hdn' : ¬ (d : Int) < (n : Int) := by omega
                            have B7 : Hid (Below ws.heap.size ws wr) := b1
                            clear b1 K1
                            go_wp2
                            go_ret
                            exact ⟨rfl, BG.out.trans (B7.out.mono BG.out.size)⟩)
end Go.Proofs.Ytdoodnbobpijoaa
