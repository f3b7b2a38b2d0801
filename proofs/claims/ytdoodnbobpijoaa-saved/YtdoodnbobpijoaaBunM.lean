import Derived.Test.YtdoodnbobpijoaaProI
import Derived.Test.YtdoodnbobpijoaaProJ
import Derived.Test.YtdoodnbobpijoaaBunK
import Derived.Test.YtdoodnbobpijoaaWk
import Derived.Test.YtdoodnbobpijoaaRefJ
import Derived.Test.YtdoodnbobpijoaaRefP
namespace Go.Proofs.Ytdoodnbobpijoaa
open Go.RowKit

/-! ### Lose and Deliver -/
attribute [local go_sem ↓] Go.wp_at_zero Go.wp_at_succ ldPM stPM alcPM ldPC
attribute [local go_sem] vb_ptr vo_ptr cellsL_agg size_setCells
set_option maxHeartbeats 400000 in
theorem arrives_any (bx bs x y : Nat) (A : Nt) (V : Nat → Nat → Value) (w : World) (hx : x < 5) (hy : y < 5) (hyn : y < A.n) (hR : PN w bx bs A V) :
    Calls Try.prog 59 #[.pointer (some ⟨bx, 0, none⟩), .int .i64 x, .int .i64 y] w fun e w' => e = .returned (.bool (decide (0 < A.co x y) && !(A.rs y).dn)) ∧ w = w' := by
  have hN := hR.rs
  have hc := hR.c x y hx hy
  have hd := hR.dn y hyn
  have hx' : (x : Int) < 5 := by omega
  have hy' : (y : Int) < 5 := by omega
  have hyn' : (y : Int) < (A.n : Int) := by omega
  clear hR
  by_cases h : 0 < A.co x y
  · have h' : decide (0 < A.co x y) = true := by simpa using h
    rw [h']
    go_enter Try.func59, Try.ntmps59
    go_wp2
    go_ret
    exact ⟨rfl, rfl⟩
  · have h' : decide (0 < A.co x y) = false := by simpa using h
    rw [h']
    go_enter Try.func59, Try.ntmps59
    go_wp2
    go_ret
    exact ⟨rfl, rfl⟩
set_option maxHeartbeats 400000 in
theorem plose (bx bs B : Nat) (x y k : Int) (ρ : Nat → Part) (tg : Nat → Nat → Part) (A : Nt) (V : Nat → Nat → Value) (w : World) (g : GoodP A) (hR : PN w bx bs A V) (hW : WR w B 104 ρ tg V A.wa)
    (tz : TgOk tg) (hbx : ∀ a c, ρ bx ≠ tg a c) (hbs : ∀ a c, ρ bs ≠ tg a c) (hnew : ∀ j, w.heap.size ≤ j → ρ j = (0, 0)) :
    Calls Try.prog 40 #[.pointer (some ⟨bx, 0, none⟩), .int .i64 x, .int .i64 y, .int .i64 k] w fun e w' => e = .returned (.int .i64 (msgE A x y k)) ∧ ∃ V', PN w' bx bs (loseC A x y k) V' ∧ WR w' B 104 ρ tg V' (loseC A x y k).wa ∧ TurnP bx bs tg ρ ρ w w' := by
  have hn := g.n5
  by_cases h0 : msgE A x y k = 0
  · obtain ⟨h1, h2, h3⟩ := msgE_zero h0
    obtain ⟨⟨a1, a3⟩, ⟨a2, a4⟩, _⟩ := pairE_zero h1
    obtain ⟨x, rfl⟩ := Int.eq_ofNat_of_zero_le a1
    obtain ⟨y, rfl⟩ := Int.eq_ofNat_of_zero_le a2
    obtain ⟨k, rfl⟩ := Int.eq_ofNat_of_zero_le h2
    simp only [Int.toNat_natCast] at h3
    have hC : loseC A x y k = offN A x y k := by unfold loseC; rw [if_pos h0]; rfl
    rw [hC, h0]
    go_enter Try.func40, Try.ntmps40
    go_wp2_with (first | (go_at_call 57; refine (cmsg_any bx bs B _ _ _ _ ρ tg A V _ hn hR hW).mono ?_; rw [h0]; rintro e w' ⟨rfl, rfl⟩) | (go_at_call 58; refine (takeoff_any bx bs x y k B ρ tg A V _ (by omega) (by omega) h3 (g.wl x y) (by have := g.n2; omega) hR hW tz hbx hbs hnew).mono ?_; rintro e w1 ⟨rfl, V1, of⟩))
    go_ret
    exact ⟨rfl, V1, of.pn, of.wr, of.turn⟩
  · have hC : loseC A x y k = A := by unfold loseC; rw [if_neg h0]
    have h0' : (msgE A x y k != 0) = true := by simp [h0]
    rw [hC]
    go_enter Try.func40, Try.ntmps40
    go_wp2_with (go_at_call 57; refine (cmsg_any bx bs B _ _ _ _ ρ tg A V _ hn hR hW).mono ?_; rintro e w' ⟨rfl, rfl⟩)
    go_ret
    exact ⟨rfl, V, hR, hW, TurnP.refl hnew⟩
theorem heard_takes {A : Nt} (g : GoodP A) (x y d : Nat) (hy : y < A.n) (t : Bs) (ht : t = noBs ∨ BsOk A.n d t) : heard (A.rs y).t (A.co y) x d t = takes A y x ((A.rs y).t.ro d) ((A.rs y).t.be d) t := by
  have hneg : t.sq < 0 → ¬ bet t ((A.rs y).t.be d) := fun hs hb => by
    rcases ht with e | e
    · rw [e] at hb
      rcases (g.t y hy).be d with e2 | e2
      · rw [e2] at hb; exact bet_irrefl hb
      · have h1 := e2.sq0
        have h2 : noBs.sq = -1 := rfl
        omega
    · have := e.sq0; omega
  have hcs := g.cs x y
  unfold heard takes total
  rw [hcs]
  by_cases hu : bet t ((A.rs y).t.be d) ∧ t.mt + A.co y x ≤ 30
  · have hno : ¬ (t.sq < 0 ∨ ¬ bet t ((A.rs y).t.be d) ∨ 30 < t.mt + A.co y x) := by
      rintro (h | h | h)
      · exact hneg h hu.1
      · exact h hu.1
      · omega
    rw [if_pos hu, if_neg hno]
  · have hyes : t.sq < 0 ∨ ¬ bet t ((A.rs y).t.be d) ∨ 30 < t.mt + A.co y x := by
      by_cases hb : bet t ((A.rs y).t.be d)
      · exact .inr (.inr (by by_cases h : t.mt + A.co y x ≤ 30; exact absurd ⟨hb, h⟩ hu; omega))
      · exact .inr (.inl hb)
    rw [if_neg hu, if_pos hyes]
/-- What is held while Hear is called: the routers, the message, the costs. -/
def SD (bx bs n mb : Nat) (m : Nat → Bs) (y : Nat) (f : Nat → Int) (w' : World) : Prop := w'.cell? ⟨bx, 0, none⟩ = some (.slice (some ⟨bs, 0, none⟩) n n) ∧ (midA w' mb 0 10 = mgA m ∧ MidOk w' mb 0 10) ∧ midA w' bx (1 + y * 5) 5 = coA f ∧ MidOk w' bx (1 + y * 5) 5
theorem SD.of {bx bs n mb : Nat} {m : Nat → Bs} {y : Nat} {f : Nat → Int} {w w' : World} (h : SD bx bs n mb m y f w) (hx : w'.heap[bx]? = w.heap[bx]?) (hm : w'.heap[mb]? = w.heap[mb]?) : SD bx bs n mb m y f w' :=
  ⟨(World.cell?_of_block (w := w) hx).trans h.1, ⟨(midA_of hm _ _).trans h.2.1.1, h.2.1.2.of hm⟩, (midA_of hx _ _).trans h.2.2.1, h.2.2.2.of hx⟩
theorem PN.cost {w : World} {bx bs : Nat} {A : Nt} {V : Nat → Nat → Value} (h : PN w bx bs A V) (y : Nat) (hy : y < 5) : midA w bx (1 + y * 5) 5 = coA (A.co y) ∧ MidOk w bx (1 + y * 5) 5 := coA_mid fun k hk => h.c y k hy hk
set_option maxHeartbeats 2000000 in
set_option maxRecDepth 100000 in
theorem pdeliver_ok (bx bs B x y k : Nat) (ρ : Nat → Part) (tg : Nat → Nat → Part) (A : Nt) (V : Nat → Nat → Value) (w : World) (g : GoodP A) (hR : PN w bx bs A V) (hW : WR w B 104 ρ tg V A.wa)
    (tz : TgOk tg) (hbx : ∀ a c, ρ bx ≠ tg a c) (hbs : ∀ a c, ρ bs ≠ tg a c) (hnew : ∀ j, w.heap.size ≤ j → ρ j = (0, 0)) (h0 : msgE A x y k = 0) :
    Calls Try.prog 34 #[.pointer (some ⟨bx, 0, none⟩), .int .i64 x, .int .i64 y, .int .i64 k] w fun e w' => e = .returned (.int .i64 0) ∧ ∃ V', PN w' bx bs (deliverN A x y k) V' ∧ WR w' B 104 ρ tg V' (deliverN A x y k).wa ∧ TurnP bx bs tg ρ ρ w w' := by
  have hn := g.n5
  obtain ⟨h1, h2, h3⟩ := msgE_zero h0
  obtain ⟨⟨a1, a3⟩, ⟨a2, a4⟩, hxy⟩ := pairE_zero h1
  simp only [Int.toNat_natCast] at h3
  have hx : x < 5 := by omega
  have hy : y < 5 := by omega
  have hyn : y < A.n := by omega
  have hx' : (x : Int) < 5 := by omega
  have hy' : (y : Int) < 5 := by omega
  have hyn' : (y : Int) < (A.n : Int) := by omega
  have h6 := g.wl x y
  have hn0 : 0 < A.n := by omega
  obtain ⟨m, hm⟩ : ∃ m, (A.wa x y).getD k (fun _ => noBs) = m := ⟨_, rfl⟩
  have hmem : m ∈ A.wa x y := by rw [← hm, List.getD_eq_getElem?_getD, List.getElem?_eq_getElem h3]; exact List.getElem_mem h3
  have hok : ∀ d, m d = noBs ∨ (BsOk A.n d (m d) ∧ Tells A x d (m d)) := g.wm x y m hmem
  have HM0 : Hid ((A.wa x y).getD k (fun _ => noBs) = m) := hm; clear hm
  have HM : Hid (∀ d, d < 5 → 0 ≤ (m d).mt ∧ (m d).mt ≤ 30) := (show ∀ d, d < 5 → 0 ≤ (m d).mt ∧ (m d).mt ≤ 30 from fun d _ => by
    rcases hok d with e | e
    · rw [e, noBs_mt]; decide
    · exact ⟨e.1.mt0, e.1.mt1⟩)
  have HC : Hid (∀ k, 0 ≤ A.co y k ∧ A.co y k ≤ 9) := (show ∀ k, 0 ≤ A.co y k ∧ A.co y k ≤ 9 from fun k => ⟨g.c0 y k, g.c9 y k⟩)
  have HT : Hid (∀ d, d < 5 → (((offN A x y k).rs y).t.ro d).nx < 5 ∧ (0 ≤ (((offN A x y k).rs y).t.ro d).nx → 0 ≤ (((offN A x y k).rs y).t.ro d).mt ∧ (((offN A x y k).rs y).t.ro d).mt ≤ 30)) := (show ∀ d, d < 5 → ((A.rs y).t.ro d).nx < 5 ∧ (0 ≤ ((A.rs y).t.ro d).nx → 0 ≤ ((A.rs y).t.ro d).mt ∧ ((A.rs y).t.ro d).mt ≤ 30) from fun d _ => by
    rcases (g.t y hyn).ro d with e | e
    · rw [e, noRt_nx]; exact ⟨by decide, fun h => by omega⟩
    · exact ⟨by have := e.nx1; omega, fun _ => ⟨e.mt0, e.mt1⟩⟩)
  have HOK : Hid (∀ d, m d = noBs ∨ BsOk A.n d (m d)) := (show ∀ d, m d = noBs ∨ BsOk A.n d (m d) from fun d => (hok d).imp id And.left); clear hok hmem
  have HG : Hid (GoodP A) := g; clear g
  have HR : Hid (PN w bx bs A V) := hR; clear hR
  have HW : Hid (WR w B 104 ρ tg V A.wa) := hW; clear hW
  have HJ : Hid (TgOk tg) := tz; clear tz
  have HBX : Hid (∀ a c, ρ bx ≠ tg a c) := hbx; clear hbx
  have HBS : Hid (∀ a c, ρ bs ≠ tg a c) := hbs; clear hbs
  have HN : Hid (∀ k, w.heap.size ≤ k → ρ k = (0, 0)) := hnew; clear hnew
  obtain ⟨q, hq⟩ : ∃ q, (decide (0 < A.co x y) && !(A.rs y).dn) = q := ⟨_, rfl⟩
  have HQ : Hid ((decide (0 < A.co x y) && !(A.rs y).dn) = q) := hq; clear hq
  cases q with
  | false =>
    have hdel : deliverN A x y k = offN A x y k := by
      unfold deliverN
      rw [if_pos]
      have hq := HQ.out
      rw [Bool.and_eq_false_iff] at hq
      rcases hq with hq | hq
      · have c0 := HG.out.c0 x y
        have c1 : ¬ 0 < A.co x y := by simpa using hq
        exact .inr (by omega)
      · exact .inl (by simpa using hq)
    rw [hdel]
    clear hdel
    go_enter Try.func34, Try.ntmps34
    go_wp2_with (first | (go_at_call 59; refine (arrives_any bx bs x y (offN A x y k) V1 _ hx hy hyn P5.out).mono ?_; rintro e w3 ⟨rfl, rfl⟩; rw [show (decide (0 < (offN A x y k).co x y) && !((offN A x y k).rs y).dn) = false from HQ.out]) | (go_at_call 57; refine (cmsg_any bx bs B _ _ _ _ ρ tg A V _ hn HR.out HW.out).mono ?_; rw [h0]; rintro e w' ⟨rfl, rfl⟩) | (go_at_call 58; refine (takeoff_any bx bs x y k B ρ tg A V _ hx hy h3 h6 hn0 HR.out HW.out HJ.out HBX.out HBS.out HN.out).mono ?_; rw [HM0.out]; rintro e w1 ⟨rfl, V1, of⟩; have n9 := Whole.new w1 104 Zm; have t9 := n9.there Zm_size; have ag9 := aggOk_mg m; have b9 : Below w1.heap.size w1 ((w1.alloc (.cells Zm 104)).setCells w1.heap.size 0 (mgA m).toList) := Below.setCells ((Below.refl _ _).alloc (Nat.le_refl _) _) (Nat.le_refl _) _ _; have P5 : Hid (PN ((w1.alloc (.cells Zm 104)).setCells w1.heap.size 0 (mgA m).toList) bx bs (offN A x y k) V1) := of.pn.below hn0 b9; have W5 : Hid (WR ((w1.alloc (.cells Zm 104)).setCells w1.heap.size 0 (mgA m).toList) B 104 ρ tg V1 (offN A x y k).wa) := of.wr.below b9; have T5 : Hid (TurnP bx bs tg ρ ρ w ((w1.alloc (.cells Zm 104)).setCells w1.heap.size 0 (mgA m).toList)) := of.turn.trans (TurnP.below of.turn.new b9); have N9 : Hid (Whole ((w1.alloc (.cells Zm 104)).setCells w1.heap.size 0 (mgA m).toList) w1.heap.size 104 (mgA m)) := n9.over (mgA m) (by rw [mgA_size, Zm_size]); have OPL : bx < w1.heap.size ∧ bs < w1.heap.size := ⟨of.pn.lt, of.pn.lts hn0⟩; have ONEW : Hid (∀ j, w1.heap.size ≤ j → ρ j = (0, 0)) := of.turn.new; clear b9 of n9))
    go_ret
    exact ⟨rfl, V1, P5.out, W5.out, T5.out⟩
  | true =>
    have hq := HQ.out
    rw [Bool.and_eq_true] at hq
    have hdel : deliverN A x y k = hearN (offN A x y k) x y m := by
      unfold deliverN
      rw [if_neg, HM0.out]
      rintro (h | h)
      · rw [h] at hq; exact absurd hq.2 (by decide)
      · have h1 := hq.1; rw [h] at h1; exact absurd h1 (by decide)
    rw [hdel]
    clear hdel hq
    go_enter Try.func34, Try.ntmps34
    go_wp2_with (first | (go_at_call 59; refine (arrives_any bx bs x y (offN A x y k) V1 _ hx hy hyn P5.out).mono ?_; rintro e w3 ⟨rfl, rfl⟩; rw [show (decide (0 < (offN A x y k).co x y) && !((offN A x y k).rs y).dn) = true from HQ.out]) | (go_at_call 57; refine (cmsg_any bx bs B _ _ _ _ ρ tg A V _ hn HR.out HW.out).mono ?_; rw [h0]; rintro e w' ⟨rfl, rfl⟩) | (go_at_call 58; refine (takeoff_any bx bs x y k B ρ tg A V _ hx hy h3 h6 hn0 HR.out HW.out HJ.out HBX.out HBS.out HN.out).mono ?_; rw [HM0.out]; rintro e w1 ⟨rfl, V1, of⟩; have n9 := Whole.new w1 104 Zm; have t9 := n9.there Zm_size; have ag9 := aggOk_mg m; have b9 : Below w1.heap.size w1 ((w1.alloc (.cells Zm 104)).setCells w1.heap.size 0 (mgA m).toList) := Below.setCells ((Below.refl _ _).alloc (Nat.le_refl _) _) (Nat.le_refl _) _ _; have P5 : Hid (PN ((w1.alloc (.cells Zm 104)).setCells w1.heap.size 0 (mgA m).toList) bx bs (offN A x y k) V1) := of.pn.below hn0 b9; have W5 : Hid (WR ((w1.alloc (.cells Zm 104)).setCells w1.heap.size 0 (mgA m).toList) B 104 ρ tg V1 (offN A x y k).wa) := of.wr.below b9; have T5 : Hid (TurnP bx bs tg ρ ρ w ((w1.alloc (.cells Zm 104)).setCells w1.heap.size 0 (mgA m).toList)) := of.turn.trans (TurnP.below of.turn.new b9); have N9 : Hid (Whole ((w1.alloc (.cells Zm 104)).setCells w1.heap.size 0 (mgA m).toList) w1.heap.size 104 (mgA m)) := n9.over (mgA m) (by rw [mgA_size, Zm_size]); have OPL : bx < w1.heap.size ∧ bs < w1.heap.size := ⟨of.pn.lt, of.pn.lts hn0⟩; have ONEW : Hid (∀ j, w1.heap.size ≤ j → ρ j = (0, 0)) := of.turn.new; clear b9 of n9))
    have lx : bx < ((w1.alloc (.cells Zm 104)).setCells w1.heap.size 0 (mgA m).toList).heap.size := P5.out.lt
    have lm : w1.heap.size < ((w1.alloc (.cells Zm 104)).setCells w1.heap.size 0 (mgA m).toList).heap.size := N9.out.lt
    have hmbs : w1.heap.size ≠ bs := Nat.ne_of_gt OPL.2
    have hne : bx ≠ bs := P5.out.ne
    have sS : SD bx bs A.n w1.heap.size m y (A.co y) ((w1.alloc (.cells Zm 104)).setCells w1.heap.size 0 (mgA m).toList).drew := ⟨P5.out.rs, ⟨(N9.out.mid (mgA_size m)).1, (N9.out.mid (mgA_size m)).2⟩, (P5.out.cost y hy).1, (P5.out.cost y hy).2⟩
    clear t9 ag9
    generalize ((w1.alloc (.cells Zm 104)).setCells w1.heap.size 0 (mgA m).toList) = W at *
    generalize w1.heap.size = mb at *
    refine wp_region_held_drew (S := (SD bx bs A.n mb m y (A.co y))) (by kernel_rfl) sS (fun _ => ?_)
    change wpAnyH _ _ _ _ _ _ _ _ (World.drew _)
    refine held_hq (fun _ _ x _ _ h => by cases x <;> exact h) ?_
    intro hQ
    refine held_to 0 (some 28) (.pointer (some ⟨bx, 0, none⟩)) hQ sS rfl rfl (by kernel_rfl) (by kernel_rfl) (by kernel_rfl) (by kernel_rfl) (fun w _ => by go_simp) ?_
    refine held_to 1 (some 29) (.pointer (some ⟨bx, 0, none⟩)) hQ sS rfl rfl (by kernel_rfl) (by kernel_rfl) (by kernel_rfl) (by kernel_rfl) (fun w _ => by go_simp) ?_
    refine held_to 2 (some 30) (.pointer (some ⟨bx, 0, none⟩)) hQ sS rfl rfl (by kernel_rfl) (by kernel_rfl) (by kernel_rfl) (by kernel_rfl) (fun w _ => by go_simp) ?_
    refine held_to 3 (some 31) (.slice (some ⟨bs, 0, none⟩) A.n A.n) hQ sS rfl rfl (by kernel_rfl) (by kernel_rfl) (by kernel_rfl) (by kernel_rfl) (fun w hS => by obtain ⟨h1, ⟨h2, h3⟩, h4, h5⟩ := hS; go_simp) ?_
    refine held_to 4 (some 32) (.int .i64 y) hQ sS rfl rfl (by kernel_rfl) (by kernel_rfl) (by kernel_rfl) (by kernel_rfl) (fun w _ => by go_simp) ?_
    refine held_to 5 (some 33) (.pointer (some ⟨bs, y * 74, none⟩)) hQ sS rfl rfl (by kernel_rfl) (by kernel_rfl) (by kernel_rfl) (by kernel_rfl) (fun w _ => by go_simp) ?_
    refine held_to 6 (some 34) (.pointer (some ⟨bs, y * 74, none⟩)) hQ sS rfl rfl (by kernel_rfl) (by kernel_rfl) (by kernel_rfl) (by kernel_rfl) (fun w _ => by go_simp) ?_
    refine held_to 7 (some 35) (.int .i64 y) hQ sS rfl rfl (by kernel_rfl) (by kernel_rfl) (by kernel_rfl) (by kernel_rfl) (fun w _ => by go_simp) ?_
    refine held_to 8 (some 36) (.int .i64 x) hQ sS rfl rfl (by kernel_rfl) (by kernel_rfl) (by kernel_rfl) (by kernel_rfl) (fun w _ => by go_simp) ?_
    refine held_row Try.underlying104 rfl sizePM 9 (some 37) (mgA m) mb 0 (.tmp 10) hQ sS rfl rfl (by kernel_rfl) (by kernel_rfl) (by kernel_rfl) (by kernel_rfl) rfl (by kernel_rfl) (fun w hS => hS.2.1) ?_
    refine held_to 10 (some 38) (.pointer (some ⟨bx, 0, none⟩)) hQ sS rfl rfl (by kernel_rfl) (by kernel_rfl) (by kernel_rfl) (by kernel_rfl) (fun w _ => by go_simp) ?_
    refine held_to 11 (some 39) (.int .i64 y) hQ sS rfl rfl (by kernel_rfl) (by kernel_rfl) (by kernel_rfl) (by kernel_rfl) (fun w _ => by go_simp) ?_
    refine held_to 12 (some 40) (.pointer (some ⟨bx, 0, none⟩)) hQ sS rfl rfl (by kernel_rfl) (by kernel_rfl) (by kernel_rfl) (by kernel_rfl) (fun w _ => by go_simp) ?_
    refine held_to 13 (some 41) (.pointer (some ⟨bx, 1, none⟩)) hQ sS rfl rfl (by kernel_rfl) (by kernel_rfl) (by kernel_rfl) (by kernel_rfl) (fun w _ => by go_simp) ?_
    refine held_to 14 (some 42) (.pointer (some ⟨bx, 1 + y * 5, none⟩)) hQ sS rfl rfl (by kernel_rfl) (by kernel_rfl) (by kernel_rfl) (by kernel_rfl) (fun w _ => by go_simp) ?_
    refine held_row Try.underlying85 rfl sizePC 15 (some 43) (coA (A.co y)) bx (1 + y * 5) (.tmp 42) hQ sS rfl rfl (by kernel_rfl) (by kernel_rfl) (by kernel_rfl) (by kernel_rfl) rfl (by kernel_rfl) (fun w hS => hS.2.2) ?_
    refine wpAnyH_ready (rs := [16]) (by kernel_rfl) (by simp) ?_
    refine AllReadyH.cons rfl (fun K hK => ?_) AllReadyH.nil
    go_simp
    go_wp2_with (go_at_call 60; refine (hear_any bs (y * 74) y x m ((offN A x y k).rs y).t (A.co y) W.drew hy hx ((P5.out.kt y hyn).of (w' := W.drew) rfl) HM.out HC.out HT.out).mono ?_; rintro e w4 ⟨rfl, t3, t4⟩)
    refine hK.out _ _ (SD.of sS (t4.only.block bx lx hne) (t4.only.block mb lm hmbs)) (fun _ => ?_)
    clear hK K
    refine wpAnyH_done (by kernel_rfl) ?_ _
    clear hQ
    go_simp
    have t5 : Fr W w4 bs (y * 74) := ⟨⟨t4.only.os, t4.only.tape, t4.only.output, t4.only.size, t4.only.block⟩, t4.cell⟩
    have t6 : KT w4 bs (y * 74) { ((offN A x y k).rs y).t with ro := fun d => if d = y then ((offN A x y k).rs y).t.ro d else takes (offN A x y k) y x (((offN A x y k).rs y).t.ro d) (((offN A x y k).rs y).t.be d) (m d) } := t3.congr rfl (fun d hd => by
      show (if d = y then _ else _) = if d < 5 ∧ d ≠ y then _ else _
      by_cases hdy : d = y
      · rw [if_pos hdy, if_neg (by omega)]
      · rw [if_neg hdy, if_pos ⟨hd, hdy⟩]
        exact (heard_takes HG.out x y d hyn (m d) (HOK.out d)).symm) (fun _ _ => rfl)
    have KN := P5.out.know (w' := w4) y hyn _ t6 t5
    have o5 : Only (Two bx bs) W w4 := t5.only.two (.inr rfl)
    have W6 := W5.out.two HBX.out HBS.out o5
    clear t3 t4 t5 t6
    go_wp2
    go_ret
    exact ⟨rfl, V1, KN, W6, T5.out.trans (TurnP.two T5.out.new o5)⟩
/-- Deliver, at whatever numbers. -/
theorem pdeliver (bx bs B : Nat) (x y k : Int) (ρ : Nat → Part) (tg : Nat → Nat → Part) (A : Nt) (V : Nat → Nat → Value) (w : World) (g : GoodP A) (hR : PN w bx bs A V) (hW : WR w B 104 ρ tg V A.wa)
    (tz : TgOk tg) (hbx : ∀ a c, ρ bx ≠ tg a c) (hbs : ∀ a c, ρ bs ≠ tg a c) (hnew : ∀ j, w.heap.size ≤ j → ρ j = (0, 0)) :
    Calls Try.prog 34 #[.pointer (some ⟨bx, 0, none⟩), .int .i64 x, .int .i64 y, .int .i64 k] w fun e w' => e = .returned (.int .i64 (msgE A x y k)) ∧ ∃ V', PN w' bx bs (deliverC A x y k) V' ∧ WR w' B 104 ρ tg V' (deliverC A x y k).wa ∧ TurnP bx bs tg ρ ρ w w' := by
  by_cases h0 : msgE A x y k = 0
  · obtain ⟨h1, h2, _⟩ := msgE_zero h0
    obtain ⟨⟨a1, _⟩, ⟨a2, _⟩, _⟩ := pairE_zero h1
    obtain ⟨x, rfl⟩ := Int.eq_ofNat_of_zero_le a1
    obtain ⟨y, rfl⟩ := Int.eq_ofNat_of_zero_le a2
    obtain ⟨k, rfl⟩ := Int.eq_ofNat_of_zero_le h2
    have hC : deliverC A x y k = deliverN A x y k := by unfold deliverC; rw [if_pos h0]; rfl
    rw [hC, h0]
    exact pdeliver_ok bx bs B x y k ρ tg A V w g hR hW tz hbx hbs hnew h0
  · have hn := g.n5
    have hC : deliverC A x y k = A := by unfold deliverC; rw [if_neg h0]
    have h0' : (msgE A x y k != 0) = true := by simp [h0]
    rw [hC]
    go_enter Try.func34, Try.ntmps34
    go_wp2_with (go_at_call 57; refine (cmsg_any bx bs B _ _ _ _ ρ tg A V _ hn hR hW).mono ?_; rintro e w' ⟨rfl, rfl⟩)
    go_ret
    exact ⟨rfl, V, hR, hW, TurnP.refl hnew⟩
end Go.Proofs.Ytdoodnbobpijoaa

namespace Go.Proofs.Ytdoodnbobpijoaa
open Go.RowKit

/-! ### putBehind and Again -/
theorem bslPM (a0 a1 a2 a3 a4 a5 a6 a7 a8 a9 : Value) (w : World) : (Instr.buildSlice 87 1 #[(0, .agg #[a0, a1, a2, a3, a4, a5, a6, a7, a8, a9])]).run Try.prog w = .ok (.slice (some ⟨w.heap.size, 0, none⟩) 1 1) (w.alloc (.cells #[a0, a1, a2, a3, a4, a5, a6, a7, a8, a9] 104)) := by kernel_rfl
theorem bsPM (w : World) (ρ : Operand → Value) (x : Operand) (ds : Option Tmp) (ty : TypeId) (ps : String) (af : Array Edge) (g : Option (Nat × Bool)) (h3 : AggOk 10 (ρ x)) :
    (execOp ρ { dst := ds, op := .buildSlice 87 1 #[(0, x)], type := ty, pos := ps, after := af, guard := g }).run Try.prog w = .ok (.value (.slice (some ⟨w.heap.size, 0, none⟩) 1 1)) (w.alloc (.cells (ρ x).cells 104)) := by
  have hr : (Instr.buildSlice 87 1 #[(0, ρ x)]).run Try.prog w = .ok (.slice (some ⟨w.heap.size, 0, none⟩) 1 1) (w.alloc (.cells (ρ x).cells 104)) := by
    rw [h3.form]
    have hs := h3.size
    generalize (ρ x).cells = T at hs
    obtain ⟨l⟩ := T
    simp only [List.size_toArray] at hs
    match l, hs with
    | [a0, a1, a2, a3, a4, a5, a6, a7, a8, a9], _ => exact bslPM a0 a1 a2 a3 a4 a5 a6 a7 a8 a9 w
  simp only [execOp, Sem.run_bind, List.map_toArray, List.map_cons, List.map_nil, hr, Result.andThen_ok, Sem.run_pure]
attribute [local go_sem ↓] Go.wp_at_zero Go.wp_at_succ ldPM stPM alcPM bsPM
attribute [local go_sem] vb_ptr vo_ptr cellsL_agg size_setCells
set_option maxHeartbeats 400000 in
theorem putb_full (bx bs x y B : Nat) (m : Nat → Bs) (ρ : Nat → Part) (tg : Nat → Nat → Part) (A : Nt) (V : Nat → Nat → Value) (w : World) (hx : x < 5) (hy : y < 5) (h6 : 6 ≤ (A.wa x y).length) (hR : PN w bx bs A V) (hW : WR w B 104 ρ tg V A.wa) :
    Calls Try.prog 68 #[.pointer (some ⟨bx, 0, none⟩), .int .i64 x, .int .i64 y, .agg (mgA m)] w fun e w' => e = .returned (.int .i64 8) ∧ Below w.heap.size w w' := by
  have hx' : (x : Int) < 5 := by omega
  have hy' : (y : Int) < 5 := by omega
  have h6' : (6 : Int) ≤ ((A.wa x y).length : Int) := by omega
  obtain ⟨ad, cap, hv⟩ := hW.form x y hx hy
  have c1 : (w.alloc (.cells (mgA m) 104)).cell? ⟨bx, 26 + x * 5 + y, none⟩ = some (.slice ad (A.wa x y).length cap) := by rw [← hv]; exact cell_below (hR.v x y hx hy) ((Below.refl _ _).alloc (Nat.le_refl _) _)
  clear hR hW
  go_enter Try.func68, Try.ntmps68
  go_wp2
  go_ret
  exact ⟨rfl, (Below.refl _ _).alloc (Nat.le_refl _) _⟩
set_option maxHeartbeats 2000000 in
set_option maxRecDepth 100000 in
theorem putb_ok (bx bs x y B : Nat) (m : Nat → Bs) (ρ : Nat → Part) (tg : Nat → Nat → Part) (A : Nt) (V : Nat → Nat → Value) (w : World) (hx : x < 5) (hy : y < 5) (hn0 : 0 < A.n) (h6 : (A.wa x y).length < 6) (hR : PN w bx bs A V) (hW : WR w B 104 ρ tg V A.wa) (hB : B ≤ w.heap.size)
    (tz : TgOk tg) (hbx : ∀ a c, ρ bx ≠ tg a c) (hbs : ∀ a c, ρ bs ≠ tg a c) (hnew : ∀ j, w.heap.size ≤ j → ρ j = (0, 0)) :
    Calls Try.prog 68 #[.pointer (some ⟨bx, 0, none⟩), .int .i64 x, .int .i64 y, .agg (mgA m)] w fun e w' => e = .returned (.int .i64 0) ∧ ∃ ρ' V', PN w' bx bs { A with wa := setWa A.wa x y (A.wa x y ++ [m]) } V' ∧ WR w' B 104 ρ' tg V' (setWa A.wa x y (A.wa x y ++ [m])) ∧ TurnP bx bs tg ρ ρ' w w' := by
  have hx' : (x : Int) < 5 := by omega
  have hy' : (y : Int) < 5 := by omega
  have h6' : ¬ (6 : Int) ≤ ((A.wa x y).length : Int) := by omega
  obtain ⟨ad, cap, hv⟩ := hW.form x y hx hy
  have b9 : Below w.heap.size w (w.alloc (.cells (mgA m) 104)) := (Below.refl _ _).alloc (Nat.le_refl _) _
  have n9 := Whole.new w 104 (mgA m)
  have r9 := hR.below hn0 b9
  have w9 := hW.below b9
  have hd := r9.v x y hx hy
  rw [hv] at hd
  have ag9 := aggOk_mg m
  have HB : Hid (∀ a c, ρ bx ≠ tg a c) := hbx
  have HS : Hid (∀ a c, ρ bs ≠ tg a c) := hbs
  have HN : Hid (∀ k, w.heap.size ≤ k → ρ k = (0, 0)) := hnew
  have HJ : Hid (TgOk tg) := tz
  have HR : Hid (PN w bx bs A V) := hR
  have HW : Hid (WR w B 104 ρ tg V A.wa) := hW
  obtain ⟨i, z, hi1, hi2, hi3, hi4, hi5⟩ := infoPM
  have I1 : Hid (Try.prog.info? 104 = some i) := hi1; have I2 : Hid (i.zero = some z) := hi2; have I3 : Hid (i.size = 10) := hi3; have I4 : Hid (i.bytes = 80) := hi4; have I5 : Hid (z.cells.size = 10) := hi5
  have Hmx : Hid ((A.wa x y).length + 1 ≤ maxLen) := (show (A.wa x y).length + 1 ≤ maxLen by unfold maxLen; omega)
  have Hby : Hid (((A.wa x y).length + 1) * 80 ≤ 140737488355328) := (show ((A.wa x y).length + 1) * 80 ≤ 140737488355328 by omega)
  clear hi1 hi2 hi3 hi4 hi5 tz hbx hbs hnew hR hW
  go_enter Try.func68, Try.ntmps68
  go_wp2_with fail
  generalize hwr : w.alloc (.cells (mgA m) 104) = wr at *
  have fz := r9.fz
  have km := n9.drew.mid (mgA_size _)
  have lb : bx < wr.heap.size := r9.lt
  have ls : bs < wr.heap.size := r9.lts hn0
  have hown0 := w9.own x y hx hy
  rw [hv] at hown0
  have Hown : Hid ((wr.alloc (.cells (mgA m) 104)).drew.ownsRow B 104 10 (.slice ad (A.wa x y).length cap) (A.wa x y).length (flat (A.wa x y))) := (hown0.alloc _).drew
  have Hnews : Hid (∀ j u, (mgA m).toList[j]? = some u → (wr.alloc (.cells (mgA m) 104)).drew.cell? ((⟨wr.heap.size, 0, none⟩ : Addr).add j) = some u) := World.news_of_block (heap_alloc_new wr _)
  have Hone : Hid (∀ u ∈ (mgA m).toList, u.oneCell' = true) := fun u hu => (Array.all_eq_true_iff_forall_mem.1 (mgA_one _)) u (by simpa using hu)
  have Hlen : Hid ((mgA m).toList.length = 1 * 10) := (show (mgA m).toList.length = 1 * 10 by simp [mgA_size])
  have HBw : Hid (B ≤ (wr.alloc (.cells (mgA m) 104)).drew.heap.size) := (show B ≤ (wr.alloc (.cells (mgA m) 104)).drew.heap.size by have := b9.size; simp; omega)
  have Hnb : Hid (some bx ≠ (Value.slice ad (A.wa x y).length cap).ownBlock) := fun e => HB.out x y (HW.out.part x y bx hx hy (by rw [hv]; exact e.symm))
  have Hns : Hid (some bs ≠ (Value.slice ad (A.wa x y).length cap).ownBlock) := fun e => HS.out x y (HW.out.part x y bs hx hy (by rw [hv]; exact e.symm))
  have Hcb : Hid ((wr.alloc (.cells (mgA m) 104)).drew.cell? ⟨bx, 26 + x * 5 + y, none⟩ = some (.slice ad (A.wa x y).length cap)) := (World.cell?_of_block (w := wr) (Below.heap_alloc wr _ bx lb)).trans hd
  have Hfb : Hid ((wr.alloc (.cells (mgA m) 104)).drew.frozen? ⟨bx, 26 + x * 5 + y, none⟩ = false) := (World.frozen?_of_block (w := wr) (Below.heap_alloc wr _ bx lb)).trans (fz _)
  have Hlb : Hid (bx < (wr.alloc (.cells (mgA m) 104)).drew.heap.size) := Nat.lt_of_lt_of_le lb (by simp)
  have N9 : Hid (Whole wr w.heap.size 104 (mgA m)) := n9; clear n9
  have R9 : Hid (PN wr bx bs A V) := r9; clear r9
  have W9 : Hid (WR wr B 104 ρ tg V A.wa) := w9; clear w9
  have B9 : Hid (Below w.heap.size w wr) := b9; clear b9
  have HV : Hid (V x y = .slice ad (A.wa x y).length cap) := hv; clear hv
  clear hown0 hwr
  go_region_law ((refine step_append_lies _ (by rfl) _ _ 87 (by rfl) B 104 i z 10 80 Try.underlying87 I1.out I2.out I3.out I4.out I5.out (by omega) (.slice ad (A.wa x y).length cap) (A.wa x y).length (flat (A.wa x y)) (by rfl) Hown.out ⟨wr.heap.size, 0, none⟩ 1 1 (mgA m).toList (by rfl) Hlen.out Hnews.out Hone.out (by omega) Hmx.out Hby.out HBw.out (wr.heap.size + 1) (by simp) ?_; intro g' cap' w2 ho2 hgrow hat hlt2; have cb := (hgrow.cell_far ⟨bx, 26 + x * 5 + y, none⟩ Hlb.out Hnb.out).trans Hcb.out; have fb := (hgrow.frozen_far ⟨bx, 26 + x * 5 + y, none⟩ Hlb.out Hnb.out).trans Hfb.out))
  all_goals go_wp2
  all_goals
    have ho3 : w2.ownsRow B 104 10 (.slice (some ⟨g', 0, none⟩) ((A.wa x y).length + 1) cap') (A.wa x y ++ [m]).length (flat (A.wa x y ++ [m])) := by
      rw [flat_append, flat_one, List.length_append, List.length_singleton]; simpa [mgA] using ho2
    have hst := send_step (w := w) (ρ := ρ) (mb := w.heap.size) (o := 26 + x * 5 + y) (W := A.wa) (V := V) (l := A.wa x y ++ [m]) (.slice (some ⟨g', 0, none⟩) ((A.wa x y).length + 1) cap') W9.out HJ.out hx hy HR.out.lt HB.out (fun _ _ => rfl) (fun j hj => HN.out j (Nat.le_trans B9.out.size hj)) (HN.out _ (Nat.le_refl _)) N9.out.lt (Nat.ne_of_gt HR.out.lt) (Turn.below (tg := tg) (b := bx) HN.out B9.out).only
      (w0 := (wr.alloc (.cells (mgA m) 104)).drew) (H := wr.heap.size + 1) (((Below.refl _ _).alloc (Nat.le_refl _) _).drew) (by simp) ho3 (by rw [HV.out]; exact hgrow) (by rw [HV.out]; exact hat) hlt2 (by rw [List.length_append, List.length_singleton])
    obtain ⟨s1, s2, s3, s4, _, _, s7⟩ := hst
    have s8 : w2.heap[bs]? = wr.heap[bs]? := (hgrow.block bs (Nat.lt_of_lt_of_le ls (by simp)) Hns.out).trans (Below.heap_alloc wr _ bs ls)
    go_ret
    exact ⟨rfl, _, _, ((R9.out.of s1 s8).setV x y hx hy _).wa _, s2, Turn.p ⟨s7, s3, s4⟩⟩
set_option maxHeartbeats 2000000 in
theorem pagain (bx bs B : Nat) (x y k : Int) (ρ : Nat → Part) (tg : Nat → Nat → Part) (A : Nt) (V : Nat → Nat → Value) (w : World) (g : GoodP A) (hR : PN w bx bs A V) (hW : WR w B 104 ρ tg V A.wa) (hB : B ≤ w.heap.size)
    (tz : TgOk tg) (hbx : ∀ a c, ρ bx ≠ tg a c) (hbs : ∀ a c, ρ bs ≠ tg a c) (hnew : ∀ j, w.heap.size ≤ j → ρ j = (0, 0)) :
    Calls Try.prog 42 #[.pointer (some ⟨bx, 0, none⟩), .int .i64 x, .int .i64 y, .int .i64 k] w fun e w' => e = .returned (.int .i64 (againE A x y k)) ∧ ∃ ρ' V', PN w' bx bs (againC A x y k) V' ∧ WR w' B 104 ρ' tg V' (againC A x y k).wa ∧ TurnP bx bs tg ρ ρ' w w' := by
  have hn := g.n5
  have hn0 : 0 < A.n := by have := g.n2; omega
  rcases againE_split A x y k with ⟨h0, e0⟩ | ⟨h0, h6, e0⟩ | ⟨h0, h6, e0⟩
  · have h0' : (msgE A x y k != 0) = true := by simp [h0]
    have hC : againC A x y k = A := by unfold againC; rw [e0, if_neg h0]
    rw [hC, e0]
    go_enter Try.func42, Try.ntmps42
    go_wp2_with (go_at_call 57; refine (cmsg_any bx bs B _ _ _ _ ρ tg A V _ hn hR hW).mono ?_; rintro e w' ⟨rfl, rfl⟩)
    go_ret
    exact ⟨rfl, ρ, V, hR, hW, TurnP.refl hnew⟩
  · obtain ⟨h1, h2, h3⟩ := msgE_zero h0
    obtain ⟨⟨a1, a3⟩, ⟨a2, a4⟩, _⟩ := pairE_zero h1
    obtain ⟨x, rfl⟩ := Int.eq_ofNat_of_zero_le a1
    obtain ⟨y, rfl⟩ := Int.eq_ofNat_of_zero_le a2
    obtain ⟨k, rfl⟩ := Int.eq_ofNat_of_zero_le h2
    simp only [Int.toNat_natCast] at h3 h6
    have hx : x < 5 := by omega
    have hy : y < 5 := by omega
    have hx' : (x : Int) < 5 := by omega
    have hy' : (y : Int) < 5 := by omega
    have hk' : (k : Int) < ((A.wa x y).length : Int) := by omega
    obtain ⟨gg, cap, hv, hg, hp, hcap, hfz, hcells⟩ := hW.at x y hx hy (by omega)
    obtain ⟨km1, km2⟩ := hW.msg x y k gg cap hx hy h3 hv
    have c1 := hR.v x y hx hy
    rw [hv] at c1
    have hC : againC A x y k = A := by unfold againC; rw [e0, if_neg (by decide)]
    rw [hC, e0]
    generalize ((A.wa x y).getD k fun _ => noBs) = m at km1
    go_enter Try.func42, Try.ntmps42
    go_wp2_with (first | (go_at_call 57; refine (cmsg_any bx bs B _ _ _ _ ρ tg A V _ hn hR hW).mono ?_; rw [h0]; rintro e w' ⟨rfl, rfl⟩) | (go_at_call 68; refine (putb_full bx bs x y B m ρ tg A V _ hx hy h6 hR hW).mono ?_; rintro e w1 ⟨rfl, hb1⟩))
    go_ret
    exact ⟨rfl, ρ, V, hR.below hn0 hb1, hW.below hb1, TurnP.below hnew hb1⟩
  · obtain ⟨h1, h2, h3⟩ := msgE_zero h0
    obtain ⟨⟨a1, a3⟩, ⟨a2, a4⟩, _⟩ := pairE_zero h1
    obtain ⟨x, rfl⟩ := Int.eq_ofNat_of_zero_le a1
    obtain ⟨y, rfl⟩ := Int.eq_ofNat_of_zero_le a2
    obtain ⟨k, rfl⟩ := Int.eq_ofNat_of_zero_le h2
    simp only [Int.toNat_natCast] at h3 h6
    have hx : x < 5 := by omega
    have hy : y < 5 := by omega
    have hx' : (x : Int) < 5 := by omega
    have hy' : (y : Int) < 5 := by omega
    have hk' : (k : Int) < ((A.wa x y).length : Int) := by omega
    obtain ⟨gg, cap, hv, hg, hp, hcap, hfz, hcells⟩ := hW.at x y hx hy (by omega)
    obtain ⟨km1, km2⟩ := hW.msg x y k gg cap hx hy h3 hv
    have c1 := hR.v x y hx hy
    rw [hv] at c1
    have hC : againC A x y k = againN A x y k := by unfold againC; rw [e0, if_pos rfl]; rfl
    rw [hC, e0]
    unfold againN
    generalize ((A.wa x y).getD k fun _ => noBs) = m at km1 ⊢
    go_enter Try.func42, Try.ntmps42
    go_wp2_with (first | (go_at_call 57; refine (cmsg_any bx bs B _ _ _ _ ρ tg A V _ hn hR hW).mono ?_; rw [h0]; rintro e w' ⟨rfl, rfl⟩) | (go_at_call 68; refine (putb_ok bx bs x y B m ρ tg A V _ hx hy hn0 h6 hR hW hB tz hbx hbs hnew).mono ?_; rintro e w1 ⟨rfl, ρ1, V1, t1, t2, t3⟩))
    go_ret
    exact ⟨rfl, ρ1, V1, t1, t2, t3⟩
end Go.Proofs.Ytdoodnbobpijoaa

namespace Go.Proofs.Ytdoodnbobpijoaa
open Go.RowKit

/-! ### send -/
def sentM (A : Nt) (x : Nat) (m : Nat → Bs) (k : Nat) : Nat → Nat → List (Nat → Bs) := fun a c => if a = x ∧ c < k ∧ 0 < A.co x c ∧ (A.wa x c).length < 6 then A.wa x c ++ [m] else A.wa a c
theorem sentM_zero (A : Nt) (x : Nat) (m : Nat → Bs) : sentM A x m 0 = A.wa := by
  funext a c
  unfold sentM
  rw [if_neg (by omega)]
theorem sentM_at (A : Nt) (x : Nat) (m : Nat → Bs) (k : Nat) : sentM A x m k x k = A.wa x k := by
  unfold sentM
  rw [if_neg (by omega)]
theorem sentM_skip (A : Nt) (x : Nat) (m : Nat → Bs) (k : Nat) (h : ¬ (0 < A.co x k ∧ (A.wa x k).length < 6)) : sentM A x m (k + 1) = sentM A x m k := by
  funext a c
  unfold sentM
  by_cases hc : c = k
  · subst hc
    rw [if_neg (by rintro ⟨_, _, h1, h2⟩; exact h ⟨h1, h2⟩), if_neg (by omega)]
  · have : (a = x ∧ c < k + 1 ∧ 0 < A.co x c ∧ (A.wa x c).length < 6) ↔ (a = x ∧ c < k ∧ 0 < A.co x c ∧ (A.wa x c).length < 6) := by omega
    simp only [this]
theorem sentM_send (A : Nt) (x : Nat) (m : Nat → Bs) (k : Nat) (h1 : 0 < A.co x k) (h2 : (A.wa x k).length < 6) : sentM A x m (k + 1) = setWa (sentM A x m k) x k (A.wa x k ++ [m]) := by
  funext a c
  unfold setWa
  by_cases hac : a = x ∧ c = k
  · obtain ⟨rfl, rfl⟩ := hac
    rw [if_pos ⟨rfl, rfl⟩]
    unfold sentM
    rw [if_pos ⟨rfl, by omega, h1, h2⟩]
  · rw [if_neg hac]
    unfold sentM
    have : (a = x ∧ c < k + 1 ∧ 0 < A.co x c ∧ (A.wa x c).length < 6) ↔ (a = x ∧ c < k ∧ 0 < A.co x c ∧ (A.wa x c).length < 6) := by omega
    simp only [this]
/-- A block that is nobody's stays. -/
theorem TurnP.keep {bx bs : Nat} {tg : Nat → Nat → Part} {ρ ρ' : Nat → Part} {w w' : World} (h : TurnP bx bs tg ρ ρ' w w') (tz : TgOk tg) {g : Nat} (hg : g < w.heap.size) (h0 : ρ g = (0, 0)) (hx : g ≠ bx) (hs : g ≠ bs) : w'.heap[g]? = w.heap[g]? :=
  h.only.block g hg (fun e => by
    rcases e with e | e | ⟨a, c, _, _, e⟩
    · exact hs e
    · exact hx e
    · rw [h0] at e; exact tz.nz a c e.symm)
attribute [local go_sem ↓] Go.wp_at_zero Go.wp_at_succ ldPM stPM alcPM ldPC
attribute [local go_sem] vb_ptr vo_ptr cellsL_agg size_setCells
set_option maxHeartbeats 2000000 in
theorem send_any (bx bs x B : Nat) (m : Nat → Bs) (ρ : Nat → Part) (tg : Nat → Nat → Part) (A : Nt) (V : Nat → Nat → Value) (w : World) (hx : x < 5) (hn0 : 0 < A.n) (hR : PN w bx bs A V) (hW : WR w B 104 ρ tg V A.wa) (hB : B ≤ w.heap.size)
    (tz : TgOk tg) (hbx : ∀ a c, ρ bx ≠ tg a c) (hbs : ∀ a c, ρ bs ≠ tg a c) (hnew : ∀ j, w.heap.size ≤ j → ρ j = (0, 0)) :
    Calls Try.prog 50 #[.pointer (some ⟨bx, 0, none⟩), .int .i64 x, .agg (mgA m)] w fun e w' => e = .returned (.tuple #[]) ∧ ∃ ρ' V', PN w' bx bs { A with wa := sentM A x m 5 } V' ∧ WR w' B 104 ρ' tg V' (sentM A x m 5) ∧ TurnP bx bs tg ρ ρ' w w' := by
  have hx' : (x : Int) < 5 := by omega
  have b9 : Below w.heap.size w (w.alloc (.cells (mgA m) 104)) := (Below.refl _ _).alloc (Nat.le_refl _) _
  have n9 := Whole.new w 104 (mgA m)
  have r9 := hR.below hn0 b9
  have w9 := hW.below b9
  obtain ⟨kc1, kc2⟩ := r9.cost x hx
  have R9 : Hid (PN (w.alloc (.cells (mgA m) 104)) bx bs A V) := r9
  have W9 : Hid (WR (w.alloc (.cells (mgA m) 104)) B 104 ρ tg V A.wa) := w9
  have N9 : Hid (Whole (w.alloc (.cells (mgA m) 104)) w.heap.size 104 (mgA m)) := n9
  have T9 : Hid (TurnP bx bs tg ρ ρ w (w.alloc (.cells (mgA m) 104))) := TurnP.below hnew b9
  have HB : Hid (∀ a c, ρ bx ≠ tg a c) := hbx
  have HS : Hid (∀ a c, ρ bs ≠ tg a c) := hbs
  have HN : Hid (∀ k, w.heap.size ≤ k → ρ k = (0, 0)) := hnew
  have HJ : Hid (TgOk tg) := tz
  have lx := hR.lt
  have ls := hR.lts hn0
  clear r9 w9 n9 tz hbx hbs hnew hR hW b9
  go_enter Try.func50, Try.ntmps50
  go_wp2
  go_loopw [14] (fun i wr => ∃ (k : Nat) (ρ' : Nat → Part) (V' : Nat → Nat → Value), k ≤ 5 ∧ i = .int .i64 k ∧ PN wr bx bs { A with wa := sentM A x m k } V' ∧ WR wr B 104 ρ' tg V' (sentM A x m k) ∧ Whole wr w.heap.size 104 (mgA m) ∧ TurnP bx bs tg ρ ρ' w wr ∧ ρ' w.heap.size = (0, 0)) (fun i _ => 5 - (intOf i).toNat)
  case atStart => exact ⟨0, ρ, V, by omega, rfl, by rw [sentM_zero]; exact R9.out, by rw [sentM_zero]; exact W9.out, N9.out, T9.out, HN.out _ (Nat.le_refl _)⟩
  case round =>
    clear R9 W9 N9 T9 kc1 kc2
    obtain ⟨k, ρ', V', hk, rfl, q1, q2, q3, q4, q5⟩ := hrel
    by_cases hk5 : k < 5
    · have hk' : (k : Int) < 5 := by omega
      have hk0 : (0 : Int) ≤ (k : Int) := by omega
      have ix := idx_co (A.co x) k hk5
      have km := q3.mid (mgA_size m)
      obtain ⟨km1, km2⟩ := km
      have Q1 : Hid (PN wr bx bs { A with wa := sentM A x m k } V') := q1; clear q1
      have Q2 : Hid (WR wr B 104 ρ' tg V' (sentM A x m k)) := q2; clear q2
      have Q3 : Hid (Whole wr w.heap.size 104 (mgA m)) := q3; clear q3
      have Q4 : Hid (TurnP bx bs tg ρ ρ' w wr) := q4; clear q4
      have z1 := Q4.out.only.size
      by_cases hc : 0 < A.co x k
      · have hc' : decide (0 < A.co x k) = true := by simpa using hc
        by_cases h6 : (A.wa x k).length < 6
        · go_wp2_with (go_at_call 68; refine (putb_ok bx bs x k B m ρ' tg { A with wa := sentM A x m k } V' _ hx hk5 hn0 (by show (sentM A x m k x k).length < 6; rw [sentM_at]; exact h6) Q1.out Q2.out (Nat.le_trans hB z1) HJ.out (fun a c => by rw [Q4.out.old bx lx]; exact HB.out a c) (fun a c => by rw [Q4.out.old bs ls]; exact HS.out a c) Q4.out.new).mono ?_; rintro e w1 ⟨rfl, ρ1, V1, t1, t2, t3⟩)
          go_roundw
          case rel =>
            have es : setWa (sentM A x m k) x k (sentM A x m k x k ++ [m]) = sentM A x m (k + 1) := by rw [sentM_at, sentM_send A x m k hc h6]
            have t1' : PN w1 bx bs { A with wa := sentM A x m (k + 1) } V1 := by rw [← es]; exact t1
            have t2' : WR w1 B 104 ρ1 tg V1 (sentM A x m (k + 1)) := by rw [← es]; exact t2
            have hlt := Q3.out.lt
            exact ⟨k + 1, ρ1, V1, by omega, by go_num, t1', t2', Q3.out.of (t3.keep HJ.out hlt q5 (Nat.ne_of_gt lx) (Nat.ne_of_gt ls)), Q4.out.trans t3, by rw [t3.old _ hlt]; exact q5⟩
          case measure => simp [intOf]; omega
        · go_wp2_with (go_at_call 68; refine (putb_full bx bs x k B m ρ' tg { A with wa := sentM A x m k } V' _ hx hk5 (by show 6 ≤ (sentM A x m k x k).length; rw [sentM_at]; omega) Q1.out Q2.out).mono ?_; rintro e w1 ⟨rfl, hb1⟩)
          go_roundw
          case rel =>
            have es := sentM_skip A x m k (fun h => h6 h.2)
            exact ⟨k + 1, ρ', V', by omega, by go_num, by rw [es]; exact Q1.out.below hn0 hb1, by rw [es]; exact Q2.out.below hb1, Q3.out.below hb1, Q4.out.trans (TurnP.below Q4.out.new hb1), q5⟩
          case measure => simp [intOf]; omega
      · have hc' : decide (0 < A.co x k) = false := by simpa using hc
        go_wp2
        go_roundw
        case rel =>
          have es := sentM_skip A x m k (fun h => hc h.1)
          exact ⟨k + 1, ρ', V', by omega, by go_num, by rw [es]; exact Q1.out, by rw [es]; exact Q2.out, Q3.out, Q4.out, q5⟩
        case measure => simp [intOf]; omega
    · have hk6 : k = 5 := by omega
      subst hk6
      go_wp2
      go_end0
      exact ⟨rfl, ρ', V', q1, q2, q4⟩
end Go.Proofs.Ytdoodnbobpijoaa

