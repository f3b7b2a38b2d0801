import Derived.Test.YtdoodnbobpijoaaRefI
import Derived.Test.YtdoodnbobpijoaaRefL
import Derived.Test.YtdoodnbobpijoaaRefP
namespace Go.Proofs.Ytdoodnbobpijoaa
open Go.RowKit

/-! ### Deliver -/
/-- Nine cells, behind what leaves their blocks as they were. -/
theorem nine_of {w w' : World} {b x d mb : Nat} {rt : Rt} {bs ms : Bs}
    (h : w.cell? ⟨b, 1 + x * 74 + 1 + d * 5, none⟩ = some (I rt.nx) ∧ w.cell? ⟨b, 1 + x * 74 + 1 + d * 5 + 1, none⟩ = some (I rt.sq) ∧ w.cell? ⟨b, 1 + x * 74 + 1 + d * 5 + 2, none⟩ = some (I rt.mt) ∧ w.cell? ⟨b, 1 + x * 74 + 1 + d * 5 + 3, none⟩ = some (I rt.ag) ∧ w.cell? ⟨b, 1 + x * 74 + 1 + d * 5 + 4, none⟩ = some (I rt.st) ∧ w.cell? ⟨b, 1 + x * 74 + 26 + d * 2, none⟩ = some (I bs.sq) ∧ w.cell? ⟨b, 1 + x * 74 + 26 + d * 2 + 1, none⟩ = some (I bs.mt) ∧ w.cell? ⟨mb, d * 2, none⟩ = some (I ms.sq) ∧ w.cell? ⟨mb, d * 2 + 1, none⟩ = some (I ms.mt))
    (hb : w'.heap[b]? = w.heap[b]?) (hm : w'.heap[mb]? = w.heap[mb]?) :
    w'.cell? ⟨b, 1 + x * 74 + 1 + d * 5, none⟩ = some (I rt.nx) ∧ w'.cell? ⟨b, 1 + x * 74 + 1 + d * 5 + 1, none⟩ = some (I rt.sq) ∧ w'.cell? ⟨b, 1 + x * 74 + 1 + d * 5 + 2, none⟩ = some (I rt.mt) ∧ w'.cell? ⟨b, 1 + x * 74 + 1 + d * 5 + 3, none⟩ = some (I rt.ag) ∧ w'.cell? ⟨b, 1 + x * 74 + 1 + d * 5 + 4, none⟩ = some (I rt.st) ∧ w'.cell? ⟨b, 1 + x * 74 + 26 + d * 2, none⟩ = some (I bs.sq) ∧ w'.cell? ⟨b, 1 + x * 74 + 26 + d * 2 + 1, none⟩ = some (I bs.mt) ∧ w'.cell? ⟨mb, d * 2, none⟩ = some (I ms.sq) ∧ w'.cell? ⟨mb, d * 2 + 1, none⟩ = some (I ms.mt) := by
  have hc : ∀ o, w'.cell? ⟨b, o, none⟩ = w.cell? ⟨b, o, none⟩ := fun o => World.cell?_of_block (w := w) hb
  have hd : ∀ o, w'.cell? ⟨mb, o, none⟩ = w.cell? ⟨mb, o, none⟩ := fun o => World.cell?_of_block (w := w) hm
  simp only [hc, hd]
  exact h
/-- The routes below k are heard. -/
def hearK (A : Nt) (a r : Nat) (m : Nat → Bs) (k : Nat) : Nt := upR A r (withT (A.rs r) ⟨(A.rs r).t.sq, fun d => if d < k ∧ d ≠ r then takes A r a ((A.rs r).t.ro d) ((A.rs r).t.be d) (m d) else (A.rs r).t.ro d, (A.rs r).t.be⟩)
theorem hearK_rs (A : Nt) (a r : Nat) (m : Nat → Bs) (k : Nat) : (hearK A a r m k).rs r = withT (A.rs r) ⟨(A.rs r).t.sq, fun d => if d < k ∧ d ≠ r then takes A r a ((A.rs r).t.ro d) ((A.rs r).t.be d) (m d) else (A.rs r).t.ro d, (A.rs r).t.be⟩ := upR_same _ _ _
theorem hearK_zero (A : Nt) (a r : Nat) (m : Nat → Bs) : hearK A a r m 0 = A := by
  have : (fun d => if d < 0 ∧ d ≠ r then takes A r a ((A.rs r).t.ro d) ((A.rs r).t.be d) (m d) else (A.rs r).t.ro d) = (A.rs r).t.ro := by funext d; rw [if_neg (by omega)]
  unfold hearK
  rw [this]
  exact upR_self A r
theorem hearK_ro (A : Nt) (a r : Nat) (m : Nat → Bs) (k : Nat) : ((hearK A a r m k).rs r).t.ro k = (A.rs r).t.ro k := by
  rw [hearK_rs]
  show (if k < k ∧ _ then _ else _) = _
  rw [if_neg (by omega)]
theorem hearK_be (A : Nt) (a r : Nat) (m : Nat → Bs) (k d : Nat) : ((hearK A a r m k).rs r).t.be d = (A.rs r).t.be d := by rw [hearK_rs]; rfl
theorem hearK_self (A : Nt) (a r : Nat) (m : Nat → Bs) : hearK A a r m (r + 1) = hearK A a r m r := by
  have : (fun d => if d < r + 1 ∧ d ≠ r then takes A r a ((A.rs r).t.ro d) ((A.rs r).t.be d) (m d) else (A.rs r).t.ro d) = fun d => if d < r ∧ d ≠ r then takes A r a ((A.rs r).t.ro d) ((A.rs r).t.be d) (m d) else (A.rs r).t.ro d := by
    funext d
    have : (d < r + 1 ∧ d ≠ r) ↔ (d < r ∧ d ≠ r) := by omega
    simp only [this]
  unfold hearK
  rw [this]
theorem hearK_step (A : Nt) (a r : Nat) (m : Nat → Bs) (k : Nat) (hk : k ≠ r) : hearK A a r m (k + 1) = upR (hearK A a r m k) r (withT ((hearK A a r m k).rs r) (setRo ((hearK A a r m k).rs r).t k (takes A r a ((A.rs r).t.ro k) ((A.rs r).t.be k) (m k)))) := by
  rw [hearK_rs]
  unfold hearK
  rw [upR_upR]
  have : (fun d => if d < k + 1 ∧ d ≠ r then takes A r a ((A.rs r).t.ro d) ((A.rs r).t.be d) (m d) else (A.rs r).t.ro d) = fun d => if d = k then takes A r a ((A.rs r).t.ro k) ((A.rs r).t.be k) (m k) else if d < k ∧ d ≠ r then takes A r a ((A.rs r).t.ro d) ((A.rs r).t.be d) (m d) else (A.rs r).t.ro d := by
    funext d
    by_cases e : d = k
    · subst e; rw [if_pos ⟨by omega, hk⟩, if_pos rfl]
    · rw [if_neg e]
      have : (d < k + 1 ∧ d ≠ r) ↔ (d < k ∧ d ≠ r) := by omega
      simp only [this]
  rw [this]
  rfl
theorem good_hearK {A : Nt} (g : Good A) (a r : Nat) (m : Nat → Bs) (k : Nat) (ha : a < A.n) (hab : a ≠ r) (hc : 0 < A.co a r) (hm : ∀ d, m d = noBs ∨ (BsOk A.n d (m d) ∧ Tells A a d (m d))) : Good (hearK A a r m k) := by
  have key : ∀ d, r < A.n → (if d < k ∧ d ≠ r then takes A r a ((A.rs r).t.ro d) ((A.rs r).t.be d) (m d) else (A.rs r).t.ro d) = noRt ∨
      (if d < k ∧ d ≠ r then takes A r a ((A.rs r).t.ro d) ((A.rs r).t.be d) (m d) else (A.rs r).t.ro d) = (A.rs r).t.ro d ∨
      ((if d < k ∧ d ≠ r then takes A r a ((A.rs r).t.ro d) ((A.rs r).t.be d) (m d) else (A.rs r).t.ro d) = ⟨a, (m d).sq, (m d).mt, 0, 0⟩ ∧ d ≠ r ∧ BsOk A.n d (m d) ∧ Tells A a d (m d) ∧ bet (m d) ((A.rs r).t.be d)) := fun d hr => by
    by_cases hd : d < k ∧ d ≠ r
    · rw [if_pos hd]
      rcases takes_cases A r a ((A.rs r).t.ro d) ((A.rs r).t.be d) (m d) with e | e | ⟨e, e1, e2, e3⟩
      · exact .inr (.inl e)
      · exact .inl e
      · refine .inr (.inr ⟨e, hd.2, ?_⟩)
        rcases hm d with h | ⟨h1, h2⟩
        · rw [h, noBs_sq] at e1; omega
        · exact ⟨h1, h2, e2⟩
    · rw [if_neg hd]; exact .inr (.inl rfl)
  refine g.upT r _ rfl (fun hr => ?_) (fun hr hdn d h0 => ?_) (fun hr => g.sq r hr) (fun hr d => g.bq r d hr) (fun hr d h0 => ?_) (fun hr d hd => g.os r d hr hd) (fun hr => ⟨g.fa0 r hr, g.fa3 r hr⟩)
  · have gt := g.t r hr
    refine ⟨gt.sq0, gt.sq1, fun d => ?_, gt.be, fun d h0 => ?_⟩
    · simp only [withT]
      rcases key d hr with e | e | ⟨e, hd, h1, h2, h3⟩
      · exact .inl e
      · rw [e]; exact gt.ro d
      · rw [e]
        exact .inr ⟨Int.natCast_nonneg a, by show (a : Int) < A.n; omega, by show (a : Int) ≠ r; omega, h1.dn, hd, h1.sq0, h1.sq1, h1.mt0, h1.mt1, Int.le_refl _, by show (0 : Int) < 3; decide, .inl rfl⟩
    · simp only [withT] at h0 ⊢
      rcases key d hr with e | e | ⟨e, hd, h1, h2, h3⟩
      · rw [e, noRt_nx] at h0; omega
      · rw [e] at h0 ⊢; exact gt.fe d h0
      · rw [e]; exact h3
  · simp only [withT] at h0 ⊢
    rcases key d hr with e | e | ⟨e, hd, h1, h2, h3⟩
    · rw [e, noRt_nx] at h0; omega
    · rw [e] at h0 ⊢; exact g.nb r d hr hdn h0
    · rw [e]; show 0 < A.co r (a : Int).toNat; rw [Int.toNat_natCast, g.cs]; exact hc
  · simp only [withT] at h0 ⊢
    rcases key d hr with e | e | ⟨e, hd, h1, h2, h3⟩
    · rw [e, noRt_nx] at h0; omega
    · rw [e] at h0 ⊢; exact g.rt r d hr h0
    · rw [e]; show Tells A (a : Int).toNat d (m d); rw [Int.toNat_natCast]; exact h2
theorem takes_co {A B : Nt} (hc : B.co = A.co) (r a : Nat) (x : Rt) (best t : Bs) : takes B r a x best t = takes A r a x best t := by unfold takes total; rw [hc]
theorem hearK_end {w : World} {b a r : Nat} {A : Nt} {V : Nat → Nat → Value} {m : Nat → Bs} (g : Good A) (hr : r < A.n) (hm : ∀ d, A.n ≤ d → m d = noBs) (h : RN w b (hearK A a r m A.n) V) : RN w b (hearN A a r m) V := by
  refine h.congr rfl rfl fun i hi j hj => ?_
  by_cases e : i = r
  · subst e
    rw [hearK_rs]
    unfold hearN
    rw [upR_same]
    refine roV_congrT (R := A.rs i) (T := ⟨(A.rs i).t.sq, fun d => if d = i then (A.rs i).t.ro d else takes A i a ((A.rs i).t.ro d) ((A.rs i).t.be d) (m d), (A.rs i).t.be⟩) (U := ⟨(A.rs i).t.sq, fun d => if d < A.n ∧ d ≠ i then takes A i a ((A.rs i).t.ro d) ((A.rs i).t.be d) (m d) else (A.rs i).t.ro d, (A.rs i).t.be⟩) rfl (fun d hd => ?_) (fun _ _ => rfl) j
    show (if d = i then _ else _) = if d < A.n ∧ d ≠ i then _ else _
    by_cases hdi : d = i
    · rw [if_pos hdi, if_neg (by omega)]
    · rw [if_neg hdi]
      by_cases hd2 : d < A.n
      · rw [if_pos ⟨hd2, hdi⟩]
      · rw [if_neg (by omega), hm d (by omega), takes_none _ _ _ _ _ _ (.inl rfl)]
        rcases (g.t i hr).ro d with e | e
        · rw [e, if_neg (by rw [noRt_nx]; omega)]
        · exact absurd e.dn hd2
  · unfold hearK hearN
    rw [upR_other _ _ _ _ e, upR_other _ _ _ _ e]
attribute [local go_sem ↓] Go.wp_at_zero Go.wp_at_succ ldM stM alcM
attribute [local go_sem] vb_ptr vo_ptr cellsL_agg size_setCells
set_option maxHeartbeats 4000000 in
set_option maxRecDepth 100000 in
theorem rdeliver_ok (b B x y k : Nat) (ρ : Nat → Part) (tg : Nat → Nat → Part) (A : Nt) (V : Nat → Nat → Value) (w : World) (g : Good A) (hR : RN w b A V) (hW : WR w B 164 ρ tg V A.wa) (hB : B ≤ w.heap.size)
    (tz : TgOk tg) (hb : ∀ a c, ρ b ≠ tg a c) (hnew : ∀ j, w.heap.size ≤ j → ρ j = (0, 0)) (h0 : msgE A x y k = 0) :
    Calls Try.prog 93 #[.pointer (some ⟨b, 0, none⟩), .int .i64 x, .int .i64 y, .int .i64 k] w fun e w' => e = .returned (.int .i64 0) ∧ ∃ ρ' V', RN w' b (deliverN A x y k) V' ∧ WR w' B 164 ρ' tg V' (deliverN A x y k).wa ∧ Turn b tg ρ ρ' w w' := by
  have hn := g.n5
  obtain ⟨h1, h2, h3⟩ := msgE_zero h0
  obtain ⟨⟨a1, a3⟩, ⟨a2, a4⟩, _⟩ := pairE_zero h1
  simp only [Int.toNat_natCast] at h3
  have hx : x < 5 := by omega
  have hy : y < 5 := by omega
  have hx' : (x : Int) < 5 := by omega
  have hy' : (y : Int) < 5 := by omega
  have h6 := g.wl x y
  obtain ⟨m, hm⟩ : ∃ m, msgN A x y k = m := ⟨_, rfl⟩
  have hm2 : (A.wa x y).getD k (fun _ => noBs) = m := by rw [← hm]; unfold msgN; rw [if_pos h0]; rfl
  have hmem : m ∈ A.wa x y := by rw [← hm2, List.getD_eq_getElem?_getD, List.getElem?_eq_getElem h3]; exact List.getElem_mem h3
  have hok : ∀ d, m d = noBs ∨ (BsOk A.n d (m d) ∧ Tells A x d (m d)) := g.wm x y m hmem
  have HM : Hid (msgN A x y k = m) := hm; clear hm
  have HM2 : Hid ((A.wa x y).getD k (fun _ => noBs) = m) := hm2; clear hm2
  have HOK : Hid (∀ d, m d = noBs ∨ (BsOk A.n d (m d) ∧ Tells A x d (m d))) := hok; clear hok
  have HG : Hid (Good A) := g; clear g
  have HR : Hid (RN w b A V) := hR; clear hR
  have HW : Hid (WR w B 164 ρ tg V A.wa) := hW; clear hW
  have HJ : Hid (TgOk tg) := tz; clear tz
  have HB : Hid (∀ a c, ρ b ≠ tg a c) := hb; clear hb
  have HN : Hid (∀ k, w.heap.size ≤ k → ρ k = (0, 0)) := hnew; clear hnew
  by_cases hdn : (A.rs y).dn = true
  · have hdel : deliverN A x y k = offN A x y k := by unfold deliverN; rw [if_pos (.inl hdn)]
    rw [hdel]
    clear hdel
    go_enter Try.func93, Try.ntmps93
    go_wp2_with (first | (go_at_call 115; refine (at_any b B 164 _ _ _ ρ tg A V _ hn HR.out HW.out).mono ?_; rw [HM.out, h0]; rintro e w1 ⟨rfl, hb1⟩; have n9 := Whole.new w1 164 Zm; have t9 := n9.there Zm_size; have ag9 := aggOk_mg m; have b9 : Below w.heap.size w ((w1.alloc (.cells Zm 164)).setCells w1.heap.size 0 (mgA m).toList) := Below.setCells (hb1.alloc hb1.size _) hb1.size _ _; have n9' := n9.over (mgA m) (by rw [mgA_size, Zm_size])) |
    (go_at_call 116; refine (off_any b x y k B ρ tg A V _ hx hy h3 h6 (HR.out.of (b9.block b HR.out.lt)) (HW.out.below b9) (Nat.le_trans hB b9.size) HB.out (fun j hj => HN.out j (Nat.le_trans b9.size hj))).mono ?_; rintro e w2 ⟨rfl, ρ1, V1, t1, t2, t3⟩; have T1 := (Turn.below HN.out b9).trans t3; have m9 := n9'.of (t3.only.block w1.heap.size n9'.lt (fun hM => hM.elim (fun e => Nat.ne_of_gt (Nat.lt_of_lt_of_le HR.out.lt hb1.size) e) (fun ⟨a, c, _, _, e⟩ => HJ.out.nz a c (e.symm.trans (HN.out _ hb1.size))))); have dnc : w2.cell? ⟨b, 1 + y * 74 + 73, none⟩ = some (.bool (A.rs y).dn) := t1.dn y hy; have coc : w2.cell? ⟨b, 371 + x * 5 + y, none⟩ = some (I (A.co x y)) := t1.c x y hx hy; have HT1 : Hid (Turn b tg ρ ρ1 w w2) := T1; have Ht1 : Hid (RN w2 b (offN A x y k) V1) := t1; have Ht2 : Hid (WR w2 B 164 ρ1 tg V1 (offN A x y k).wa) := t2; have Hm9 : Hid (Whole w2 w1.heap.size 164 (mgA m)) := m9; clear t1 t2 t3 T1 m9; try rw [hdn] at dnc))
    go_ret
    exact ⟨rfl, ρ1, V1, Ht1.out, Ht2.out, HT1.out⟩
  · have hdn : (A.rs y).dn = false := by simpa using hdn
    by_cases hco : A.co x y = 0
    · have hdel : deliverN A x y k = offN A x y k := by unfold deliverN; rw [if_pos (.inr hco)]
      have hco' : (A.co x y == 0) = true := by simp [hco]
      rw [hdel]
      clear hdel
      go_enter Try.func93, Try.ntmps93
      go_wp2_with (first | (go_at_call 115; refine (at_any b B 164 _ _ _ ρ tg A V _ hn HR.out HW.out).mono ?_; rw [HM.out, h0]; rintro e w1 ⟨rfl, hb1⟩; have n9 := Whole.new w1 164 Zm; have t9 := n9.there Zm_size; have ag9 := aggOk_mg m; have b9 : Below w.heap.size w ((w1.alloc (.cells Zm 164)).setCells w1.heap.size 0 (mgA m).toList) := Below.setCells (hb1.alloc hb1.size _) hb1.size _ _; have n9' := n9.over (mgA m) (by rw [mgA_size, Zm_size])) |
    (go_at_call 116; refine (off_any b x y k B ρ tg A V _ hx hy h3 h6 (HR.out.of (b9.block b HR.out.lt)) (HW.out.below b9) (Nat.le_trans hB b9.size) HB.out (fun j hj => HN.out j (Nat.le_trans b9.size hj))).mono ?_; rintro e w2 ⟨rfl, ρ1, V1, t1, t2, t3⟩; have T1 := (Turn.below HN.out b9).trans t3; have m9 := n9'.of (t3.only.block w1.heap.size n9'.lt (fun hM => hM.elim (fun e => Nat.ne_of_gt (Nat.lt_of_lt_of_le HR.out.lt hb1.size) e) (fun ⟨a, c, _, _, e⟩ => HJ.out.nz a c (e.symm.trans (HN.out _ hb1.size))))); have dnc : w2.cell? ⟨b, 1 + y * 74 + 73, none⟩ = some (.bool (A.rs y).dn) := t1.dn y hy; have coc : w2.cell? ⟨b, 371 + x * 5 + y, none⟩ = some (I (A.co x y)) := t1.c x y hx hy; have HT1 : Hid (Turn b tg ρ ρ1 w w2) := T1; have Ht1 : Hid (RN w2 b (offN A x y k) V1) := t1; have Ht2 : Hid (WR w2 B 164 ρ1 tg V1 (offN A x y k).wa) := t2; have Hm9 : Hid (Whole w2 w1.heap.size 164 (mgA m)) := m9; clear t1 t2 t3 T1 m9; try rw [hdn] at dnc))
      go_ret
      exact ⟨rfl, ρ1, V1, Ht1.out, Ht2.out, HT1.out⟩
    · have hdel : deliverN A x y k = hearN (offN A x y k) x y m := by unfold deliverN; rw [if_neg (by rw [hdn]; simp; exact hco), HM2.out]
      have hco' : (A.co x y == 0) = false := by simp [hco]
      rw [hdel]
      clear hdel
      go_enter Try.func93, Try.ntmps93
      go_wp2_with (first | (go_at_call 115; refine (at_any b B 164 _ _ _ ρ tg A V _ hn HR.out HW.out).mono ?_; rw [HM.out, h0]; rintro e w1 ⟨rfl, hb1⟩; have n9 := Whole.new w1 164 Zm; have t9 := n9.there Zm_size; have ag9 := aggOk_mg m; have b9 : Below w.heap.size w ((w1.alloc (.cells Zm 164)).setCells w1.heap.size 0 (mgA m).toList) := Below.setCells (hb1.alloc hb1.size _) hb1.size _ _; have n9' := n9.over (mgA m) (by rw [mgA_size, Zm_size])) |
    (go_at_call 116; refine (off_any b x y k B ρ tg A V _ hx hy h3 h6 (HR.out.of (b9.block b HR.out.lt)) (HW.out.below b9) (Nat.le_trans hB b9.size) HB.out (fun j hj => HN.out j (Nat.le_trans b9.size hj))).mono ?_; rintro e w2 ⟨rfl, ρ1, V1, t1, t2, t3⟩; have T1 := (Turn.below HN.out b9).trans t3; have m9 := n9'.of (t3.only.block w1.heap.size n9'.lt (fun hM => hM.elim (fun e => Nat.ne_of_gt (Nat.lt_of_lt_of_le HR.out.lt hb1.size) e) (fun ⟨a, c, _, _, e⟩ => HJ.out.nz a c (e.symm.trans (HN.out _ hb1.size))))); have dnc : w2.cell? ⟨b, 1 + y * 74 + 73, none⟩ = some (.bool (A.rs y).dn) := t1.dn y hy; have coc : w2.cell? ⟨b, 371 + x * 5 + y, none⟩ = some (I (A.co x y)) := t1.c x y hx hy; have HT1 : Hid (Turn b tg ρ ρ1 w w2) := T1; have Ht1 : Hid (RN w2 b (offN A x y k) V1) := t1; have Ht2 : Hid (WR w2 B 164 ρ1 tg V1 (offN A x y k).wa) := t2; have Hm9 : Hid (Whole w2 w1.heap.size 164 (mgA m)) := m9; clear t1 t2 t3 T1 m9; try rw [hdn] at dnc))
      have hmb : w1.heap.size ≠ b := Nat.ne_of_gt (Nat.lt_of_lt_of_le HR.out.lt hb1.size)
      have hxn : x < A.n := by omega
      have hyn : y < A.n := by omega
      have hxy : x ≠ y := by omega
      have hcp : 0 < A.co x y := by have := HG.out.c0 x y; omega
      have HG1 : Hid (Good (offN A x y k)) := HG.out.off x y k
      have HOK1 : Hid (∀ d, m d = noBs ∨ (BsOk A.n d (m d) ∧ Tells (offN A x y k) x d (m d))) := (show ∀ d, m d = noBs ∨ (BsOk A.n d (m d) ∧ Tells (offN A x y k) x d (m d)) from fun d => (HOK.out d).imp id fun h => ⟨h.1, h.2.same fun _ => rfl⟩)
      clear dnc coc n9 n9' t9 ag9 b9
      go_loopw [12] (fun i wr => ∃ j : Nat, j ≤ A.n ∧ i = .int .i64 j ∧ RN wr b (hearK (offN A x y k) x y m j) V1 ∧ Whole wr w1.heap.size 164 (mgA m) ∧ Only (· = b) w2 wr) (fun i _ => A.n - (intOf i).toNat)
      case atStart => exact ⟨0, Nat.zero_le _, rfl, by rw [hearK_zero]; exact Ht1.out, Hm9.out, Only.refl _ _⟩
      case round =>
        obtain ⟨j, hj, rfl, r1, r2, r3⟩ := hrel
        have cn : wr.cell? ⟨b, 0, none⟩ = some (I A.n) := r1.n
        by_cases hjn : j < A.n
        · have hj5 : j < 5 := by omega
          have hj' : (j : Int) < 5 := by omega
          have hjn' : (j : Int) < (A.n : Int) := by omega
          by_cases hjy : j = y
          · subst hjy
            have hjy' : ((j : Int) != (j : Int)) = false := by simp
            go_wp2
            go_roundw
            case rel => exact ⟨j + 1, by omega, by go_num, by rw [hearK_self]; exact r1, r2, r3⟩
            case measure => simp [intOf]; omega
          · have hjy' : ((j : Int) != (y : Int)) = true := by rw [bne_iff_ne]; omega
            obtain ⟨d0, d1, d2, d3, d4⟩ := r1.ro5 y j hy hj5
            obtain ⟨e0, e1⟩ := r1.be2 y j hy hj5
            rw [hearK_ro] at d0 d1 d2 d3 d4
            rw [hearK_be] at e0 e1
            have fz := r1.fz
            have lb := r1.lt
            have lm := r2.lt
            obtain ⟨m1, m2⟩ := mgA_2 m j hj5
            have sS : wr.cell? ⟨b, 1 + y * 74 + 1 + j * 5, none⟩ = some (I ((A.rs y).t.ro j).nx) ∧ wr.cell? ⟨b, 1 + y * 74 + 1 + j * 5 + 1, none⟩ = some (I ((A.rs y).t.ro j).sq) ∧ wr.cell? ⟨b, 1 + y * 74 + 1 + j * 5 + 2, none⟩ = some (I ((A.rs y).t.ro j).mt) ∧ wr.cell? ⟨b, 1 + y * 74 + 1 + j * 5 + 3, none⟩ = some (I ((A.rs y).t.ro j).ag) ∧ wr.cell? ⟨b, 1 + y * 74 + 1 + j * 5 + 4, none⟩ = some (I ((A.rs y).t.ro j).st) ∧ wr.cell? ⟨b, 1 + y * 74 + 26 + j * 2, none⟩ = some (I ((A.rs y).t.be j).sq) ∧ wr.cell? ⟨b, 1 + y * 74 + 26 + j * 2 + 1, none⟩ = some (I ((A.rs y).t.be j).mt) ∧ wr.cell? ⟨w1.heap.size, j * 2, none⟩ = some (I (m j).sq) ∧ wr.cell? ⟨w1.heap.size, j * 2 + 1, none⟩ = some (I (m j).mt) := ⟨d0, d1, d2, d3, d4, e0, e1, (r2.cell _).trans m1, (r2.cell _).trans m2⟩
            have sSd : wr.drew.cell? ⟨b, 1 + y * 74 + 1 + j * 5, none⟩ = some (I ((A.rs y).t.ro j).nx) ∧ wr.drew.cell? ⟨b, 1 + y * 74 + 1 + j * 5 + 1, none⟩ = some (I ((A.rs y).t.ro j).sq) ∧ wr.drew.cell? ⟨b, 1 + y * 74 + 1 + j * 5 + 2, none⟩ = some (I ((A.rs y).t.ro j).mt) ∧ wr.drew.cell? ⟨b, 1 + y * 74 + 1 + j * 5 + 3, none⟩ = some (I ((A.rs y).t.ro j).ag) ∧ wr.drew.cell? ⟨b, 1 + y * 74 + 1 + j * 5 + 4, none⟩ = some (I ((A.rs y).t.ro j).st) ∧ wr.drew.cell? ⟨b, 1 + y * 74 + 26 + j * 2, none⟩ = some (I ((A.rs y).t.be j).sq) ∧ wr.drew.cell? ⟨b, 1 + y * 74 + 26 + j * 2 + 1, none⟩ = some (I ((A.rs y).t.be j).mt) ∧ wr.drew.cell? ⟨w1.heap.size, j * 2, none⟩ = some (I (m j).sq) ∧ wr.drew.cell? ⟨w1.heap.size, j * 2 + 1, none⟩ = some (I (m j).mt) := sS
            have lbD : b < wr.drew.heap.size := lb
            have lmD : w1.heap.size < wr.drew.heap.size := lm
            have gk : Good (hearK (offN A x y k) x y m j) := good_hearK HG1.out x y m j hxn hxy hcp HOK1.out
            have hn5 : ((A.rs y).t.ro j).nx < 5 := by
              rcases (HG.out.t y hyn).ro j with e | e
              · rw [e, noRt_nx]; decide
              · have := e.nx1; omega
            have hm0 : 0 ≤ ((A.rs y).t.ro j).nx → 0 ≤ ((A.rs y).t.ro j).mt ∧ ((A.rs y).t.ro j).mt ≤ 30 := fun h => ⟨((HG.out.t y hyn).nx j h).mt0, ((HG.out.t y hyn).nx j h).mt1⟩
            have ht0 : 0 ≤ (m j).mt ∧ (m j).mt ≤ 30 := by
              rcases HOK.out j with e | e
              · rw [e, noBs_mt]; decide
              · exact ⟨e.1.mt0, e.1.mt1⟩
            have htk : takes (hearK (offN A x y k) x y m j) y x ((A.rs y).t.ro j) ((A.rs y).t.be j) (m j) = takes (offN A x y k) y x ((A.rs y).t.ro j) ((A.rs y).t.be j) (m j) := takes_co rfl _ _ _ _ _
            obtain ⟨res, hres⟩ : ∃ res, takes (offN A x y k) y x ((A.rs y).t.ro j) ((A.rs y).t.be j) (m j) = res := ⟨_, rfl⟩
            rw [hres] at htk
            have Hres : Hid (takes (offN A x y k) y x ((A.rs y).t.ro j) ((A.rs y).t.be j) (m j) = res) := hres; clear hres
            have Htk : Hid (takes (hearK (offN A x y k) x y m j) y x ((A.rs y).t.ro j) ((A.rs y).t.be j) (m j) = res) := htk; clear htk
            have GK : Hid (Good (hearK (offN A x y k) x y m j)) := gk; clear gk
            have K1 : Hid (RN wr b (hearK (offN A x y k) x y m j) V1) := r1; clear r1
            have K2 : Hid (Whole wr w1.heap.size 164 (mgA m)) := r2; clear r2
            have K3 : Hid (Only (· = b) w2 wr) := r3; clear r3
            have HM0 : Hid (0 ≤ ((A.rs y).t.ro j).nx → 0 ≤ ((A.rs y).t.ro j).mt ∧ ((A.rs y).t.ro j).mt ≤ 30) := hm0; clear hm0
            clear d0 d1 d2 d3 d4 e0 e1 m1 m2
            go_wp2_with fail
            go_region_held3 (fun w' => w'.cell? ⟨b, 1 + y * 74 + 1 + j * 5, none⟩ = some (I ((A.rs y).t.ro j).nx) ∧ w'.cell? ⟨b, 1 + y * 74 + 1 + j * 5 + 1, none⟩ = some (I ((A.rs y).t.ro j).sq) ∧ w'.cell? ⟨b, 1 + y * 74 + 1 + j * 5 + 2, none⟩ = some (I ((A.rs y).t.ro j).mt) ∧ w'.cell? ⟨b, 1 + y * 74 + 1 + j * 5 + 3, none⟩ = some (I ((A.rs y).t.ro j).ag) ∧ w'.cell? ⟨b, 1 + y * 74 + 1 + j * 5 + 4, none⟩ = some (I ((A.rs y).t.ro j).st) ∧ w'.cell? ⟨b, 1 + y * 74 + 26 + j * 2, none⟩ = some (I ((A.rs y).t.be j).sq) ∧ w'.cell? ⟨b, 1 + y * 74 + 26 + j * 2 + 1, none⟩ = some (I ((A.rs y).t.be j).mt) ∧ w'.cell? ⟨w1.heap.size, j * 2, none⟩ = some (I (m j).sq) ∧ w'.cell? ⟨w1.heap.size, j * 2 + 1, none⟩ = some (I (m j).mt))
              (first | with_reducible exact sSd | (refine nine_of sSd ?_ ?_ <;> (repeat rw [heap_setCell_other _ _ _ _ (by dsimp only; omega)]) <;> (first | with_reducible rfl | with_reducible exact q3b | with_reducible exact q3m | with_reducible exact Below.heap_alloc _ _ _ lbD | with_reducible exact Below.heap_alloc _ _ _ lmD | with_reducible exact (Below.heap_alloc _ _ _ lb3).trans q3b | with_reducible exact (Below.heap_alloc _ _ _ lm3).trans q3m | exact Below.heap_alloc wr _ b lb | exact Below.heap_alloc wr _ w1.heap.size lm)))
              (first | (go_at_call 117; refine (takes_any b x y ((A.rs y).t.ro j) ((A.rs y).t.be j) (m j) (hearK (offN A x y k) x y m j) V1 _ hx hy GK.out (K1.out.of ?_) hn5 HM0.out ht0.1 ht0.2).mono ?_; (first | rfl | exact Below.heap_alloc wr _ b lb); rw [Htk.out]; rintro e w3 ⟨rfl, hb3⟩; have l3 := hb3.size; have q3b : w3.heap[b]? = wr.drew.heap[b]? := (hb3.block b (by first | exact lbD | (simp; omega))).trans (by first | rfl | exact Below.heap_alloc wr _ b lb); have q3m : w3.heap[w1.heap.size]? = wr.drew.heap[w1.heap.size]? := (hb3.block w1.heap.size (by first | exact lmD | (simp; omega))).trans (by first | rfl | exact Below.heap_alloc wr _ w1.heap.size lm); have lb3 : b < w3.heap.size := (by first | exact Nat.lt_of_lt_of_le lb l3 | (simp at l3; omega)); have lm3 : w1.heap.size < w3.heap.size := (by first | exact Nat.lt_of_lt_of_le lm l3 | (simp at l3; omega)); (try (have pz : Whole w3 wr.heap.size 47 #[.int .i64 0, .int .i64 0, .int .i64 0, .int .i64 0, .int .i64 0] := (Whole.new wr 47 #[.int .i64 0, .int .i64 0, .int .i64 0, .int .i64 0, .int .i64 0]).drew.below hb3; have cz := pz.cell; have fzz := pz.frozen; have lz := pz.lt))))
            · have PX : Whole (w3.alloc (.cells #[.int .i64 res.nx, .int .i64 res.sq, .int .i64 res.mt, .int .i64 res.ag, .int .i64 res.st] 47)) w3.heap.size 47 (rtA res) := Whole.new w3 _ _
              have RW := (K1.out.of (w' := w3) (q3b.trans rfl)).of (Below.heap_alloc w3 (.cells #[.int .i64 res.nx, .int .i64 res.sq, .int .i64 res.mt, .int .i64 res.ag, .int .i64 res.st] 47) b lb3)
              have MW := (K2.out.of (w' := w3) (q3m.trans rfl)).alloc (.cells #[.int .i64 res.nx, .int .i64 res.sq, .int .i64 res.mt, .int .i64 res.ag, .int .i64 res.st] 47)
              have OW := (K3.out.drew.trans (Only.ofBelow (S := (· = b)) hb3) (fun _ _ h => h)).alloc (.cells #[.int .i64 res.nx, .int .i64 res.sq, .int .i64 res.mt, .int .i64 res.ag, .int .i64 res.st] 47)
              clear K1 K2 K3 GK
              generalize w3.alloc (.cells #[.int .i64 res.nx, .int .i64 res.sq, .int .i64 res.mt, .int .i64 res.ag, .int .i64 res.st] 47) = W at *
              have lW := RW.lt
              have cx := PX.cell
              have fx := PX.frozen
              have lx := PX.lt
              obtain ⟨g0, g1, g2, g3, g4⟩ := RW.ro5 y j hy hj5
              have fW := RW.fz
              have hne : b ≠ w3.heap.size := by omega
              have HRW : Hid (RN W b (hearK (offN A x y k) x y m j) V1) := RW; clear RW
              have HMW : Hid (Whole W w1.heap.size 164 (mgA m)) := MW; clear MW
              have HOW : Hid (Only (· = b) w2 W) := OW; clear OW
              have HPX : Hid (Whole W (w3.heap.size) 47 (rtA res)) := PX; clear PX
              clear sS sSd
              go_wp2_with fail
              go_region
              go_wp2
              go_roundw
              case rel => exact ⟨j + 1, by omega, by go_num, by
                rw [hearK_step _ _ _ _ _ hjy]
                have e9 : takes (offN A x y k) y x (((offN A x y k).rs y).t.ro j) (((offN A x y k).rs y).t.be j) (m j) = res := Hres.out
                rw [e9]
                exact (HRW.out.setRo y j hy hj5 res).of rfl, by
                refine Whole.of HMW.out ?_
                show (((((W.setCell _ _).setCell _ _).setCell _ _).setCell _ _).setCell _ _).heap[w1.heap.size]? = _
                rw [heap_setCell_other _ _ _ _ hmb, heap_setCell_other _ _ _ _ hmb, heap_setCell_other _ _ _ _ hmb, heap_setCell_other _ _ _ _ hmb, heap_setCell_other _ _ _ _ hmb], by
                exact (((((HOW.out.setCell (p := ⟨b, _, none⟩) (.inl rfl) _).setCell (p := ⟨b, _, none⟩) (.inl rfl) _).setCell (p := ⟨b, _, none⟩) (.inl rfl) _).setCell (p := ⟨b, _, none⟩) (.inl rfl) _).setCell (p := ⟨b, _, none⟩) (.inl rfl) _).drew⟩
              case measure => simp [intOf]; omega
            · have PX := pz.route rfl res
              have o3 : Only (· = b) w2 w3 := (K3.out.alloc _).drew.trans (Only.ofBelow (S := (· = b)) hb3) (fun _ _ h => h)
              have z2 := K3.out.size
              have RW : RN (((((w3.setCell ⟨wr.heap.size, 0, none⟩ (I res.nx)).setCell ⟨wr.heap.size, 1, none⟩ (I res.sq)).setCell ⟨wr.heap.size, 2, none⟩ (I res.mt)).setCell ⟨wr.heap.size, 3, none⟩ (I res.ag)).setCell ⟨wr.heap.size, 4, none⟩ (I res.st)) b (hearK (offN A x y k) x y m j) V1 := (K1.out.of (w' := w3) (q3b.trans rfl)).of (by rw [heap_setCell_other _ _ _ _ (by dsimp only; omega), heap_setCell_other _ _ _ _ (by dsimp only; omega), heap_setCell_other _ _ _ _ (by dsimp only; omega), heap_setCell_other _ _ _ _ (by dsimp only; omega), heap_setCell_other _ _ _ _ (by dsimp only; omega)])
              have MW : Whole (((((w3.setCell ⟨wr.heap.size, 0, none⟩ (I res.nx)).setCell ⟨wr.heap.size, 1, none⟩ (I res.sq)).setCell ⟨wr.heap.size, 2, none⟩ (I res.mt)).setCell ⟨wr.heap.size, 3, none⟩ (I res.ag)).setCell ⟨wr.heap.size, 4, none⟩ (I res.st)) w1.heap.size 164 (mgA m) := (K2.out.of (w' := w3) (q3m.trans rfl)).of (by rw [heap_setCell_other _ _ _ _ (by dsimp only; omega), heap_setCell_other _ _ _ _ (by dsimp only; omega), heap_setCell_other _ _ _ _ (by dsimp only; omega), heap_setCell_other _ _ _ _ (by dsimp only; omega), heap_setCell_other _ _ _ _ (by dsimp only; omega)])
              have OW : Only (· = b) w2 (((((w3.setCell ⟨wr.heap.size, 0, none⟩ (I res.nx)).setCell ⟨wr.heap.size, 1, none⟩ (I res.sq)).setCell ⟨wr.heap.size, 2, none⟩ (I res.mt)).setCell ⟨wr.heap.size, 3, none⟩ (I res.ag)).setCell ⟨wr.heap.size, 4, none⟩ (I res.st)) := ((((o3.setCell (p := ⟨wr.heap.size, 0, none⟩) (.inr z2) _).setCell (p := ⟨wr.heap.size, 1, none⟩) (.inr z2) _).setCell (p := ⟨wr.heap.size, 2, none⟩) (.inr z2) _).setCell (p := ⟨wr.heap.size, 3, none⟩) (.inr z2) _).setCell (p := ⟨wr.heap.size, 4, none⟩) (.inr z2) _
              clear K1 K2 K3 GK pz cz fzz lz o3
              generalize ((((w3.setCell ⟨wr.heap.size, 0, none⟩ (I res.nx)).setCell ⟨wr.heap.size, 1, none⟩ (I res.sq)).setCell ⟨wr.heap.size, 2, none⟩ (I res.mt)).setCell ⟨wr.heap.size, 3, none⟩ (I res.ag)).setCell ⟨wr.heap.size, 4, none⟩ (I res.st) = W at *
              have lW := RW.lt
              have cx := PX.cell
              have fx := PX.frozen
              have lx := PX.lt
              obtain ⟨g0, g1, g2, g3, g4⟩ := RW.ro5 y j hy hj5
              have fW := RW.fz
              have hne : b ≠ wr.heap.size := by omega
              have HRW : Hid (RN W b (hearK (offN A x y k) x y m j) V1) := RW; clear RW
              have HMW : Hid (Whole W w1.heap.size 164 (mgA m)) := MW; clear MW
              have HOW : Hid (Only (· = b) w2 W) := OW; clear OW
              have HPX : Hid (Whole W (wr.heap.size) 47 (rtA res)) := PX; clear PX
              clear sS sSd
              go_wp2_with fail
              go_region
              go_wp2
              go_roundw
              case rel => exact ⟨j + 1, by omega, by go_num, by
                rw [hearK_step _ _ _ _ _ hjy]
                have e9 : takes (offN A x y k) y x (((offN A x y k).rs y).t.ro j) (((offN A x y k).rs y).t.be j) (m j) = res := Hres.out
                rw [e9]
                exact (HRW.out.setRo y j hy hj5 res).of rfl, by
                refine Whole.of HMW.out ?_
                show (((((W.setCell _ _).setCell _ _).setCell _ _).setCell _ _).setCell _ _).heap[w1.heap.size]? = _
                rw [heap_setCell_other _ _ _ _ hmb, heap_setCell_other _ _ _ _ hmb, heap_setCell_other _ _ _ _ hmb, heap_setCell_other _ _ _ _ hmb, heap_setCell_other _ _ _ _ hmb], by
                exact (((((HOW.out.setCell (p := ⟨b, _, none⟩) (.inl rfl) _).setCell (p := ⟨b, _, none⟩) (.inl rfl) _).setCell (p := ⟨b, _, none⟩) (.inl rfl) _).setCell (p := ⟨b, _, none⟩) (.inl rfl) _).setCell (p := ⟨b, _, none⟩) (.inl rfl) _).drew⟩
              case measure => simp [intOf]; omega
        · have hj6 : j = A.n := by omega
          subst hj6
          have cw := hearK_end HG1.out hyn (fun d hd => (HOK.out d).elim id fun h => absurd h.1.dn (Nat.not_lt.2 hd)) r1
          go_wp2
          go_ret
          refine ⟨rfl, ρ1, V1, cw, ?_, HT1.out.trans (Turn.onlyB HT1.out.new r3)⟩
          exact Ht2.out.onlyB (b := b) (fun a c => by rw [HT1.out.old b HR.out.lt]; exact HB.out a c) r3
set_option maxHeartbeats 1000000 in
/-- Deliver, at whatever numbers. -/
theorem rdeliver (b B : Nat) (x y k : Int) (ρ : Nat → Part) (tg : Nat → Nat → Part) (A : Nt) (V : Nat → Nat → Value) (w : World) (g : Good A) (hR : RN w b A V) (hW : WR w B 164 ρ tg V A.wa) (hB : B ≤ w.heap.size)
    (tz : TgOk tg) (hb : ∀ a c, ρ b ≠ tg a c) (hnew : ∀ j, w.heap.size ≤ j → ρ j = (0, 0)) :
    Calls Try.prog 93 #[.pointer (some ⟨b, 0, none⟩), .int .i64 x, .int .i64 y, .int .i64 k] w fun e w' => e = .returned (.int .i64 (msgE A x y k)) ∧ ∃ ρ' V', RN w' b (deliverC A x y k) V' ∧ WR w' B 164 ρ' tg V' (deliverC A x y k).wa ∧ Turn b tg ρ ρ' w w' := by
  by_cases h0 : msgE A x y k = 0
  · obtain ⟨h1, h2, _⟩ := msgE_zero h0
    obtain ⟨⟨a1, _⟩, ⟨a2, _⟩, _⟩ := pairE_zero h1
    obtain ⟨x, rfl⟩ := Int.eq_ofNat_of_zero_le a1
    obtain ⟨y, rfl⟩ := Int.eq_ofNat_of_zero_le a2
    obtain ⟨k, rfl⟩ := Int.eq_ofNat_of_zero_le h2
    have hC : deliverC A x y k = deliverN A x y k := by unfold deliverC; rw [if_pos h0]; rfl
    rw [hC, h0]
    exact rdeliver_ok b B x y k ρ tg A V w g hR hW hB tz hb hnew h0
  · have h0' : (msgE A x y k != 0) = true := by simp [h0]
    have hn := g.n5
    have hC : deliverC A x y k = A := by unfold deliverC; rw [if_neg h0]
    rw [hC]
    go_enter Try.func93, Try.ntmps93
    go_wp2_with (first | (go_at_call 115; refine (at_any b B 164 _ _ _ ρ tg A V _ hn hR hW).mono ?_; rintro e w1 ⟨rfl, hb1⟩; have n9 := Whole.new w1 164 Zm; have t9 := n9.there Zm_size; have ag9 := aggOk_mg (msgN A x y k); have b9 : Below w.heap.size w ((w1.alloc (.cells Zm 164)).setCells w1.heap.size 0 (mgA (msgN A x y k)).toList) := Below.setCells (hb1.alloc hb1.size _) hb1.size _ _))
    go_ret
    exact ⟨rfl, ρ, V, hR.of (b9.block b hR.lt), hW.below b9, Turn.below hnew b9⟩
end Go.Proofs.Ytdoodnbobpijoaa
