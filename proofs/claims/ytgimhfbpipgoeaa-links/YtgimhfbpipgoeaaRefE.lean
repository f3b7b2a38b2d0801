import Derived.Test.YtgimhfbpipgoeaaRefD
import Derived.Test.YtgimhfbpipgoeaaOwn
import Derived.Deep.DrawnRows
import Derived.Deep.RegionLaw
namespace Go.Proofs.Ytgimhfbpipgoeaa
open Go.RowKit

/-- How many wait when the message of x has come to the links below k. -/
def sentL (k : Nat) (C : Nat → Nat → Int) (x : Nat) (L : Nat → Nat → Nat) : Nat → Nat → Nat := fun a c => if a = x ∧ c < k ∧ 0 < C x c ∧ L x c < 6 then L x c + 1 else L a c

theorem RN.setV {w : World} {b n : Nat} {C : Nat → Nat → Int} {V : Nat → Nat → Value} (hR : RN w b n C V) (x y : Nat) (hx : x < 5) (hy : y < 5) (v : Value) :
    RN (w.setCell ⟨b, 396 + x * 5 + y, none⟩ v) b n C (upd2 V x y v) := by
  have ho : ∀ o, o ≠ 396 + x * 5 + y → (w.setCell ⟨b, 396 + x * 5 + y, none⟩ v).cell? ⟨b, o, none⟩ = w.cell? ⟨b, o, none⟩ := fun o h1 => by
    rw [World.cell?_setCell_other _ _ _ _ (addr_ne (by omega))]
  refine ⟨?_, fun i j hi hj => ?_, fun i j hi hj => ?_, fun i j hi hj => ?_, fun o => ?_⟩
  · rw [ho _ (by omega)]; exact hR.n
  · rw [ho _ (by omega)]; exact hR.r i j hi hj
  · rw [ho _ (by omega)]; exact hR.c i j hi hj
  · by_cases h : i = x ∧ j = y
    · obtain ⟨rfl, rfl⟩ := h
      rw [World.cell?_setCell_same _ _ _ (hR.v i j hi hj), upd2_same]
    · rw [ho _ (by omega), upd2_other _ _ _ _ _ _ h]; exact hR.v i j hi hj
  · rw [World.frozen?_setCell]; exact hR.fz o
theorem RN.same2 {w : World} {b n : Nat} {C : Nat → Nat → Int} {V : Nat → Nat → Value} (hR : RN w b n C V) (x : Nat) (hx : x < 5) (o : Nat) (ho : o = 0 ∨ o = 36) :
    w.rangeAt b (1 + x * 74 + o) blankA.toList ∧ w.there b (1 + x * 74 + o) 36 ∧ RN (w.setCells b (1 + x * 74 + o) blankA.toList) b n C V := by
  have hr : w.rangeAt b (1 + x * 74 + o) blankA.toList := fun j v hv => by
    have hj : j < 36 := by have := (List.getElem?_eq_some_iff.1 hv).1; simpa [blankA, blankL_length] using this
    have h1 := hR.r x (o + j) hx (by omega)
    have h2 : blankL[j]? = some v := by simpa [blankA] using hv
    rw [(bk_low j hj).1] at h2
    rw [Nat.add_assoc, h1, ← h2]
    rcases ho with rfl | rfl
    · rw [Nat.zero_add]
    · rw [(bk_low j hj).2]
  have ht : w.there b (1 + x * 74 + o) 36 := fun j hj => by
    rw [Nat.add_assoc, hR.r x (o + j) hx (by omega)]
    exact ⟨rfl, hR.fz _⟩
  have h := fun p => cell_same_store hr (by simpa [blankA, blankL_length] using ht) p
  have hf := fun p => World.frozen?_setCells b blankA.toList (1 + x * 74 + o) w p
  exact ⟨hr, ht, ⟨by rw [h]; exact hR.n, fun i j hi hj => by rw [h]; exact hR.r i j hi hj, fun i j hi hj => by rw [h]; exact hR.c i j hi hj, fun i j hi hj => by rw [h]; exact hR.v i j hi hj, fun o => by rw [hf]; exact hR.fz o⟩⟩

set_option maxHeartbeats 400000 in
theorem rdump_no (b n : Nat) (r : Int) (C : Nat → Nat → Int) (V : Nat → Nat → Value) (w : World) (hn : n ≤ 5) (hR : RN w b n C V) (h0 : isB n r = false) :
    Calls Try.prog 34 #[.pointer (some ⟨b, 0, none⟩), .int .i64 r] w fun e w' => e = .returned (.int .i64 2) ∧ w = w' := by
  have hE : upE n r = 2 := by simp [upE, h0]
  go_enter Try.func34, Try.ntmps34
  go_wp2_with (go_at_call 63; refine (up_any b n _ C V _ hn hR).mono ?_; rintro e w' ⟨rfl, rfl⟩)
  go_ret
  exact ⟨rfl, rfl⟩

theorem sentL_zero (C : Nat → Nat → Int) (x : Nat) (L : Nat → Nat → Nat) : sentL 0 C x L = L := by funext a c; simp [sentL]
theorem sentL_at (k : Nat) (C : Nat → Nat → Int) (x : Nat) (L : Nat → Nat → Nat) : sentL k C x L x k = L x k := by simp [sentL]
theorem sentL_skip (k : Nat) (C : Nat → Nat → Int) (x : Nat) (L : Nat → Nat → Nat) (h : ¬ (0 < C x k ∧ L x k < 6)) : sentL (k + 1) C x L = sentL k C x L := by
  funext a c
  unfold sentL
  by_cases hc : c = k
  · subst hc
    rw [if_neg (by rintro ⟨_, _, h3⟩; exact h h3), if_neg (by rintro ⟨_, h3, _⟩; omega)]
  · have : c < k + 1 ↔ c < k := by omega
    simp only [this]
theorem sentL_send (k : Nat) (C : Nat → Nat → Int) (x : Nat) (L : Nat → Nat → Nat) (h1 : 0 < C x k) (h2 : L x k < 6) : sentL (k + 1) C x L = upd2 (sentL k C x L) x k (L x k + 1) := by
  funext a c
  unfold upd2 sentL
  by_cases hc : c = k
  · subst hc
    by_cases ha : a = x
    · subst ha; rw [if_pos ⟨rfl, by omega, h1, h2⟩, if_pos ⟨rfl, rfl⟩]
    · rw [if_neg (fun h => ha h.1), if_neg (fun h => ha h.1), if_neg (fun h => ha h.1)]
  · have : c < k + 1 ↔ c < k := by omega
    simp only [this]
    rw [if_neg (fun h : a = x ∧ c = k => hc h.2)]
attribute [local go_sem ↓] Go.wp_at_zero Go.wp_at_succ ld91 st91 alc91 ld105 st105 alc105 bs98
attribute [local go_sem] vb_ptr vo_ptr cellsL_agg size_setCells

set_option maxHeartbeats 2000000 in
theorem rdump_ok (b n x B : Nat) (ρ : Nat → Part) (tg : Nat → Nat → Part) (C : Nat → Nat → Int) (V : Nat → Nat → Value) (L : Nat → Nat → Nat) (w : World) (hn : n ≤ 5) (hxn : x < n) (hR : RN w b n C V) (hW : WR w B 105 ρ tg V L) (hB : B ≤ w.heap.size)
    (inj : ∀ a c a' c', a < 5 → c < 5 → a' < 5 → c' < 5 → tg a c = tg a' c' → a = a' ∧ c = c') (hb : ∀ a c, ρ b ≠ tg a c) (hz : ∀ a c, tg a c ≠ (0, 0)) (hnew : ∀ k, w.heap.size ≤ k → ρ k = (0, 0)) :
    Calls Try.prog 34 #[.pointer (some ⟨b, 0, none⟩), .int .i64 x] w fun e w' => e = .returned (.int .i64 0) ∧ ∃ ρ' V', RN w' b n C V' ∧ WR w' B 105 ρ' tg V' (sentL n C x L) ∧ (∀ k, k < w.heap.size → ρ' k = ρ k) ∧ (∀ k, w'.heap.size ≤ k → ρ' k = (0, 0)) ∧ Only (fun k => k = b ∨ ∃ c, c < 5 ∧ ρ k = tg x c) w w' := by
  have hx : x < 5 := by omega
  have hx' : (x : Int) < 5 := by omega
  have hE : upE n x = 0 := by
    have : isB n x = true := by simp [isB]; omega
    simp [upE, this]
  have HR : Hid (RN w b n C V) := hR; clear hR
  have HW : Hid (WR w B 105 ρ tg V L) := hW; clear hW
  have HJ : Hid (∀ a c a' c', a < 5 → c < 5 → a' < 5 → c' < 5 → tg a c = tg a' c' → a = a' ∧ c = c') := inj; clear inj
  have HB : Hid (∀ a c, ρ b ≠ tg a c) := hb; clear hb
  have HZ : Hid (∀ a c, tg a c ≠ (0, 0)) := hz; clear hz
  have HN : Hid (∀ k, w.heap.size ≤ k → ρ k = (0, 0)) := hnew; clear hnew
  have hag := aggOk_blank
  go_enter Try.func34, Try.ntmps34
  go_wp2_with (first | (go_at_call 63; refine (up_any b n _ C V _ hn HR.out).mono ?_; rintro e w' ⟨rfl, rfl⟩) |
    (go_at_call 64; refine (told_any b n x C V _ hx HR.out).mono ?_; rintro e w1 ⟨M, m1, m2, rfl, hbl⟩
     have R1 : RN w1 b n C V := HR.out.of (hbl.block b HR.out.lt)
     have l1 : b < w1.heap.size := R1.lt
     have n0 := (Whole.new w1 105 Zm).alloc (.cells Zk 91)
     have n1 := Whole.new (w1.alloc (.cells Zm 105)) 91 Zk
     have t1 := n0.there Zm_size
     have n0' := (n0.over M (by rw [m1, Zm_size])).setCells (g := w1.heap.size + 1) (by omega) 0 blankA.toList
     have n1' := n1.setCells (g := w1.heap.size) (by simp) 0 M.toList
     have t2 := n1'.there Zk_size
     have n1'' := n1'.over blankA (by rw [blankA_size, Zk_size])
     have R4 : RN ((((w1.alloc (.cells Zm 105)).alloc (.cells Zk 91)).setCells w1.heap.size 0 M.toList).setCells (w1.heap.size + 1) 0 blankA.toList) b n C V := R1.of (by rw [(setCells_block _ _ _ _).2.1 b (by omega), (setCells_block _ _ _ _).2.1 b (by omega), Below.heap_alloc _ _ _ (by simp; omega), Below.heap_alloc _ _ _ l1])
     simp only [World.size_alloc] at t1 t2 n1' n1''
     have c4 := R4.r x 72 hx (by omega)
     rw [show bk 72 = I 0 from rfl] at c4
     have hag' : AggOk 10 (.agg M) := ⟨rfl, m1, m2⟩
     have k4 := n1''.mid blankA_size
     have t4 := (R4.same2 x hx 0 (.inl rfl)).2.1
     have R5 := (R4.same2 x hx 0 (.inl rfl)).2.2
     have t5 := (R5.same2 x hx 36 (.inr rfl)).2.1
     have R6 := (R5.same2 x hx 36 (.inr rfl)).2.2
     have k5 := (n1''.setCells (g := b) (by omega) (1 + x * 74) blankA.toList).mid blankA_size
     have n6 := (n0'.setCells (g := b) (by omega) (1 + x * 74) blankA.toList).setCells (g := b) (by omega) (1 + x * 74 + 36) blankA.toList
     simp only [Nat.add_zero] at t4 t5 R5 R6
     have H1 : Hid (M.size = 10) := m1
     have H2 : Hid (M.all (·.oneCell') = true) := m2
     clear m1 m2 n0 n1 n0' n1' n1''
     have HR6 : Hid (RN ((((((w1.alloc (.cells Zm 105)).alloc (.cells Zk 91)).setCells w1.heap.size 0 M.toList).setCells (w1.heap.size + 1) 0 blankA.toList).setCells b (1 + x * 74) blankA.toList).setCells b (1 + x * 74 + 36) blankA.toList) b n C V) := R6
     have H6 : Hid (Whole ((((((w1.alloc (.cells Zm 105)).alloc (.cells Zk 91)).setCells w1.heap.size 0 M.toList).setCells (w1.heap.size + 1) 0 blankA.toList).setCells b (1 + x * 74) blankA.toList).setCells b (1 + x * 74 + 36) blankA.toList) w1.heap.size 105 M) := n6
     have HBL : Hid (Below w.heap.size w w1) := hbl
     clear R1 R4 R5 R6 n6 hbl))
  have hO6 : Only (· = b) w ((((((w1.alloc (.cells Zm 105)).alloc (.cells Zk 91)).setCells w1.heap.size 0 M.toList).setCells (w1.heap.size + 1) 0 blankA.toList).setCells b (1 + x * 74) blankA.toList).setCells b (1 + x * 74 + 36) blankA.toList) := (((((((Only.refl (· = b) w).trans (Only.ofBelow (S := (· = b)) HBL.out) (fun _ _ h => h)).alloc _).alloc _).setCells (.inr HBL.out.size) _ _).setCells (.inr (Nat.le_succ_of_le HBL.out.size)) _ _).setCells (.inl rfl) _ _).setCells (.inl rfl) _ _
  have HO6 : Hid (Only (· = b) w ((((((w1.alloc (.cells Zm 105)).alloc (.cells Zk 91)).setCells w1.heap.size 0 M.toList).setCells (w1.heap.size + 1) 0 blankA.toList).setCells b (1 + x * 74) blankA.toList).setCells b (1 + x * 74 + 36) blankA.toList)) := hO6
  clear hO6
  go_loopw [9] (fun i wr => ∃ (k : Nat) (ρ' : Nat → Part) (V' : Nat → Nat → Value), k ≤ n ∧ i = .int .i64 k ∧ RN wr b n C V' ∧ WR wr B 105 ρ' tg V' (sentL k C x L) ∧ (∀ j, j < w.heap.size → ρ' j = ρ j) ∧ (∀ j, wr.heap.size ≤ j → ρ' j = (0, 0)) ∧ ρ' w1.heap.size = (0, 0) ∧ Whole wr w1.heap.size 105 M ∧ Only (fun k => k = b ∨ ∃ c, c < 5 ∧ ρ k = tg x c) w wr) (fun i _ => n - (intOf i).toNat)
  case atStart =>
    refine ⟨0, ρ, V, Nat.zero_le _, rfl, HR6.out, ?_, fun _ _ => rfl, fun j hj => HN.out j (Nat.le_trans HO6.out.size hj), HN.out _ HBL.out.size, H6.out, ?_⟩
    · rw [sentL_zero]
      exact HW.out.of fun k a c hk ha hc hp => HO6.out.block k hk (fun e => HB.out a c (e ▸ hp))
    · exact ⟨HO6.out.os, HO6.out.tape, HO6.out.output, HO6.out.size, fun k hk hs => HO6.out.block k hk (fun e => hs (.inl e))⟩
  case round =>
    clear t1 t2 t4 t5 k4 k5 c4 HR6 H6 HO6
    obtain ⟨k, ρ', V', hk, rfl, r1, r2, r3, r4, r5, r6, r7⟩ := hrel
    have cn := r1.n
    by_cases hkn : k < n
    · have hk5 : k < 5 := by omega
      have hk' : (k : Int) < 5 := by omega
      have hkn' : (k : Int) < (n : Int) := by omega
      have c1 := r1.c x k hx hk5
      have v1 := r1.v x k hx hk5
      obtain ⟨ad, cap, hv⟩ := r2.form x k hx hk5
      rw [sentL_at] at hv
      rw [hv] at v1
      have K3 : Hid (∀ j, j < w.heap.size → ρ' j = ρ j) := r3; clear r3
      have K4 : Hid (∀ j, wr.heap.size ≤ j → ρ' j = (0, 0)) := r4; clear r4
      have K5 : Hid (ρ' w1.heap.size = (0, 0)) := r5; clear r5
      have KV : Hid (V' x k = .slice ad (L x k) cap) := hv; clear hv
      by_cases hC : 0 < C x k
      · by_cases hL : L x k < 6
        · have hL' : ((L x k : Nat) : Int) < 6 := by omega
          have fz := r1.fz
          have km := r6.drew.mid H1.out
          have K1 : Hid (RN wr b n C V') := r1; clear r1
          have K2 : Hid (WR wr B 105 ρ' tg V' (sentL k C x L)) := r2; clear r2
          have K6 : Hid (Whole wr w1.heap.size 105 M) := r6; clear r6
          obtain ⟨xs, hown0⟩ := K2.out.own x k hx hk5
          rw [KV.out, sentL_at] at hown0
          have hown1 : (wr.alloc (.cells M 105)).drew.ownsRow B 105 10 (.slice ad (L x k) cap) (L x k) xs := (hown0.alloc _).drew
          have hnews1 : ∀ j u, M.toList[j]? = some u → (wr.alloc (.cells M 105)).drew.cell? ((⟨wr.heap.size, 0, none⟩ : Addr).add j) = some u := World.news_of_block (heap_alloc_new wr _)
          have hone1 : ∀ u ∈ M.toList, u.oneCell' = true := fun u hu => (Array.all_eq_true_iff_forall_mem.1 H2.out) u (by simpa using hu)
          have hlen1 : M.toList.length = 1 * 10 := by simp [H1.out]
          have hmx : L x k + 1 ≤ maxLen := by unfold maxLen; omega
          have hBw : B ≤ (wr.alloc (.cells M 105)).drew.heap.size := by have := r7.size; simp; omega
          have hby : (L x k + 1) * 80 ≤ 140737488355328 := by omega
          have Hown : Hid ((wr.alloc (.cells M 105)).drew.ownsRow B 105 10 (.slice ad (L x k) cap) (L x k) xs) := hown1
          have Hnews : Hid (∀ j u, M.toList[j]? = some u → (wr.alloc (.cells M 105)).drew.cell? ((⟨wr.heap.size, 0, none⟩ : Addr).add j) = some u) := hnews1
          have Hone : Hid (∀ u ∈ M.toList, u.oneCell' = true) := hone1
          have Hlen : Hid (M.toList.length = 1 * 10) := hlen1
          have Hmx : Hid (L x k + 1 ≤ maxLen) := hmx
          have HBw : Hid (B ≤ (wr.alloc (.cells M 105)).drew.heap.size) := hBw
          have Hby : Hid ((L x k + 1) * 80 ≤ 140737488355328) := hby
          clear hown0 hown1 hnews1 hone1 hlen1 hmx hBw hby
          have lb : b < wr.heap.size := K1.out.lt
          have Hnb : Hid (some b ≠ (Value.slice ad (L x k) cap).ownBlock) := fun e => by
            have h1 := K2.out.part x k b hx hk5 (by rw [KV.out]; exact e.symm)
            rw [K3.out b HR.out.lt] at h1
            exact HB.out x k h1
          have Hcb : Hid ((wr.alloc (.cells M 105)).drew.cell? ⟨b, 396 + x * 5 + k, none⟩ = some (.slice ad (L x k) cap)) := (World.cell?_of_block (w := wr) (Below.heap_alloc wr _ b lb)).trans v1
          have Hfb : Hid ((wr.alloc (.cells M 105)).drew.frozen? ⟨b, 396 + x * 5 + k, none⟩ = false) := (World.frozen?_of_block (w := wr) (Below.heap_alloc wr _ b lb)).trans (fz _)
          have Hlb : Hid (b < (wr.alloc (.cells M 105)).drew.heap.size) := Nat.lt_of_lt_of_le lb (by simp)
          obtain ⟨i, z, hi1, hi2, hi3, hi4, hi5⟩ := info105
          have I1 : Hid (Try.prog.info? 105 = some i) := hi1; have I2 : Hid (i.zero = some z) := hi2; have I3 : Hid (i.size = 10) := hi3; have I4 : Hid (i.bytes = 80) := hi4; have I5 : Hid (z.cells.size = 10) := hi5
          clear hi1 hi2 hi3 hi4 hi5
          go_wp2_with fail
          go_region_law ((refine step_append_lies _ (by rfl) _ _ 98 (by rfl) B 105 i z 10 80 Try.underlying98 I1.out I2.out I3.out I4.out I5.out (by omega) (.slice ad (L x k) cap) (L x k) xs (by rfl) Hown.out ⟨wr.heap.size, 0, none⟩ 1 1 M.toList (by rfl) Hlen.out Hnews.out Hone.out (by omega) Hmx.out Hby.out HBw.out (wr.heap.size + 1) (by simp) ?_; intro g cap' w2 ho2 hgrow hat hlt2; have cb := (hgrow.cell_far ⟨b, 396 + x * 5 + k, none⟩ Hlb.out Hnb.out).trans Hcb.out; have fb := (hgrow.frozen_far ⟨b, 396 + x * 5 + k, none⟩ Hlb.out Hnb.out).trans Hfb.out))
          all_goals go_wp2
          all_goals
            have hst := send_step (w := w) (mb := w1.heap.size) (o := 396 + x * 5 + k) (L := sentL k C x L) (V := V') (.slice (some ⟨g, 0, none⟩) (L x k + 1) cap') K2.out HJ.out hx hk5 (by rw [sentL_at]; exact hL) HR.out.lt HB.out HZ.out K3.out K4.out K5.out K6.out.lt (Nat.ne_of_gt (Nat.lt_of_lt_of_le HR.out.lt HBL.out.size)) r7
              (w0 := (wr.alloc (.cells M 105)).drew) (((Below.refl _ _).alloc (Nat.le_refl _) _).drew) (by simp) (by rw [sentL_at]; exact ho2) (by rw [KV.out]; exact hgrow) (by rw [KV.out]; exact hat) hlt2 (by rw [sentL_at])
            obtain ⟨s1, s2, s3, s4, s5, s6, s7⟩ := hst
            rw [sentL_at] at s2
            go_roundw
            case rel => exact ⟨k + 1, _, _, by omega, by go_num, (K1.out.of s1).setV x k hx hk5 _, by rw [sentL_send k C x L hC hL]; exact s2, s3, s4, s5, K6.out.of s6, s7⟩
            case measure => simp [intOf]; omega
        · have hL' : ¬ ((L x k : Nat) : Int) < 6 := by omega
          go_wp2
          go_roundw
          case rel => exact ⟨k + 1, ρ', V', by omega, by go_num, r1, by rw [sentL_skip k C x L (fun h => hL h.2)]; exact r2, K3.out, K4.out, K5.out, r6, r7⟩
          case measure => simp [intOf]; omega
      · go_wp2
        go_roundw
        case rel => exact ⟨k + 1, ρ', V', by omega, by go_num, r1, by rw [sentL_skip k C x L (fun h => hC h.1)]; exact r2, K3.out, K4.out, K5.out, r6, r7⟩
        case measure => simp [intOf]; omega
    · have hk6 : k = n := by omega
      subst hk6
      have K3 : Hid (∀ j, j < w.heap.size → ρ' j = ρ j) := r3; clear r3
      have K4 : Hid (∀ j, wr.heap.size ≤ j → ρ' j = (0, 0)) := r4; clear r4
      have K5 : Hid (ρ' w1.heap.size = (0, 0)) := r5; clear r5
      go_wp2
      go_ret
      exact ⟨rfl, ρ', V', r1, r2, K3.out, K4.out, r7⟩
end Go.Proofs.Ytgimhfbpipgoeaa
