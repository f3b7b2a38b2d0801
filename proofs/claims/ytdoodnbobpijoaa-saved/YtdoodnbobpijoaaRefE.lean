import Derived.Test.YtdoodnbobpijoaaRefD
import Derived.Test.YtdoodnbobpijoaaSend
namespace Go.Proofs.Ytdoodnbobpijoaa
open Go.RowKit

/-! ### Dump -/
def sentW (A : Nt) (x k : Nat) : Nat → Nat → List (Nat → Bs) := fun a c => if a = x ∧ c < k ∧ 0 < A.co x c ∧ (A.wa x c).length < 6 then A.wa x c ++ [toldM A x] else A.wa a c
theorem sentW_zero (A : Nt) (x : Nat) : sentW A x 0 = A.wa := by
  funext a c
  unfold sentW
  rw [if_neg (by omega)]
theorem sentW_at (A : Nt) (x k : Nat) : sentW A x k x k = A.wa x k := by
  unfold sentW
  rw [if_neg (by omega)]
theorem sentW_skip (A : Nt) (x k : Nat) (h : ¬ (0 < A.co x k ∧ (A.wa x k).length < 6)) : sentW A x (k + 1) = sentW A x k := by
  funext a c
  unfold sentW
  by_cases hc : c = k
  · subst hc
    rw [if_neg (fun hh => h hh.2.2), if_neg (by omega)]
  · have : c < k + 1 ↔ c < k := by omega
    simp only [this]
theorem sentW_send (A : Nt) (x k : Nat) (h1 : 0 < A.co x k) (h2 : (A.wa x k).length < 6) : sentW A x (k + 1) = setWa (sentW A x k) x k (A.wa x k ++ [toldM A x]) := by
  funext a c
  unfold setWa sentW
  by_cases hc : c = k
  · subst hc
    by_cases ha : a = x
    · subst ha; rw [if_pos ⟨rfl, by omega, h1, h2⟩, if_pos ⟨rfl, rfl⟩]
    · rw [if_neg (fun h => ha h.1), if_neg (fun h => ha h.1), if_neg (fun h => ha h.1)]
  · have : c < k + 1 ↔ c < k := by omega
    simp only [this]
    rw [if_neg (fun h : a = x ∧ c = k => hc h.2)]
theorem roV_fails (R : Ro) (v : Int) (j : Nat) (_hj : j < 74) : roV { R with fa := v } j = if j = 72 then I v else roV R j := by
  unfold roV
  by_cases h1 : j < 36
  · rw [if_pos h1, if_pos h1, if_neg (by omega)]
  · rw [if_neg h1, if_neg h1]
    by_cases h2 : j < 72
    · rw [if_pos h2, if_pos h2, if_neg (by omega)]
    · rw [if_neg h2, if_neg h2]
      by_cases h3 : j = 72
      · rw [if_pos h3, if_pos h3]
      · rw [if_neg h3, if_neg h3, if_neg h3]
/-- How often the disk fails is written. -/
theorem RN.setF {w : World} {b : Nat} {A : Nt} {V : Nat → Nat → Value} (h : RN w b A V) (i : Nat) (hi : i < 5) (v : Int) : RN (w.setCell ⟨b, 1 + i * 74 + 72, none⟩ (I v)) b (upR A i { (A.rs i) with fa := v }) V :=
  h.cell1 i hi 72 (by omega) _ _ fun j hj => roV_fails _ _ j hj
attribute [local go_sem ↓] Go.wp_at_zero Go.wp_at_succ ldT stT alcT ldM stM alcM bsM
attribute [local go_sem] vb_ptr vo_ptr cellsL_agg size_setCells
set_option maxHeartbeats 400000 in
theorem rdump_no (b : Nat) (r : Int) (A : Nt) (V : Nat → Nat → Value) (w : World) (hn : A.n ≤ 5) (hR : RN w b A V) (h0 : ¬ upE A r = 0) :
    Calls Try.prog 96 #[.pointer (some ⟨b, 0, none⟩), .int .i64 r] w fun e w' => e = .returned (.int .i64 (upE A r)) ∧ w = w' := by
  have h0' : (upE A r != 0) = true := by simp [h0]
  go_enter Try.func96, Try.ntmps96
  go_wp2_with (go_at_call 118; refine (up_any b _ A V _ hn hR).mono ?_; rintro e w' ⟨rfl, rfl⟩)
  go_ret
  exact ⟨rfl, rfl⟩
set_option maxHeartbeats 2000000 in
theorem rdump_fail (b x : Nat) (A : Nt) (V : Nat → Nat → Value) (w : World) (hx : x < A.n) (g : Good A) (hR : RN w b A V) (h0 : upE A x = 0) (hf : 0 < (A.rs x).fa) :
    Calls Try.prog 96 #[.pointer (some ⟨b, 0, none⟩), .int .i64 x] w fun e w' => e = .returned (.int .i64 7) ∧ RN w' b (failOnce A x) V ∧ Only (· = b) w w' := by
  have hn := g.n5
  have hx5 : x < 5 := by omega
  have hx' : (x : Int) < 5 := by omega
  have hf3 := g.fa3 x hx
  have HR : Hid (RN w b A V) := hR; clear hR
  have G : Hid (Good A) := g; clear g
  go_enter Try.func96, Try.ntmps96
  go_wp2_with (first | (go_at_call 118; refine (up_any b _ A V _ hn HR.out).mono ?_; rintro e w' ⟨rfl, rfl⟩) |
    (go_at_call 119; refine (told_any b x A V _ hx G.out HR.out).mono ?_; rintro e w1 ⟨rfl, hbl⟩
     have R1 : RN w1 b A V := HR.out.of (hbl.block b HR.out.lt)
     have l1 : b < w1.heap.size := R1.lt
     have n0 := (Whole.new w1 164 Zm).alloc (.cells Zk 153)
     have n1 := Whole.new (w1.alloc (.cells Zm 164)) 153 Zk
     have t1 := n0.there Zm_size
     have n1' := n1.setCells (g := w1.heap.size) (by simp) 0 (mgA (toldM A x)).toList
     have t2 := n1'.there Zk_size
     have R4 : RN ((((w1.alloc (.cells Zm 164)).alloc (.cells Zk 153)).setCells w1.heap.size 0 (mgA (toldM A x)).toList).setCells (w1.heap.size + 1) 0 (tbA (toldT A x)).toList) b A V := R1.of (by rw [(setCells_block _ _ _ _).2.1 b (by omega), (setCells_block _ _ _ _).2.1 b (by omega), Below.heap_alloc _ _ _ (by simp; omega), Below.heap_alloc _ _ _ l1])
     simp only [World.size_alloc] at t1 t2
     have c4 := R4.fa x hx5
     have f4 := R4.fz
     have hag := aggOk_tb (toldT A x)
     have hag' := aggOk_mg (toldM A x)
     clear n0 n1 n1' R1
     have HR4 : Hid (RN ((((w1.alloc (.cells Zm 164)).alloc (.cells Zk 153)).setCells w1.heap.size 0 (mgA (toldM A x)).toList).setCells (w1.heap.size + 1) 0 (tbA (toldT A x)).toList) b A V) := R4; clear R4))
  go_ret
  refine ⟨rfl, HR4.out.setF x hx5 _, ?_⟩
  exact (((((((Only.refl (· = b) w).trans (Only.ofBelow (S := (· = b)) hbl) (fun _ _ h => h)).alloc _).alloc _).setCells (.inr hbl.size) _ _).setCells (.inr (Nat.le_succ_of_le hbl.size)) _ _).setCell (p := ⟨b, _, none⟩) (.inl rfl) _)

theorem RN.rs {w : World} {b : Nat} {A A' : Nt} {V : Nat → Nat → Value} (h : RN w b A V) (hn : A'.n = A.n) (hc : A'.co = A.co) (hr : A'.rs = A.rs) : RN w b A' V :=
  ⟨by rw [hn]; exact h.n, by rw [hr]; exact h.r, by rw [hc]; exact h.c, h.v, h.fz⟩
set_option maxHeartbeats 2000000 in
theorem rdump_ok (b x B : Nat) (ρ : Nat → Part) (tg : Nat → Nat → Part) (A : Nt) (V : Nat → Nat → Value) (w : World) (hxn : x < A.n) (g : Good A) (hR : RN w b A V) (hW : WR w B 164 ρ tg V A.wa) (hB : B ≤ w.heap.size)
    (tz : TgOk tg) (hb : ∀ a c, ρ b ≠ tg a c) (hnew : ∀ k, w.heap.size ≤ k → ρ k = (0, 0)) (h0 : upE A x = 0) (hf : ¬ 0 < (A.rs x).fa) :
    Calls Try.prog 96 #[.pointer (some ⟨b, 0, none⟩), .int .i64 x] w fun e w' => e = .returned (.int .i64 0) ∧ ∃ ρ' V', RN w' b (dumpOk A x) V' ∧ WR w' B 164 ρ' tg V' (dumpOk A x).wa ∧ Turn b tg ρ ρ' w w' := by
  have hn := g.n5
  have hx : x < 5 := by omega
  have hx' : (x : Int) < 5 := by omega
  have HR : Hid (RN w b A V) := hR; clear hR
  have HW : Hid (WR w B 164 ρ tg V A.wa) := hW; clear hW
  have HJ : Hid (TgOk tg) := tz; clear tz
  have HB : Hid (∀ a c, ρ b ≠ tg a c) := hb; clear hb
  have HN : Hid (∀ k, w.heap.size ≤ k → ρ k = (0, 0)) := hnew; clear hnew
  have G : Hid (Good A) := g; clear g
  have hag := aggOk_tb (toldT A x)
  have hag' := aggOk_mg (toldM A x)
  go_enter Try.func96, Try.ntmps96
  go_wp2_with (first | (go_at_call 118; refine (up_any b _ A V _ hn HR.out).mono ?_; rintro e w' ⟨rfl, rfl⟩) |
    (go_at_call 119; refine (told_any b x A V _ hxn G.out HR.out).mono ?_; rintro e w1 ⟨rfl, hbl⟩
     have R1 : RN w1 b A V := HR.out.of (hbl.block b HR.out.lt)
     have l1 : b < w1.heap.size := R1.lt
     have n0 := (Whole.new w1 164 Zm).alloc (.cells Zk 153)
     have n1 := Whole.new (w1.alloc (.cells Zm 164)) 153 Zk
     have t1 := n0.there Zm_size
     have n0' := (n0.over (mgA (toldM A x)) (by rw [mgA_size, Zm_size])).setCells (g := w1.heap.size + 1) (by omega) 0 (tbA (toldT A x)).toList
     have n1' := n1.setCells (g := w1.heap.size) (by simp) 0 (mgA (toldM A x)).toList
     have t2 := n1'.there Zk_size
     have n1'' := n1'.over (tbA (toldT A x)) (by rw [tbA_size, Zk_size])
     have R4 : RN ((((w1.alloc (.cells Zm 164)).alloc (.cells Zk 153)).setCells w1.heap.size 0 (mgA (toldM A x)).toList).setCells (w1.heap.size + 1) 0 (tbA (toldT A x)).toList) b A V := R1.of (by rw [(setCells_block _ _ _ _).2.1 b (by omega), (setCells_block _ _ _ _).2.1 b (by omega), Below.heap_alloc _ _ _ (by simp; omega), Below.heap_alloc _ _ _ l1])
     simp only [World.size_alloc] at t1 t2 n1' n1''
     have c4 := R4.fa x hx
     have k4 := n1''.mid (tbA_size _)
     have t4 := R4.there x 0 hx (by omega)
     have R5 := R4.setT x hx (toldT A x)
     have t5 := R5.there x 36 hx (by omega)
     have R6 := R5.setD x hx (toldT A x)
     have k5 := (n1''.setCells (g := b) (by omega) (1 + x * 74) (tbA (toldT A x)).toList).mid (tbA_size _)
     have n6 := (n0'.setCells (g := b) (by omega) (1 + x * 74) (tbA (toldT A x)).toList).setCells (g := b) (by omega) (1 + x * 74 + 36) (tbA (toldT A x)).toList
     simp only [Nat.add_zero] at t4
     clear n0 n1 n0' n1' n1''
     have HR6 : Hid (RN ((((((w1.alloc (.cells Zm 164)).alloc (.cells Zk 153)).setCells w1.heap.size 0 (mgA (toldM A x)).toList).setCells (w1.heap.size + 1) 0 (tbA (toldT A x)).toList).setCells b (1 + x * 74) (tbA (toldT A x)).toList).setCells b (1 + x * 74 + 36) (tbA (toldT A x)).toList) b (dumpOk A x) V) := R6.rs rfl rfl (by rw [upR_upR, upR_same]; rfl)
     have H6 : Hid (Whole ((((((w1.alloc (.cells Zm 164)).alloc (.cells Zk 153)).setCells w1.heap.size 0 (mgA (toldM A x)).toList).setCells (w1.heap.size + 1) 0 (tbA (toldT A x)).toList).setCells b (1 + x * 74) (tbA (toldT A x)).toList).setCells b (1 + x * 74 + 36) (tbA (toldT A x)).toList) w1.heap.size 164 (mgA (toldM A x))) := n6
     have HBL : Hid (Below w.heap.size w w1) := hbl
     clear R1 R4 R5 R6 n6 hbl))
  have hO6 : Only (· = b) w ((((((w1.alloc (.cells Zm 164)).alloc (.cells Zk 153)).setCells w1.heap.size 0 (mgA (toldM A x)).toList).setCells (w1.heap.size + 1) 0 (tbA (toldT A x)).toList).setCells b (1 + x * 74) (tbA (toldT A x)).toList).setCells b (1 + x * 74 + 36) (tbA (toldT A x)).toList) := (((((((Only.refl (· = b) w).trans (Only.ofBelow (S := (· = b)) HBL.out) (fun _ _ h => h)).alloc _).alloc _).setCells (.inr HBL.out.size) _ _).setCells (.inr (Nat.le_succ_of_le HBL.out.size)) _ _).setCells (.inl rfl) _ _).setCells (.inl rfl) _ _
  have HO6 : Hid (Only (· = b) w ((((((w1.alloc (.cells Zm 164)).alloc (.cells Zk 153)).setCells w1.heap.size 0 (mgA (toldM A x)).toList).setCells (w1.heap.size + 1) 0 (tbA (toldT A x)).toList).setCells b (1 + x * 74) (tbA (toldT A x)).toList).setCells b (1 + x * 74 + 36) (tbA (toldT A x)).toList)) := hO6
  clear hO6
  go_loopw [9] (fun i wr => ∃ (k : Nat) (ρ' : Nat → Part) (V' : Nat → Nat → Value), k ≤ A.n ∧ i = .int .i64 k ∧ RN wr b (dumpOk A x) V' ∧ WR wr B 164 ρ' tg V' (sentW A x k) ∧ (∀ j, j < w.heap.size → ρ' j = ρ j) ∧ (∀ j, wr.heap.size ≤ j → ρ' j = (0, 0)) ∧ ρ' w1.heap.size = (0, 0) ∧ Whole wr w1.heap.size 164 (mgA (toldM A x)) ∧ Only (Mine b ρ tg) w wr) (fun i _ => A.n - (intOf i).toNat)
  case atStart =>
    refine ⟨0, ρ, V, Nat.zero_le _, rfl, HR6.out, ?_, fun _ _ => rfl, fun j hj => HN.out j (Nat.le_trans HO6.out.size hj), HN.out _ HBL.out.size, H6.out, ?_⟩
    · rw [sentW_zero]; exact HW.out.onlyB HB.out HO6.out
    · exact (Turn.onlyB (tg := tg) HN.out HO6.out).only
  case round =>
    clear t1 t2 t4 t5 k4 k5 c4 HR6 H6 HO6
    obtain ⟨k, ρ', V', hk, rfl, r1, r2, r3, r4, r5, r6, r7⟩ := hrel
    have cn : wr.cell? ⟨b, 0, none⟩ = some (I A.n) := r1.n
    by_cases hkn : k < A.n
    · have hk5 : k < 5 := by omega
      have hk' : (k : Int) < 5 := by omega
      have hkn' : (k : Int) < (A.n : Int) := by omega
      have c1 : wr.cell? ⟨b, 371 + x * 5 + k, none⟩ = some (I (A.co x k)) := r1.c x k hx hk5
      have v1 := r1.v x k hx hk5
      obtain ⟨ad, cap, hv⟩ := r2.form x k hx hk5
      rw [sentW_at] at hv
      rw [hv] at v1
      have K3 : Hid (∀ j, j < w.heap.size → ρ' j = ρ j) := r3; clear r3
      have K4 : Hid (∀ j, wr.heap.size ≤ j → ρ' j = (0, 0)) := r4; clear r4
      have K5 : Hid (ρ' w1.heap.size = (0, 0)) := r5; clear r5
      have KV : Hid (V' x k = .slice ad (A.wa x k).length cap) := hv; clear hv
      by_cases hC : 0 < A.co x k
      · by_cases hL : (A.wa x k).length < 6
        · have hL' : ((A.wa x k).length : Int) < 6 := by omega
          have fz := r1.fz
          have km := r6.drew.mid (mgA_size _)
          have K1 : Hid (RN wr b (dumpOk A x) V') := r1; clear r1
          have K2 : Hid (WR wr B 164 ρ' tg V' (sentW A x k)) := r2; clear r2
          have K6 : Hid (Whole wr w1.heap.size 164 (mgA (toldM A x))) := r6; clear r6
          have hown0 := K2.out.own x k hx hk5
          rw [KV.out, sentW_at] at hown0
          have hown1 : (wr.alloc (.cells (mgA (toldM A x)) 164)).drew.ownsRow B 164 10 (.slice ad (A.wa x k).length cap) (A.wa x k).length (flat (A.wa x k)) := (hown0.alloc _).drew
          have Hown : Hid ((wr.alloc (.cells (mgA (toldM A x)) 164)).drew.ownsRow B 164 10 (.slice ad (A.wa x k).length cap) (A.wa x k).length (flat (A.wa x k))) := hown1
          have Hnews : Hid (∀ j u, (mgA (toldM A x)).toList[j]? = some u → (wr.alloc (.cells (mgA (toldM A x)) 164)).drew.cell? ((⟨wr.heap.size, 0, none⟩ : Addr).add j) = some u) := World.news_of_block (heap_alloc_new wr _)
          have Hone : Hid (∀ u ∈ (mgA (toldM A x)).toList, u.oneCell' = true) := fun u hu => (Array.all_eq_true_iff_forall_mem.1 (mgA_one _)) u (by simpa using hu)
          have Hlen : Hid ((mgA (toldM A x)).toList.length = 1 * 10) := (show (mgA (toldM A x)).toList.length = 1 * 10 by simp [mgA_size])
          have Hmx : Hid ((A.wa x k).length + 1 ≤ maxLen) := (show (A.wa x k).length + 1 ≤ maxLen by unfold maxLen; omega)
          have HBw : Hid (B ≤ (wr.alloc (.cells (mgA (toldM A x)) 164)).drew.heap.size) := (show B ≤ (wr.alloc (.cells (mgA (toldM A x)) 164)).drew.heap.size by have := r7.size; simp; omega)
          have Hby : Hid (((A.wa x k).length + 1) * 80 ≤ 140737488355328) := (show ((A.wa x k).length + 1) * 80 ≤ 140737488355328 by omega)
          clear hown0 hown1
          have lb : b < wr.heap.size := K1.out.lt
          have Hnb : Hid (some b ≠ (Value.slice ad (A.wa x k).length cap).ownBlock) := fun e => by
            have h1 := K2.out.part x k b hx hk5 (by rw [KV.out]; exact e.symm)
            rw [K3.out b HR.out.lt] at h1
            exact HB.out x k h1
          have Hcb : Hid ((wr.alloc (.cells (mgA (toldM A x)) 164)).drew.cell? ⟨b, 396 + x * 5 + k, none⟩ = some (.slice ad (A.wa x k).length cap)) := (World.cell?_of_block (w := wr) (Below.heap_alloc wr _ b lb)).trans v1
          have Hfb : Hid ((wr.alloc (.cells (mgA (toldM A x)) 164)).drew.frozen? ⟨b, 396 + x * 5 + k, none⟩ = false) := (World.frozen?_of_block (w := wr) (Below.heap_alloc wr _ b lb)).trans (fz _)
          have Hlb : Hid (b < (wr.alloc (.cells (mgA (toldM A x)) 164)).drew.heap.size) := Nat.lt_of_lt_of_le lb (by simp)
          obtain ⟨i, z, hi1, hi2, hi3, hi4, hi5⟩ := infoM
          have I1 : Hid (Try.prog.info? 164 = some i) := hi1; have I2 : Hid (i.zero = some z) := hi2; have I3 : Hid (i.size = 10) := hi3; have I4 : Hid (i.bytes = 80) := hi4; have I5 : Hid (z.cells.size = 10) := hi5
          clear hi1 hi2 hi3 hi4 hi5
          go_wp2_with fail
          go_region_law ((refine step_append_lies _ (by rfl) _ _ 158 (by rfl) B 164 i z 10 80 Try.underlying158 I1.out I2.out I3.out I4.out I5.out (by omega) (.slice ad (A.wa x k).length cap) (A.wa x k).length (flat (A.wa x k)) (by rfl) Hown.out ⟨wr.heap.size, 0, none⟩ 1 1 (mgA (toldM A x)).toList (by rfl) Hlen.out Hnews.out Hone.out (by omega) Hmx.out Hby.out HBw.out (wr.heap.size + 1) (by simp) ?_; intro g cap' w2 ho2 hgrow hat hlt2; have cb := (hgrow.cell_far ⟨b, 396 + x * 5 + k, none⟩ Hlb.out Hnb.out).trans Hcb.out; have fb := (hgrow.frozen_far ⟨b, 396 + x * 5 + k, none⟩ Hlb.out Hnb.out).trans Hfb.out))
          all_goals go_wp2
          all_goals
            have ho3 : w2.ownsRow B 164 10 (.slice (some ⟨g, 0, none⟩) ((A.wa x k).length + 1) cap') (A.wa x k ++ [toldM A x]).length (flat (A.wa x k ++ [toldM A x])) := by
              rw [flat_append, flat_one, List.length_append, List.length_singleton]; simpa [mgA] using ho2
            have hst := send_step (w := w) (mb := w1.heap.size) (o := 396 + x * 5 + k) (W := sentW A x k) (V := V') (l := A.wa x k ++ [toldM A x]) (.slice (some ⟨g, 0, none⟩) ((A.wa x k).length + 1) cap') K2.out HJ.out hx hk5 HR.out.lt HB.out K3.out K4.out K5.out K6.out.lt (Nat.ne_of_gt (Nat.lt_of_lt_of_le HR.out.lt HBL.out.size)) r7
              (w0 := (wr.alloc (.cells (mgA (toldM A x)) 164)).drew) (H := wr.heap.size + 1) (((Below.refl _ _).alloc (Nat.le_refl _) _).drew) (by simp) ho3 (by rw [KV.out]; exact hgrow) (by rw [KV.out]; exact hat) hlt2 (by rw [List.length_append, List.length_singleton])
            obtain ⟨s1, s2, s3, s4, s5, s6, s7⟩ := hst
            go_roundw
            case rel => exact ⟨k + 1, _, _, by omega, by go_num, (K1.out.of s1).setV x k hx hk5 _, by rw [sentW_send A x k hC hL]; exact s2, s3, s4, s5, K6.out.of s6, s7⟩
            case measure => simp [intOf]; omega
        · have hL' : ¬ ((A.wa x k).length : Int) < 6 := by omega
          go_wp2
          go_roundw
          case rel => exact ⟨k + 1, ρ', V', by omega, by go_num, r1, by rw [sentW_skip A x k (fun h => hL h.2)]; exact r2, K3.out, K4.out, K5.out, r6, r7⟩
          case measure => simp [intOf]; omega
      · go_wp2
        go_roundw
        case rel => exact ⟨k + 1, ρ', V', by omega, by go_num, r1, by rw [sentW_skip A x k (fun h => hC h.1)]; exact r2, K3.out, K4.out, K5.out, r6, r7⟩
        case measure => simp [intOf]; omega
    · have hk6 : k = A.n := by omega
      subst hk6
      have K3 : Hid (∀ j, j < w.heap.size → ρ' j = ρ j) := r3; clear r3
      have K4 : Hid (∀ j, wr.heap.size ≤ j → ρ' j = (0, 0)) := r4; clear r4
      have K5 : Hid (ρ' w1.heap.size = (0, 0)) := r5; clear r5
      go_wp2
      go_ret
      exact ⟨rfl, ρ', V', r1, r2, ⟨r7, K3.out, K4.out⟩⟩
/-- Dump, at whatever number. -/
theorem rdump (b B : Nat) (r : Int) (ρ : Nat → Part) (tg : Nat → Nat → Part) (A : Nt) (V : Nat → Nat → Value) (w : World) (g : Good A) (hR : RN w b A V) (hW : WR w B 164 ρ tg V A.wa) (hB : B ≤ w.heap.size)
    (tz : TgOk tg) (hb : ∀ a c, ρ b ≠ tg a c) (hnew : ∀ k, w.heap.size ≤ k → ρ k = (0, 0)) :
    Calls Try.prog 96 #[.pointer (some ⟨b, 0, none⟩), .int .i64 r] w fun e w' => e = .returned (.int .i64 (dumpCE A r)) ∧ ∃ ρ' V', RN w' b (dumpC A r) V' ∧ WR w' B 164 ρ' tg V' (dumpC A r).wa ∧ Turn b tg ρ ρ' w w' := by
  unfold dumpCE dumpC
  by_cases h0 : upE A r = 0
  · obtain ⟨h1, h2, h3⟩ := upE_zero h0
    rw [if_neg (by simpa using h0), if_pos h0]
    obtain ⟨x, rfl⟩ := Int.eq_ofNat_of_zero_le h1
    unfold dumpE dumpN
    rw [Int.toNat_natCast]
    by_cases hf : 0 < (A.rs x).fa
    · rw [if_pos hf, if_pos hf]
      refine (rdump_fail b x A V w (by omega) g hR h0 hf).mono fun e w' ⟨e1, e2, e3⟩ => ⟨e1, ρ, V, e2, ?_, Turn.onlyB hnew e3⟩
      exact hW.onlyB hb e3
    · rw [if_neg hf, if_neg hf]
      exact rdump_ok b x B ρ tg A V w (by omega) g hR hW hB tz hb hnew h0 hf
  · rw [if_pos h0, if_neg h0]
    refine (rdump_no b r A V w g.n5 hR h0).mono fun e w' ⟨e1, e2⟩ => ?_
    subst e2
    exact ⟨e1, ρ, V, hR, hW, Turn.refl hnew⟩
end Go.Proofs.Ytdoodnbobpijoaa
