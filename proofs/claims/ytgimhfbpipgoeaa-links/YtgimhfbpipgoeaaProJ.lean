import Derived.Test.YtgimhfbpipgoeaaProG
import Derived.Test.YtgimhfbpipgoeaaRefE
import Derived.Deep.DrawnRows
import Derived.Deep.RegionLaw
namespace Go.Proofs.Ytgimhfbpipgoeaa
open Go.RowKit

/-- What the links of a router cost. -/
def cA (C : Nat → Nat → Int) (x : Nat) : Array Value := ((List.range 5).map fun j => I (C x j)).toArray
theorem cA_size (C : Nat → Nat → Int) (x : Nat) : (cA C x).size = 5 := by simp [cA]
theorem idx_cost (C : Nat → Nat → Int) (x k : Nat) (hk : k < 5) (w : World) : (Instr.index 72 (.agg (cA C x)) (.int .i64 k)).run Try.prog w = .ok (I (C x k)) w := by
  rcases k with _ | _ | _ | _ | _ | k
  · kernel_rfl
  · kernel_rfl
  · kernel_rfl
  · kernel_rfl
  · kernel_rfl
  · omega
theorem PN.costs {w : World} {bx bs n : Nat} {C : Nat → Nat → Int} {V : Nat → Nat → Value} (h : PN w bx bs n C V) (x : Nat) (hx : x < 5) : midA w bx (1 + x * 5) 5 = cA C x ∧ MidOk w bx (1 + x * 5) 5 :=
  midA_eq (cA_size C x) fun j v hv => by
    have hj : j < 5 := by have := (List.getElem?_eq_some_iff.1 hv).1; simpa [cA] using this
    have : v = I (C x j) := by simpa [cA, List.getElem?_map, List.getElem?_range hj] using hv.symm
    rw [h.c x j hx hj, this]
theorem PN.send {w w2 : World} {bx bs n : Nat} {C : Nat → Nat → Int} {V : Nat → Nat → Value} (hR : PN w bx bs n C V) (x y : Nat) (hx : x < 5) (hy : y < 5) (v : Value) (h1 : w2.heap[bx]? = w.heap[bx]?) (h2 : (w2.setCell ⟨bx, 26 + x * 5 + y, none⟩ v).heap[bs]? = w.heap[bs]?) :
    PN (w2.setCell ⟨bx, 26 + x * 5 + y, none⟩ v) bx bs n C (upd2 V x y v) := by
  have hc : ∀ o, w2.cell? ⟨bx, o, none⟩ = w.cell? ⟨bx, o, none⟩ := fun o => World.cell?_of_block (w := w) h1
  have ho : ∀ o, o ≠ 26 + x * 5 + y → (w2.setCell ⟨bx, 26 + x * 5 + y, none⟩ v).cell? ⟨bx, o, none⟩ = w.cell? ⟨bx, o, none⟩ := fun o h1 => by
    rw [World.cell?_setCell_other _ _ _ _ (addr_ne (by omega)), hc]
  refine ⟨?_, fun i j hi hj => ?_, fun i j hi hj => ?_, fun o => ?_, fun i j hi hj => ?_, fun o => ?_, hR.ne⟩
  · rw [ho _ (by omega)]; exact hR.rs
  · rw [ho _ (by omega)]; exact hR.c i j hi hj
  · by_cases h : i = x ∧ j = y
    · obtain ⟨rfl, rfl⟩ := h
      rw [World.cell?_setCell_same _ _ _ ((hc _).trans (hR.v i j hi hj)), upd2_same]
    · rw [ho _ (by omega), upd2_other _ _ _ _ _ _ h]; exact hR.v i j hi hj
  · rw [World.frozen?_setCell, World.frozen?_of_block (w := w) (a := ⟨bx, o, none⟩) h1]; exact hR.fz o
  · rw [World.cell?_of_block (w := w) (a := ⟨bs, _, none⟩) h2]; exact hR.r i j hi hj
  · rw [World.frozen?_of_block (w := w) (a := ⟨bs, _, none⟩) h2]; exact hR.rfz o

attribute [local go_sem ↓] Go.wp_at_zero Go.wp_at_succ ld114 st114 alc114 ld72 bs74
attribute [local go_sem] vb_ptr vo_ptr cellsL_agg size_setCells

set_option maxHeartbeats 2000000 in
theorem send_any (bx bs n x B : Nat) (M : Array Value) (ρ : Nat → Part) (tg : Nat → Nat → Part) (C : Nat → Nat → Int) (V : Nat → Nat → Value) (L : Nat → Nat → Nat) (w : World) (hx : x < 5) (hn0 : 0 < n) (hR : PN w bx bs n C V) (hW : WR w B 114 ρ tg V L) (hB : B ≤ w.heap.size) (hM : AggOk 10 (.agg M))
    (inj : ∀ a c a' c', a < 5 → c < 5 → a' < 5 → c' < 5 → tg a c = tg a' c' → a = a' ∧ c = c') (hb : ∀ a c, ρ bx ≠ tg a c) (hbs : ∀ a c, ρ bs ≠ tg a c) (hz : ∀ a c, tg a c ≠ (0, 0)) (hnew : ∀ k, w.heap.size ≤ k → ρ k = (0, 0)) :
    Calls Try.prog 61 #[.pointer (some ⟨bx, 0, none⟩), .int .i64 x, .agg M] w fun e w' => e = .returned (.tuple #[]) ∧ ∃ ρ' V', PN w' bx bs n C V' ∧ WR w' B 114 ρ' tg V' (sentL 5 C x L) ∧ (∀ k, k < w.heap.size → ρ' k = ρ k) ∧ (∀ k, w'.heap.size ≤ k → ρ' k = (0, 0)) ∧ Only (fun k => k = bx ∨ ∃ c, c < 5 ∧ ρ k = tg x c) w w' := by
  have hx' : (x : Int) < 5 := by omega
  have lbs := hR.lts hn0
  have hm1 : M.size = 10 := hM.size
  have hm2 : M.all (·.oneCell') = true := hM.one
  have P1 := hR.below hn0 ((Below.refl _ _).alloc (Nat.le_refl _) (.cells M 114))
  have kc := P1.costs x hx
  have n6 := Whole.new w 114 M
  have W1 : WR (w.alloc (.cells M 114)) B 114 ρ tg V L := hW.of fun k a c hk _ _ _ => Below.heap_alloc w _ k hk
  have O1 : Only (fun k => k = bx ∨ ∃ c, c < 5 ∧ ρ k = tg x c) w (w.alloc (.cells M 114)) := (Only.refl _ _).alloc _
  have HR : Hid (PN w bx bs n C V) := hR; clear hR
  have HW : Hid (WR w B 114 ρ tg V L) := hW; clear hW
  have HJ : Hid (∀ a c a' c', a < 5 → c < 5 → a' < 5 → c' < 5 → tg a c = tg a' c' → a = a' ∧ c = c') := inj; clear inj
  have HB : Hid (∀ a c, ρ bx ≠ tg a c) := hb; clear hb
  have HS : Hid (∀ a c, ρ bs ≠ tg a c) := hbs; clear hbs
  have HZ : Hid (∀ a c, tg a c ≠ (0, 0)) := hz; clear hz
  have HN : Hid (∀ k, w.heap.size ≤ k → ρ k = (0, 0)) := hnew; clear hnew
  have H1 : Hid (M.size = 10) := hm1; clear hm1
  have H2 : Hid (M.all (·.oneCell') = true) := hm2; clear hm2
  have HP1 : Hid (PN (w.alloc (.cells M 114)) bx bs n C V) := P1; clear P1
  have HW1 : Hid (WR (w.alloc (.cells M 114)) B 114 ρ tg V L) := W1; clear W1
  have HO1 : Hid (Only (fun k => k = bx ∨ ∃ c, c < 5 ∧ ρ k = tg x c) w (w.alloc (.cells M 114))) := O1; clear O1
  have H6 : Hid (Whole (w.alloc (.cells M 114)) w.heap.size 114 M) := n6; clear n6
  go_enter Try.func61, Try.ntmps61
  go_wp2
  go_loopw [14] (fun i wr => ∃ (k : Nat) (ρ' : Nat → Part) (V' : Nat → Nat → Value), k ≤ 5 ∧ i = .int .i64 k ∧ PN wr bx bs n C V' ∧ WR wr B 114 ρ' tg V' (sentL k C x L) ∧ (∀ j, j < w.heap.size → ρ' j = ρ j) ∧ (∀ j, wr.heap.size ≤ j → ρ' j = (0, 0)) ∧ ρ' w.heap.size = (0, 0) ∧ Whole wr w.heap.size 114 M ∧ Only (fun k => k = bx ∨ ∃ c, c < 5 ∧ ρ k = tg x c) w wr) (fun i _ => 5 - (intOf i).toNat)
  case atStart =>
    exact ⟨0, ρ, V, Nat.zero_le _, rfl, HP1.out, by rw [sentL_zero]; exact HW1.out, fun _ _ => rfl, fun j hj => HN.out j (Nat.le_trans HO1.out.size hj), HN.out _ (Nat.le_refl _), H6.out, HO1.out⟩
  case round =>
    clear kc HP1 HW1 HO1 H6
    obtain ⟨k, ρ', V', hk, rfl, r1, r2, r3, r4, r5, r6, r7⟩ := hrel
    by_cases hk5 : k < 5
    · have hk' : (k : Int) < 5 := by omega
      have ix := idx_cost C x k hk5
      have v1 := r1.v x k hx hk5
      obtain ⟨ad, cap, hv⟩ := r2.form x k hx hk5
      rw [sentL_at] at hv
      rw [hv] at v1
      have K3 : Hid (∀ j, j < w.heap.size → ρ' j = ρ j) := r3; clear r3
      have K4 : Hid (∀ j, wr.heap.size ≤ j → ρ' j = (0, 0)) := r4; clear r4
      have K5 : Hid (ρ' w.heap.size = (0, 0)) := r5; clear r5
      have KV : Hid (V' x k = .slice ad (L x k) cap) := hv; clear hv
      by_cases hC : 0 < C x k
      · by_cases hL : L x k < 6
        · have hL' : ((L x k : Nat) : Int) < 6 := by omega
          have fz := r1.fz
          have km := r6.drew.mid H1.out
          have lb : bx < wr.heap.size := r1.lt
          have K1 : Hid (PN wr bx bs n C V') := r1; clear r1
          have K2 : Hid (WR wr B 114 ρ' tg V' (sentL k C x L)) := r2; clear r2
          have K6 : Hid (Whole wr w.heap.size 114 M) := r6; clear r6
          obtain ⟨xs, hown0⟩ := K2.out.own x k hx hk5
          rw [KV.out, sentL_at] at hown0
          have Hown : Hid ((wr.alloc (.cells M 114)).drew.ownsRow B 114 10 (.slice ad (L x k) cap) (L x k) xs) := (hown0.alloc _).drew
          have Hnews : Hid (∀ j u, M.toList[j]? = some u → (wr.alloc (.cells M 114)).drew.cell? ((⟨wr.heap.size, 0, none⟩ : Addr).add j) = some u) := World.news_of_block (heap_alloc_new wr _)
          have Hone : Hid (∀ u ∈ M.toList, u.oneCell' = true) := fun u hu => (Array.all_eq_true_iff_forall_mem.1 H2.out) u (by simpa using hu)
          have Hlen : Hid (M.toList.length = 1 * 10) := by have := H1.out; show M.toList.length = 1 * 10; simp [this]
          have Hmx : Hid (L x k + 1 ≤ maxLen) := by show L x k + 1 ≤ maxLen; unfold maxLen; omega
          have HBw : Hid (B ≤ (wr.alloc (.cells M 114)).drew.heap.size) := by show B ≤ (wr.alloc (.cells M 114)).drew.heap.size; have := r7.size; simp; omega
          have Hby : Hid ((L x k + 1) * 80 ≤ 140737488355328) := by show (L x k + 1) * 80 ≤ 140737488355328; omega
          clear hown0
          have Hnb : Hid (some bx ≠ (Value.slice ad (L x k) cap).ownBlock) := fun e => by
            have h1 := K2.out.part x k bx hx hk5 (by rw [KV.out]; exact e.symm)
            rw [K3.out bx HR.out.lt] at h1
            exact HB.out x k h1
          have Hcb : Hid ((wr.alloc (.cells M 114)).drew.cell? ⟨bx, 26 + x * 5 + k, none⟩ = some (.slice ad (L x k) cap)) := (World.cell?_of_block (w := wr) (Below.heap_alloc wr _ bx lb)).trans v1
          have Hfb : Hid ((wr.alloc (.cells M 114)).drew.frozen? ⟨bx, 26 + x * 5 + k, none⟩ = false) := (World.frozen?_of_block (w := wr) (Below.heap_alloc wr _ bx lb)).trans (fz _)
          have Hlb : Hid (bx < (wr.alloc (.cells M 114)).drew.heap.size) := Nat.lt_of_lt_of_le lb (by simp)
          obtain ⟨i, z, hi1, hi2, hi3, hi4, hi5⟩ := info114
          have I1 : Hid (Try.prog.info? 114 = some i) := hi1; have I2 : Hid (i.zero = some z) := hi2; have I3 : Hid (i.size = 10) := hi3; have I4 : Hid (i.bytes = 80) := hi4; have I5 : Hid (z.cells.size = 10) := hi5
          clear hi1 hi2 hi3 hi4 hi5
          go_wp2_with fail
          go_region_law ((refine step_append_lies _ (by rfl) _ _ 74 (by rfl) B 114 i z 10 80 Try.underlying74 I1.out I2.out I3.out I4.out I5.out (by omega) (.slice ad (L x k) cap) (L x k) xs (by rfl) Hown.out ⟨wr.heap.size, 0, none⟩ 1 1 M.toList (by rfl) Hlen.out Hnews.out Hone.out (by omega) Hmx.out Hby.out HBw.out (wr.heap.size + 1) (by simp) ?_; intro g cap' w2 ho2 hgrow hat hlt2; have cb := (hgrow.cell_far ⟨bx, 26 + x * 5 + k, none⟩ Hlb.out Hnb.out).trans Hcb.out; have fb := (hgrow.frozen_far ⟨bx, 26 + x * 5 + k, none⟩ Hlb.out Hnb.out).trans Hfb.out))
          all_goals go_wp2
          all_goals
            have hst := send_step (w := w) (mb := w.heap.size) (o := 26 + x * 5 + k) (L := sentL k C x L) (V := V') (.slice (some ⟨g, 0, none⟩) (L x k + 1) cap') K2.out HJ.out hx hk5 (by rw [sentL_at]; exact hL) HR.out.lt HB.out HZ.out K3.out K4.out K5.out K6.out.lt (Nat.ne_of_gt HR.out.lt) r7
              (w0 := (wr.alloc (.cells M 114)).drew) (((Below.refl _ _).alloc (Nat.le_refl _) _).drew) (by simp) (by rw [sentL_at]; exact ho2) (by rw [KV.out]; exact hgrow) (by rw [KV.out]; exact hat) hlt2 (by rw [sentL_at])
            obtain ⟨s1, s2, s3, s4, s5, s6, s7⟩ := hst
            rw [sentL_at] at s2
            have hns : ¬ (bs = bx ∨ ∃ c, c < 5 ∧ ρ bs = tg x c) := by
              rintro (e | ⟨c, _, e⟩)
              · exact HR.out.ne e.symm
              · exact HS.out x c e
            have s8 := (s7.block bs lbs hns).trans (r7.block bs lbs hns).symm
            go_roundw
            case rel => exact ⟨k + 1, _, _, by omega, by go_num, K1.out.send x k hx hk5 _ s1 s8, by rw [sentL_send k C x L hC hL]; exact s2, s3, s4, s5, K6.out.of s6, s7⟩
            case measure => simp [intOf]; omega
        · have hL' : ¬ ((L x k : Nat) : Int) < 6 := by omega
          go_wp2
          go_roundw
          case rel => exact ⟨k + 1, ρ', V', by omega, by go_num, r1, by rw [sentL_skip k C x L (fun h => hL h.2)]; exact r2, K3.out, K4.out, K5.out, r6, r7⟩
          case measure => simp [intOf]; omega
      · go_wp2
        go_roundw
        case rel => exact ⟨k + 1, ρ', V', by omega, by go_num, r1, by rw [sentL_skip k C x L (fun h => hC h.1)]; exact r2, K3.out, K4.out, K5.out, r6, r7⟩
        case measure => simp [intOf]; omega
    · have hk6 : k = 5 := by omega
      subst hk6
      have K3 : Hid (∀ j, j < w.heap.size → ρ' j = ρ j) := r3; clear r3
      have K4 : Hid (∀ j, wr.heap.size ≤ j → ρ' j = (0, 0)) := r4; clear r4
      have K5 : Hid (ρ' w.heap.size = (0, 0)) := r5; clear r5
      go_wp2
      go_end0
      exact ⟨rfl, ρ', V', r1, r2, K3.out, K4.out, r7⟩
end Go.Proofs.Ytgimhfbpipgoeaa
