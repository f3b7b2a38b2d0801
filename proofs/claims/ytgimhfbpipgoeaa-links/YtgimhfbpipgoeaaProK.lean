import Derived.Test.YtgimhfbpipgoeaaProI
import Derived.Test.YtgimhfbpipgoeaaProJ
import Derived.Defers
import Derived.Recover
import Derived.Laws.Pointers
import Derived.Deep.DrawnRows
namespace Go.Proofs.Ytgimhfbpipgoeaa
open Go.RowKit

theorem catch_idle (p q : Value) (w : World) :
    CallsD Try.prog 70 #[p, q] .returning w fun e u' w' => e = .returned (.tuple #[]) ∧ u' = .returning ∧ w' = w := by
  refine callsD_of_wpS Try.func70 rfl fun c₀ cs hu => ?_
  apply wpS_seq
  apply wpS_region
  simp [wpOpsS, go_sem, recoverD, hu, Try.ntmps70, Exit.thenS]
  apply wpS_seq
  apply wpS_seq
  apply wpS_region
  simp [wpOpsS, go_sem, Exit.thenS]
  refine wpS_cond (t := true) (by simp [Act.eval, Array.replicate]) ?_
  simp only [if_true]
  refine wpS_of_wp (wp_ret ?_)
  cases c₀
  simp_all [Exit.thenS, bodyPostS, results, Try.results70]

theorem PN.kb {w : World} {bx bs n : Nat} {C : Nat → Nat → Int} {V : Nat → Nat → Value} (h : PN w bx bs n C V) (x : Nat) (hx : x < n) : KB w bs (x * 74) := ⟨fun j hj => h.r x j hx hj, h.rfz⟩
theorem PN.same {w w' : World} {bx bs n : Nat} {C : Nat → Nat → Int} {V : Nat → Nat → Value} (h : PN w bx bs n C V) (hn : 0 < n) (hs : Same bs w w') : PN w' bx bs n C V := by
  have hx := h.lt
  have hb := h.lts hn
  have hc : ∀ o, w'.cell? ⟨bx, o, none⟩ = w.cell? ⟨bx, o, none⟩ := fun o => (hs.cell ⟨bx, o, none⟩ hx).1
  have hf : ∀ o, w'.frozen? ⟨bx, o, none⟩ = w.frozen? ⟨bx, o, none⟩ := fun o => (hs.cell ⟨bx, o, none⟩ hx).2
  have hc' : ∀ o, w'.cell? ⟨bs, o, none⟩ = w.cell? ⟨bs, o, none⟩ := fun o => (hs.cell ⟨bs, o, none⟩ hb).1
  have hf' : ∀ o, w'.frozen? ⟨bs, o, none⟩ = w.frozen? ⟨bs, o, none⟩ := fun o => (hs.cell ⟨bs, o, none⟩ hb).2
  exact ⟨by rw [hc]; exact h.rs, fun a b ha hb => by rw [hc]; exact h.c a b ha hb, fun a b ha hb => by rw [hc]; exact h.v a b ha hb, fun o => by rw [hf]; exact h.fz o, fun i j hi hj => by rw [hc']; exact h.r i j hi hj, fun o => by rw [hf']; exact h.rfz o, h.ne⟩

def SD (bw bq bx bs n x : Nat) (C : Nat → Nat → Int) (w' : World) : Prop := w'.cell? ⟨bw, 0, none⟩ = some (.pointer (some ⟨bx, 0, none⟩)) ∧ w'.cell? ⟨bq, 0, none⟩ = some (.int .i64 x) ∧ w'.cell? ⟨bx, 0, none⟩ = some (.slice (some ⟨bs, 0, none⟩) n n) ∧ midA w' bx (1 + x * 5) 5 = cA C x ∧ MidOk w' bx (1 + x * 5) 5
theorem SD_drew {bw bq bx bs n x : Nat} {C : Nat → Nat → Int} {w : World} (h : SD bw bq bx bs n x C w) : SD bw bq bx bs n x C w.drew := h
theorem SD_same {bw bq bx bs n x : Nat} {C : Nat → Nat → Int} {w w' : World} (h : SD bw bq bx bs n x C w) (hs : Same bs w w') : SD bw bq bx bs n x C w' := by
  obtain ⟨h1, h2, h3, h4, h5⟩ := h
  have := SM_same (b := bx) (o := 1 + x * 5) (n := 5) (T := cA C x) ⟨h4, h5⟩ (by omega) hs.cell
  exact ⟨by rw [(hs.cell ⟨bw, 0, none⟩ (lt_of_cell h1)).1]; exact h1, by rw [(hs.cell ⟨bq, 0, none⟩ (lt_of_cell h2)).1]; exact h2, by rw [(hs.cell ⟨bx, 0, none⟩ (lt_of_cell h3)).1]; exact h3, this.1, this.2⟩
theorem SD_sent {bw bq bx bs n x : Nat} {C : Nat → Nat → Int} {V : Nat → Nat → Value} {S : Nat → Prop} {w w' : World} (h : SD bw bq bx bs n x C w) (hx : x < 5) (hp : PN w' bx bs n C V) (ho : Only S w w') (h1 : ¬ S bw) (h2 : ¬ S bq) : SD bw bq bx bs n x C w' := by
  obtain ⟨g1, g2, g3, g4, g5⟩ := h
  exact ⟨by rw [ho.cell (p := ⟨bw, 0, none⟩) (lt_of_cell g1) h1]; exact g1, by rw [ho.cell (p := ⟨bq, 0, none⟩) (lt_of_cell g2) h2]; exact g2, hp.rs, (hp.costs x hx).1, (hp.costs x hx).2⟩

attribute [local go_sem ↓] Go.wp_at_zero Go.wp_at_succ ld72
attribute [local go_sem] vb_ptr vo_ptr cellsL_agg size_setCells

set_option maxHeartbeats 2000000 in
theorem dump1_any (bw bq bx bs n x B : Nat) (lg : Value) (ρ : Nat → Part) (tg : Nat → Nat → Part) (C : Nat → Nat → Int) (V : Nat → Nat → Value) (L : Nat → Nat → Nat) (w : World) (hn : n ≤ 5) (hxn : x < n) (hR : PN w bx bs n C V) (hW : WR w B 114 ρ tg V L) (hB : B ≤ w.heap.size)
    (inj : ∀ a c a' c', a < 5 → c < 5 → a' < 5 → c' < 5 → tg a c = tg a' c' → a = a' ∧ c = c') (hb : ∀ a c, ρ bx ≠ tg a c) (hbs : ∀ a c, ρ bs ≠ tg a c) (hz : ∀ a c, tg a c ≠ (0, 0)) (hnew : ∀ k, w.heap.size ≤ k → ρ k = (0, 0))
    (hw1 : w.cell? ⟨bw, 0, none⟩ = some (.pointer (some ⟨bx, 0, none⟩))) (hw2 : w.cell? ⟨bq, 0, none⟩ = some (.int .i64 x)) (hr1 : ρ bw = (0, 0)) (hr2 : ρ bq = (0, 0)) (hd1 : bw ≠ bx) (hd2 : bq ≠ bx) :
    Calls Try.prog 60 #[lg, .pointer (some ⟨bw, 0, none⟩), .pointer (some ⟨bq, 0, none⟩)] w fun e w' => e = .returned (.tuple #[]) ∧ ∃ ρ' V', PN w' bx bs n C V' ∧ WR w' B 114 ρ' tg V' (sentL 5 C x L) ∧ (∀ k, k < w.heap.size → ρ' k = ρ k) ∧ (∀ k, w'.heap.size ≤ k → ρ' k = (0, 0)) ∧ Only (fun k => k = bs ∨ k = bx ∨ ∃ c, c < 5 ∧ ρ k = tg x c) w w' := by
  have hx5 : x < 5 := by omega
  have hx' : (x : Int) < 5 := by omega
  have hxn' : (x : Int) < (n : Int) := by omega
  have hx0 : (0 : Int) ≤ (x : Int) := by omega
  have hI : SD bw bq bx bs n x C w := ⟨hw1, hw2, hR.rs, (hR.costs x hx5).1, (hR.costs x hx5).2⟩
  have K0 : KB w.drew bs (x * 74) := (hR.kb x hxn).of rfl
  have n1 : ¬ (bw = bx ∨ ∃ c, c < 5 ∧ ρ bw = tg x c) := by
    rintro (e | ⟨c, _, e⟩)
    · exact hd1 e
    · exact hz x c (by rw [← e, hr1])
  have n2 : ¬ (bq = bx ∨ ∃ c, c < 5 ∧ ρ bq = tg x c) := by
    rintro (e | ⟨c, _, e⟩)
    · exact hd2 e
    · exact hz x c (by rw [← e, hr2])
  have HR : Hid (PN w bx bs n C V) := hR; clear hR
  have HW : Hid (WR w B 114 ρ tg V L) := hW; clear hW
  have HJ : Hid (∀ a c a' c', a < 5 → c < 5 → a' < 5 → c' < 5 → tg a c = tg a' c' → a = a' ∧ c = c') := inj; clear inj
  have HB : Hid (∀ a c, ρ bx ≠ tg a c) := hb; clear hb
  have HS : Hid (∀ a c, ρ bs ≠ tg a c) := hbs; clear hbs
  have HZ : Hid (∀ a c, tg a c ≠ (0, 0)) := hz; clear hz
  have HN : Hid (∀ k, w.heap.size ≤ k → ρ k = (0, 0)) := hnew; clear hnew
  have N1 : Hid (¬ (bw = bx ∨ ∃ c, c < 5 ∧ ρ bw = tg x c)) := n1; clear n1
  have N2 : Hid (¬ (bq = bx ∨ ∃ c, c < 5 ∧ ρ bq = tg x c)) := n2; clear n2
  clear hr1 hr2 hd1 hd2 hw1 hw2
  go_enter Try.func60, Try.ntmps60
  go_wp2
  go_region_held3 (fun w' => w'.cell? ⟨bw, 0, none⟩ = some (.pointer (some ⟨bx, 0, none⟩)) ∧ w'.cell? ⟨bq, 0, none⟩ = some (.int .i64 x) ∧ w'.cell? ⟨bx, 0, none⟩ = some (.slice (some ⟨bs, 0, none⟩) n n) ∧ midA w' bx (1 + x * 5) 5 = cA C x ∧ MidOk w' bx (1 + x * 5) 5)
    (first | exact SD_drew hI | exact SD_sent (by assumption) hx5 p2 o2 N1.out N2.out | exact SD_same (by assumption) hs1)
    (first | (go_at_call 62; refine (rdumpP_any bs (x * 74) x (cA C x) lg _ hx5 (cA_size C x) K0).mono ?_; rintro e w1 ⟨rfl, hs1⟩) |
      (go_at_call 61; refine (send_any bx bs n x B (mkA 5 x) ρ tg C V L _ hx5 (by omega) (PN.same (HR.out.of (w' := w.drew) rfl rfl) (by omega) hs1) (HW.out.of (fun k a c hk _ _ hp => hs1.only.block k hk (fun e => HS.out a c (e ▸ hp)))) (Nat.le_trans hB hs1.only.size) (aggOk_mk 5 x) HJ.out HB.out HS.out HZ.out (fun k hk => HN.out k (Nat.le_trans hs1.only.size hk))).mono ?_; rintro e w2 ⟨rfl, ρ', V', p2, q2, a2, b2, o2⟩))
  go_end0
  have z1 := hs1.only.size
  refine ⟨rfl, ρ', V', p2, q2, fun k hk => a2 k (Nat.lt_of_lt_of_le hk z1), b2, o2.os.trans hs1.only.os, o2.tape.trans hs1.only.tape, o2.output.trans hs1.only.output, Nat.le_trans z1 o2.size, fun k hk hs => ?_⟩
  exact (o2.block k (Nat.lt_of_lt_of_le hk z1) (fun h => hs (.inr h))).trans (hs1.only.block k hk (fun h => hs (.inl h)))

end Go.Proofs.Ytgimhfbpipgoeaa
