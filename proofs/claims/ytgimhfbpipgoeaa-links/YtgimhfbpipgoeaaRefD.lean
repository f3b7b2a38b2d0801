import Derived.Test.YtgimhfbpipgoeaaRule
import Derived.Deep.DrawnRows
namespace Go.Proofs.Ytgimhfbpipgoeaa
open Go.RowKit

theorem results_cell2 {fn : Func} {p q : Tmp} {t u : TypeId} (h : fn.results = #[.cell p t, .cell q u]) (tmps : Array Value) (w : World) (g g' : Nat) (T U : Array Value)
    (hp : tmps.getD p undef = .pointer (some ⟨g, 0, none⟩)) (hq : tmps.getD q undef = .pointer (some ⟨g', 0, none⟩)) (hg : Whole w g t T) (hg' : Whole w g' u U) (d d' : TypeDesc)
    (hu : Try.prog.underlying t = some d) (hd : d.isRow = true) (hi : (Try.prog.info? t).map (·.size) = some T.size)
    (hu' : Try.prog.underlying u = some d') (hd' : d'.isRow = true) (hi' : (Try.prog.info? u).map (·.size) = some U.size) :
    (results fn tmps).run Try.prog w = .ok (.tuple #[.agg T, .agg U]) w := by
  have hp' : tmps[p]?.getD undef = .pointer (some ⟨g, 0, none⟩) := by simpa using hp
  have hq' : tmps[q]?.getD undef = .pointer (some ⟨g', 0, none⟩) := by simpa using hq
  have e1 := run_loadVar_row (P := Try.prog) w g t t T (0, 0) d hg.is hu (by cases d <;> simp_all [TypeDesc.isRow]) hi
  have e2 := run_loadVar_row (P := Try.prog) w g' u u U (0, 0) d' hg'.is hu' (by cases d' <;> simp_all [TypeDesc.isRow]) hi'
  simp [results, h, hp', hq', asAddr, e1, e2]

theorem nothing_b (w : World) : Calls Try.prog 47 #[] w fun e w' => e = .returned (.agg #[.int .i64 (-1), .int .i64 0]) ∧ Below w.heap.size w w' :=
  (nothing_any w).mono fun e w' ⟨h1, h2⟩ => ⟨h1, by rw [← h2]; exact (Below.refl _ _).alloc (Nat.le_refl _) _⟩
/-- What the last statement of 'told' reads and writes. -/
def S18 (B : Nat) (M : Array Value) (w' : World) : Prop := midA w' (B + 1 + 1 + 1) 0 10 = M ∧ MidOk w' (B + 1 + 1 + 1) 0 10 ∧ midA w' (B + 1 + 1) 0 36 = blankA ∧ MidOk w' (B + 1 + 1) 0 36 ∧ w'.there B 0 10 ∧ w'.there (B + 1) 0 36
theorem S18_store {B : Nat} {M : Array Value} {w : World} (h : S18 B M w) (g : Nat) (hg : g = B ∨ g = B + 1) (l : List Value) : S18 B M (w.setCells g 0 l) := by
  obtain ⟨h1, h2, h3, h4, h5, h6⟩ := h
  have e1 : (w.setCells g 0 l).heap[B + 1 + 1 + 1]? = w.heap[B + 1 + 1 + 1]? := (setCells_block g l 0 w).2.1 _ (by omega)
  have e2 : (w.setCells g 0 l).heap[B + 1 + 1]? = w.heap[B + 1 + 1]? := (setCells_block g l 0 w).2.1 _ (by omega)
  exact ⟨by rw [midA_of e1]; exact h1, h2.of e1, by rw [midA_of e2]; exact h3, h4.of e2, World.there_setCells h5 _ _ _, World.there_setCells h6 _ _ _⟩
theorem S18_drew {B : Nat} {M : Array Value} {w : World} (h : S18 B M w) : S18 B M w.drew := h
attribute [local go_sem ↓] Go.wp_at_zero Go.wp_at_succ ld91 st91 alc91 ld105 st105 alc105
attribute [local go_sem] vb_ptr vo_ptr cellsL_agg size_setCells

set_option maxHeartbeats 1000000 in
theorem told_any (b n x : Nat) (C : Nat → Nat → Int) (V : Nat → Nat → Value) (w : World) (hx : x < 5) (hR : RN w b n C V) :
    Calls Try.prog 64 #[.pointer (some ⟨b, 0, none⟩), .int .i64 x] w fun e w' => ∃ M : Array Value, M.size = 10 ∧ M.all (·.oneCell') = true ∧ e = .returned (.tuple #[.agg M, .agg blankA]) ∧ Below w.heap.size w w' := by
  have hx' : (x : Int) < 5 := by omega
  have hlt := hR.lt
  have hm := midA_eq (w := w) (b := b) (o := 1 + x * 74) (n := 36) (T := blankA) blankA_size (by simpa [blankA] using rangeK hR x hx)
  have hm1 : ∀ o1 o2, midA ((w.alloc o1).alloc o2) b (1 + x * 74) 36 = blankA := fun o1 o2 => by rw [midA_of (w := w) (by rw [Below.heap_alloc _ _ _ (by simp; omega), Below.heap_alloc _ _ _ hlt])]; exact hm.1
  have hm2 : ∀ o1 o2, MidOk ((w.alloc o1).alloc o2) b (1 + x * 74) 36 := fun o1 o2 => hm.2.of (by rw [Below.heap_alloc _ _ _ (by simp; omega), Below.heap_alloc _ _ _ hlt])
  have hth : ((((w.alloc (.cells Zm 105)).alloc (.cells Zk 91)).alloc (.cells Zk 91))).there (w.heap.size + 2) 0 36 := by
    have := Whole.new ((w.alloc (.cells Zm 105)).alloc (.cells Zk 91)) 91 Zk
    simp only [World.size_alloc] at this
    exact this.there Zk_size
  have hag := aggOk_blank
  clear hm
  go_enter Try.func64, Try.ntmps64
  go_wp2
  have hS := ((((Whole.new w 105 Zm).alloc (.cells Zk 91)).alloc (.cells Zk 91)).setCells (g := w.heap.size + 2) (by omega) 0 blankA.toList).alloc (.cells Zm 105)
  have hS1 := (((Whole.new (w.alloc (.cells Zm 105)) 91 Zk).alloc (.cells Zk 91)).setCells (g := w.heap.size + 2) (by simp) 0 blankA.toList).alloc (.cells Zm 105)
  have hS2 := ((Whole.new ((w.alloc (.cells Zm 105)).alloc (.cells Zk 91)) 91 Zk).over blankA (by rw [blankA_size, Zk_size])).alloc (.cells Zm 105)
  have hS3 := (Whole.new ((((w.alloc (.cells Zm 105)).alloc (.cells Zk 91)).alloc (.cells Zk 91)).setCells (w.heap.size + 2) 0 blankA.toList) 105 Zm).row Zm_size Zm_one
  have hBel : Below w.heap.size w (((((w.alloc (.cells Zm 105)).alloc (.cells Zk 91)).alloc (.cells Zk 91)).setCells (w.heap.size + 2) 0 blankA.toList).alloc (.cells Zm 105)) := (Below.setCells ((((Below.refl _ _).alloc (Nat.le_refl _) _).alloc (by simp) _).alloc (by simp; omega) _) (by omega) _ _).alloc (by simp [size_setCells]; omega) _
  simp only [World.size_alloc, size_setCells] at hS1 hS2 hS3
  clear hm1 hm2 hth
  go_loopw [8] (fun i wr => ∃ k : Nat, k ≤ 5 ∧ i = .int .i64 k ∧ Whole wr w.heap.size 105 Zm ∧ Whole wr (w.heap.size + 1) 91 Zk ∧ Whole wr (w.heap.size + 1 + 1) 91 blankA ∧ Row wr (w.heap.size + 1 + 1 + 1) 105 10 ∧ Below w.heap.size w wr) (fun i _ => 5 - (intOf i).toNat)
  case atStart => exact ⟨0, by omega, rfl, hS, hS1, hS2, hS3, hBel⟩
  case round =>
    clear hS hS1 hS2 hS3 hBel
    obtain ⟨k, hk, rfl, q0, q1, q2, q3, q4⟩ := hrel
    by_cases hk5 : k < 5
    · have hk' : (k : Int) < 5 := by omega
      have a0 := blankA_at 0 (by omega)
      have a1 := blankA_at (1 + k * 5) (by omega)
      have a2 := blankA_at (1 + k * 5 + 1) (by omega)
      have a3 := blankA_at (1 + k * 5 + 2) (by omega)
      have a4 := blankA_at (1 + k * 5 + 3) (by omega)
      have a5 := blankA_at (1 + k * 5 + 4) (by omega)
      rw [bk_next k hk5] at a1
      rw [bk_route k _ hk5 (by omega) (by omega)] at a2 a3 a4 a5
      rw [show bk 0 = I 0 from rfl] at a0
      by_cases hkx : k = x
      · subst hkx
        go_wp2_with (go_at_call 47; refine (nothing_b _).mono ?_; rintro e w1 ⟨rfl, hb⟩; have p2 := q2.below hb; have p3 := q3.below hb; obtain ⟨v1, e1⟩ := p3.cell (k * 2) (by omega); obtain ⟨v2, e2⟩ := p3.cell (k * 2 + 1) (by omega); have f3 := p3.frozen; have c2 := p2.cell; have l2 := p2.lt; have l3 := p3.lt)
        have z1 := q4.size
        have z2 := hb.size
        go_roundw
        case rel =>
          refine ⟨k + 1, by omega, by go_num, ?_, ?_, ?_, ?_, ?_⟩
          · repeat (first | exact q0.below hb | refine Whole.alloc ?_ _ | refine Whole.setCell ?_ (by dsimp only; omega) _)
          · repeat (first | exact q1.below hb | refine Whole.alloc ?_ _ | refine Whole.setCell ?_ (by dsimp only; omega) _)
          · repeat (first | exact q2.below hb | refine Whole.alloc ?_ _ | refine Whole.setCell ?_ (by dsimp only; omega) _)
          · repeat (first | exact q3.below hb | refine Row.alloc ?_ _ | refine Row.setCell ?_ _ _ rfl)
          · repeat (first | exact q4.trans (hb.mono q4.size) | refine Below.alloc ?_ (by simp; omega) _ | refine Below.setCell ?_ (by dsimp only; omega) _)
        case measure => simp [intOf]; omega
      · have hkx' : ((k : Int) == (x : Int)) = false := by rw [beq_eq_false_iff_ne]; omega
        go_wp2_with (go_at_call 47; refine (nothing_b _).mono ?_; rintro e w1 ⟨rfl, hb⟩; have p2 := q2.below hb; have p3 := q3.below hb; obtain ⟨v1, e1⟩ := p3.cell (k * 2) (by omega); obtain ⟨v2, e2⟩ := p3.cell (k * 2 + 1) (by omega); have f3 := p3.frozen; have c2 := p2.cell; have l2 := p2.lt; have l3 := p3.lt)
        have z1 := q4.size
        have z2 := hb.size
        go_roundw
        case rel =>
          refine ⟨k + 1, by omega, by go_num, ?_, ?_, ?_, ?_, ?_⟩
          · repeat (first | exact q0.below hb | refine Whole.alloc ?_ _ | refine Whole.setCell ?_ (by dsimp only; omega) _)
          · repeat (first | exact q1.below hb | refine Whole.alloc ?_ _ | refine Whole.setCell ?_ (by dsimp only; omega) _)
          · repeat (first | exact q2.below hb | refine Whole.alloc ?_ _ | refine Whole.setCell ?_ (by dsimp only; omega) _)
          · repeat (first | exact q3.below hb | refine Row.alloc ?_ _ | refine Row.setCell ?_ _ _ rfl)
          · repeat (first | exact q4.trans (hb.mono q4.size) | refine Below.alloc ?_ (by simp; omega) _ | refine Below.setCell ?_ (by dsimp only; omega) _)
        case measure => simp [intOf]; omega
    · have hk6 : k = 5 := by omega
      subst hk6
      obtain ⟨M, m1, m2, m3⟩ := q3.is
      have hI : S18 w.heap.size M wr := ⟨(m1.mid m2).1, (m1.mid m2).2, (q2.mid blankA_size).1, (q2.mid blankA_size).2, q0.there Zm_size, q1.there Zk_size⟩
      have hag' : AggOk 10 (.agg M) := ⟨rfl, m2, m3⟩
      clear hR hlt
      have Q0 : Hid (Whole wr w.heap.size 105 Zm) := q0; clear q0
      have Q1 : Hid (Whole wr (w.heap.size + 1) 91 Zk) := q1; clear q1
      have Q4 : Hid (Below w.heap.size w wr) := q4; clear q4
      have M2 : Hid (M.size = 10) := m2
      have M3 : Hid (M.all (·.oneCell') = true) := m3
      clear q2 q3 m1 m2 m3
      go_wp2_with fail
      go_region_held3 (fun w' => midA w' (w.heap.size + 1 + 1 + 1) 0 10 = M ∧ MidOk w' (w.heap.size + 1 + 1 + 1) 0 10 ∧ midA w' (w.heap.size + 1 + 1) 0 36 = blankA ∧ MidOk w' (w.heap.size + 1 + 1) 0 36 ∧ w'.there w.heap.size 0 10 ∧ w'.there (w.heap.size + 1) 0 36)
        (first | exact S18_drew hI | exact S18_store (by assumption) _ (.inl rfl) _ | exact S18_store (by assumption) _ (.inr rfl) _) (fail)
      all_goals go_wp2
      all_goals
        refine bodyPost_ret (v := .tuple #[.agg M, .agg blankA]) (results_cell2 (t := 105) (u := 91) rfl _ _ w.heap.size (w.heap.size + 1) M blankA rfl rfl ?_ ?_ _ _ Try.underlying105 rfl (by rw [size105, M2.out]) Try.underlying91 rfl (by rw [size91, blankA_size])) rfl ⟨M, M2.out, M3.out, rfl, ?_⟩
      all_goals first
        | exact (Q0.out.drew.over M (by rw [M2.out, Zm_size])).setCells (by omega) _ _
        | exact (Q1.out.drew.setCells (by omega) _ _).over blankA (by rw [blankA_size, Zk_size])
        | exact (Q0.out.drew.setCells (by omega) _ _).over M (by rw [M2.out, Zm_size])
        | exact (Q1.out.drew.over blankA (by rw [blankA_size, Zk_size])).setCells (by omega) _ _
        | exact Below.setCells (Below.setCells Q4.out.drew (by omega) _ _) (by omega) _ _
end Go.Proofs.Ytgimhfbpipgoeaa
