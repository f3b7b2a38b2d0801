import Derived.Test.YtgimhfbpipgoeaaRefD
import Derived.Deep.DrawnRows
namespace Go.Proofs.Ytgimhfbpipgoeaa
open Go.RowKit

/-- The table behind k rounds. -/
def tkA (k : Nat) : Array Value := ((List.range 36).map fun o => if o = 0 then I 0 else if o < 26 then (if (o - 1) / 5 < k ∧ (o - 1) % 5 = 0 then I (-1) else I 0) else (if (o - 26) / 2 < k ∧ (o - 26) % 2 = 0 then I (-1) else I 0)).toArray
theorem tkA_size (k : Nat) : (tkA k).size = 36 := by simp [tkA]
theorem tkA_one (k : Nat) : (tkA k).all (·.oneCell') = true := by
  rw [Array.all_eq_true_iff_forall_mem]
  intro v hv
  simp only [tkA, List.mem_toArray, List.mem_map] at hv
  obtain ⟨o, _, rfl⟩ := hv
  split
  · rfl
  · split <;> split <;> rfl
theorem tkA_zero : tkA 0 = Zk := by rw [Zk_eq]; rfl
theorem tkA_five : tkA 5 = blankA := by unfold blankA; rw [blankL_eq]; rfl
theorem tkA_step (k : Nat) (hk : k < 5) : (((((((tkA k).setIfInBounds (1 + k * 5) (I (-1))).setIfInBounds (1 + k * 5 + 1) (I 0)).setIfInBounds (1 + k * 5 + 2) (I 0)).setIfInBounds (1 + k * 5 + 3) (I 0)).setIfInBounds (1 + k * 5 + 4) (I 0)).setIfInBounds (26 + k * 2) (I (-1))).setIfInBounds (26 + k * 2 + 1) (I 0) = tkA (k + 1) := by
  rcases k with _ | _ | _ | _ | _ | k
  · kernel_rfl
  · kernel_rfl
  · kernel_rfl
  · kernel_rfl
  · kernel_rfl
  · omega
theorem Whole.set {w : World} {b : Nat} {t : TypeId} {C : Array Value} (h : Whole w b t C) (o : Nat) (v : Value) : Whole (w.setCell ⟨b, o, none⟩ v) b t (C.setIfInBounds o v) := ⟨by rw [heap_setCell_same w b o C t v h.is]⟩

/-- The net's cells, as they are made. -/
def nz (m : Int) (o : Nat) : Value := if o = 0 then I m else if o < 371 then (if (o - 1) % 74 = 73 then .bool false else I 0) else if o < 396 then I 0 else .slice none 0 0
def netW (m : Int) (n : Nat) : List Value := if n = 0 then (List.range 421).map (nz m) else netW m (n - 1)
theorem netW_eq (m : Int) : netW m 0 = (List.range 421).map (nz m) := by rw [netW]; rfl
def netZ (m : Int) : Array Value := (netW m 0).toArray
theorem netZ_eq (m : Int) : netZ m = ((List.range 421).map (nz m)).toArray := by unfold netZ; rw [netW_eq]
theorem netZ_at (m : Int) (o : Nat) (h : o < 421) : (netZ m)[o]? = some (nz m o) := by rw [netZ_eq]; simp [h]
theorem bl102 (m : Int) (w : World) : (Instr.build 102 #[(0, .int .i64 m)]).run Try.prog w = .ok (.agg (netZ m)) w := by rw [netZ_eq]; kernel_rfl
theorem bld102 (w : World) (ρ : Operand → Value) (x : Operand) (ds : Option Tmp) (ty : TypeId) (ps : String) (af : Array Edge) (g : Option (Nat × Bool)) (h3 : ρ x = .int .i64 (intOf (ρ x))) :
    (execOp ρ { dst := ds, op := .build 102 #[(0, x)], type := ty, pos := ps, after := af, guard := g }).run Try.prog w = .ok (.value (.agg (netZ (intOf (ρ x))))) w := by
  have hr := bl102 (intOf (ρ x)) w
  rw [← h3] at hr
  simp only [execOp, Sem.run_bind, List.map_toArray, List.map_cons, List.map_nil, hr, Result.andThen_ok, Sem.run_pure]
theorem intOf_int (k : IntKind) (m : Int) : intOf (.int k m) = m := rfl

theorem none_b (w : World) : Calls Try.prog 46 #[] w fun e w' => e = .returned (.agg #[.int .i64 (-1), .int .i64 0, .int .i64 0, .int .i64 0, .int .i64 0]) ∧ Below w.heap.size w w' :=
  (none_any w).mono fun e w' ⟨h1, h2⟩ => ⟨h1, by rw [← h2]; exact (Below.refl _ _).alloc (Nat.le_refl _) _⟩

set_option maxHeartbeats 400000 in
theorem rnew_no (n : Int) (w : World) (h : n < 2 ∨ 5 < n) :
    Calls Try.prog 14 #[.int .i64 n] w fun e w' => e = .returned (.tuple #[.pointer none, .int .i64 1]) ∧ w = w' := by
  rcases h with h | h
  · go_enter Try.func14, Try.ntmps14
    go_wp2
    go_ret2
    exact ⟨rfl, rfl⟩
  · have : ¬ n < 2 := by omega
    go_enter Try.func14, Try.ntmps14
    go_wp2
    go_ret2
    exact ⟨rfl, rfl⟩

attribute [local go_sem ↓] Go.wp_at_zero Go.wp_at_succ ld91 st91 alc91 bld102
attribute [local go_sem] vb_ptr vo_ptr cellsL_agg size_setCells intOf_int

theorem setCells_drew (b : Nat) : ∀ (vs : List Value) (o : Nat) (w : World), w.drew.setCells b o vs = (w.setCells b o vs).drew := fun vs => by
  induction vs with
  | nil => intro o w; rfl
  | cons v r ih => intro o w; rw [World.setCells, World.setCells, ← ih]; rfl
def S13 (a b o : Nat) (w' : World) : Prop := midA w' a 0 36 = blankA ∧ MidOk w' a 0 36 ∧ w'.there b o 36
theorem S13_store {a b o : Nat} {w : World} (h : S13 a b o w) (hab : a ≠ b) (l : List Value) : S13 a b o (w.setCells b o l) := by
  have e : (w.setCells b o l).heap[a]? = w.heap[a]? := (setCells_block b l o w).2.1 _ hab
  exact ⟨by rw [midA_of e]; exact h.1, h.2.1.of e, World.there_setCells h.2.2 _ _ _⟩
theorem S13_drew {a b o : Nat} {w : World} (h : S13 a b o w) : S13 a b o w.drew := h
/-- The net behind k rounds. -/
structure NK (w : World) (b : Nat) (n : Int) (k : Nat) : Prop where
  n : w.cell? ⟨b, 0, none⟩ = some (I n)
  lo : ∀ i j, i < k → j < 72 → w.cell? ⟨b, 1 + i * 74 + j, none⟩ = some (bk j)
  hi : ∀ i, i < 5 → w.cell? ⟨b, 1 + i * 74 + 72, none⟩ = some (I 0) ∧ w.cell? ⟨b, 1 + i * 74 + 73, none⟩ = some (.bool false)
  c : ∀ o, 371 ≤ o → o < 396 → w.cell? ⟨b, o, none⟩ = some (I 0)
  v : ∀ o, 396 ≤ o → o < 421 → w.cell? ⟨b, o, none⟩ = some (.slice none 0 0)
  all : ∀ o, o < 421 → (w.cell? ⟨b, o, none⟩).isSome = true
  fz : ∀ o, w.frozen? ⟨b, o, none⟩ = false
theorem NK.of {w w' : World} {b : Nat} {n : Int} {k : Nat} (h : NK w b n k) (hb : w'.heap[b]? = w.heap[b]?) : NK w' b n k := by
  have hc : ∀ o, w'.cell? ⟨b, o, none⟩ = w.cell? ⟨b, o, none⟩ := fun o => World.cell?_of_block (w := w) hb
  have hf : ∀ o, w'.frozen? ⟨b, o, none⟩ = w.frozen? ⟨b, o, none⟩ := fun o => World.frozen?_of_block (w := w) hb
  exact ⟨by rw [hc]; exact h.n, fun i j hi hj => by rw [hc]; exact h.lo i j hi hj, fun i hi => by rw [hc, hc]; exact h.hi i hi, fun o h1 h2 => by rw [hc]; exact h.c o h1 h2, fun o h1 h2 => by rw [hc]; exact h.v o h1 h2, fun o h1 => by rw [hc]; exact h.all o h1, fun o => by rw [hf]; exact h.fz o⟩
theorem NK.zero (w : World) (n : Int) : NK (w.alloc (.cells (netZ n) 102)) w.heap.size n 0 := by
  have h := Whole.new w 102 (netZ n)
  have hc : ∀ o, o < 421 → (w.alloc (.cells (netZ n) 102)).cell? ⟨w.heap.size, o, none⟩ = some (nz n o) := fun o ho => by rw [h.cell o, netZ_at n o ho]
  refine ⟨by rw [hc 0 (by omega)]; rfl, fun i j hi => by omega, fun i hi => ⟨?_, ?_⟩, fun o h1 h2 => ?_, fun o h1 h2 => ?_, fun o ho => by rw [hc o ho]; rfl, h.frozen⟩
  · rw [hc _ (by omega)]; unfold nz; rw [if_neg (by omega), if_pos (by omega), if_neg (by omega)]
  · rw [hc _ (by omega)]; unfold nz; rw [if_neg (by omega), if_pos (by omega), if_pos (by omega)]
  · rw [hc _ (by omega)]; unfold nz; rw [if_neg (by omega), if_neg (by omega), if_pos (by omega)]
  · rw [hc _ (by omega)]; unfold nz; rw [if_neg (by omega), if_neg (by omega), if_neg (by omega)]
theorem NK.there {w : World} {b : Nat} {n : Int} {k : Nat} (h : NK w b n k) (o m : Nat) (hm : o + m ≤ 421) : w.there b o m := fun j hj => ⟨h.all _ (by omega), h.fz _⟩
theorem NK.step {w : World} {b : Nat} {n : Int} {k : Nat} (h : NK w b n k) (hk : k < 5) : NK ((w.setCells b (1 + k * 74) blankA.toList).setCells b (1 + k * 74 + 36) blankA.toList) b n (k + 1) := by
  have hlen : blankA.toList.length = 36 := by simp [blankA, blankL_length]
  have hat : ∀ j (hj : j < blankA.toList.length), blankA.toList[j] = bk j := fun j hj => by
    have h2 := (bk_low j (by omega)).1
    have : blankA.toList = blankL := by simp [blankA]
    simp only [this]
    exact (List.getElem?_eq_some_iff.1 h2).2
  have hout : ∀ o, (o < 1 + k * 74 ∨ 1 + k * 74 + 72 ≤ o) → ((w.setCells b (1 + k * 74) blankA.toList).setCells b (1 + k * 74 + 36) blankA.toList).cell? ⟨b, o, none⟩ = w.cell? ⟨b, o, none⟩ := fun o ho => by
    rw [World.cell?_setCells_out _ _ _ _ _ (fun _ _ => by rw [hlen]; show o < _ ∨ _ ≤ o; omega), World.cell?_setCells_out _ _ _ _ _ (fun _ _ => by rw [hlen]; show o < _ ∨ _ ≤ o; omega)]
  have hin : ∀ j, j < 72 → ((w.setCells b (1 + k * 74) blankA.toList).setCells b (1 + k * 74 + 36) blankA.toList).cell? ⟨b, 1 + k * 74 + j, none⟩ = some (bk j) := fun j hj => by
    by_cases h36 : j < 36
    · rw [World.cell?_setCells_out _ _ _ _ _ (fun _ _ => by rw [hlen]; show 1 + k * 74 + j < _ ∨ _; omega), World.cell?_setCells_in b _ _ w (fun i hi => h.all _ (by omega)) j (by omega), hat j (by omega)]
    · have e : 1 + k * 74 + j = 1 + k * 74 + 36 + (j - 36) := by omega
      rw [e, World.cell?_setCells_in b _ _ _ (fun i hi => World.isSome_setCells _ _ _ _ _ (h.all _ (by omega))) (j - 36) (by omega), hat _ (by omega)]
      rw [← (bk_low (j - 36) (by omega)).2, show 36 + (j - 36) = j from by omega]
  refine ⟨by rw [hout _ (by omega)]; exact h.n, fun i j hi hj => ?_, fun i hi => ?_, fun o h1 h2 => by rw [hout _ (by omega)]; exact h.c o h1 h2, fun o h1 h2 => by rw [hout _ (by omega)]; exact h.v o h1 h2, fun o ho => World.isSome_setCells _ _ _ _ _ (World.isSome_setCells _ _ _ _ _ (h.all o ho)), fun o => by rw [World.frozen?_setCells, World.frozen?_setCells]; exact h.fz o⟩
  · by_cases hik : i = k
    · subst hik; exact hin j hj
    · rw [hout _ (by omega)]; exact h.lo i j (by omega) hj
  · rw [hout _ (by omega), hout _ (by omega)]; exact h.hi i hi
theorem NK.rn {w : World} {b n : Nat} (h : NK w b n 5) : RN w b n (fun _ _ => 0) (fun _ _ => .slice none 0 0) := by
  refine ⟨h.n, fun i j hi hj => ?_, fun a c ha hc => h.c _ (by omega) (by omega), fun a c ha hc => h.v _ (by omega) (by omega), h.fz⟩
  by_cases h72 : j < 72
  · exact h.lo i j hi h72
  · by_cases e : j = 72
    · subst e; exact (h.hi i hi).1
    · have e : j = 73 := by omega
      subst e; exact (h.hi i hi).2

set_option maxHeartbeats 1000000 in
theorem rnew_ok (n : Nat) (w : World) (h2 : 2 ≤ n) (h5 : n ≤ 5) :
    Calls Try.prog 14 #[.int .i64 n] w fun e w' => ∃ br, w.heap.size ≤ br ∧ e = .returned (.tuple #[.pointer (some ⟨br, 0, none⟩), .int .i64 0]) ∧ RN w' br n (fun _ _ => 0) (fun _ _ => .slice none 0 0) ∧ Below w.heap.size w w' := by
  have g2 : ¬ (n : Int) < 2 := by omega
  have g5 : ¬ (5 : Int) < (n : Int) := by omega
  go_enter Try.func14, Try.ntmps14
  go_wp2
  have hS := Whole.new w 91 Zk
  have hBel : Below w.heap.size w (w.alloc (.cells Zk 91)) := (Below.refl _ _).alloc (Nat.le_refl _) _
  go_loopw [5] (fun i wr => ∃ k : Nat, k ≤ 5 ∧ i = .int .i64 k ∧ Whole wr w.heap.size 91 (tkA k) ∧ Below w.heap.size w wr) (fun i _ => 5 - (intOf i).toNat)
  case atStart => exact ⟨0, by omega, rfl, by rw [tkA_zero]; exact hS, hBel⟩
  case round =>
    clear hS hBel
    obtain ⟨k, hk, rfl, q1, q4⟩ := hrel
    by_cases hk5 : k < 5
    · have hk' : (k : Int) < 5 := by omega
      go_wp2_with (first | (go_at_call 46; refine (none_b _).mono ?_; rintro e w1 ⟨rfl, hb1⟩; have p1 := (q1.below hb1).row (tkA_size k) (tkA_one k); obtain ⟨v0, e0⟩ := p1.cell (1 + k * 5) (by omega); obtain ⟨v1, e1⟩ := p1.cell (1 + k * 5 + 1) (by omega); obtain ⟨v2, e2⟩ := p1.cell (1 + k * 5 + 2) (by omega); obtain ⟨v3, e3⟩ := p1.cell (1 + k * 5 + 3) (by omega); obtain ⟨v4, e4⟩ := p1.cell (1 + k * 5 + 4) (by omega); have f1 := p1.frozen) |
        (go_at_call 47; refine (nothing_b _).mono ?_; rintro e w2 ⟨rfl, hb2⟩; have p2 := Row.below (((((p1.setCell _ _ rfl).setCell _ _ rfl).setCell _ _ rfl).setCell _ _ rfl).setCell _ _ rfl) hb2; obtain ⟨v5, e5⟩ := p2.cell (26 + k * 2) (by omega); obtain ⟨v6, e6⟩ := p2.cell (26 + k * 2 + 1) (by omega); have f2 := p2.frozen))
      have z1 := q4.size
      have z2 := hb1.size
      have z3 := hb2.size
      have P1 := q1.below hb1
      have P2 := Whole.below (((((P1.set (1 + k * 5) (I (-1))).set (1 + k * 5 + 1) (I 0)).set (1 + k * 5 + 2) (I 0)).set (1 + k * 5 + 3) (I 0)).set (1 + k * 5 + 4) (I 0)) hb2
      have P3 := (P2.set (26 + k * 2) (I (-1))).set (26 + k * 2 + 1) (I 0)
      rw [tkA_step k hk5] at P3
      have B1 := q4.trans (hb1.mono q4.size)
      have B2 := ((((((B1.setCell (p := ⟨w.heap.size, 1 + k * 5, none⟩) (Nat.le_refl _) (I (-1))).setCell (p := ⟨w.heap.size, 1 + k * 5 + 1, none⟩) (Nat.le_refl _) (I 0)).setCell (p := ⟨w.heap.size, 1 + k * 5 + 2, none⟩) (Nat.le_refl _) (I 0)).setCell (p := ⟨w.heap.size, 1 + k * 5 + 3, none⟩) (Nat.le_refl _) (I 0)).setCell (p := ⟨w.heap.size, 1 + k * 5 + 4, none⟩) (Nat.le_refl _) (I 0))).trans (hb2.mono (by simp; omega))
      go_roundw
      case rel => exact ⟨k + 1, by omega, by go_num, P3, (B2.setCell (p := ⟨w.heap.size, 26 + k * 2, none⟩) (Nat.le_refl _) (I (-1))).setCell (p := ⟨w.heap.size, 26 + k * 2 + 1, none⟩) (Nat.le_refl _) (I 0)⟩
      case measure => simp [intOf]; omega
    · have hk6 : k = 5 := by omega
      subst hk6
      rw [tkA_five] at q1
      have l1 := q1.lt
      go_wp2
      have hT := q1.alloc (.cells (netZ n) 102)
      have hN := NK.zero wr n
      have hBel : Below w.heap.size w (wr.alloc (.cells (netZ n) 102)) := q4.alloc q4.size _
      have hne : w.heap.size ≠ wr.heap.size := by omega
      have hle : w.heap.size ≤ wr.heap.size := by omega
      clear q1 q4 l1
      generalize hbn : wr.heap.size = bN at *
      generalize wr.alloc (.cells (netZ n) 102) = w0 at *
      clear hbn
      go_loopw [7] (fun i ws => ∃ k : Nat, k ≤ 5 ∧ i = .int .i64 k ∧ Whole ws w.heap.size 91 blankA ∧ NK ws bN n k ∧ Below w.heap.size w ws) (fun i _ => 5 - (intOf i).toNat)
      case atStart => exact ⟨0, by omega, rfl, hT, hN, hBel⟩
      case round =>
        clear hT hN hBel
        obtain ⟨k, hk, rfl, t1, t2, t3⟩ := hrel
        by_cases hk5 : k < 5
        · have hk' : (k : Int) < 5 := by omega
          have hk0 : (0 : Int) ≤ (k : Int) := by omega
          have hag := aggOk_blank
          have hI : S13 w.heap.size bN (1 + k * 74) wr := ⟨(t1.mid blankA_size).1, (t1.mid blankA_size).2, t2.there _ _ (by omega)⟩
          have hI2 : S13 w.heap.size bN (1 + k * 74 + 36) (wr.drew.setCells bN (1 + k * 74) blankA.toList) := by
            have e : (wr.drew.setCells bN (1 + k * 74) blankA.toList).heap[w.heap.size]? = wr.heap[w.heap.size]? := (setCells_block _ _ _ _).2.1 _ hne
            exact ⟨by rw [midA_of e]; exact hI.1, hI.2.1.of e, World.there_setCells ((t2.of (w' := wr.drew) rfl).there _ _ (by omega)) _ _ _⟩
          have T1 : Hid (Whole wr w.heap.size 91 blankA) := t1; clear t1
          have T2 : Hid (NK wr bN n k) := t2; clear t2
          have T3 : Hid (Below w.heap.size w wr) := t3; clear t3
          go_wp2_with fail
          go_region_held3 (fun w' => midA w' w.heap.size 0 36 = blankA ∧ MidOk w' w.heap.size 0 36 ∧ w'.there bN (1 + k * 74) 36) (first | exact S13_drew hI | exact S13_store (by assumption) hne _) (fail)
          go_wp2_with fail
          go_region_held3 (fun w' => midA w' w.heap.size 0 36 = blankA ∧ MidOk w' w.heap.size 0 36 ∧ w'.there bN (1 + k * 74 + 36) 36) (first | exact S13_drew hI2 | exact S13_store (by assumption) hne _) (fail)
          go_wp2
          go_roundw
          case rel =>
            have N1 : NK ((wr.drew.setCells bN (1 + k * 74) blankA.toList).drew.setCells bN (1 + k * 74 + 36) blankA.toList) bN n (k + 1) := by
              rw [setCells_drew]
              exact (NK.step (w := wr.drew) (T2.out.of rfl) hk5).of rfl
            (repeat apply Exists.intro)
            exact ⟨⟨k + 1, by omega, by go_num, (T1.out.drew.setCells hne _ _).drew.setCells hne _ _, N1, Below.setCells (Below.drew (Below.setCells T3.out.drew hle _ _)) hle _ _⟩, rfl⟩
          case measure => simp [intOf]; omega
        · have hk6 : k = 5 := by omega
          subst hk6
          go_wp2
          go_ret2
          exact ⟨bN, hle, rfl, t2.rn, t3⟩
end Go.Proofs.Ytgimhfbpipgoeaa
