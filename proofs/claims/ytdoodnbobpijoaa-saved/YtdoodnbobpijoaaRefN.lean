import Derived.Test.YtdoodnbobpijoaaRefC
namespace Go.Proofs.Ytdoodnbobpijoaa
open Go.RowKit

/-! ### New -/
def nkT (k : Nat) : Tb := ⟨0, fun d => if d < k then noRt else ⟨0, 0, 0, 0, 0⟩, fun d => if d < k then noBs else ⟨0, 0⟩⟩
theorem nkT_zero : tbA (nkT 0) = Zk := by
  rw [Zk_eq]
  refine (tbA_eq _ _ (by simp) fun j hj => ?_).symm
  have e : tbV (nkT 0) j = I 0 := by
    unfold tbV
    split
    · rfl
    · split
      · show rtV ⟨0, 0, 0, 0, 0⟩ _ = I 0
        unfold rtV
        (repeat' split) <;> rfl
      · show bsV ⟨0, 0⟩ _ = I 0
        unfold bsV
        split <;> rfl
  rw [e]
  simp [hj]
theorem nkT_five : tbA (nkT 5) = tbA blankT := tbA_congr rfl (fun d hd => by show (if d < 5 then _ else _) = _; rw [if_pos hd]; rfl) (fun d hd => by show (if d < 5 then _ else _) = _; rw [if_pos hd]; rfl)
theorem nkT_step (k : Nat) : setBe (setRo (nkT k) k noRt) k noBs = nkT (k + 1) := by
  have h1 : (fun d => if d = k then noRt else if d < k then noRt else (⟨0, 0, 0, 0, 0⟩ : Rt)) = fun d => if d < k + 1 then noRt else ⟨0, 0, 0, 0, 0⟩ := by
    funext d
    by_cases e : d = k
    · subst e; rw [if_pos rfl, if_pos (by omega)]
    · rw [if_neg e]
      have : d < k + 1 ↔ d < k := by omega
      simp only [this]
  have h2 : (fun d => if d = k then noBs else if d < k then noBs else (⟨0, 0⟩ : Bs)) = fun d => if d < k + 1 then noBs else ⟨0, 0⟩ := by
    funext d
    by_cases e : d = k
    · subst e; rw [if_pos rfl, if_pos (by omega)]
    · rw [if_neg e]
      have : d < k + 1 ↔ d < k := by omega
      simp only [this]
  show (⟨0, fun d => if d = k then noRt else if d < k then noRt else (⟨0, 0, 0, 0, 0⟩ : Rt), fun d => if d = k then noBs else if d < k then noBs else (⟨0, 0⟩ : Bs)⟩ : Tb) = _
  rw [h1, h2]
  rfl
/-- The net's cells, as they are made. -/
def nz (m : Int) (o : Nat) : Value := if o = 0 then I m else if o < 371 then (if (o - 1) % 74 = 73 then .bool false else I 0) else if o < 396 then I 0 else .slice none 0 0
def netW (m : Int) (n : Nat) : List Value := if n = 0 then (List.range 421).map (nz m) else netW m (n - 1)
theorem netW_eq (m : Int) : netW m 0 = (List.range 421).map (nz m) := by rw [netW]; rfl
def netZ (m : Int) : Array Value := (netW m 0).toArray
theorem netZ_eq (m : Int) : netZ m = ((List.range 421).map (nz m)).toArray := by unfold netZ; rw [netW_eq]
theorem netZ_at (m : Int) (o : Nat) (h : o < 421) : (netZ m)[o]? = some (nz m o) := by rw [netZ_eq]; simp [h]
theorem blN (m : Int) (w : World) : (Instr.build 162 #[(0, .int .i64 m)]).run Try.prog w = .ok (.agg (netZ m)) w := by rw [netZ_eq]; kernel_rfl
theorem bldN (w : World) (ρ : Operand → Value) (x : Operand) (ds : Option Tmp) (ty : TypeId) (ps : String) (af : Array Edge) (g : Option (Nat × Bool)) (h3 : ρ x = .int .i64 (intOf (ρ x))) :
    (execOp ρ { dst := ds, op := .build 162 #[(0, x)], type := ty, pos := ps, after := af, guard := g }).run Try.prog w = .ok (.value (.agg (netZ (intOf (ρ x))))) w := by
  have hr := blN (intOf (ρ x)) w
  rw [← h3] at hr
  simp only [execOp, Sem.run_bind, List.map_toArray, List.map_cons, List.map_nil, hr, Result.andThen_ok, Sem.run_pure]
theorem intOf_int (k : IntKind) (m : Int) : intOf (.int k m) = m := rfl
set_option maxHeartbeats 400000 in
theorem rnew_no (n : Int) (w : World) (h : n < 2 ∨ 5 < n) :
    Calls Try.prog 85 #[.int .i64 n] w fun e w' => e = .returned (.tuple #[.pointer none, .int .i64 1]) ∧ w = w' := by
  rcases h with h | h
  · go_enter Try.func85, Try.ntmps85
    go_wp2
    go_ret2
    exact ⟨rfl, rfl⟩
  · have : ¬ n < 2 := by omega
    go_enter Try.func85, Try.ntmps85
    go_wp2
    go_ret2
    exact ⟨rfl, rfl⟩
attribute [local go_sem ↓] Go.wp_at_zero Go.wp_at_succ ldT stT alcT bldN
attribute [local go_sem] vb_ptr vo_ptr cellsL_agg size_setCells intOf_int
theorem setCells_drew (b : Nat) : ∀ (vs : List Value) (o : Nat) (w : World), w.drew.setCells b o vs = (w.setCells b o vs).drew := fun vs => by
  induction vs with
  | nil => intro o w; rfl
  | cons v r ih => intro o w; rw [World.setCells, World.setCells, ← ih]; rfl
def S13 (a b o : Nat) (w' : World) : Prop := midA w' a 0 36 = tbA blankT ∧ MidOk w' a 0 36 ∧ w'.there b o 36
theorem S13_store {a b o : Nat} {w : World} (h : S13 a b o w) (hab : a ≠ b) (l : List Value) : S13 a b o (w.setCells b o l) := by
  have e : (w.setCells b o l).heap[a]? = w.heap[a]? := (setCells_block b l o w).2.1 _ hab
  exact ⟨by rw [midA_of e]; exact h.1, h.2.1.of e, World.there_setCells h.2.2 _ _ _⟩
theorem S13_drew {a b o : Nat} {w : World} (h : S13 a b o w) : S13 a b o w.drew := h
def freshR : Ro := ⟨blankT, blankT, 0, false⟩
/-- The net behind k rounds. -/
structure NK (w : World) (b : Nat) (n : Int) (k : Nat) : Prop where
  n : w.cell? ⟨b, 0, none⟩ = some (I n)
  lo : ∀ i j, i < k → j < 72 → w.cell? ⟨b, 1 + i * 74 + j, none⟩ = some (roV freshR j)
  hi : ∀ i, i < 5 → w.cell? ⟨b, 1 + i * 74 + 72, none⟩ = some (I 0) ∧ w.cell? ⟨b, 1 + i * 74 + 73, none⟩ = some (.bool false)
  c : ∀ o, 371 ≤ o → o < 396 → w.cell? ⟨b, o, none⟩ = some (I 0)
  v : ∀ o, 396 ≤ o → o < 421 → w.cell? ⟨b, o, none⟩ = some (.slice none 0 0)
  all : ∀ o, o < 421 → (w.cell? ⟨b, o, none⟩).isSome = true
  fz : ∀ o, w.frozen? ⟨b, o, none⟩ = false
theorem NK.of {w w' : World} {b : Nat} {n : Int} {k : Nat} (h : NK w b n k) (hb : w'.heap[b]? = w.heap[b]?) : NK w' b n k := by
  have hc : ∀ o, w'.cell? ⟨b, o, none⟩ = w.cell? ⟨b, o, none⟩ := fun o => World.cell?_of_block (w := w) hb
  have hf : ∀ o, w'.frozen? ⟨b, o, none⟩ = w.frozen? ⟨b, o, none⟩ := fun o => World.frozen?_of_block (w := w) hb
  exact ⟨by rw [hc]; exact h.n, fun i j hi hj => by rw [hc]; exact h.lo i j hi hj, fun i hi => by rw [hc, hc]; exact h.hi i hi, fun o h1 h2 => by rw [hc]; exact h.c o h1 h2, fun o h1 h2 => by rw [hc]; exact h.v o h1 h2, fun o h1 => by rw [hc]; exact h.all o h1, fun o => by rw [hf]; exact h.fz o⟩
theorem NK.zero (w : World) (n : Int) : NK (w.alloc (.cells (netZ n) 162)) w.heap.size n 0 := by
  have h := Whole.new w 162 (netZ n)
  have hc : ∀ o, o < 421 → (w.alloc (.cells (netZ n) 162)).cell? ⟨w.heap.size, o, none⟩ = some (nz n o) := fun o ho => by rw [h.cell o, netZ_at n o ho]
  refine ⟨by rw [hc 0 (by omega)]; rfl, fun i j hi => by omega, fun i hi => ⟨?_, ?_⟩, fun o h1 h2 => ?_, fun o h1 h2 => ?_, fun o ho => by rw [hc o ho]; rfl, h.frozen⟩
  · rw [hc _ (by omega)]; unfold nz; rw [if_neg (by omega), if_pos (by omega), if_neg (by omega)]
  · rw [hc _ (by omega)]; unfold nz; rw [if_neg (by omega), if_pos (by omega), if_pos (by omega)]
  · rw [hc _ (by omega)]; unfold nz; rw [if_neg (by omega), if_neg (by omega), if_pos (by omega)]
  · rw [hc _ (by omega)]; unfold nz; rw [if_neg (by omega), if_neg (by omega), if_neg (by omega)]
theorem NK.there {w : World} {b : Nat} {n : Int} {k : Nat} (h : NK w b n k) (o m : Nat) (hm : o + m ≤ 421) : w.there b o m := fun j hj => ⟨h.all _ (by omega), h.fz _⟩
theorem NK.step {w : World} {b : Nat} {n : Int} {k : Nat} (h : NK w b n k) (hk : k < 5) : NK ((w.setCells b (1 + k * 74) (tbA blankT).toList).setCells b (1 + k * 74 + 36) (tbA blankT).toList) b n (k + 1) := by
  have hlen : (tbA blankT).toList.length = 36 := by simp [tbA_size]
  have hat : ∀ j (hj : j < (tbA blankT).toList.length), (tbA blankT).toList[j] = tbV blankT j := fun j hj => by
    have h2 := tbA_at blankT j (by omega)
    rw [← Array.getElem?_toList, List.getElem?_eq_getElem hj] at h2
    exact Option.some.inj h2
  have hout : ∀ o, (o < 1 + k * 74 ∨ 1 + k * 74 + 72 ≤ o) → ((w.setCells b (1 + k * 74) (tbA blankT).toList).setCells b (1 + k * 74 + 36) (tbA blankT).toList).cell? ⟨b, o, none⟩ = w.cell? ⟨b, o, none⟩ := fun o ho => by
    rw [World.cell?_setCells_out _ _ _ _ _ (fun _ _ => by rw [hlen]; show o < _ ∨ _ ≤ o; omega), World.cell?_setCells_out _ _ _ _ _ (fun _ _ => by rw [hlen]; show o < _ ∨ _ ≤ o; omega)]
  have hin : ∀ j, j < 72 → ((w.setCells b (1 + k * 74) (tbA blankT).toList).setCells b (1 + k * 74 + 36) (tbA blankT).toList).cell? ⟨b, 1 + k * 74 + j, none⟩ = some (roV freshR j) := fun j hj => by
    by_cases h36 : j < 36
    · rw [World.cell?_setCells_out _ _ _ _ _ (fun _ _ => by rw [hlen]; show 1 + k * 74 + j < _ ∨ _; omega), World.cell?_setCells_in b _ _ w (fun i hi => h.all _ (by omega)) j (by omega), hat j (by omega), roV_t _ _ h36]; rfl
    · have e : 1 + k * 74 + j = 1 + k * 74 + 36 + (j - 36) := by omega
      rw [e, World.cell?_setCells_in b _ _ _ (fun i hi => World.isSome_setCells _ _ _ _ _ (h.all _ (by omega))) (j - 36) (by omega), hat _ (by omega)]
      have e2 : j = 36 + (j - 36) := by omega
      rw [e2, roV_dk _ _ (by omega), ← e2]; rfl
  refine ⟨by rw [hout _ (by omega)]; exact h.n, fun i j hi hj => ?_, fun i hi => ?_, fun o h1 h2 => by rw [hout _ (by omega)]; exact h.c o h1 h2, fun o h1 h2 => by rw [hout _ (by omega)]; exact h.v o h1 h2, fun o ho => World.isSome_setCells _ _ _ _ _ (World.isSome_setCells _ _ _ _ _ (h.all o ho)), fun o => by rw [World.frozen?_setCells, World.frozen?_setCells]; exact h.fz o⟩
  · by_cases hik : i = k
    · subst hik; exact hin j hj
    · rw [hout _ (by omega)]; exact h.lo i j (by omega) hj
  · rw [hout _ (by omega), hout _ (by omega)]; exact h.hi i hi
theorem NK.rn {w : World} {b n : Nat} (h : NK w b n 5) : RN w b (newN n) (fun _ _ => .slice none 0 0) := by
  refine ⟨h.n, fun i j hi hj => ?_, fun a c ha hc => h.c _ (by omega) (by omega), fun a c ha hc => h.v _ (by omega) (by omega), h.fz⟩
  show _ = some (roV freshR j)
  by_cases h72 : j < 72
  · exact h.lo i j hi h72
  · by_cases e : j = 72
    · subst e; exact (h.hi i hi).1
    · have e : j = 73 := by omega
      subst e; exact (h.hi i hi).2
theorem newWR (w : World) (B e : Nat) (ρ : Nat → Part) (tg : Nat → Nat → Part) (n : Nat) : WR w B e ρ tg (fun _ _ => .slice none 0 0) (newN n).wa :=
  ⟨fun _ _ _ _ => ⟨rfl, .inl ⟨rfl, rfl⟩⟩, fun _ _ _ _ _ h => by cases h⟩
set_option maxHeartbeats 1000000 in
theorem rnew_ok (n : Nat) (w : World) (h2 : 2 ≤ n) (h5 : n ≤ 5) :
    Calls Try.prog 85 #[.int .i64 n] w fun e w' => ∃ br, w.heap.size ≤ br ∧ e = .returned (.tuple #[.pointer (some ⟨br, 0, none⟩), .int .i64 0]) ∧ RN w' br (newN n) (fun _ _ => .slice none 0 0) ∧ Below w.heap.size w w' := by
  have g2 : ¬ (n : Int) < 2 := by omega
  have g5 : ¬ (5 : Int) < (n : Int) := by omega
  go_enter Try.func85, Try.ntmps85
  go_wp2
  have hS := Whole.new w 153 Zk
  have hBel : Below w.heap.size w (w.alloc (.cells Zk 153)) := (Below.refl _ _).alloc (Nat.le_refl _) _
  go_loopw [5] (fun i wr => ∃ k : Nat, k ≤ 5 ∧ i = .int .i64 k ∧ Whole wr w.heap.size 153 (tbA (nkT k)) ∧ Below w.heap.size w wr) (fun i _ => 5 - (intOf i).toNat)
  case atStart => exact ⟨0, by omega, rfl, by rw [nkT_zero]; exact hS, hBel⟩
  case round =>
    clear hS hBel
    obtain ⟨k, hk, rfl, q1, q4⟩ := hrel
    by_cases hk5 : k < 5
    · have hk' : (k : Int) < 5 := by omega
      have z1 := q4.size
      go_wp2_with (first | (go_at_call 109; refine (none_any _).mono ?_; rintro e w1 ⟨rfl, hb1⟩; have p1 := q1.below hb1; obtain ⟨e0, e1, e2, e3, e4⟩ := tbA_ro5 (nkT k) k hk5; have f1 := p1.frozen; have c1 := p1.cell; have z2 := hb1.size) |
        (go_at_call 110; refine (nothing_any _).mono ?_; rintro e w2 ⟨rfl, hb2⟩; have p2 := Whole.below (p1.setRo k hk5 noRt) hb2; obtain ⟨e5, e6⟩ := tbA_be2 (setRo (nkT k) k noRt) k hk5; have f2 := p2.frozen; have c2 := p2.cell; have z3 := hb2.size))
      have B1 := q4.trans (hb1.mono q4.size)
      have B2 := ((((((B1.setCell (p := ⟨w.heap.size, 1 + k * 5, none⟩) (Nat.le_refl _) (I noRt.nx)).setCell (p := ⟨w.heap.size, 1 + k * 5 + 1, none⟩) (Nat.le_refl _) (I noRt.sq)).setCell (p := ⟨w.heap.size, 1 + k * 5 + 2, none⟩) (Nat.le_refl _) (I noRt.mt)).setCell (p := ⟨w.heap.size, 1 + k * 5 + 3, none⟩) (Nat.le_refl _) (I noRt.ag)).setCell (p := ⟨w.heap.size, 1 + k * 5 + 4, none⟩) (Nat.le_refl _) (I noRt.st))).trans (hb2.mono (by simp; omega))
      go_roundw
      case rel => exact ⟨k + 1, by omega, by go_num, by rw [← nkT_step]; exact p2.setBe k hk5 noBs, (B2.setCell (p := ⟨w.heap.size, 26 + k * 2, none⟩) (Nat.le_refl _) _).setCell (p := ⟨w.heap.size, 26 + k * 2 + 1, none⟩) (Nat.le_refl _) _⟩
      case measure => simp [intOf]; omega
    · have hk6 : k = 5 := by omega
      subst hk6
      rw [nkT_five] at q1
      have l1 := q1.lt
      go_wp2
      have hT := q1.alloc (.cells (netZ n) 162)
      have hN := NK.zero wr n
      have hBel : Below w.heap.size w (wr.alloc (.cells (netZ n) 162)) := q4.alloc q4.size _
      have hne : w.heap.size ≠ wr.heap.size := by omega
      have hle : w.heap.size ≤ wr.heap.size := by omega
      clear q1 q4 l1
      generalize hbn : wr.heap.size = bN at *
      generalize wr.alloc (.cells (netZ n) 162) = w0 at *
      clear hbn
      go_loopw [7] (fun i ws => ∃ k : Nat, k ≤ 5 ∧ i = .int .i64 k ∧ Whole ws w.heap.size 153 (tbA blankT) ∧ NK ws bN n k ∧ Below w.heap.size w ws) (fun i _ => 5 - (intOf i).toNat)
      case atStart => exact ⟨0, by omega, rfl, hT, hN, hBel⟩
      case round =>
        clear hT hN hBel
        obtain ⟨k, hk, rfl, t1, t2, t3⟩ := hrel
        by_cases hk5 : k < 5
        · have hk' : (k : Int) < 5 := by omega
          have hk0 : (0 : Int) ≤ (k : Int) := by omega
          have hag := aggOk_tb blankT
          have hI : S13 w.heap.size bN (1 + k * 74) wr := ⟨(t1.mid (tbA_size _)).1, (t1.mid (tbA_size _)).2, t2.there _ _ (by omega)⟩
          have hI2 : S13 w.heap.size bN (1 + k * 74 + 36) (wr.drew.setCells bN (1 + k * 74) (tbA blankT).toList) := by
            have e : (wr.drew.setCells bN (1 + k * 74) (tbA blankT).toList).heap[w.heap.size]? = wr.heap[w.heap.size]? := (setCells_block _ _ _ _).2.1 _ hne
            exact ⟨by rw [midA_of e]; exact hI.1, hI.2.1.of e, World.there_setCells ((t2.of (w' := wr.drew) rfl).there _ _ (by omega)) _ _ _⟩
          have T1 : Hid (Whole wr w.heap.size 153 (tbA blankT)) := t1; clear t1
          have T2 : Hid (NK wr bN n k) := t2; clear t2
          have T3 : Hid (Below w.heap.size w wr) := t3; clear t3
          go_wp2_with fail
          go_region_held3 (fun w' => midA w' w.heap.size 0 36 = tbA blankT ∧ MidOk w' w.heap.size 0 36 ∧ w'.there bN (1 + k * 74) 36) (first | exact S13_drew hI | exact S13_store (by assumption) hne _) (fail)
          go_wp2_with fail
          go_region_held3 (fun w' => midA w' w.heap.size 0 36 = tbA blankT ∧ MidOk w' w.heap.size 0 36 ∧ w'.there bN (1 + k * 74 + 36) 36) (first | exact S13_drew hI2 | exact S13_store (by assumption) hne _) (fail)
          go_wp2
          go_roundw
          case rel =>
            have N1 : NK ((wr.drew.setCells bN (1 + k * 74) (tbA blankT).toList).drew.setCells bN (1 + k * 74 + 36) (tbA blankT).toList) bN n (k + 1) := by
              rw [setCells_drew]
              exact (NK.step (w := wr.drew) (T2.out.of rfl) hk5).of rfl
            (repeat apply Exists.intro)
            exact ⟨⟨k + 1, by omega, by go_num, (T1.out.drew.setCells hne _ _).drew.setCells hne _ _, N1, Below.setCells (Below.drew (Below.setCells T3.out.drew hle _ _)) hle _ _⟩, rfl⟩
          case measure => simp [intOf]; omega
        · have hk6 : k = 5 := by omega
          subst hk6
          go_wp2
          go_ret2
          exact ⟨bN, hle, rfl, t2.rn, t3⟩
end Go.Proofs.Ytdoodnbobpijoaa
