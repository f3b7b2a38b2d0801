import Derived.Test.YtdoodnbobpijoaaRefC
namespace Go.Proofs.Ytdoodnbobpijoaa
open Go.RowKit

/-! ### What a router tells -/
def tK (A : Nt) (r k : Nat) : Tb := ⟨(A.rs r).t.sq, fun d => if d < k then (toldT A r).ro d else (A.rs r).t.ro d, fun d => if d < k then (toldT A r).be d else (A.rs r).t.be d⟩
def mK (A : Nt) (r k : Nat) : Nat → Bs := fun d => if d < k then toldM A r d else ⟨0, 0⟩
theorem tK_zero (A : Nt) (r : Nat) : tbA (tK A r 0) = tbA (A.rs r).t := tbA_congr rfl (fun _ _ => rfl) (fun _ _ => rfl)
theorem tK_five (A : Nt) (r : Nat) : tbA (tK A r 5) = tbA (toldT A r) := tbA_congr rfl (fun d hd => by show (if d < 5 then _ else _) = _; rw [if_pos hd]) (fun d hd => by show (if d < 5 then _ else _) = _; rw [if_pos hd])
theorem mK_zero (A : Nt) (r : Nat) : mgA (mK A r 0) = Zm := by
  rw [Zm_eq]
  refine (mgA_eq _ _ (by simp) fun j hj => ?_).symm
  unfold mgV mK bsV
  simp [hj]
theorem mK_five (A : Nt) (r : Nat) : mgA (mK A r 5) = mgA (toldM A r) := mgA_congr fun d hd => by show (if d < 5 then _ else _) = _; rw [if_pos hd]
theorem tK_ro (A : Nt) (r k : Nat) : (tK A r k).ro k = (A.rs r).t.ro k := by show (if k < k then _ else _) = _; rw [if_neg (by omega)]
theorem tK_be (A : Nt) (r k : Nat) : (tK A r k).be k = (A.rs r).t.be k := by show (if k < k then _ else _) = _; rw [if_neg (by omega)]
theorem mK_step (A : Nt) (r k : Nat) : setMg (mK A r k) k (toldM A r k) = mK A r (k + 1) := by
  funext d
  unfold setMg mK
  by_cases e : d = k
  · subst e; rw [if_pos rfl, if_pos (by omega)]
  · rw [if_neg e]
    have : d < k + 1 ↔ d < k := by omega
    simp only [this]
theorem setMg_twice (m : Nat → Bs) (k : Nat) (a b : Bs) : setMg (setMg m k a) k b = setMg m k b := by
  funext d
  unfold setMg
  split <;> rfl
theorem setMg_at (m : Nat → Bs) (k : Nat) (a : Bs) : setMg m k a k = a := by unfold setMg; rw [if_pos rfl]
theorem tK_same (A : Nt) (r k : Nat) (h1 : (toldT A r).ro k = (A.rs r).t.ro k) (h2 : (toldT A r).be k = (A.rs r).t.be k) : tK A r (k + 1) = tK A r k := by
  unfold tK
  congr 1
  · funext d
    by_cases e : d = k
    · subst e; rw [if_pos (by omega), if_neg (by omega), h1]
    · have : d < k + 1 ↔ d < k := by omega
      simp only [this]
  · funext d
    by_cases e : d = k
    · subst e; rw [if_pos (by omega), if_neg (by omega), h2]
    · have : d < k + 1 ↔ d < k := by omega
      simp only [this]
theorem tK_none (A : Nt) (r k : Nat) (h1 : (toldT A r).ro k = noRt) (h2 : (toldT A r).be k = (A.rs r).t.be k) : tK A r (k + 1) = setRo (tK A r k) k noRt := by
  unfold tK setRo
  congr 1
  · funext d
    by_cases e : d = k
    · subst e; rw [if_pos (by omega), if_pos rfl, h1]
    · have : d < k + 1 ↔ d < k := by omega
      simp only [this, if_neg e]
  · funext d
    by_cases e : d = k
    · subst e
      show (if d < d + 1 then _ else _) = (if d < d then _ else _)
      rw [if_pos (by omega), if_neg (by omega), h2]
    · have : d < k + 1 ↔ d < k := by omega
      simp only [this]
theorem tK_best (A : Nt) (r k : Nat) (b : Bs) (h1 : (toldT A r).ro k = (A.rs r).t.ro k) (h2 : (toldT A r).be k = b) : tK A r (k + 1) = setBe (tK A r k) k b := by
  unfold tK setBe
  congr 1
  · funext d
    by_cases e : d = k
    · subst e
      show (if d < d + 1 then _ else _) = (if d < d then _ else _)
      rw [if_pos (by omega), if_neg (by omega), h1]
    · have : d < k + 1 ↔ d < k := by omega
      simp only [this]
  · funext d
    by_cases e : d = k
    · subst e; rw [if_pos (by omega), if_pos rfl, h2]
    · have : d < k + 1 ↔ d < k := by omega
      simp only [this, if_neg e]
/-- What becomes of one router's row, by its ways. -/
theorem told_self (A : Nt) (r : Nat) : toldM A r r = ⟨(A.rs r).t.sq, 0⟩ ∧ (toldT A r).ro r = (A.rs r).t.ro r ∧ (toldT A r).be r = (A.rs r).t.be r := by
  refine ⟨by unfold toldM; rw [if_pos rfl], ?_, ?_⟩
  · rcases toldT_ro A r r with e | ⟨_, e, _⟩
    · exact e
    · exact absurd rfl e
  · rcases toldT_be A r r with e | ⟨e, _⟩
    · exact e
    · exact absurd rfl e
theorem told_none (A : Nt) (r k : Nat) (hk : k ≠ r) (h : ((A.rs r).t.ro k).nx < 0) : toldM A r k = noBs ∧ (toldT A r).ro k = (A.rs r).t.ro k ∧ (toldT A r).be k = (A.rs r).t.be k :=
  ⟨toldM_none hk h, (toldT_none h).1, (toldT_none h).2⟩
theorem told_far (A : Nt) (r k : Nat) (hk : k ≠ r) (h : 0 ≤ ((A.rs r).t.ro k).nx) (h3 : 30 < total A r ((A.rs r).t.ro k)) : toldM A r k = noBs ∧ (toldT A r).ro k = noRt ∧ (toldT A r).be k = (A.rs r).t.be k := by
  refine ⟨by unfold toldM; rw [if_neg hk, if_neg (by omega), if_pos h3], ?_, ?_⟩
  · show (if _ then _ else _) = _
    rw [if_pos ⟨hk, h, h3⟩]
  · rcases toldT_be A r k with e | ⟨_, _, e, _⟩
    · exact e
    · omega
theorem told_near (A : Nt) (r k : Nat) (hk : k ≠ r) (h : 0 ≤ ((A.rs r).t.ro k).nx) (h3 : total A r ((A.rs r).t.ro k) ≤ 30) : toldM A r k = ⟨((A.rs r).t.ro k).sq, total A r ((A.rs r).t.ro k)⟩ ∧ (toldT A r).ro k = (A.rs r).t.ro k := by
  refine ⟨by unfold toldM; rw [if_neg hk, if_neg (by omega), if_neg (by omega)], ?_⟩
  rcases toldT_ro A r k with e | ⟨_, _, _, e⟩
  · exact e
  · omega
theorem told_yes (A : Nt) (r k : Nat) (hk : k ≠ r) (h : 0 ≤ ((A.rs r).t.ro k).nx) (h3 : total A r ((A.rs r).t.ro k) ≤ 30) (hb : bet ⟨((A.rs r).t.ro k).sq, total A r ((A.rs r).t.ro k)⟩ ((A.rs r).t.be k)) : (toldT A r).be k = ⟨((A.rs r).t.ro k).sq, total A r ((A.rs r).t.ro k)⟩ := by
  show (if _ then _ else _) = _
  rw [if_pos ⟨hk, h, h3, hb⟩]
theorem told_not (A : Nt) (r k : Nat) (hb : ¬ bet ⟨((A.rs r).t.ro k).sq, total A r ((A.rs r).t.ro k)⟩ ((A.rs r).t.be k)) : (toldT A r).be k = (A.rs r).t.be k := by
  show (if _ then _ else _) = _
  rw [if_neg (fun h => hb h.2.2.2)]
/-- Four cells of old blocks, behind a call that lays new ones alone. -/
theorem four_below {w w' : World} {a b c d : Addr} {p q r s : Value} (h : w.cell? a = some p ∧ w.cell? b = some q ∧ w.cell? c = some r ∧ w.cell? d = some s) (hb : Below w.heap.size w w') : w'.cell? a = some p ∧ w'.cell? b = some q ∧ w'.cell? c = some r ∧ w'.cell? d = some s := by
  have key : ∀ {x : Addr} {v : Value}, w.cell? x = some v → w'.cell? x = some v := fun {x v} hx => by
    have : x.block < w.heap.size := by
      rcases Nat.lt_or_ge x.block w.heap.size with hlt | hge
      · exact hlt
      · simp [World.cell?, Array.getElem?_eq_none hge] at hx
    rw [World.cell?_of_block (w := w) (hb.block x.block this)]; exact hx
  exact ⟨key h.1, key h.2.1, key h.2.2.1, key h.2.2.2⟩

/-- What the last statement of 'told' reads and writes. -/
def S18 (B : Nat) (M T : Array Value) (w' : World) : Prop := midA w' (B + 1 + 1 + 1) 0 10 = M ∧ MidOk w' (B + 1 + 1 + 1) 0 10 ∧ midA w' (B + 1 + 1) 0 36 = T ∧ MidOk w' (B + 1 + 1) 0 36 ∧ w'.there B 0 10 ∧ w'.there (B + 1) 0 36
theorem S18_store {B : Nat} {M T : Array Value} {w : World} (h : S18 B M T w) (g : Nat) (hg : g = B ∨ g = B + 1) (l : List Value) : S18 B M T (w.setCells g 0 l) := by
  obtain ⟨h1, h2, h3, h4, h5, h6⟩ := h
  have e1 : (w.setCells g 0 l).heap[B + 1 + 1 + 1]? = w.heap[B + 1 + 1 + 1]? := (setCells_block g l 0 w).2.1 _ (by omega)
  have e2 : (w.setCells g 0 l).heap[B + 1 + 1]? = w.heap[B + 1 + 1]? := (setCells_block g l 0 w).2.1 _ (by omega)
  exact ⟨by rw [midA_of e1]; exact h1, h2.of e1, by rw [midA_of e2]; exact h3, h4.of e2, World.there_setCells h5 _ _ _, World.there_setCells h6 _ _ _⟩
theorem S18_drew {B : Nat} {M T : Array Value} {w : World} (h : S18 B M T w) : S18 B M T w.drew := h
attribute [local go_sem ↓] Go.wp_at_zero Go.wp_at_succ ldT stT alcT ldM stM alcM
attribute [local go_sem] vb_ptr vo_ptr cellsL_agg size_setCells

set_option maxHeartbeats 2000000 in
theorem told_any (b x : Nat) (A : Nt) (V : Nat → Nat → Value) (w : World) (hx : x < A.n) (g : Good A) (hR : RN w b A V) :
    Calls Try.prog 119 #[.pointer (some ⟨b, 0, none⟩), .int .i64 x] w fun e w' => e = .returned (.tuple #[.agg (mgA (toldM A x)), .agg (tbA (toldT A x))]) ∧ Below w.heap.size w w' := by
  have hx5 : x < 5 := by have := g.n5; omega
  have hx' : (x : Int) < 5 := by omega
  have hlt := hR.lt
  have hm := hR.rangeT x hx5
  have hm1 : ∀ o1 o2, midA ((w.alloc o1).alloc o2) b (1 + x * 74) 36 = tbA (A.rs x).t := fun o1 o2 => by rw [midA_of (w := w) (by rw [Below.heap_alloc _ _ _ (by simp; omega), Below.heap_alloc _ _ _ hlt])]; exact hm.1
  have hm2 : ∀ o1 o2, MidOk ((w.alloc o1).alloc o2) b (1 + x * 74) 36 := fun o1 o2 => hm.2.of (by rw [Below.heap_alloc _ _ _ (by simp; omega), Below.heap_alloc _ _ _ hlt])
  have hth : ((((w.alloc (.cells Zm 164)).alloc (.cells Zk 153)).alloc (.cells Zk 153))).there (w.heap.size + 2) 0 36 := by
    have := Whole.new ((w.alloc (.cells Zm 164)).alloc (.cells Zk 153)) 153 Zk
    simp only [World.size_alloc] at this
    exact this.there Zk_size
  have hag := aggOk_tb (A.rs x).t
  clear hm
  go_enter Try.func119, Try.ntmps119
  go_wp2
  have hS := ((((Whole.new w 164 Zm).alloc (.cells Zk 153)).alloc (.cells Zk 153)).setCells (g := w.heap.size + 2) (by omega) 0 (tbA (A.rs x).t).toList).alloc (.cells Zm 164)
  have hS1 := (((Whole.new (w.alloc (.cells Zm 164)) 153 Zk).alloc (.cells Zk 153)).setCells (g := w.heap.size + 2) (by simp) 0 (tbA (A.rs x).t).toList).alloc (.cells Zm 164)
  have hS2 := ((Whole.new ((w.alloc (.cells Zm 164)).alloc (.cells Zk 153)) 153 Zk).over (tbA (A.rs x).t) (by rw [tbA_size, Zk_size])).alloc (.cells Zm 164)
  have hS3 := Whole.new ((((w.alloc (.cells Zm 164)).alloc (.cells Zk 153)).alloc (.cells Zk 153)).setCells (w.heap.size + 2) 0 (tbA (A.rs x).t).toList) 164 Zm
  have hBel : Below w.heap.size w (((((w.alloc (.cells Zm 164)).alloc (.cells Zk 153)).alloc (.cells Zk 153)).setCells (w.heap.size + 2) 0 (tbA (A.rs x).t).toList).alloc (.cells Zm 164)) := (Below.setCells ((((Below.refl _ _).alloc (Nat.le_refl _) _).alloc (by simp) _).alloc (by simp; omega) _) (by omega) _ _).alloc (by simp [size_setCells]; omega) _
  simp only [World.size_alloc, size_setCells] at hS1 hS2 hS3
  clear hm1 hm2 hth hag
  go_loopw [8] (fun i wr => ∃ k : Nat, k ≤ 5 ∧ i = .int .i64 k ∧ Whole wr w.heap.size 164 Zm ∧ Whole wr (w.heap.size + 1) 153 Zk ∧ Whole wr (w.heap.size + 1 + 1) 153 (tbA (tK A x k)) ∧ Whole wr (w.heap.size + 1 + 1 + 1) 164 (mgA (mK A x k)) ∧ Below w.heap.size w wr) (fun i _ => 5 - (intOf i).toNat)
  case atStart => exact ⟨0, by omega, rfl, hS, hS1, by rw [tK_zero]; exact hS2, by rw [mK_zero]; exact hS3, hBel⟩
  case round =>
    clear hS hS1 hS2 hS3 hBel
    obtain ⟨k, hk, rfl, q0, q1, q2, q3, q4⟩ := hrel
    by_cases hk5 : k < 5
    · have hk' : (k : Int) < 5 := by omega
      have HR : Hid (RN w b A V) := hR; clear hR
      have G : Hid (Good A) := g; clear g
      have M2 := mgA_2 (mK A x k) k hk5
      have a0 : (tbA (tK A x k))[0]? = some (I (A.rs x).t.sq) := tbA_at (tK A x k) 0 (by omega)
      obtain ⟨a1, a2, a3, a4, a5⟩ := tbA_ro5 (tK A x k) k hk5
      rw [tK_ro] at a1 a2 a3 a4 a5
      have z1 := q4.size
      by_cases hkx : k = x
      · subst hkx
        obtain ⟨tM, tR, tB⟩ := told_self A k
        go_wp2_with (go_at_call 110; refine (nothing_any _).mono ?_; rintro e w1 ⟨rfl, hb⟩; have p2 := q2.below hb; have p3 := q3.below hb; obtain ⟨m1, m2⟩ := M2; have f3 := p3.frozen; have c2 := p2.cell; have c3 := p3.cell; have l2 := p2.lt; have l3 := p3.lt; have z2 := hb.size)
        go_roundw
        case rel =>
          refine ⟨k + 1, by omega, by go_num, ?_, ?_, ?_, ?_, ?_⟩
          · repeat (first | exact q0.below hb | refine Whole.alloc ?_ _ | refine Whole.setCell ?_ (by dsimp only; omega) _)
          · repeat (first | exact q1.below hb | refine Whole.alloc ?_ _ | refine Whole.setCell ?_ (by dsimp only; omega) _)
          · rw [tK_same A k k tR tB]
            repeat (first | exact q2.below hb | refine Whole.alloc ?_ _ | refine Whole.setCell ?_ (by dsimp only; omega) _)
          · rw [← mK_step, tM, ← setMg_twice _ k noBs]
            exact ((p3.setMg k hk5 noBs).setMg k hk5 ⟨(A.rs k).t.sq, 0⟩).alloc _
          · repeat (first | exact q4.trans (hb.mono q4.size) | refine Below.alloc ?_ (by simp; omega) _ | refine Below.setCell ?_ (by dsimp only; omega) _)
        case measure => simp [intOf]; omega
      · have hkx' : ((k : Int) == (x : Int)) = false := by rw [beq_eq_false_iff_ne]; omega
        by_cases hnx : ((A.rs x).t.ro k).nx < 0
        · obtain ⟨tM, tR, tB⟩ := told_none A x k hkx hnx
          go_wp2_with (go_at_call 110; refine (nothing_any _).mono ?_; rintro e w1 ⟨rfl, hb⟩; have p2 := q2.below hb; have p3 := q3.below hb; obtain ⟨m1, m2⟩ := M2; have f3 := p3.frozen; have c2 := p2.cell; have c3 := p3.cell; have l2 := p2.lt; have l3 := p3.lt; have z2 := hb.size)
          go_roundw
          case rel =>
            refine ⟨k + 1, by omega, by go_num, ?_, ?_, ?_, ?_, ?_⟩
            · repeat (first | exact q0.below hb | refine Whole.alloc ?_ _ | refine Whole.setCell ?_ (by dsimp only; omega) _)
            · repeat (first | exact q1.below hb | refine Whole.alloc ?_ _ | refine Whole.setCell ?_ (by dsimp only; omega) _)
            · rw [tK_same A x k tR tB]
              repeat (first | exact q2.below hb | refine Whole.alloc ?_ _ | refine Whole.setCell ?_ (by dsimp only; omega) _)
            · rw [← mK_step, tM]
              exact (p3.setMg k hk5 noBs).alloc _
            · repeat (first | exact q4.trans (hb.mono q4.size) | refine Below.alloc ?_ (by simp; omega) _ | refine Below.setCell ?_ (by dsimp only; omega) _)
          case measure => simp [intOf]; omega
        · have h0 : 0 ≤ ((A.rs x).t.ro k).nx := by omega
          have ok := (G.out.t x hx).nx k h0
          have hn5 : ((A.rs x).t.ro k).nx < 5 := by have := ok.nx1; have := G.out.n5; omega
          have hm0 := ok.mt0
          have hm1 := ok.mt1
          obtain ⟨tot, hT⟩ : ∃ tot, total A x ((A.rs x).t.ro k) = tot := ⟨_, rfl⟩
          by_cases h30 : 30 < tot
          · obtain ⟨tM, tR, tB⟩ := told_far A x k hkx h0 (by omega)
            go_wp2_with (first | (go_at_call 110; refine (nothing_any _).mono ?_; rintro e w1 ⟨rfl, hb⟩; have p2 := q2.below hb; have p3 := q3.below hb; obtain ⟨m1, m2⟩ := M2; have f3 := p3.frozen; have c2 := p2.cell; have c3 := p3.cell; have l2 := p2.lt; have l3 := p3.lt; have z2 := hb.size) |
              (go_at_call 109
               refine (none_any _).mono ?_
               rintro e w3 ⟨rfl, hb3⟩
               have p2 := P2.below hb3
               have c2 := p2.cell
               have f2 := p2.frozen
               have z3 := hb3.size) |
              (go_at_call 123
               refine (total_any b x ((A.rs x).t.ro k) A V _ hx5 h0 hn5 hm0 hm1 G.out (HR.out.of ?_)).mono ?_
               · refine Below.block (B := w.heap.size) ?_ b hlt
                 repeat (first | exact q4.trans (hb.mono q4.size) | refine Below.alloc ?_ (by simp; omega) _ | refine Below.setCell ?_ (by dsimp only; omega) _)
               rw [hT]
               rintro e w2 ⟨rfl, hb2⟩
               have P0 : Whole w2 w.heap.size 164 Zm := by
                 refine Whole.below ?_ hb2
                 repeat (first | exact q0.below hb | refine Whole.alloc ?_ _ | refine Whole.setCell ?_ (by dsimp only; omega) _)
               have P1 : Whole w2 (w.heap.size + 1) 153 Zk := by
                 refine Whole.below ?_ hb2
                 repeat (first | exact q1.below hb | refine Whole.alloc ?_ _ | refine Whole.setCell ?_ (by dsimp only; omega) _)
               have P2 : Whole w2 (w.heap.size + 1 + 1) 153 (tbA (tK A x k)) := by
                 refine Whole.below ?_ hb2
                 repeat (first | exact p2 | refine Whole.alloc ?_ _ | refine Whole.setCell ?_ (by dsimp only; omega) _)
               have P3 : Whole w2 (w.heap.size + 1 + 1 + 1) 164 (mgA (setMg (mK A x k) k noBs)) := by
                 refine Whole.below ?_ hb2
                 exact (p3.setMg k hk5 noBs).alloc _
               have P4 : Below w.heap.size w w2 := by
                 refine Below.trans ?_ (hb2.mono (by simp; omega))
                 repeat (first | exact q4.trans (hb.mono q4.size) | refine Below.alloc ?_ (by simp; omega) _ | refine Below.setCell ?_ (by dsimp only; omega) _)
               have PX := (Whole.new ((w1.setCell ⟨w.heap.size + 1 + 1 + 1, k * 2, none⟩ (I noBs.sq)).setCell ⟨w.heap.size + 1 + 1 + 1, k * 2 + 1, none⟩ (I noBs.mt)) 47 (rtA ((A.rs x).t.ro k))).below hb2
               simp only [World.size_setCell] at PX
               have cx := PX.cell
               have Z2 := hb2.size
               simp only [World.size_alloc, World.size_setCell] at Z2
               have L2 := P2.lt
               have L3 := P3.lt
               have C3 := P3.cell
               have F3 := P3.frozen
               have N2 := mgA_2 (setMg (mK A x k) k noBs) k hk5
               rw [setMg_at] at N2
               obtain ⟨n1, n2⟩ := N2
               clear c2 c3 f3 m1 m2 p2 p3 hb2))
            go_roundw
            case rel =>
              refine ⟨k + 1, by omega, by go_num, ?_, ?_, ?_, ?_, ?_⟩
              · repeat (first | exact P0.below hb3 | refine Whole.setCell ?_ (by dsimp only; omega) _)
              · repeat (first | exact P1.below hb3 | refine Whole.setCell ?_ (by dsimp only; omega) _)
              · rw [tK_none A x k tR tB]; exact p2.setRo k hk5 noRt
              · rw [← mK_step, tM]
                repeat (first | exact P3.below hb3 | refine Whole.setCell ?_ (by dsimp only; omega) _)
              · repeat (first | exact P4.trans (hb3.mono P4.size) | refine Below.setCell ?_ (by dsimp only; omega) _)
            case measure => simp [intOf]; omega
          · obtain ⟨tM, tR⟩ := told_near A x k hkx h0 (by omega)
            rw [hT] at tM
            have hbe := tbA_be2 (tK A x k) k hk5
            rw [tK_be] at hbe
            by_cases hbt : bet ⟨((A.rs x).t.ro k).sq, tot⟩ ((A.rs x).t.be k)
            · have tB := told_yes A x k hkx h0 (by omega) (by rw [hT]; exact hbt)
              rw [hT] at tB
              have hbt' : decide (bet ⟨((A.rs x).t.ro k).sq, tot⟩ ((A.rs x).t.be k)) = true := by simpa using hbt
              go_wp2_with (first | (go_at_call 110; refine (nothing_any _).mono ?_; rintro e w1 ⟨rfl, hb⟩; have p2 := q2.below hb; have p3 := q3.below hb; obtain ⟨m1, m2⟩ := M2; have f3 := p3.frozen; have c2 := p2.cell; have c3 := p3.cell; have l2 := p2.lt; have l3 := p3.lt; have z2 := hb.size) |
              (go_at_call 123
               refine (total_any b x ((A.rs x).t.ro k) A V _ hx5 h0 hn5 hm0 hm1 G.out (HR.out.of ?_)).mono ?_
               · refine Below.block (B := w.heap.size) ?_ b hlt
                 repeat (first | exact q4.trans (hb.mono q4.size) | refine Below.alloc ?_ (by simp; omega) _ | refine Below.setCell ?_ (by dsimp only; omega) _)
               rw [hT]
               rintro e w2 ⟨rfl, hb2⟩
               have P0 : Whole w2 w.heap.size 164 Zm := by
                 refine Whole.below ?_ hb2
                 repeat (first | exact q0.below hb | refine Whole.alloc ?_ _ | refine Whole.setCell ?_ (by dsimp only; omega) _)
               have P1 : Whole w2 (w.heap.size + 1) 153 Zk := by
                 refine Whole.below ?_ hb2
                 repeat (first | exact q1.below hb | refine Whole.alloc ?_ _ | refine Whole.setCell ?_ (by dsimp only; omega) _)
               have P2 : Whole w2 (w.heap.size + 1 + 1) 153 (tbA (tK A x k)) := by
                 refine Whole.below ?_ hb2
                 repeat (first | exact p2 | refine Whole.alloc ?_ _ | refine Whole.setCell ?_ (by dsimp only; omega) _)
               have P3 : Whole w2 (w.heap.size + 1 + 1 + 1) 164 (mgA (setMg (mK A x k) k noBs)) := by
                 refine Whole.below ?_ hb2
                 exact (p3.setMg k hk5 noBs).alloc _
               have P4 : Below w.heap.size w w2 := by
                 refine Below.trans ?_ (hb2.mono (by simp; omega))
                 repeat (first | exact q4.trans (hb.mono q4.size) | refine Below.alloc ?_ (by simp; omega) _ | refine Below.setCell ?_ (by dsimp only; omega) _)
               have PX := (Whole.new ((w1.setCell ⟨w.heap.size + 1 + 1 + 1, k * 2, none⟩ (I noBs.sq)).setCell ⟨w.heap.size + 1 + 1 + 1, k * 2 + 1, none⟩ (I noBs.mt)) 47 (rtA ((A.rs x).t.ro k))).below hb2
               simp only [World.size_setCell] at PX
               have cx := PX.cell
               have Z2 := hb2.size
               simp only [World.size_alloc, World.size_setCell] at Z2
               have L2 := P2.lt
               have L3 := P3.lt
               have C3 := P3.cell
               have F3 := P3.frozen
               have N2 := mgA_2 (setMg (mK A x k) k noBs) k hk5
               rw [setMg_at] at N2
               obtain ⟨n1, n2⟩ := N2
               clear c2 c3 f3 m1 m2 p2 p3 hb2))
              have Q3 : Whole ((w2.setCell ⟨w.heap.size + 1 + 1 + 1, k * 2, none⟩ (.int .i64 ((A.rs x).t.ro k).sq)).setCell ⟨w.heap.size + 1 + 1 + 1, k * 2 + 1, none⟩ (.int .i64 tot)) (w.heap.size + 1 + 1 + 1) 164 (mgA (setMg (setMg (mK A x k) k noBs) k ⟨((A.rs x).t.ro k).sq, tot⟩)) := P3.setMg k hk5 ⟨((A.rs x).t.ro k).sq, tot⟩
              rw [setMg_twice, ← tM, mK_step] at Q3
              have Q0 := (P0.setCell (p := ⟨w.heap.size + 1 + 1 + 1, k * 2, none⟩) (by dsimp only; omega) (.int .i64 ((A.rs x).t.ro k).sq)).setCell (p := ⟨w.heap.size + 1 + 1 + 1, k * 2 + 1, none⟩) (by dsimp only; omega) (.int .i64 tot)
              have Q1 := (P1.setCell (p := ⟨w.heap.size + 1 + 1 + 1, k * 2, none⟩) (by dsimp only; omega) (.int .i64 ((A.rs x).t.ro k).sq)).setCell (p := ⟨w.heap.size + 1 + 1 + 1, k * 2 + 1, none⟩) (by dsimp only; omega) (.int .i64 tot)
              have Q2 := (P2.setCell (p := ⟨w.heap.size + 1 + 1 + 1, k * 2, none⟩) (by dsimp only; omega) (.int .i64 ((A.rs x).t.ro k).sq)).setCell (p := ⟨w.heap.size + 1 + 1 + 1, k * 2 + 1, none⟩) (by dsimp only; omega) (.int .i64 tot)
              have Q4 := (P4.setCell (p := ⟨w.heap.size + 1 + 1 + 1, k * 2, none⟩) (by dsimp only; omega) (.int .i64 ((A.rs x).t.ro k).sq)).setCell (p := ⟨w.heap.size + 1 + 1 + 1, k * 2 + 1, none⟩) (by dsimp only; omega) (.int .i64 tot)
              clear P0 P1 P2 P3 P4 PX cx L2 L3 C3 F3 n1 n2 q0 q1 q2 q3 q4 Z2 hb z2 l2 l3 a0 a1 a2 a3 a4 a5
              generalize (w2.setCell ⟨w.heap.size + 1 + 1 + 1, k * 2, none⟩ (.int .i64 ((A.rs x).t.ro k).sq)).setCell ⟨w.heap.size + 1 + 1 + 1, k * 2 + 1, none⟩ (.int .i64 tot) = W at *
              have z4 := Q4.size
              have M4 := mgA_2 (mK A x (k + 1)) k hk5
              rw [← mK_step, setMg_at, tM, ← tM, mK_step, tM] at M4
              have sS : W.cell? ⟨w.heap.size + 1 + 1 + 1, k * 2, none⟩ = some (I ((A.rs x).t.ro k).sq) ∧ W.cell? ⟨w.heap.size + 1 + 1 + 1, k * 2 + 1, none⟩ = some (I tot) ∧ W.cell? ⟨w.heap.size + 1 + 1, 26 + k * 2, none⟩ = some (I ((A.rs x).t.be k).sq) ∧ W.cell? ⟨w.heap.size + 1 + 1, 26 + k * 2 + 1, none⟩ = some (I ((A.rs x).t.be k).mt) := ⟨(Q3.cell _).trans M4.1, (Q3.cell _).trans M4.2, (Q2.cell _).trans hbe.1, (Q2.cell _).trans hbe.2⟩
              go_region_held3 (fun w' => w'.cell? ⟨w.heap.size + 1 + 1 + 1, k * 2, none⟩ = some (I ((A.rs x).t.ro k).sq) ∧ w'.cell? ⟨w.heap.size + 1 + 1 + 1, k * 2 + 1, none⟩ = some (I tot) ∧ w'.cell? ⟨w.heap.size + 1 + 1, 26 + k * 2, none⟩ = some (I ((A.rs x).t.be k).sq) ∧ w'.cell? ⟨w.heap.size + 1 + 1, 26 + k * 2 + 1, none⟩ = some (I ((A.rs x).t.be k).mt))
                (first | exact sS | exact four_below (by assumption) hb4)
                (first | (go_at_call 122; refine (better_any ⟨((A.rs x).t.ro k).sq, tot⟩ ((A.rs x).t.be k) _).mono ?_; rw [hbt']; rintro e w4 ⟨rfl, hb4⟩))
              have p2 := Q2.drew.below hb4
              have p3 := Q3.drew.below hb4
              have p0 := Q0.drew.below hb4
              have p1 := Q1.drew.below hb4
              have p4 := Q4.drew.trans (hb4.mono z4)
              have c2 := p2.cell
              have c3 := p3.cell
              have f2 := p2.frozen
              obtain ⟨e1, e2⟩ := M4
              obtain ⟨e3, e4⟩ := hbe
              go_wp2
              go_roundw
              case rel =>
                refine ⟨k + 1, by omega, by go_num, ?_, ?_, ?_, ?_, ?_⟩
                · repeat (first | exact p0 | refine Whole.setCell ?_ (by dsimp only; omega) _)
                · repeat (first | exact p1 | refine Whole.setCell ?_ (by dsimp only; omega) _)
                · rw [tK_best A x k _ tR tB]; exact p2.setBe k hk5 ⟨((A.rs x).t.ro k).sq, tot⟩
                · repeat (first | exact p3 | refine Whole.setCell ?_ (by dsimp only; omega) _)
                · repeat (first | exact p4 | refine Below.setCell ?_ (by dsimp only; omega) _)
              case measure => simp [intOf]; omega
            · have tB := told_not A x k (by rw [hT]; exact hbt)
              have hbt' : decide (bet ⟨((A.rs x).t.ro k).sq, tot⟩ ((A.rs x).t.be k)) = false := by simpa using hbt
              go_wp2_with (first | (go_at_call 110; refine (nothing_any _).mono ?_; rintro e w1 ⟨rfl, hb⟩; have p2 := q2.below hb; have p3 := q3.below hb; obtain ⟨m1, m2⟩ := M2; have f3 := p3.frozen; have c2 := p2.cell; have c3 := p3.cell; have l2 := p2.lt; have l3 := p3.lt; have z2 := hb.size) |
              (go_at_call 123
               refine (total_any b x ((A.rs x).t.ro k) A V _ hx5 h0 hn5 hm0 hm1 G.out (HR.out.of ?_)).mono ?_
               · refine Below.block (B := w.heap.size) ?_ b hlt
                 repeat (first | exact q4.trans (hb.mono q4.size) | refine Below.alloc ?_ (by simp; omega) _ | refine Below.setCell ?_ (by dsimp only; omega) _)
               rw [hT]
               rintro e w2 ⟨rfl, hb2⟩
               have P0 : Whole w2 w.heap.size 164 Zm := by
                 refine Whole.below ?_ hb2
                 repeat (first | exact q0.below hb | refine Whole.alloc ?_ _ | refine Whole.setCell ?_ (by dsimp only; omega) _)
               have P1 : Whole w2 (w.heap.size + 1) 153 Zk := by
                 refine Whole.below ?_ hb2
                 repeat (first | exact q1.below hb | refine Whole.alloc ?_ _ | refine Whole.setCell ?_ (by dsimp only; omega) _)
               have P2 : Whole w2 (w.heap.size + 1 + 1) 153 (tbA (tK A x k)) := by
                 refine Whole.below ?_ hb2
                 repeat (first | exact p2 | refine Whole.alloc ?_ _ | refine Whole.setCell ?_ (by dsimp only; omega) _)
               have P3 : Whole w2 (w.heap.size + 1 + 1 + 1) 164 (mgA (setMg (mK A x k) k noBs)) := by
                 refine Whole.below ?_ hb2
                 exact (p3.setMg k hk5 noBs).alloc _
               have P4 : Below w.heap.size w w2 := by
                 refine Below.trans ?_ (hb2.mono (by simp; omega))
                 repeat (first | exact q4.trans (hb.mono q4.size) | refine Below.alloc ?_ (by simp; omega) _ | refine Below.setCell ?_ (by dsimp only; omega) _)
               have PX := (Whole.new ((w1.setCell ⟨w.heap.size + 1 + 1 + 1, k * 2, none⟩ (I noBs.sq)).setCell ⟨w.heap.size + 1 + 1 + 1, k * 2 + 1, none⟩ (I noBs.mt)) 47 (rtA ((A.rs x).t.ro k))).below hb2
               simp only [World.size_setCell] at PX
               have cx := PX.cell
               have Z2 := hb2.size
               simp only [World.size_alloc, World.size_setCell] at Z2
               have L2 := P2.lt
               have L3 := P3.lt
               have C3 := P3.cell
               have F3 := P3.frozen
               have N2 := mgA_2 (setMg (mK A x k) k noBs) k hk5
               rw [setMg_at] at N2
               obtain ⟨n1, n2⟩ := N2
               clear c2 c3 f3 m1 m2 p2 p3 hb2))
              have Q3 : Whole ((w2.setCell ⟨w.heap.size + 1 + 1 + 1, k * 2, none⟩ (.int .i64 ((A.rs x).t.ro k).sq)).setCell ⟨w.heap.size + 1 + 1 + 1, k * 2 + 1, none⟩ (.int .i64 tot)) (w.heap.size + 1 + 1 + 1) 164 (mgA (setMg (setMg (mK A x k) k noBs) k ⟨((A.rs x).t.ro k).sq, tot⟩)) := P3.setMg k hk5 ⟨((A.rs x).t.ro k).sq, tot⟩
              rw [setMg_twice, ← tM, mK_step] at Q3
              have Q0 := (P0.setCell (p := ⟨w.heap.size + 1 + 1 + 1, k * 2, none⟩) (by dsimp only; omega) (.int .i64 ((A.rs x).t.ro k).sq)).setCell (p := ⟨w.heap.size + 1 + 1 + 1, k * 2 + 1, none⟩) (by dsimp only; omega) (.int .i64 tot)
              have Q1 := (P1.setCell (p := ⟨w.heap.size + 1 + 1 + 1, k * 2, none⟩) (by dsimp only; omega) (.int .i64 ((A.rs x).t.ro k).sq)).setCell (p := ⟨w.heap.size + 1 + 1 + 1, k * 2 + 1, none⟩) (by dsimp only; omega) (.int .i64 tot)
              have Q2 := (P2.setCell (p := ⟨w.heap.size + 1 + 1 + 1, k * 2, none⟩) (by dsimp only; omega) (.int .i64 ((A.rs x).t.ro k).sq)).setCell (p := ⟨w.heap.size + 1 + 1 + 1, k * 2 + 1, none⟩) (by dsimp only; omega) (.int .i64 tot)
              have Q4 := (P4.setCell (p := ⟨w.heap.size + 1 + 1 + 1, k * 2, none⟩) (by dsimp only; omega) (.int .i64 ((A.rs x).t.ro k).sq)).setCell (p := ⟨w.heap.size + 1 + 1 + 1, k * 2 + 1, none⟩) (by dsimp only; omega) (.int .i64 tot)
              clear P0 P1 P2 P3 P4 PX cx L2 L3 C3 F3 n1 n2 q0 q1 q2 q3 q4 Z2 hb z2 l2 l3 a0 a1 a2 a3 a4 a5
              generalize (w2.setCell ⟨w.heap.size + 1 + 1 + 1, k * 2, none⟩ (.int .i64 ((A.rs x).t.ro k).sq)).setCell ⟨w.heap.size + 1 + 1 + 1, k * 2 + 1, none⟩ (.int .i64 tot) = W at *
              have z4 := Q4.size
              have M4 := mgA_2 (mK A x (k + 1)) k hk5
              rw [← mK_step, setMg_at, tM, ← tM, mK_step, tM] at M4
              have sS : W.cell? ⟨w.heap.size + 1 + 1 + 1, k * 2, none⟩ = some (I ((A.rs x).t.ro k).sq) ∧ W.cell? ⟨w.heap.size + 1 + 1 + 1, k * 2 + 1, none⟩ = some (I tot) ∧ W.cell? ⟨w.heap.size + 1 + 1, 26 + k * 2, none⟩ = some (I ((A.rs x).t.be k).sq) ∧ W.cell? ⟨w.heap.size + 1 + 1, 26 + k * 2 + 1, none⟩ = some (I ((A.rs x).t.be k).mt) := ⟨(Q3.cell _).trans M4.1, (Q3.cell _).trans M4.2, (Q2.cell _).trans hbe.1, (Q2.cell _).trans hbe.2⟩
              go_region_held3 (fun w' => w'.cell? ⟨w.heap.size + 1 + 1 + 1, k * 2, none⟩ = some (I ((A.rs x).t.ro k).sq) ∧ w'.cell? ⟨w.heap.size + 1 + 1 + 1, k * 2 + 1, none⟩ = some (I tot) ∧ w'.cell? ⟨w.heap.size + 1 + 1, 26 + k * 2, none⟩ = some (I ((A.rs x).t.be k).sq) ∧ w'.cell? ⟨w.heap.size + 1 + 1, 26 + k * 2 + 1, none⟩ = some (I ((A.rs x).t.be k).mt))
                (first | exact sS | exact four_below (by assumption) hb4)
                (first | (go_at_call 122; refine (better_any ⟨((A.rs x).t.ro k).sq, tot⟩ ((A.rs x).t.be k) _).mono ?_; rw [hbt']; rintro e w4 ⟨rfl, hb4⟩))
              have p2 := Q2.drew.below hb4
              have p3 := Q3.drew.below hb4
              have p0 := Q0.drew.below hb4
              have p1 := Q1.drew.below hb4
              have p4 := Q4.drew.trans (hb4.mono z4)
              go_wp2
              go_roundw
              case rel => exact ⟨k + 1, by omega, by go_num, p0, p1, by rw [tK_same A x k tR tB]; exact p2, p3, p4⟩
              case measure => simp [intOf]; omega
    · have hk6 : k = 5 := by omega
      subst hk6
      rw [tK_five] at q2
      rw [mK_five] at q3
      have hI : S18 w.heap.size (mgA (toldM A x)) (tbA (toldT A x)) wr := ⟨(q3.mid (mgA_size _)).1, (q3.mid (mgA_size _)).2, (q2.mid (tbA_size _)).1, (q2.mid (tbA_size _)).2, q0.there Zm_size, q1.there Zk_size⟩
      have hag := aggOk_tb (toldT A x)
      have hag' := aggOk_mg (toldM A x)
      clear hR hlt
      have Q0 : Hid (Whole wr w.heap.size 164 Zm) := q0; clear q0
      have Q1 : Hid (Whole wr (w.heap.size + 1) 153 Zk) := q1; clear q1
      have Q4 : Hid (Below w.heap.size w wr) := q4; clear q4
      clear q2 q3
      go_wp2_with fail
      go_region_held3 (fun w' => midA w' (w.heap.size + 1 + 1 + 1) 0 10 = mgA (toldM A x) ∧ MidOk w' (w.heap.size + 1 + 1 + 1) 0 10 ∧ midA w' (w.heap.size + 1 + 1) 0 36 = tbA (toldT A x) ∧ MidOk w' (w.heap.size + 1 + 1) 0 36 ∧ w'.there w.heap.size 0 10 ∧ w'.there (w.heap.size + 1) 0 36)
        (first | exact S18_drew hI | exact S18_store (by assumption) _ (.inl rfl) _ | exact S18_store (by assumption) _ (.inr rfl) _) (fail)
      all_goals go_wp2
      all_goals
        refine bodyPost_ret (v := .tuple #[.agg (mgA (toldM A x)), .agg (tbA (toldT A x))]) (results_cell2 (t := 164) (u := 153) rfl _ _ w.heap.size (w.heap.size + 1) (mgA (toldM A x)) (tbA (toldT A x)) rfl rfl ?_ ?_ _ _ Try.underlying164 rfl (by rw [sizeM, mgA_size]) Try.underlying153 rfl (by rw [sizeT, tbA_size])) rfl ⟨rfl, ?_⟩
      all_goals first
        | exact (Q0.out.drew.over (mgA (toldM A x)) (by rw [mgA_size, Zm_size])).setCells (by omega) _ _
        | exact (Q1.out.drew.setCells (by omega) _ _).over (tbA (toldT A x)) (by rw [tbA_size, Zk_size])
        | exact (Q0.out.drew.setCells (by omega) _ _).over (mgA (toldM A x)) (by rw [mgA_size, Zm_size])
        | exact (Q1.out.drew.over (tbA (toldT A x)) (by rw [tbA_size, Zk_size])).setCells (by omega) _ _
        | exact Below.setCells (Below.setCells Q4.out.drew (by omega) _ _) (by omega) _ _
end Go.Proofs.Ytdoodnbobpijoaa
