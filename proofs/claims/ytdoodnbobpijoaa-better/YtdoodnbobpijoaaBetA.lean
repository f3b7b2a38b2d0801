import Derived.Test.YtdoodnbobpijoaaBunL
import Derived.Test.YtdoodnbobpijoaaBunJ
import Derived.Test.YtdoodnbobpijoaaBunJ
namespace Go.Proofs.Ytdoodnbobpijoaa
open Go.RowKit

/-! ### Better -/
def bmA (W : Nat → Nat → Bs) : Array Value := #[I (W 0 0).sq, I (W 0 0).mt, I (W 0 1).sq, I (W 0 1).mt, I (W 0 2).sq, I (W 0 2).mt, I (W 0 3).sq, I (W 0 3).mt, I (W 0 4).sq, I (W 0 4).mt, I (W 1 0).sq, I (W 1 0).mt, I (W 1 1).sq, I (W 1 1).mt, I (W 1 2).sq, I (W 1 2).mt, I (W 1 3).sq, I (W 1 3).mt, I (W 1 4).sq, I (W 1 4).mt, I (W 2 0).sq, I (W 2 0).mt, I (W 2 1).sq, I (W 2 1).mt, I (W 2 2).sq, I (W 2 2).mt, I (W 2 3).sq, I (W 2 3).mt, I (W 2 4).sq, I (W 2 4).mt, I (W 3 0).sq, I (W 3 0).mt, I (W 3 1).sq, I (W 3 1).mt, I (W 3 2).sq, I (W 3 2).mt, I (W 3 3).sq, I (W 3 3).mt, I (W 3 4).sq, I (W 3 4).mt, I (W 4 0).sq, I (W 4 0).mt, I (W 4 1).sq, I (W 4 1).mt, I (W 4 2).sq, I (W 4 2).mt, I (W 4 3).sq, I (W 4 3).mt, I (W 4 4).sq, I (W 4 4).mt]
theorem bm_at (W : Nat → Nat → Bs) : ∀ a, a < 5 → ∀ b, b < 5 → (bmA W)[a * 10 + b * 2]? = some (I (W a b).sq) ∧ (bmA W)[a * 10 + b * 2 + 1]? = some (I (W a b).mt) := by
  apply five_cases <;> apply five_cases <;> exact ⟨rfl, rfl⟩
theorem bm_set (W : Nat → Nat → Bs) (x : Bs) : ∀ a, a < 5 → ∀ b, b < 5 → ((bmA W).setIfInBounds (a * 10 + b * 2) (I x.sq)).setIfInBounds (a * 10 + b * 2 + 1) (I x.mt) = bmA (fun i j => if i = a ∧ j = b then x else W i j) := by
  apply five_cases <;> apply five_cases <;> rfl
theorem Whole.bm {w : World} {p : Nat} {t : TypeId} {W : Nat → Nat → Bs} (h : Whole w p t (bmA W)) (a b : Nat) (ha : a < 5) (hb : b < 5) (x : Bs) : Whole ((w.setCell ⟨p, a * 10 + b * 2, none⟩ (I x.sq)).setCell ⟨p, a * 10 + b * 2 + 1, none⟩ (I x.mt)) p t (bmA fun i j => if i = a ∧ j = b then x else W i j) := by
  rw [← bm_set W x a ha b hb]
  exact (h.setAt _ _).setAt _ _
theorem al50 (w : World) : (Instr.alloc 61 true (.tuple #[])).run Try.prog w = .ok (.pointer (some ⟨w.heap.size, 0, none⟩)) (w.alloc (.cells (bmA fun _ _ => zeB) 61)) := by kernel_rfl
theorem alc50 (w : World) (ρ : Operand → Value) (ds : Option Tmp) (ty : TypeId) (ps : String) (af : Array Edge) (g : Option (Nat × Bool)) :
    (execOp ρ { dst := ds, op := .alloc 61, type := ty, pos := ps, after := af, guard := g }).run Try.prog w = .ok (.value (.pointer (some ⟨w.heap.size, 0, none⟩))) (w.alloc (.cells (bmA fun _ _ => zeB) 61)) :=
  alloc_rule al50 w ρ ds ty ps af g
theorem least_ge (w : World) {z1 z2 : Int} {t : Bs} (h : geB ⟨z1, z2⟩ t) : Calls Try.prog 30 #[.agg #[.int .i64 z1, .int .i64 z2], .agg #[.int .i64 t.sq, .int .i64 t.mt]] w fun e w' => e = .returned (.bool true) ∧ Below w.heap.size w w' := by
  have := kleast ⟨z1, z2⟩ t w
  have e : leastB ⟨z1, z2⟩ t = true := by
    unfold leastB
    rcases h with h | ⟨h1, h2⟩
    · have : decide (t.sq < z1) = true := decide_eq_true h
      simp only [this, Bool.true_or]
    · have h1 : z1 = t.sq := h1
      have h2 : z2 ≤ t.mt := h2
      simp [h1, h2]
  rw [e] at this
  exact this
section
variable {w : World} {B : Nat} {ρ : Nat → Part} {i bk bx bs : Nat} {A : Nt} {C : Nat → Nat → Int} {V : Nat → Nat → Value}
theorem KN.beside {w' : World} {g : Nat} (h : KN w B ρ i bk bx bs A C V) (hg : ρ g = (0, 0)) (o : Only (· = g) w w') : KN w' B ρ i bk bx bs A C V :=
  h.of (fun k hk hp => o.block k hk (fun e => by rw [e, hg] at hp; simp at hp)) (fun _ _ => rfl)
theorem Aft.beside {i : Nat} {ρ ρ' : Nat → Part} {u v w : World} {g : Nat} (h : Aft i ρ ρ' u v) (o : Only (· = g) v w) (hg : u.heap.size ≤ g) : Aft i ρ ρ' u w :=
  ⟨h.only.trans o (fun k hk e => by omega), h.old, fun k hk => h.new k (Nat.le_trans o.size hk)⟩
theorem first_best {n : Nat} (h : KN w B ρ i bk bx bs (laidN n) C V) (n2 : 2 ≤ n) (n5 : n ≤ 5) (r : Nat) (hr : r < n) (hr0 : 0 < r) (hq : (((laidN n).rs r).t.be 0).sq = -1) :
    Calls Try.prog 29 #[.pointer (some ⟨bx, 0, none⟩), .int .i64 r, .int .i64 0] w fun e w' => ∃ m, e = .returned (.tuple #[.agg #[.int .i64 (-1), .int .i64 m], .int .i64 0]) ∧ Below w.heap.size w w' := by
  have hn := (laid_good n n2 n5).2
  refine (kbest h r (0 : Nat)).mono ?_
  rintro e w' ⟨h1, h2⟩
  have ha : asksE (laidN n) r (0 : Nat) = 0 := asks_up (by rw [hn]; exact hr) (by rw [hn]; omega) (by omega) (laid_up n n2 n5 r hr).1
  have hb : bestN (laidN n) r (0 : Nat) = ((laidN n).rs r).t.be 0 := by unfold bestN; rw [if_pos ha]; rfl
  rw [ha, hb] at h1
  refine ⟨(((laidN n).rs r).t.be 0).mt, ?_, h2⟩
  rw [h1]
  show Ending.returned (.tuple #[.agg #[.int .i64 (((laidN n).rs r).t.be 0).sq, .int .i64 (((laidN n).rs r).t.be 0).mt], .int .i64 0]) = _
  rw [hq]
end
attribute [local go_sem ↓] Go.wp_at_zero Go.wp_at_succ alc50
set_option maxHeartbeats 8000000 in
set_option maxRecDepth 100000 in
theorem betters_any (w : World) (size : Int) (fs : Fits size) (sa : Option Addr) (len cap : Nat) (f : Nat → St) (hS : Scp w sa len f) :
    Calls Try.prog 10 #[.int .i64 size, .slice sa len cap] w fun e w' => e = .returned (.bool true) ∧ Below w.heap.size w w' := by
  obtain ⟨n, hn, n2, n5⟩ := size_pick size
  have KL : Hid (Calls Try.prog 14 #[.int .i64 size] w fun e w' => ∃ bk bx bs, e = .returned (.pointer (some ⟨bk, 0, none⟩)) ∧ PostK w.heap.size 0 (fun _ => (0, 0)) bk bx bs (laidN n) w w') := klaid size n fs.1 fs.2 hn (fun _ _ => rfl) (Nat.le_refl _)
  have HS : Hid (Scp w sa len f) := hS
  have HG : Hid (Good (laidN n) ∧ (laidN n).n = n) := laid_good n n2 n5
  have HP : Hid (∀ k, (playF (laidN n) f k).n = n) := fun k => (playF_n (laid_good n n2 n5).1 f k).2.trans (laid_good n n2 n5).2
  have CB1 : Hid (∀ (u : World) (ρ : Nat → Part) (bk bx bs : Nat) V, KI u w.heap.size ρ 0 bk bx bs (laidN n) V → Calls Try.prog 29 #[.pointer (some ⟨bx, 0, none⟩), .int .i64 1, .int .i64 0] u fun e w' => ∃ m, e = .returned (.tuple #[.agg #[.int .i64 (-1), .int .i64 m], .int .i64 0]) ∧ Below u.heap.size u w') := fun u ρ bk bx bs V hK => first_best hK n2 n5 1 (by omega) (by omega) (laid_best n n2 n5).1
  have CB2 : Hid (∀ (u : World) (ρ : Nat → Part) (bk bx bs : Nat) V, KI u w.heap.size ρ 0 bk bx bs (laidN n) V → Calls Try.prog 29 #[.pointer (some ⟨bx, 0, none⟩), .int .i64 ((n : Int) - 1), .int .i64 0] u fun e w' => ∃ m, e = .returned (.tuple #[.agg #[.int .i64 (-1), .int .i64 m], .int .i64 0]) ∧ Below u.heap.size u w') := fun u ρ bk bx bs V hK => by
    have := first_best hK n2 n5 (n - 1) (by omega) (by omega) (laid_best n n2 n5).2
    rw [show ((n - 1 : Nat) : Int) = (n : Int) - 1 by omega] at this
    exact this
  clear hS hn fs
  go_enter Try.func10, Try.ntmps10
  go_wp2_with fail
  refine (KL.out).mono ?_
  rintro e w1 ⟨bk, bx, bs, rfl, ρ1, V1, q1, q2⟩
  clear KL
  have Q1 : Hid (KI w1 w.heap.size ρ1 0 bk bx bs (laidN n) V1) := q1
  have Q2 : Hid (Aft 0 (fun _ => (0, 0)) ρ1 w w1) := q2
  have PW0 : ρ1 w1.heap.size = (0, 0) := q2.new _ (Nat.le_refl _)
  have LB0 : w.heap.size ≤ w1.heap.size := q2.only.size
  have D0 : Hid (Whole (w1.alloc (.cells (bmA fun _ _ => zeB) 61)) w1.heap.size 61 (bmA fun _ _ => zeB)) := Whole.new w1 _ _
  have B0 : Hid (Below w1.heap.size w1 (w1.alloc (.cells (bmA fun _ _ => zeB) 61))) := (Below.refl _ _).alloc (Nat.le_refl _) _
  clear q1 q2
  go_wp2_with fail
  obtain ⟨wB, hwB⟩ : ∃ wB, wB = w1.heap.size := ⟨_, rfl⟩
  have PW : Hid (ρ1 wB = (0, 0)) := by rw [hwB]; exact PW0
  have LB : Hid (w.heap.size ≤ wB) := by rw [hwB]; exact LB0
  have L1 : Hid (w1.heap.size ≤ wB) := by rw [hwB]; exact Nat.le_refl _
  rw [← hwB] at D0 ⊢
  clear PW0 LB0 hwB
  go_loopw [7] (fun v wr => ∃ x : Nat, x ≤ 5 ∧ v = .int .i64 x ∧ ∃ W, Whole wr wB 61 (bmA W) ∧ (∀ a b, a < x → b < 5 → W a b = noBs) ∧ Below w1.heap.size w1 wr) (fun v _ => 5 - (intOf v).toNat)
  case atStart => exact ⟨0, by omega, rfl, _, D0.out, fun a b h => by omega, B0.out⟩
  case round =>
    clear D0 B0
    obtain ⟨x, hx, rfl, W, d1, g1, b1⟩ := hrel
    by_cases hx5 : x < 5
    · have hx5' : (x : Int) < 5 := by omega
      have D1 : Hid (Whole wr wB 61 (bmA W)) := d1
      have G1 : Hid (∀ a b, a < x → b < 5 → W a b = noBs) := g1
      have B1 : Hid (Below w1.heap.size w1 wr) := b1
      clear d1 g1 b1
      obtain ⟨wo, rfl⟩ : ∃ wo : World, wo = wr := ⟨_, rfl⟩
      go_wp2
      go_loopw [8] (fun v wr => ∃ y : Nat, y ≤ 5 ∧ v = .int .i64 y ∧ ∃ W, (∀ b, b < y → W x b = noBs) ∧ Whole wr wB 61 (bmA W) ∧ (∀ a b, a < x → b < 5 → W a b = noBs) ∧ Below w1.heap.size w1 wr) (fun v _ => 5 - (intOf v).toNat)
      case atStart => exact ⟨0, by omega, rfl, W, fun b h => by omega, D1.out, G1.out, B1.out⟩
      case round =>
        clear D1 G1 B1
        obtain ⟨y, hy, rfl, W', g0, d1, g1, b1⟩ := hrel
        by_cases hy5 : y < 5
        · have hy5' : (y : Int) < 5 := by omega
          have x1 : wr.cell? ⟨wB, x * 10 + y * 2, none⟩ = some (I (W' x y).sq) := (d1.cell _).trans (bm_at W' x hx5 y hy5).1
          have x2 : wr.cell? ⟨wB, x * 10 + y * 2 + 1, none⟩ = some (I (W' x y).mt) := (d1.cell _).trans (bm_at W' x hx5 y hy5).2
          have f1 := d1.frozen
          have Q : Hid (Whole ((wr.setCell ⟨wB, x * 10 + y * 2, none⟩ (I (-1))).setCell ⟨wB, x * 10 + y * 2 + 1, none⟩ (I 0)) wB 61 (bmA fun a b => if a = x ∧ b = y then noBs else W' a b)) := d1.bm x y hx5 hy5 noBs
          have G0 : Hid ((∀ b, b < y → W' x b = noBs) ∧ (∀ a b, a < x → b < 5 → W' a b = noBs)) := ⟨g0, g1⟩
          have B1 : Hid (Below w1.heap.size w1 wr) := b1
          clear d1 g0 g1 b1
          go_wp2
          go_roundw
          case rel =>
            refine ⟨y + 1, by omega, by go_num, _, fun b hb => ?_, Q.out, fun a b ha hb => ?_, (B1.out.setCell (p := ⟨wB, x * 10 + y * 2, none⟩) L1.out _).setCell (p := ⟨wB, x * 10 + y * 2 + 1, none⟩) L1.out _⟩
            · show (if x = x ∧ b = y then noBs else W' x b) = noBs
              by_cases e : b = y
              · rw [if_pos ⟨rfl, e⟩]
              · rw [if_neg (fun h => e h.2)]; exact G0.out.1 b (by omega)
            · show (if a = x ∧ b = y then noBs else W' a b) = noBs
              rw [if_neg (by omega)]; exact G0.out.2 a b ha hb
          case measure => simp [intOf]; omega
        · have e : y = 5 := by omega
          subst e
          have Q : Hid (Whole wr wB 61 (bmA W') ∧ (∀ a b, a < x + 1 → b < 5 → W' a b = noBs) ∧ Below w1.heap.size w1 wr) := ⟨d1, fun a b ha hb => by
            by_cases e : a = x
            · rw [e]; exact g0 b hb
            · exact g1 a b (by omega) hb, b1⟩
          clear d1 g0 g1 b1
          go_wp2
          go_roundw
          case rel => exact ⟨x + 1, by omega, by go_num, W', Q.out⟩
          case measure => simp [intOf]; omega
    · have e : x = 5 := by omega
      subst e
      obtain ⟨W0, hW0⟩ : ∃ W0, W0 = W := ⟨_, rfl⟩
      subst hW0
      have HW0 : Hid (∀ x y, x < n → y < n → geB (((playF (laidN n) f 0).rs x).t.be y) (W0 x y)) := fun x y hx hy => by
        rw [g1 x y (by omega) (by omega)]
        rcases (HG.out.1.t x (by rw [HG.out.2]; exact hx)).be y with e | e
        · show geB (((laidN n).rs x).t.be y) noBs
          rw [e]; exact geB_refl _
        · show geB (((laidN n).rs x).t.be y) noBs
          have := e.sq0
          exact .inl (by show -1 < _; omega)
      have D2 : Hid (Whole wr wB 61 (bmA W0)) := d1
      have K2 : Hid (KI wr w.heap.size ρ1 0 bk bx bs (laidN n) V1) := Q1.out.below b1
      have A2 : Hid (Aft 0 (fun _ => (0, 0)) ρ1 w wr) := Q2.out.trans (Aft.below b1 Q2.out.new)
      have c0 := K2.out.k0
      clear d1 g1 b1 Q1 Q2 L1
      obtain ⟨wo, rfl⟩ : ∃ wo : World, wo = wr := ⟨_, rfl⟩
      go_wp2_with fail
      refine (CB1.out _ _ _ _ _ _ K2.out).mono ?_
      rintro e w3 ⟨m1, rfl, b3⟩
      have b4 : Below wo.heap.size wo (w3.alloc (.cells #[.int .i64 (-1), .int .i64 m1] 50)) := b3.trans (((Below.refl _ _).alloc (Nat.le_refl _) _).mono b3.size)
      have O4 : Hid (Whole (w3.alloc (.cells #[.int .i64 (-1), .int .i64 m1] 50)) w3.heap.size 50 #[.int .i64 (-1), .int .i64 m1]) := Whole.new w3 _ _
      have K4 : Hid (KI (w3.alloc (.cells #[.int .i64 (-1), .int .i64 m1] 50)) w.heap.size ρ1 0 bk bx bs (laidN n) V1) := K2.out.below b4
      have A4 : Hid (Aft 0 (fun _ => (0, 0)) ρ1 w (w3.alloc (.cells #[.int .i64 (-1), .int .i64 m1] 50))) := A2.out.trans (Aft.below b4 A2.out.new)
      have D4 : Hid (Whole (w3.alloc (.cells #[.int .i64 (-1), .int .i64 m1] 50)) wB 61 (bmA W0)) := D2.out.below b4
      clear b3 b4 K2 A2 D2 c0
      go_wp2_with fail
      obtain ⟨oB, hoB⟩ : ∃ oB, oB = w3.heap.size := ⟨_, rfl⟩
      generalize hW4 : (w3.alloc (.cells #[.int .i64 (-1), .int .i64 m1] 50)) = w4 at *
      rw [← hoB] at O4 ⊢
      clear hW4 hoB
      have k1 := K4.out.k1
      rw [HG.out.2] at k1
      have sS : (fun v => v.cell? ⟨bk, 0, none⟩ = some (.pointer (some ⟨bx, 0, none⟩)) ∧ v.cell? ⟨bk, 1, none⟩ = some (.int .i64 n)) w4.drew := ⟨K4.out.k0, k1⟩
      have hwr : IntKind.i64.wrap ((n : Int) - 1) = (n : Int) - 1 := IntWalk.i64_in _ (by omega)
      have SK : Hid (∀ v, KI v w.heap.size ρ1 0 bk bx bs (laidN n) V1 → (fun v => v.cell? ⟨bk, 0, none⟩ = some (.pointer (some ⟨bx, 0, none⟩)) ∧ v.cell? ⟨bk, 1, none⟩ = some (.int .i64 n)) v) := fun v hv => ⟨hv.k0, by have := hv.k1; rw [HG.out.2] at this; exact this⟩
      clear k1
      refine wp_region_held_drew (S := (fun v => v.cell? ⟨bk, 0, none⟩ = some (.pointer (some ⟨bx, 0, none⟩)) ∧ v.cell? ⟨bk, 1, none⟩ = some (.int .i64 n))) (by kernel_rfl) sS (fun _ => ?_)
      change wpAnyH _ _ _ _ _ _ _ _ (World.drew _)
      refine held_hq (fun _ _ x _ _ h => by cases x <;> exact h) ?_
      intro hQ
      refine held_to 0 (some 45) (.pointer (some ⟨bk, 0, none⟩)) hQ sS rfl rfl (by kernel_rfl) (by kernel_rfl) (by kernel_rfl) (by kernel_rfl) (fun w _ => by go_simp) ?_
      refine held_to 1 (some 46) (.pointer (some ⟨bk, 0, none⟩)) hQ sS rfl rfl (by kernel_rfl) (by kernel_rfl) (by kernel_rfl) (by kernel_rfl) (fun w _ => by go_simp) ?_
      refine held_to 2 (some 47) (.pointer (some ⟨bk, 0, none⟩)) hQ sS rfl rfl (by kernel_rfl) (by kernel_rfl) (by kernel_rfl) (by kernel_rfl) (fun w _ => by go_simp) ?_
      refine held_to 3 (some 48) (.pointer (some ⟨bx, 0, none⟩)) hQ sS rfl rfl (by kernel_rfl) (by kernel_rfl) (by kernel_rfl) (by kernel_rfl) (fun w hS => by obtain ⟨e1, e2⟩ := hS; go_simp) ?_
      refine held_to 4 (some 49) (.pointer (some ⟨bk, 0, none⟩)) hQ sS rfl rfl (by kernel_rfl) (by kernel_rfl) (by kernel_rfl) (by kernel_rfl) (fun w _ => by go_simp) ?_
      refine held_to 5 (some 50) (.pointer (some ⟨bk, 0, none⟩)) hQ sS rfl rfl (by kernel_rfl) (by kernel_rfl) (by kernel_rfl) (by kernel_rfl) (fun w _ => by go_simp) ?_
      refine held_to 6 (some 51) (.pointer (some ⟨bk, 1, none⟩)) hQ sS rfl rfl (by kernel_rfl) (by kernel_rfl) (by kernel_rfl) (by kernel_rfl) (fun w _ => by go_simp) ?_
      refine held_to 7 (some 52) (.int .i64 n) hQ sS rfl rfl (by kernel_rfl) (by kernel_rfl) (by kernel_rfl) (by kernel_rfl) (fun w hS => by obtain ⟨e1, e2⟩ := hS; go_simp) ?_
      refine held_to 8 (some 53) (.int .i64 ((n : Int) - 1)) hQ sS rfl rfl (by kernel_rfl) (by kernel_rfl) (by kernel_rfl) (by kernel_rfl) (fun w _ => by go_simp) ?_
      refine wpAnyH_ready (rs := [9, 13]) (by kernel_rfl) (by simp) ?_
      refine AllReadyH.cons rfl (fun K hK => ?_) (AllReadyH.cons rfl (fun K hK => ?_) AllReadyH.nil)
      · go_simp
        go_wp2_with (go_at_call 29; refine (CB2.out _ _ _ _ _ _ K4.out.drew).mono ?_; rintro e w5 ⟨m2, rfl, b5⟩)
        have K5 : Hid (KI w5 w.heap.size ρ1 0 bk bx bs (laidN n) V1) := K4.out.drew.below b5
        have s5 := SK.out _ K5.out
        refine hK.out _ _ s5 (fun _ => ?_)
        clear hK K
        have b6 : Below w4.heap.size w4 (w5.alloc (.cells #[.int .i64 (-1), .int .i64 m2] 50)) := (show Below w4.heap.size w4 w5 from ⟨b5.os, b5.tape, b5.output, b5.size, b5.block⟩).trans (((Below.refl _ _).alloc (Nat.le_refl _) _).mono b5.size)
        have K8 : Hid (KI (w5.alloc (.cells #[.int .i64 (-1), .int .i64 m2] 50)) w.heap.size ρ1 0 bk bx bs (playF (laidN n) f 0) V1) := K4.out.below b6
        have B8 : Hid (Aft 0 (fun _ => (0, 0)) ρ1 w (w5.alloc (.cells #[.int .i64 (-1), .int .i64 m2] 50))) := A4.out.trans (Aft.below b6 A4.out.new)
        have D8 : Hid (Whole (w5.alloc (.cells #[.int .i64 (-1), .int .i64 m2] 50)) wB 61 (bmA W0)) := D4.out.below b6
        have y1 : (w5.alloc (.cells #[.int .i64 (-1), .int .i64 m2] 50)).cell? ⟨oB, 0, none⟩ = some (.int .i64 (-1)) := (O4.out.below b6).cell 0
        have y2 : (w5.alloc (.cells #[.int .i64 (-1), .int .i64 m2] 50)).cell? ⟨w5.heap.size, 0, none⟩ = some (.int .i64 (-1)) := (Whole.new w5 50 #[.int .i64 (-1), .int .i64 m2]).cell 0
        have S6 : Hid ((fun v => v.cell? ⟨bk, 0, none⟩ = some (.pointer (some ⟨bx, 0, none⟩)) ∧ v.cell? ⟨bk, 1, none⟩ = some (.int .i64 n)) (w5.alloc (.cells #[.int .i64 (-1), .int .i64 m2] 50))) := SK.out _ K8.out
        refine held_to 10 (some 44) (.tuple #[.agg #[.int .i64 (-1), .int .i64 m2], .int .i64 0]) hQ s5 rfl rfl (by kernel_rfl) (by kernel_rfl) (by kernel_rfl) (by kernel_rfl) (fun w _ => by go_simp) ?_
        refine held_to 11 (some 55) (.agg #[.int .i64 (-1), .int .i64 m2]) hQ s5 rfl rfl (by kernel_rfl) (by kernel_rfl) (by kernel_rfl) (by kernel_rfl) (fun w _ => by go_simp) ?_
        refine held_to 12 (some 56) (.int .i64 0) hQ s5 rfl rfl (by kernel_rfl) (by kernel_rfl) (by kernel_rfl) (by kernel_rfl) (fun w _ => by go_simp) ?_
        refine wpAnyH_ready (rs := [13]) (by kernel_rfl) (by simp) ?_
        refine AllReadyH.cons rfl (fun K hK => ?_) AllReadyH.nil
        go_simp
        refine hK.out _ _ (SK.out _ (K5.out.below ((Below.refl _ _).alloc (Nat.le_refl _) _))) (fun _ => ?_)
        clear hK K
        refine wpAnyH_ready (rs := [14]) (by kernel_rfl) (by simp) ?_
        refine AllReadyH.cons rfl (fun K hK => ?_) AllReadyH.nil
        go_simp
        refine hK.out _ _ (by first | exact S6.out | exact SK.out _ (K5.out.below ((Below.refl _ _).alloc (Nat.le_refl _) _))) (fun _ => ?_)
        clear hK K
        refine held_to 15 (some 12) (.int .i64 0) hQ S6.out rfl rfl (by kernel_rfl) (by kernel_rfl) (by kernel_rfl) (by kernel_rfl) (fun w _ => by go_simp) ?_
        refine wpAnyH_done (by kernel_rfl) ?_ _
        clear hQ
        go_simp
        clear s5 sS S6 K5 K4 A4 D4 O4 b5 b6 SK CB1 CB2
        go_wp2
        go_loopw [13] (fun v wr => ∃ k : Nat, k ≤ len ∧ k ≤ 150 ∧ v = .int .i64 k ∧ ∃ ρ' V' W, KI wr w.heap.size ρ' 0 bk bx bs (playF (laidN n) f k) V' ∧ Aft 0 (fun _ => (0, 0)) ρ' w wr ∧ ρ' wB = (0, 0) ∧ Whole wr wB 61 (bmA W) ∧ (∀ x y, x < n → y < n → geB (((playF (laidN n) f k).rs x).t.be y) (W x y))) (fun v _ => 150 - (intOf v).toNat)
        case atStart => exact ⟨0, by omega, by omega, rfl, ρ1, V1, W0, K8.out, B8.out, PW.out, D8.out, HW0.out⟩
        case round =>
          clear K8 D8 B8 HW0
          obtain ⟨k, hk, hkm, rfl, ρ2, V2, W, q1, q2, q3, q4, q5⟩ := hrel
          by_cases hgo : k < len ∧ k < 150
          · obtain ⟨hkl, hk1⟩ := hgo
            have hkl' : (k : Int) < (len : Int) := by omega
            have hk1' : (k : Int) < 150 := by omega
            have hk0 : (0 : Int) ≤ (k : Int) := by omega
            obtain ⟨sb, so, rfl, ⟨s0, s1, s2, s3⟩, ft⟩ := HS.out.at q2.all hkl
            have CX : Hid (Calls Try.prog 15 #[.pointer (some ⟨bk, 0, none⟩), .agg #[.int .i64 (f k).k, .int .i64 (f k).a, .int .i64 (f k).b, .int .i64 (f k).c]] wr fun e w' => e = .returned (.tuple #[]) ∧ PostK w.heap.size 0 ρ2 bk bx bs (playF (laidN n) f (k + 1)) wr w') := kdoes q1 q2.new q2.only.size (f k) ft
            have Q3 : Hid (ρ2 wB = (0, 0)) := q3
            have Q4 : Hid (Whole wr wB 61 (bmA W)) := q4
            have Q5 : Hid (∀ x y, x < n → y < n → geB (((playF (laidN n) f (k + 1)).rs x).t.be y) (W x y)) := fun x y hx hy => geB_trans (better_step q1.g (f k) x y (by rw [HP.out k]; exact hx)) (q5 x y hx hy)
            have Q6 : Hid (Aft 0 (fun _ => (0, 0)) ρ2 w wr) := q2
            have HN : Hid ((playF (laidN n) f (k + 1)).n = n) := HP.out (k + 1)
            clear q1 q2 q3 q4 q5 ft
            generalize hAe : playF (laidN n) f (k + 1) = A at *
            have HAe : Hid (A = playF (laidN n) f (k + 1)) := hAe.symm
            clear hAe
            obtain ⟨wo, rfl⟩ : ∃ wo : World, wo = wr := ⟨_, rfl⟩
            go_wp2_with fail
            refine (CX.out).mono ?_
            rintro e w2 ⟨rfl, ρ3, V3, t1, t2⟩
            have lw : wB < wo.heap.size := Q4.out.lt
            have K9 : Hid (KI w2 w.heap.size ρ3 0 bk bx bs A V3) := t1
            have P9 : Hid (ρ3 wB = (0, 0)) := by rw [t2.old wB lw]; exact Q3.out
            have D9 : Hid (Whole w2 wB 61 (bmA W)) := Q4.out.of (t2.only.block wB lw (by rw [Q3.out]; simp))
            have B9 : Hid (Aft 0 (fun _ => (0, 0)) ρ3 w w2) := Q6.out.trans t2
            clear t1 t2 CX Q3 Q4 Q6 s0 s1 s2 s3 lw
            go_wp2_with fail
            go_loopw [14] (fun v wr => ∃ x : Nat, x ≤ n ∧ v = .int .i64 x ∧ ∃ W, Only (· = wB) w2 wr ∧ Whole wr wB 61 (bmA W) ∧ (∀ x y, x < n → y < n → geB ((A.rs x).t.be y) (W x y))) (fun v _ => n - (intOf v).toNat)
            case atStart => exact ⟨0, by omega, rfl, W, Only.refl _ _, D9.out, Q5.out⟩
            case round =>
              clear Q5 D9
              obtain ⟨x, hx, rfl, W1, o1, d1, g1⟩ := hrel
              have KX := K9.out.beside P9.out o1
              have c1 := KX.k1
              rw [HN.out] at c1
              by_cases hxn : x < n
              · have hxn' : (x : Int) < (n : Int) := by omega
                have O1 : Hid (Only (· = wB) w2 wr) := o1
                have D1 : Hid (Whole wr wB 61 (bmA W1)) := d1
                have G1 : Hid (∀ x y, x < n → y < n → geB ((A.rs x).t.be y) (W1 x y)) := g1
                clear o1 d1 g1 KX
                obtain ⟨wp, rfl⟩ : ∃ wp : World, wp = wr := ⟨_, rfl⟩
                go_wp2
                go_loopw [15] (fun v wr => ∃ y : Nat, y ≤ n ∧ v = .int .i64 y ∧ ∃ W, Only (· = wB) w2 wr ∧ Whole wr wB 61 (bmA W) ∧ (∀ x y, x < n → y < n → geB ((A.rs x).t.be y) (W x y))) (fun v _ => n - (intOf v).toNat)
                case atStart => exact ⟨0, by omega, rfl, W1, O1.out, D1.out, G1.out⟩
                case round =>
                  clear O1 D1 G1 c1
                  obtain ⟨y, hy, rfl, W2, o1, d1, g1⟩ := hrel
                  have KX := K9.out.beside P9.out o1
                  have c1 := KX.k1
                  rw [HN.out] at c1
                  by_cases hyn : y < n
                  · have hyn' : (y : Int) < (n : Int) := by omega
                    have c0 := KX.k0
                    have hx5 : x < 5 := by omega
                    have hy5 : y < 5 := by omega
                    have hx5' : (x : Int) < 5 := by omega
                    have hy5' : (y : Int) < 5 := by omega
                    have CB : Hid (Calls Try.prog 29 #[.pointer (some ⟨bx, 0, none⟩), .int .i64 x, .int .i64 y] wr fun e w' => e = .returned (.tuple #[.agg #[.int .i64 (bestN A x y).sq, .int .i64 (bestN A x y).mt], .int .i64 (asksE A x y)]) ∧ Below wr.heap.size wr w') := kbest KX x y
                    have O1 : Hid (Only (· = wB) w2 wr) := o1
                    have D1 : Hid (Whole wr wB 61 (bmA W2)) := d1
                    have G1 : Hid (∀ x y, x < n → y < n → geB ((A.rs x).t.be y) (W2 x y)) := g1
                    clear o1 d1 g1 KX
                    by_cases hxy : x = y
                    · subst hxy
                      generalize asksE A x x = ae at CB
                      generalize (bestN A x x).sq = z1 at CB
                      generalize (bestN A x x).mt = z2 at CB
                      go_wp2_with fail
                      refine (CB.out).mono ?_
                      rintro e w3 ⟨rfl, b3⟩
                      have O3 : Hid (Only (· = wB) w2 w3) := O1.out.trans (Only.ofBelow b3) (fun _ _ h => h)
                      have D3 : Hid (Whole w3 wB 61 (bmA W2)) := D1.out.below b3
                      clear b3 O1 D1 CB
                      go_wp2
                      go_roundw
                      case rel => exact ⟨x + 1, by omega, by go_num, W2, O3.out.trans (Only.ofBelow ((Below.refl _ _).alloc (Nat.le_refl _) _)) (fun _ _ h => h), D3.out.alloc _, G1.out⟩
                      case measure => simp [intOf]; omega
                    · have hxy' : ((x : Int) == (y : Int)) = false := by rw [beq_eq_false_iff_ne]; omega
                      have hpe : pairE A.n x y = 0 := pairE_nat (by rw [HN.out]; exact hxn) (by rw [HN.out]; exact hyn) hxy
                      cases hdn : (A.rs x).dn with
                      | true =>
                        have ha : asksE A x y = 5 := by unfold asksE; rw [if_neg (by rw [hpe]; simp), Int.toNat_natCast, hdn]; rfl
                        rw [ha] at CB
                        clear ha hpe hdn
                        generalize (bestN A x y).sq = z1 at CB
                        generalize (bestN A x y).mt = z2 at CB
                        go_wp2_with fail
                        refine (CB.out).mono ?_
                        rintro e w3 ⟨rfl, b3⟩
                        have O3 : Hid (Only (· = wB) w2 w3) := O1.out.trans (Only.ofBelow b3) (fun _ _ h => h)
                        have D3 : Hid (Whole w3 wB 61 (bmA W2)) := D1.out.below b3
                        clear b3 O1 D1 CB
                        go_wp2
                        go_roundw
                        case rel => exact ⟨y + 1, by omega, by go_num, W2, O3.out.trans (Only.ofBelow ((Below.refl _ _).alloc (Nat.le_refl _) _)) (fun _ _ h => h), D3.out.alloc _, G1.out⟩
                        case measure => simp [intOf]; omega
                      | false =>
                        have ha : asksE A x y = 0 := by unfold asksE; rw [if_neg (by rw [hpe]; simp), Int.toNat_natCast, hdn]; rfl
                        have hbe : bestN A x y = (A.rs x).t.be y := by unfold bestN; rw [if_pos ha]; rfl
                        have hge := G1.out x y hxn hyn
                        have HG2 : Hid (∀ x' y', x' < n → y' < n → geB ((A.rs x').t.be y') ((fun a b => if a = x ∧ b = y then (A.rs x).t.be y else W2 a b) x' y')) := fun x' y' h1 h2 => by
                          show geB _ (if x' = x ∧ y' = y then _ else _)
                          split
                          · next e => rw [e.1, e.2]; exact geB_refl _
                          · exact G1.out x' y' h1 h2
                        rw [ha, hbe] at CB
                        clear ha hpe hdn hbe
                        generalize hBB : (A.rs x).t.be y = BB at *
                        clear hBB
                        obtain ⟨z1, z2⟩ := BB
                        have CL : Hid (∀ Wd : World, Calls Try.prog 30 #[.agg #[.int .i64 z1, .int .i64 z2], .agg #[.int .i64 (W2 x y).sq, .int .i64 (W2 x y).mt]] Wd fun e w' => e = .returned (.bool true) ∧ Below Wd.heap.size Wd w') := fun Wd => least_ge Wd hge
                        clear hge
                        go_wp2_with fail
                        refine (CB.out).mono ?_
                        rintro e w3 ⟨rfl, b3⟩
                        have O3 : Hid (Only (· = wB) w2 w3) := O1.out.trans (Only.ofBelow b3) (fun _ _ h => h)
                        have D3 : Hid (Whole w3 wB 61 (bmA W2)) := D1.out.below b3
                        clear b3 O1 D1 CB
                        have nb := Whole.new w3 50 #[.int .i64 z1, .int .i64 z2]
                        have D4 := D3.out.alloc (.cells #[.int .i64 z1, .int .i64 z2] 50)
                        have lb := D3.out.lt
                        have sS : (fun v => v.cell? ⟨w3.heap.size, 0, none⟩ = some (.int .i64 z1) ∧ v.cell? ⟨w3.heap.size, 1, none⟩ = some (.int .i64 z2) ∧ v.cell? ⟨wB, x * 10 + y * 2, none⟩ = some (.int .i64 (W2 x y).sq) ∧ v.cell? ⟨wB, x * 10 + y * 2 + 1, none⟩ = some (.int .i64 (W2 x y).mt)) (w3.alloc (.cells #[.int .i64 z1, .int .i64 z2] 50)).drew := ⟨nb.cell 0, nb.cell 1, (D4.cell _).trans (bm_at W2 x hx5 y hy5).1, (D4.cell _).trans (bm_at W2 x hx5 y hy5).2⟩
                        have O4 : Hid (Only (· = wB) w2 (w3.alloc (.cells #[.int .i64 z1, .int .i64 z2] 50)).drew) := (O3.out.trans (Only.ofBelow ((Below.refl _ _).alloc (Nat.le_refl _) _)) (fun _ _ h => h)).drew
                        have HD4 : Hid (Whole (w3.alloc (.cells #[.int .i64 z1, .int .i64 z2] 50)).drew wB 61 (bmA W2)) := D4.drew
                        have HNB : Hid (Whole (w3.alloc (.cells #[.int .i64 z1, .int .i64 z2] 50)).drew w3.heap.size 50 #[.int .i64 z1, .int .i64 z2]) := nb.drew
                        clear nb D4 O3 D3
                        go_wp2_with fail
                        refine wp_region_held_drew (S := (fun v => v.cell? ⟨w3.heap.size, 0, none⟩ = some (.int .i64 z1) ∧ v.cell? ⟨w3.heap.size, 1, none⟩ = some (.int .i64 z2) ∧ v.cell? ⟨wB, x * 10 + y * 2, none⟩ = some (.int .i64 (W2 x y).sq) ∧ v.cell? ⟨wB, x * 10 + y * 2 + 1, none⟩ = some (.int .i64 (W2 x y).mt))) (by kernel_rfl) sS (fun _ => ?_)
                        change wpAnyH _ _ _ _ _ _ _ _ (World.drew _)
                        refine held_hq (fun _ _ x _ _ h => by cases x <;> exact h) ?_
                        intro hQ
                        refine held_to 0 (some 122) (.agg #[.int .i64 z1, .int .i64 z2]) hQ sS rfl rfl (by kernel_rfl) (by kernel_rfl) (by kernel_rfl) (by kernel_rfl) (fun w hS => by obtain ⟨e1, e2, e3, e4⟩ := hS; go_simp) ?_
                        refine held_to 1 (some 123) (.int .i64 x) hQ sS rfl rfl (by kernel_rfl) (by kernel_rfl) (by kernel_rfl) (by kernel_rfl) (fun w _ => by go_simp) ?_
                        refine held_to 2 (some 124) (.int .i64 y) hQ sS rfl rfl (by kernel_rfl) (by kernel_rfl) (by kernel_rfl) (by kernel_rfl) (fun w _ => by go_simp) ?_
                        refine held_to 3 (some 125) (.pointer (some ⟨wB, x * 10, none⟩)) hQ sS rfl rfl (by kernel_rfl) (by kernel_rfl) (by kernel_rfl) (by kernel_rfl) (fun w _ => by go_simp) ?_
                        refine held_to 4 (some 126) (.pointer (some ⟨wB, x * 10 + y * 2, none⟩)) hQ sS rfl rfl (by kernel_rfl) (by kernel_rfl) (by kernel_rfl) (by kernel_rfl) (fun w _ => by go_simp) ?_
                        refine held_to 5 (some 127) (.agg #[.int .i64 (W2 x y).sq, .int .i64 (W2 x y).mt]) hQ sS rfl rfl (by kernel_rfl) (by kernel_rfl) (by kernel_rfl) (by kernel_rfl) (fun w hS => by obtain ⟨e1, e2, e3, e4⟩ := hS; go_simp) ?_
                        refine wpAnyH_ready (rs := [6]) (by kernel_rfl) (by simp) ?_
                        refine AllReadyH.cons rfl (fun K hK => ?_) AllReadyH.nil
                        go_simp
                        go_wp2_with (go_at_call 30; refine ((CL.out) _).mono ?_; rintro e w5 ⟨rfl, b5⟩)
                        refine hK.out _ _ (four_below2 sS b5) (fun _ => ?_)
                        clear hK K
                        refine held_to 7 (some 18) (.bool true) hQ (four_below2 sS b5) rfl rfl (by kernel_rfl) (by kernel_rfl) (by kernel_rfl) (by kernel_rfl) (fun w _ => by go_simp) ?_
                        refine wpAnyH_done (by kernel_rfl) ?_ _
                        clear hQ
                        go_simp
                        have HNB5 := HNB.out.below b5
                        have D5 := HD4.out.below b5
                        have r1 := HNB5.cell 0
                        have r2 := HNB5.cell 1
                        have x1 : w5.cell? ⟨wB, x * 10 + y * 2, none⟩ = some (I (W2 x y).sq) := (D5.cell _).trans (bm_at W2 x hx5 y hy5).1
                        have x2 : w5.cell? ⟨wB, x * 10 + y * 2 + 1, none⟩ = some (I (W2 x y).mt) := (D5.cell _).trans (bm_at W2 x hx5 y hy5).2
                        have f5 := D5.frozen
                        have HD5 : Hid (Whole w5 wB 61 (bmA W2)) := D5
                        have O5 : Hid (Only (· = wB) w2 w5) := O4.out.trans (Only.ofBelow b5) (fun _ _ h => h)
                        simp only [List.getElem?_toArray, List.getElem?_cons_zero, List.getElem?_cons_succ] at r1 r2
                        clear b5 sS HNB HNB5 D5 HD4 O4 CL
                        go_wp2_with fail
                        go_region
                        go_wp2
                        go_roundw
                        case rel =>
                          refine ⟨y + 1, by omega, by go_num, _, (((O5.out.setCell (p := ⟨wB, x * 10 + y * 2, none⟩) (.inl rfl) (I z1)).setCell (p := ⟨wB, x * 10 + y * 2 + 1, none⟩) (.inl rfl) (I z2))).drew, (HD5.out.bm x y hx5 hy5 ⟨z1, z2⟩).drew, HG2.out⟩
                        case measure => simp [intOf]; omega
                  · have hyn' : ¬ (y : Int) < (n : Int) := by omega
                    have Q7 : Hid (Only (· = wB) w2 wr ∧ Whole wr wB 61 (bmA W2) ∧ (∀ x y, x < n → y < n → geB ((A.rs x).t.be y) (W2 x y))) := ⟨o1, d1, g1⟩
                    clear o1 d1 g1 KX
                    go_wp2
                    go_roundw
                    case rel => exact ⟨x + 1, by omega, by go_num, W2, Q7.out⟩
                    case measure => simp [intOf]; omega
              · have hxn' : ¬ (x : Int) < (n : Int) := by omega
                have Q7 : Hid (KI wr w.heap.size ρ3 0 bk bx bs A V3 ∧ Aft 0 (fun _ => (0, 0)) ρ3 w wr ∧ ρ3 wB = (0, 0)) := ⟨KX, B9.out.beside o1 LB.out, P9.out⟩
                have Q8 : Hid (Whole wr wB 61 (bmA W1) ∧ (∀ x y, x < n → y < n → geB ((A.rs x).t.be y) (W1 x y))) := ⟨d1, g1⟩
                clear o1 d1 g1 KX
                go_wp2
                go_roundw
                case rel => exact ⟨k + 1, by omega, by omega, by go_num, ρ3, V3, W1, by rw [← HAe.out]; exact Q7.out.1, Q7.out.2.1, Q7.out.2.2, Q8.out.1, by rw [← HAe.out]; exact Q8.out.2⟩
                case measure => simp [intOf]; omega
          · have hex : ¬ (k : Int) < (len : Int) ∨ ((k : Int) < (len : Int) ∧ ¬ (k : Int) < 150) := by omega
            have Q6 : Hid (Below w.heap.size w wr) := q2.all
            clear q1 q2 q3 q4 q5 hgo hkm hk
            rcases hex with hex | ⟨hex1, hex⟩
            all_goals (
              go_wp2
              go_ret
              exact ⟨rfl, Q6.out⟩)
      · go_simp
        have z5 : Below w4.heap.size w4 (w4.alloc (.cells #[.int .i64 0, .int .i64 0] 50)).drew := ((Below.refl _ _).alloc (Nat.le_refl _) _).drew
        have T5 : Whole (w4.alloc (.cells #[.int .i64 0, .int .i64 0] 50)).drew w4.heap.size 50 #[.int .i64 0, .int .i64 0] := (Whole.new w4 _ _).drew
        have K5 : Hid (KI (w4.alloc (.cells #[.int .i64 0, .int .i64 0] 50)).drew w.heap.size ρ1 0 bk bx bs (laidN n) V1) := K4.out.below z5
        refine hK.out _ _ (SK.out _ K5.out) (fun _ => ?_)
        clear hK K
        refine wpAnyH_ready (rs := [9]) (by kernel_rfl) (by simp) ?_
        refine AllReadyH.cons rfl (fun K hK => ?_) AllReadyH.nil
        go_simp
        go_wp2_with (go_at_call 29; refine (CB2.out _ _ _ _ _ _ K5.out).mono ?_; rintro e w5 ⟨m2, rfl, b5⟩)
        have K6 : Hid (KI w5 w.heap.size ρ1 0 bk bx bs (laidN n) V1) := K5.out.below b5
        have s5 := SK.out _ K6.out
        refine hK.out _ _ s5 (fun _ => ?_)
        clear hK K
        have T6 := T5.below b5
        have t1 := T6.cell 0
        have t2 := T6.cell 1
        have tf := T6.frozen
        simp only [List.getElem?_toArray, List.getElem?_cons_zero, List.getElem?_cons_succ] at t1 t2
        have b7 : Below w4.heap.size w4 ((w5.setCell ⟨w4.heap.size, 0, none⟩ (.int .i64 (-1))).setCell ⟨w4.heap.size, 1, none⟩ (.int .i64 m2)) := ((z5.trans (b5.mono z5.size)).setCell (p := ⟨w4.heap.size, 0, none⟩) (Nat.le_refl _) _).setCell (p := ⟨w4.heap.size, 1, none⟩) (Nat.le_refl _) _
        have K8 : Hid (KI ((w5.setCell ⟨w4.heap.size, 0, none⟩ (.int .i64 (-1))).setCell ⟨w4.heap.size, 1, none⟩ (.int .i64 m2)) w.heap.size ρ1 0 bk bx bs (playF (laidN n) f 0) V1) := K4.out.below b7
        have B8 : Hid (Aft 0 (fun _ => (0, 0)) ρ1 w ((w5.setCell ⟨w4.heap.size, 0, none⟩ (.int .i64 (-1))).setCell ⟨w4.heap.size, 1, none⟩ (.int .i64 m2))) := A4.out.trans (Aft.below b7 A4.out.new)
        have D8 : Hid (Whole ((w5.setCell ⟨w4.heap.size, 0, none⟩ (.int .i64 (-1))).setCell ⟨w4.heap.size, 1, none⟩ (.int .i64 m2)) wB 61 (bmA W0)) := D4.out.below b7
        have y1 : ((w5.setCell ⟨w4.heap.size, 0, none⟩ (.int .i64 (-1))).setCell ⟨w4.heap.size, 1, none⟩ (.int .i64 m2)).cell? ⟨oB, 0, none⟩ = some (.int .i64 (-1)) := (O4.out.below b7).cell 0
        have y2 : ((w5.setCell ⟨w4.heap.size, 0, none⟩ (.int .i64 (-1))).setCell ⟨w4.heap.size, 1, none⟩ (.int .i64 m2)).cell? ⟨w4.heap.size, 0, none⟩ = some (.int .i64 (-1)) := ((T6.setAt 0 (.int .i64 (-1))).setAt 1 (.int .i64 m2)).cell 0
        have S6 : Hid ((fun v => v.cell? ⟨bk, 0, none⟩ = some (.pointer (some ⟨bx, 0, none⟩)) ∧ v.cell? ⟨bk, 1, none⟩ = some (.int .i64 n)) ((w5.setCell ⟨w4.heap.size, 0, none⟩ (.int .i64 (-1))).setCell ⟨w4.heap.size, 1, none⟩ (.int .i64 m2))) := SK.out _ K8.out
        refine held_to 10 (some 44) (.tuple #[.agg #[.int .i64 (-1), .int .i64 m2], .int .i64 0]) hQ s5 rfl rfl (by kernel_rfl) (by kernel_rfl) (by kernel_rfl) (by kernel_rfl) (fun w _ => by go_simp) ?_
        refine held_to 11 (some 55) (.agg #[.int .i64 (-1), .int .i64 m2]) hQ s5 rfl rfl (by kernel_rfl) (by kernel_rfl) (by kernel_rfl) (by kernel_rfl) (fun w _ => by go_simp) ?_
        refine held_to 12 (some 56) (.int .i64 0) hQ s5 rfl rfl (by kernel_rfl) (by kernel_rfl) (by kernel_rfl) (by kernel_rfl) (fun w _ => by go_simp) ?_
        refine wpAnyH_ready (rs := [14]) (by kernel_rfl) (by simp) ?_
        refine AllReadyH.cons rfl (fun K hK => ?_) AllReadyH.nil
        go_simp
        refine hK.out _ _ S6.out (fun _ => ?_)
        clear hK K
        refine held_to 15 (some 12) (.int .i64 0) hQ S6.out rfl rfl (by kernel_rfl) (by kernel_rfl) (by kernel_rfl) (by kernel_rfl) (fun w _ => by go_simp) ?_
        refine wpAnyH_done (by kernel_rfl) ?_ _
        clear hQ
        go_simp
        clear s5 sS S6 K5 K6 K4 A4 D4 O4 z5 b5 b7 T5 T6 t1 t2 tf SK CB1 CB2
        go_wp2
        go_loopw [13] (fun v wr => ∃ k : Nat, k ≤ len ∧ k ≤ 150 ∧ v = .int .i64 k ∧ ∃ ρ' V' W, KI wr w.heap.size ρ' 0 bk bx bs (playF (laidN n) f k) V' ∧ Aft 0 (fun _ => (0, 0)) ρ' w wr ∧ ρ' wB = (0, 0) ∧ Whole wr wB 61 (bmA W) ∧ (∀ x y, x < n → y < n → geB (((playF (laidN n) f k).rs x).t.be y) (W x y))) (fun v _ => 150 - (intOf v).toNat)
        case atStart => exact ⟨0, by omega, by omega, rfl, ρ1, V1, W0, K8.out, B8.out, PW.out, D8.out, HW0.out⟩
        case round =>
          clear K8 D8 B8 HW0
          obtain ⟨k, hk, hkm, rfl, ρ2, V2, W, q1, q2, q3, q4, q5⟩ := hrel
          by_cases hgo : k < len ∧ k < 150
          · obtain ⟨hkl, hk1⟩ := hgo
            have hkl' : (k : Int) < (len : Int) := by omega
            have hk1' : (k : Int) < 150 := by omega
            have hk0 : (0 : Int) ≤ (k : Int) := by omega
            obtain ⟨sb, so, rfl, ⟨s0, s1, s2, s3⟩, ft⟩ := HS.out.at q2.all hkl
            have CX : Hid (Calls Try.prog 15 #[.pointer (some ⟨bk, 0, none⟩), .agg #[.int .i64 (f k).k, .int .i64 (f k).a, .int .i64 (f k).b, .int .i64 (f k).c]] wr fun e w' => e = .returned (.tuple #[]) ∧ PostK w.heap.size 0 ρ2 bk bx bs (playF (laidN n) f (k + 1)) wr w') := kdoes q1 q2.new q2.only.size (f k) ft
            have Q3 : Hid (ρ2 wB = (0, 0)) := q3
            have Q4 : Hid (Whole wr wB 61 (bmA W)) := q4
            have Q5 : Hid (∀ x y, x < n → y < n → geB (((playF (laidN n) f (k + 1)).rs x).t.be y) (W x y)) := fun x y hx hy => geB_trans (better_step q1.g (f k) x y (by rw [HP.out k]; exact hx)) (q5 x y hx hy)
            have Q6 : Hid (Aft 0 (fun _ => (0, 0)) ρ2 w wr) := q2
            have HN : Hid ((playF (laidN n) f (k + 1)).n = n) := HP.out (k + 1)
            clear q1 q2 q3 q4 q5 ft
            generalize hAe : playF (laidN n) f (k + 1) = A at *
            have HAe : Hid (A = playF (laidN n) f (k + 1)) := hAe.symm
            clear hAe
            obtain ⟨wo, rfl⟩ : ∃ wo : World, wo = wr := ⟨_, rfl⟩
            go_wp2_with fail
            refine (CX.out).mono ?_
            rintro e w2 ⟨rfl, ρ3, V3, t1, t2⟩
            have lw : wB < wo.heap.size := Q4.out.lt
            have K9 : Hid (KI w2 w.heap.size ρ3 0 bk bx bs A V3) := t1
            have P9 : Hid (ρ3 wB = (0, 0)) := by rw [t2.old wB lw]; exact Q3.out
            have D9 : Hid (Whole w2 wB 61 (bmA W)) := Q4.out.of (t2.only.block wB lw (by rw [Q3.out]; simp))
            have B9 : Hid (Aft 0 (fun _ => (0, 0)) ρ3 w w2) := Q6.out.trans t2
            clear t1 t2 CX Q3 Q4 Q6 s0 s1 s2 s3 lw
            go_wp2_with fail
            go_loopw [14] (fun v wr => ∃ x : Nat, x ≤ n ∧ v = .int .i64 x ∧ ∃ W, Only (· = wB) w2 wr ∧ Whole wr wB 61 (bmA W) ∧ (∀ x y, x < n → y < n → geB ((A.rs x).t.be y) (W x y))) (fun v _ => n - (intOf v).toNat)
            case atStart => exact ⟨0, by omega, rfl, W, Only.refl _ _, D9.out, Q5.out⟩
            case round =>
              clear Q5 D9
              obtain ⟨x, hx, rfl, W1, o1, d1, g1⟩ := hrel
              have KX := K9.out.beside P9.out o1
              have c1 := KX.k1
              rw [HN.out] at c1
              by_cases hxn : x < n
              · have hxn' : (x : Int) < (n : Int) := by omega
                have O1 : Hid (Only (· = wB) w2 wr) := o1
                have D1 : Hid (Whole wr wB 61 (bmA W1)) := d1
                have G1 : Hid (∀ x y, x < n → y < n → geB ((A.rs x).t.be y) (W1 x y)) := g1
                clear o1 d1 g1 KX
                obtain ⟨wp, rfl⟩ : ∃ wp : World, wp = wr := ⟨_, rfl⟩
                go_wp2
                go_loopw [15] (fun v wr => ∃ y : Nat, y ≤ n ∧ v = .int .i64 y ∧ ∃ W, Only (· = wB) w2 wr ∧ Whole wr wB 61 (bmA W) ∧ (∀ x y, x < n → y < n → geB ((A.rs x).t.be y) (W x y))) (fun v _ => n - (intOf v).toNat)
                case atStart => exact ⟨0, by omega, rfl, W1, O1.out, D1.out, G1.out⟩
                case round =>
                  clear O1 D1 G1 c1
                  obtain ⟨y, hy, rfl, W2, o1, d1, g1⟩ := hrel
                  have KX := K9.out.beside P9.out o1
                  have c1 := KX.k1
                  rw [HN.out] at c1
                  by_cases hyn : y < n
                  · have hyn' : (y : Int) < (n : Int) := by omega
                    have c0 := KX.k0
                    have hx5 : x < 5 := by omega
                    have hy5 : y < 5 := by omega
                    have hx5' : (x : Int) < 5 := by omega
                    have hy5' : (y : Int) < 5 := by omega
                    have CB : Hid (Calls Try.prog 29 #[.pointer (some ⟨bx, 0, none⟩), .int .i64 x, .int .i64 y] wr fun e w' => e = .returned (.tuple #[.agg #[.int .i64 (bestN A x y).sq, .int .i64 (bestN A x y).mt], .int .i64 (asksE A x y)]) ∧ Below wr.heap.size wr w') := kbest KX x y
                    have O1 : Hid (Only (· = wB) w2 wr) := o1
                    have D1 : Hid (Whole wr wB 61 (bmA W2)) := d1
                    have G1 : Hid (∀ x y, x < n → y < n → geB ((A.rs x).t.be y) (W2 x y)) := g1
                    clear o1 d1 g1 KX
                    by_cases hxy : x = y
                    · subst hxy
                      generalize asksE A x x = ae at CB
                      generalize (bestN A x x).sq = z1 at CB
                      generalize (bestN A x x).mt = z2 at CB
                      go_wp2_with fail
                      refine (CB.out).mono ?_
                      rintro e w3 ⟨rfl, b3⟩
                      have O3 : Hid (Only (· = wB) w2 w3) := O1.out.trans (Only.ofBelow b3) (fun _ _ h => h)
                      have D3 : Hid (Whole w3 wB 61 (bmA W2)) := D1.out.below b3
                      clear b3 O1 D1 CB
                      go_wp2
                      go_roundw
                      case rel => exact ⟨x + 1, by omega, by go_num, W2, O3.out.trans (Only.ofBelow ((Below.refl _ _).alloc (Nat.le_refl _) _)) (fun _ _ h => h), D3.out.alloc _, G1.out⟩
                      case measure => simp [intOf]; omega
                    · have hxy' : ((x : Int) == (y : Int)) = false := by rw [beq_eq_false_iff_ne]; omega
                      have hpe : pairE A.n x y = 0 := pairE_nat (by rw [HN.out]; exact hxn) (by rw [HN.out]; exact hyn) hxy
                      cases hdn : (A.rs x).dn with
                      | true =>
                        have ha : asksE A x y = 5 := by unfold asksE; rw [if_neg (by rw [hpe]; simp), Int.toNat_natCast, hdn]; rfl
                        rw [ha] at CB
                        clear ha hpe hdn
                        generalize (bestN A x y).sq = z1 at CB
                        generalize (bestN A x y).mt = z2 at CB
                        go_wp2_with fail
                        refine (CB.out).mono ?_
                        rintro e w3 ⟨rfl, b3⟩
                        have O3 : Hid (Only (· = wB) w2 w3) := O1.out.trans (Only.ofBelow b3) (fun _ _ h => h)
                        have D3 : Hid (Whole w3 wB 61 (bmA W2)) := D1.out.below b3
                        clear b3 O1 D1 CB
                        go_wp2
                        go_roundw
                        case rel => exact ⟨y + 1, by omega, by go_num, W2, O3.out.trans (Only.ofBelow ((Below.refl _ _).alloc (Nat.le_refl _) _)) (fun _ _ h => h), D3.out.alloc _, G1.out⟩
                        case measure => simp [intOf]; omega
                      | false =>
                        have ha : asksE A x y = 0 := by unfold asksE; rw [if_neg (by rw [hpe]; simp), Int.toNat_natCast, hdn]; rfl
                        have hbe : bestN A x y = (A.rs x).t.be y := by unfold bestN; rw [if_pos ha]; rfl
                        have hge := G1.out x y hxn hyn
                        have HG2 : Hid (∀ x' y', x' < n → y' < n → geB ((A.rs x').t.be y') ((fun a b => if a = x ∧ b = y then (A.rs x).t.be y else W2 a b) x' y')) := fun x' y' h1 h2 => by
                          show geB _ (if x' = x ∧ y' = y then _ else _)
                          split
                          · next e => rw [e.1, e.2]; exact geB_refl _
                          · exact G1.out x' y' h1 h2
                        rw [ha, hbe] at CB
                        clear ha hpe hdn hbe
                        generalize hBB : (A.rs x).t.be y = BB at *
                        clear hBB
                        obtain ⟨z1, z2⟩ := BB
                        have CL : Hid (∀ Wd : World, Calls Try.prog 30 #[.agg #[.int .i64 z1, .int .i64 z2], .agg #[.int .i64 (W2 x y).sq, .int .i64 (W2 x y).mt]] Wd fun e w' => e = .returned (.bool true) ∧ Below Wd.heap.size Wd w') := fun Wd => least_ge Wd hge
                        clear hge
                        go_wp2_with fail
                        refine (CB.out).mono ?_
                        rintro e w3 ⟨rfl, b3⟩
                        have O3 : Hid (Only (· = wB) w2 w3) := O1.out.trans (Only.ofBelow b3) (fun _ _ h => h)
                        have D3 : Hid (Whole w3 wB 61 (bmA W2)) := D1.out.below b3
                        clear b3 O1 D1 CB
                        have nb := Whole.new w3 50 #[.int .i64 z1, .int .i64 z2]
                        have D4 := D3.out.alloc (.cells #[.int .i64 z1, .int .i64 z2] 50)
                        have lb := D3.out.lt
                        have sS : (fun v => v.cell? ⟨w3.heap.size, 0, none⟩ = some (.int .i64 z1) ∧ v.cell? ⟨w3.heap.size, 1, none⟩ = some (.int .i64 z2) ∧ v.cell? ⟨wB, x * 10 + y * 2, none⟩ = some (.int .i64 (W2 x y).sq) ∧ v.cell? ⟨wB, x * 10 + y * 2 + 1, none⟩ = some (.int .i64 (W2 x y).mt)) (w3.alloc (.cells #[.int .i64 z1, .int .i64 z2] 50)).drew := ⟨nb.cell 0, nb.cell 1, (D4.cell _).trans (bm_at W2 x hx5 y hy5).1, (D4.cell _).trans (bm_at W2 x hx5 y hy5).2⟩
                        have O4 : Hid (Only (· = wB) w2 (w3.alloc (.cells #[.int .i64 z1, .int .i64 z2] 50)).drew) := (O3.out.trans (Only.ofBelow ((Below.refl _ _).alloc (Nat.le_refl _) _)) (fun _ _ h => h)).drew
                        have HD4 : Hid (Whole (w3.alloc (.cells #[.int .i64 z1, .int .i64 z2] 50)).drew wB 61 (bmA W2)) := D4.drew
                        have HNB : Hid (Whole (w3.alloc (.cells #[.int .i64 z1, .int .i64 z2] 50)).drew w3.heap.size 50 #[.int .i64 z1, .int .i64 z2]) := nb.drew
                        clear nb D4 O3 D3
                        go_wp2_with fail
                        refine wp_region_held_drew (S := (fun v => v.cell? ⟨w3.heap.size, 0, none⟩ = some (.int .i64 z1) ∧ v.cell? ⟨w3.heap.size, 1, none⟩ = some (.int .i64 z2) ∧ v.cell? ⟨wB, x * 10 + y * 2, none⟩ = some (.int .i64 (W2 x y).sq) ∧ v.cell? ⟨wB, x * 10 + y * 2 + 1, none⟩ = some (.int .i64 (W2 x y).mt))) (by kernel_rfl) sS (fun _ => ?_)
                        change wpAnyH _ _ _ _ _ _ _ _ (World.drew _)
                        refine held_hq (fun _ _ x _ _ h => by cases x <;> exact h) ?_
                        intro hQ
                        refine held_to 0 (some 122) (.agg #[.int .i64 z1, .int .i64 z2]) hQ sS rfl rfl (by kernel_rfl) (by kernel_rfl) (by kernel_rfl) (by kernel_rfl) (fun w hS => by obtain ⟨e1, e2, e3, e4⟩ := hS; go_simp) ?_
                        refine held_to 1 (some 123) (.int .i64 x) hQ sS rfl rfl (by kernel_rfl) (by kernel_rfl) (by kernel_rfl) (by kernel_rfl) (fun w _ => by go_simp) ?_
                        refine held_to 2 (some 124) (.int .i64 y) hQ sS rfl rfl (by kernel_rfl) (by kernel_rfl) (by kernel_rfl) (by kernel_rfl) (fun w _ => by go_simp) ?_
                        refine held_to 3 (some 125) (.pointer (some ⟨wB, x * 10, none⟩)) hQ sS rfl rfl (by kernel_rfl) (by kernel_rfl) (by kernel_rfl) (by kernel_rfl) (fun w _ => by go_simp) ?_
                        refine held_to 4 (some 126) (.pointer (some ⟨wB, x * 10 + y * 2, none⟩)) hQ sS rfl rfl (by kernel_rfl) (by kernel_rfl) (by kernel_rfl) (by kernel_rfl) (fun w _ => by go_simp) ?_
                        refine held_to 5 (some 127) (.agg #[.int .i64 (W2 x y).sq, .int .i64 (W2 x y).mt]) hQ sS rfl rfl (by kernel_rfl) (by kernel_rfl) (by kernel_rfl) (by kernel_rfl) (fun w hS => by obtain ⟨e1, e2, e3, e4⟩ := hS; go_simp) ?_
                        refine wpAnyH_ready (rs := [6]) (by kernel_rfl) (by simp) ?_
                        refine AllReadyH.cons rfl (fun K hK => ?_) AllReadyH.nil
                        go_simp
                        go_wp2_with (go_at_call 30; refine ((CL.out) _).mono ?_; rintro e w5 ⟨rfl, b5⟩)
                        refine hK.out _ _ (four_below2 sS b5) (fun _ => ?_)
                        clear hK K
                        refine held_to 7 (some 18) (.bool true) hQ (four_below2 sS b5) rfl rfl (by kernel_rfl) (by kernel_rfl) (by kernel_rfl) (by kernel_rfl) (fun w _ => by go_simp) ?_
                        refine wpAnyH_done (by kernel_rfl) ?_ _
                        clear hQ
                        go_simp
                        have HNB5 := HNB.out.below b5
                        have D5 := HD4.out.below b5
                        have r1 := HNB5.cell 0
                        have r2 := HNB5.cell 1
                        have x1 : w5.cell? ⟨wB, x * 10 + y * 2, none⟩ = some (I (W2 x y).sq) := (D5.cell _).trans (bm_at W2 x hx5 y hy5).1
                        have x2 : w5.cell? ⟨wB, x * 10 + y * 2 + 1, none⟩ = some (I (W2 x y).mt) := (D5.cell _).trans (bm_at W2 x hx5 y hy5).2
                        have f5 := D5.frozen
                        have HD5 : Hid (Whole w5 wB 61 (bmA W2)) := D5
                        have O5 : Hid (Only (· = wB) w2 w5) := O4.out.trans (Only.ofBelow b5) (fun _ _ h => h)
                        simp only [List.getElem?_toArray, List.getElem?_cons_zero, List.getElem?_cons_succ] at r1 r2
                        clear b5 sS HNB HNB5 D5 HD4 O4 CL
                        go_wp2_with fail
                        go_region
                        go_wp2
                        go_roundw
                        case rel =>
                          refine ⟨y + 1, by omega, by go_num, _, (((O5.out.setCell (p := ⟨wB, x * 10 + y * 2, none⟩) (.inl rfl) (I z1)).setCell (p := ⟨wB, x * 10 + y * 2 + 1, none⟩) (.inl rfl) (I z2))).drew, (HD5.out.bm x y hx5 hy5 ⟨z1, z2⟩).drew, HG2.out⟩
                        case measure => simp [intOf]; omega
                  · have hyn' : ¬ (y : Int) < (n : Int) := by omega
                    have Q7 : Hid (Only (· = wB) w2 wr ∧ Whole wr wB 61 (bmA W2) ∧ (∀ x y, x < n → y < n → geB ((A.rs x).t.be y) (W2 x y))) := ⟨o1, d1, g1⟩
                    clear o1 d1 g1 KX
                    go_wp2
                    go_roundw
                    case rel => exact ⟨x + 1, by omega, by go_num, W2, Q7.out⟩
                    case measure => simp [intOf]; omega
              · have hxn' : ¬ (x : Int) < (n : Int) := by omega
                have Q7 : Hid (KI wr w.heap.size ρ3 0 bk bx bs A V3 ∧ Aft 0 (fun _ => (0, 0)) ρ3 w wr ∧ ρ3 wB = (0, 0)) := ⟨KX, B9.out.beside o1 LB.out, P9.out⟩
                have Q8 : Hid (Whole wr wB 61 (bmA W1) ∧ (∀ x y, x < n → y < n → geB ((A.rs x).t.be y) (W1 x y))) := ⟨d1, g1⟩
                clear o1 d1 g1 KX
                go_wp2
                go_roundw
                case rel => exact ⟨k + 1, by omega, by omega, by go_num, ρ3, V3, W1, by rw [← HAe.out]; exact Q7.out.1, Q7.out.2.1, Q7.out.2.2, Q8.out.1, by rw [← HAe.out]; exact Q8.out.2⟩
                case measure => simp [intOf]; omega
          · have hex : ¬ (k : Int) < (len : Int) ∨ ((k : Int) < (len : Int) ∧ ¬ (k : Int) < 150) := by omega
            have Q6 : Hid (Below w.heap.size w wr) := q2.all
            clear q1 q2 q3 q4 q5 hgo hkm hk
            rcases hex with hex | ⟨hex1, hex⟩
            all_goals (
              go_wp2
              go_ret
              exact ⟨rfl, Q6.out⟩)
end Go.Proofs.Ytdoodnbobpijoaa
