import Derived.Test.YtdoodnbobpijoaaProF
namespace Go.Proofs.Ytdoodnbobpijoaa
open Go.RowKit
attribute [local go_sem ↓] Go.wp_at_zero Go.wp_at_succ
/-- What 'prefers' finds in a world of its own: the telling at p, the costs at q, what the router knows. -/
structure Prf (w W : World) (b o d : Nat) (T : Tb) (f : Nat → Int) (t : Bs) (p q : Nat) : Prop where
  below : Below w.heap.size w W
  kt : KT W b o T
  t0 : W.cell? ⟨p, 0, none⟩ = some (I t.sq)
  t1 : W.cell? ⟨p, 1, none⟩ = some (I t.mt)
  c : ∀ k, k < 5 → W.cell? ⟨q, k, none⟩ = some (I (f k))
theorem Prf.step {w W W' : World} {b o d : Nat} {T : Tb} {f : Nat → Int} {t : Bs} {p q : Nat} (h : Prf w W b o d T f t p q) (hb : Below W.heap.size W W') : Prf w W' b o d T f t p q :=
  ⟨h.below.trans (hb.mono h.below.size), h.kt.below hb, cell_below h.t0 hb, cell_below h.t1 hb, fun k hk => cell_below (h.c k hk) hb⟩
theorem Prf.mk0 (w : World) (b o d : Nat) (T : Tb) (f : Nat → Int) (t : Bs) (hK : KT w b o T) :
    Prf w ((w.alloc (.cells (bsA t) 92)).alloc (.cells (coA f) 85)).drew b o d T f t w.heap.size (w.heap.size + 1) := by
  have nb : Below w.heap.size w ((w.alloc (.cells (bsA t) 92)).alloc (.cells (coA f) 85)) := ((Below.refl _ _).alloc (Nat.le_refl _) _).alloc (by simp) _
  have n0 : Whole ((w.alloc (.cells (bsA t) 92)).alloc (.cells (coA f) 85)) w.heap.size 92 (bsA t) := (Whole.new w _ _).alloc _
  have n1 : Whole ((w.alloc (.cells (bsA t) 92)).alloc (.cells (coA f) 85)) (w.heap.size + 1) 85 (coA f) := by
    have := Whole.new (w.alloc (.cells (bsA t) 92)) 85 (coA f)
    simp only [World.size_alloc] at this
    exact this
  exact ⟨nb.drew, (hK.below nb).of rfl, n0.cell 0, n0.cell 1, fun k hk => (n1.cell k).trans (coA_at f k hk)⟩
theorem any_hq {P : Program} {md : Region.Mode} {ops : Array Oper} {Q : Exit → Act → World → Prop} {fuel : Nat} {listed : Array Bool} {a : Act} {w : World} (hQ : ∀ c a x v w, Q (.panic c) (a.put x v) w → Q (.panic c) a w)
    (h : (∀ c a x v w, Q (.panic c) (a.put x v) w → Q (.panic c) a w) → wpAny P md ops Q fuel listed a w) : wpAny P md ops Q fuel listed a w := h hQ
theorem take_un {P : Program} {md : Region.Mode} {ops : Array Oper} {Q : Exit → Act → World → Prop} {fuel : Nat} {listed : Array Bool} {a : Act} {w : World} {oi : Oper} (i : Nat) (x : Option Nat) (hQ : ∀ c a x v w, Q (.panic c) (a.put x v) w → Q (.panic c) a w) (hi : ops[i]? = some oi) (hx : oi.dst = x)
    (hs : Region.noSelect ops = true) (hf : Region.free md ops listed i = true) (hr : (Region.ready md ops listed).contains i = true) (hw : Region.wanted oi (yielded ops a.tmps) = false)
    (h : wpAny P md ops Q fuel (listed.setIfInBounds i true) (a.put x undef) w) : wpAny P md ops Q (fuel + 1) listed a w :=
  wpAny_take hi hs hf hr (fun c _ w h => hQ c _ _ _ w h) (.inr ⟨hw, rfl⟩) (by rw [hx]; exact h)
theorem take_to {P : Program} {md : Region.Mode} {ops : Array Oper} {Q : Exit → Act → World → Prop} {fuel : Nat} {listed : Array Bool} {a : Act} {w : World} {oi : Oper} (i : Nat) (x : Option Nat) (v : Value) (hQ : ∀ c a x v w, Q (.panic c) (a.put x v) w → Q (.panic c) a w) (hi : ops[i]? = some oi) (hx : oi.dst = x)
    (hs : Region.noSelect ops = true) (hf : Region.free md ops listed i = true) (hr : (Region.ready md ops listed).contains i = true) (hw : Region.wanted oi (yielded ops a.tmps) = true)
    (hv : ∀ w, (execOp a.eval oi).run P w = .ok (.value v) w)
    (h : wpAny P md ops Q fuel (listed.setIfInBounds i true) (a.put x v) w) : wpAny P md ops Q (fuel + 1) listed a w :=
  wpAny_take hi hs hf hr (fun c _ w h => hQ c _ _ _ w h) (.inl ⟨hw, hv⟩) (by rw [hx]; exact h)
/-- What the place of a route to d is taken for. -/
abbrev prefs (T : Tb) (f : Nat → Int) (d a : Nat) (t : Bs) : Prop := (T.ro d).nx < 0 ∨ (T.ro d).nx = a ∨ bet ⟨t.sq, t.mt + f a⟩ ⟨(T.ro d).sq, (T.ro d).mt + f (T.ro d).nx.toNat⟩
set_option maxHeartbeats 1000000 in
set_option maxRecDepth 100000 in
theorem prefers_1 (b o d a : Nat) (T : Tb) (f : Nat → Int) (t : Bs) (w : World) (hd : d < 5) (hK : KT w b o T) (hn : decide (0 ≤ (T.ro d).nx) = false) :
    Calls Try.prog 84 #[.pointer (some ⟨b, o, none⟩), .int .i64 d, .int .i64 a, .agg (bsA t), .agg (coA f)] w fun e w' => e = .returned (.bool true) ∧ Below w.heap.size w w' := by
  have P : Hid (Prf w ((w.alloc (.cells (bsA t) 92)).alloc (.cells (coA f) 85)).drew b o d T f t w.heap.size (w.heap.size + 1)) := Prf.mk0 w b o d T f t hK
  clear hK
  go_enter Try.func84, Try.ntmps84
  go_wp2_with fail
  generalize ((w.alloc (.cells (bsA t) 92)).alloc (.cells (coA f) 85)) = W at *
  refine wp_region_any (by kernel_rfl) ?_
  change wpAny _ _ _ _ _ _ _ (World.drew _)
  refine any_hq (fun _ _ x _ _ h => by cases x <;> exact h) ?_
  intro hQ
  refine take_to 0 (some 11) (.pointer (some ⟨b, o, none⟩)) hQ rfl rfl (by kernel_rfl) (by kernel_rfl) (by kernel_rfl) (by kernel_rfl) (fun w => by go_simp) ?_
  refine take_to 1 (some 12) (.int .i64 d) hQ rfl rfl (by kernel_rfl) (by kernel_rfl) (by kernel_rfl) (by kernel_rfl) (fun w => by go_simp) ?_
  refine wpAny_ready (rs := [2]) (by kernel_rfl) (by simp) ?_
  refine AllReady.cons rfl (fun K hK => ?_) AllReady.nil
  go_simp
  go_wp2_with (go_at_call 79; refine (hasr_any b o d T _ hd P.out.kt).mono ?_; rw [hn]; rintro e w1 ⟨rfl, rfl⟩)
  refine take_to 3 (some 14) (.bool true) hQ rfl rfl (by kernel_rfl) (by kernel_rfl) (by kernel_rfl) (by kernel_rfl) (fun w => by go_simp) ?_
  refine take_to 4 (some 15) (.bool true) hQ rfl rfl (by kernel_rfl) (by kernel_rfl) (by kernel_rfl) (by kernel_rfl) (fun w => by go_simp) ?_
  refine take_un 5 (some 16) hQ rfl rfl (by kernel_rfl) (by kernel_rfl) (by kernel_rfl) (by kernel_rfl) ?_
  refine take_un 6 (some 17) hQ rfl rfl (by kernel_rfl) (by kernel_rfl) (by kernel_rfl) (by kernel_rfl) ?_
  refine take_un 7 (some 18) hQ rfl rfl (by kernel_rfl) (by kernel_rfl) (by kernel_rfl) (by kernel_rfl) ?_
  refine take_un 8 (some 19) hQ rfl rfl (by kernel_rfl) (by kernel_rfl) (by kernel_rfl) (by kernel_rfl) ?_
  refine take_un 9 (some 20) hQ rfl rfl (by kernel_rfl) (by kernel_rfl) (by kernel_rfl) (by kernel_rfl) ?_
  refine take_un 10 (some 21) hQ rfl rfl (by kernel_rfl) (by kernel_rfl) (by kernel_rfl) (by kernel_rfl) ?_
  refine take_un 11 (some 22) hQ rfl rfl (by kernel_rfl) (by kernel_rfl) (by kernel_rfl) (by kernel_rfl) ?_
  refine take_un 12 (some 23) hQ rfl rfl (by kernel_rfl) (by kernel_rfl) (by kernel_rfl) (by kernel_rfl) ?_
  refine take_un 13 (some 24) hQ rfl rfl (by kernel_rfl) (by kernel_rfl) (by kernel_rfl) (by kernel_rfl) ?_
  refine take_to 14 (some 25) (.bool true) hQ rfl rfl (by kernel_rfl) (by kernel_rfl) (by kernel_rfl) (by kernel_rfl) (fun w => by go_simp) ?_
  refine take_to 15 (some 26) (.bool true) hQ rfl rfl (by kernel_rfl) (by kernel_rfl) (by kernel_rfl) (by kernel_rfl) (fun w => by go_simp) ?_
  refine take_un 16 (some 27) hQ rfl rfl (by kernel_rfl) (by kernel_rfl) (by kernel_rfl) (by kernel_rfl) ?_
  refine take_un 17 (some 28) hQ rfl rfl (by kernel_rfl) (by kernel_rfl) (by kernel_rfl) (by kernel_rfl) ?_
  refine take_un 18 (some 29) hQ rfl rfl (by kernel_rfl) (by kernel_rfl) (by kernel_rfl) (by kernel_rfl) ?_
  refine take_un 19 (some 30) hQ rfl rfl (by kernel_rfl) (by kernel_rfl) (by kernel_rfl) (by kernel_rfl) ?_
  refine take_un 20 (some 31) hQ rfl rfl (by kernel_rfl) (by kernel_rfl) (by kernel_rfl) (by kernel_rfl) ?_
  refine take_un 21 (some 32) hQ rfl rfl (by kernel_rfl) (by kernel_rfl) (by kernel_rfl) (by kernel_rfl) ?_
  refine take_un 22 (some 33) hQ rfl rfl (by kernel_rfl) (by kernel_rfl) (by kernel_rfl) (by kernel_rfl) ?_
  refine take_un 23 (some 34) hQ rfl rfl (by kernel_rfl) (by kernel_rfl) (by kernel_rfl) (by kernel_rfl) ?_
  refine take_un 24 (some 35) hQ rfl rfl (by kernel_rfl) (by kernel_rfl) (by kernel_rfl) (by kernel_rfl) ?_
  refine take_un 25 (some 36) hQ rfl rfl (by kernel_rfl) (by kernel_rfl) (by kernel_rfl) (by kernel_rfl) ?_
  refine take_to 26 (some 37) (.bool true) hQ rfl rfl (by kernel_rfl) (by kernel_rfl) (by kernel_rfl) (by kernel_rfl) (fun w => by go_simp) ?_
  refine take_to 27 (some 10) (.bool true) hQ rfl rfl (by kernel_rfl) (by kernel_rfl) (by kernel_rfl) (by kernel_rfl) (fun w => by go_simp) ?_
  refine wpAny_done (by kernel_rfl) ?_ _
  clear hQ
  go_simp
  go_wp2
  go_ret
  exact ⟨rfl, P.out.below⟩
set_option maxHeartbeats 1000000 in
set_option maxRecDepth 100000 in
theorem prefers_2 (b o d a : Nat) (T : Tb) (f : Nat → Int) (t : Bs) (w : World) (hd : d < 5) (hK : KT w b o T) (hn : decide (0 ≤ (T.ro d).nx) = true) (ha : ((T.ro d).nx == (a : Int)) = true) :
    Calls Try.prog 84 #[.pointer (some ⟨b, o, none⟩), .int .i64 d, .int .i64 a, .agg (bsA t), .agg (coA f)] w fun e w' => e = .returned (.bool true) ∧ Below w.heap.size w w' := by
  have P : Hid (Prf w ((w.alloc (.cells (bsA t) 92)).alloc (.cells (coA f) 85)).drew b o d T f t w.heap.size (w.heap.size + 1)) := Prf.mk0 w b o d T f t hK
  have hd' : (d : Int) < 5 := by omega
  clear hK
  go_enter Try.func84, Try.ntmps84
  go_wp2_with fail
  generalize ((w.alloc (.cells (bsA t) 92)).alloc (.cells (coA f) 85)) = W at *
  have r0 := (P.out.kt.ro5 d hd).1
  refine wp_region_any (by kernel_rfl) ?_
  change wpAny _ _ _ _ _ _ _ (World.drew _)
  refine any_hq (fun _ _ x _ _ h => by cases x <;> exact h) ?_
  intro hQ
  refine take_to 0 (some 11) (.pointer (some ⟨b, o, none⟩)) hQ rfl rfl (by kernel_rfl) (by kernel_rfl) (by kernel_rfl) (by kernel_rfl) (fun w => by go_simp) ?_
  refine take_to 1 (some 12) (.int .i64 d) hQ rfl rfl (by kernel_rfl) (by kernel_rfl) (by kernel_rfl) (by kernel_rfl) (fun w => by go_simp) ?_
  refine wpAny_ready (rs := [2]) (by kernel_rfl) (by simp) ?_
  refine AllReady.cons rfl (fun K hK => ?_) AllReady.nil
  go_simp
  go_wp2_with (go_at_call 79; refine (hasr_any b o d T _ hd P.out.kt).mono ?_; rw [hn]; rintro e w1 ⟨rfl, rfl⟩)
  refine take_to 3 (some 14) (.bool false) hQ rfl rfl (by kernel_rfl) (by kernel_rfl) (by kernel_rfl) (by kernel_rfl) (fun w => by go_simp) ?_
  refine take_to 4 (some 15) (.bool false) hQ rfl rfl (by kernel_rfl) (by kernel_rfl) (by kernel_rfl) (by kernel_rfl) (fun w => by go_simp) ?_
  refine take_to 5 (some 16) (.pointer (some ⟨b, o, none⟩)) hQ rfl rfl (by kernel_rfl) (by kernel_rfl) (by kernel_rfl) (by kernel_rfl) (fun w => by go_simp) ?_
  refine take_to 6 (some 17) (.int .i64 d) hQ rfl rfl (by kernel_rfl) (by kernel_rfl) (by kernel_rfl) (by kernel_rfl) (fun w => by go_simp) ?_
  refine take_to 7 (some 18) (.pointer (some ⟨b, o, none⟩)) hQ rfl rfl (by kernel_rfl) (by kernel_rfl) (by kernel_rfl) (by kernel_rfl) (fun w => by go_simp) ?_
  refine take_to 8 (some 19) (.pointer (some ⟨b, o + 1, none⟩)) hQ rfl rfl (by kernel_rfl) (by kernel_rfl) (by kernel_rfl) (by kernel_rfl) (fun w => by go_simp) ?_
  refine take_to 9 (some 20) (.pointer (some ⟨b, o + 1 + d * 5, none⟩)) hQ rfl rfl (by kernel_rfl) (by kernel_rfl) (by kernel_rfl) (by kernel_rfl) (fun w => by go_simp) ?_
  refine take_to 10 (some 21) (.pointer (some ⟨b, o + 1 + d * 5, none⟩)) hQ rfl rfl (by kernel_rfl) (by kernel_rfl) (by kernel_rfl) (by kernel_rfl) (fun w => by go_simp) ?_
  refine take_to 12 (some 23) (.int .i64 a) hQ rfl rfl (by kernel_rfl) (by kernel_rfl) (by kernel_rfl) (by kernel_rfl) (fun w => by go_simp) ?_
  refine wpAny_ready (rs := [11]) (by kernel_rfl) (by simp) ?_
  refine AllReady.cons rfl (fun K hK => ?_) AllReady.nil
  go_simp
  refine hK _ _ ?_
  clear hK K
  refine take_to 13 (some 24) (.bool true) hQ rfl rfl (by kernel_rfl) (by kernel_rfl) (by kernel_rfl) (by kernel_rfl) (fun w => by go_simp) ?_
  refine take_to 14 (some 25) (.bool true) hQ rfl rfl (by kernel_rfl) (by kernel_rfl) (by kernel_rfl) (by kernel_rfl) (fun w => by go_simp) ?_
  refine take_to 15 (some 26) (.bool true) hQ rfl rfl (by kernel_rfl) (by kernel_rfl) (by kernel_rfl) (by kernel_rfl) (fun w => by go_simp) ?_
  refine take_un 16 (some 27) hQ rfl rfl (by kernel_rfl) (by kernel_rfl) (by kernel_rfl) (by kernel_rfl) ?_
  refine take_un 17 (some 28) hQ rfl rfl (by kernel_rfl) (by kernel_rfl) (by kernel_rfl) (by kernel_rfl) ?_
  refine take_un 18 (some 29) hQ rfl rfl (by kernel_rfl) (by kernel_rfl) (by kernel_rfl) (by kernel_rfl) ?_
  refine take_un 19 (some 30) hQ rfl rfl (by kernel_rfl) (by kernel_rfl) (by kernel_rfl) (by kernel_rfl) ?_
  refine take_un 20 (some 31) hQ rfl rfl (by kernel_rfl) (by kernel_rfl) (by kernel_rfl) (by kernel_rfl) ?_
  refine take_un 21 (some 32) hQ rfl rfl (by kernel_rfl) (by kernel_rfl) (by kernel_rfl) (by kernel_rfl) ?_
  refine take_un 22 (some 33) hQ rfl rfl (by kernel_rfl) (by kernel_rfl) (by kernel_rfl) (by kernel_rfl) ?_
  refine take_un 23 (some 34) hQ rfl rfl (by kernel_rfl) (by kernel_rfl) (by kernel_rfl) (by kernel_rfl) ?_
  refine take_un 24 (some 35) hQ rfl rfl (by kernel_rfl) (by kernel_rfl) (by kernel_rfl) (by kernel_rfl) ?_
  refine take_un 25 (some 36) hQ rfl rfl (by kernel_rfl) (by kernel_rfl) (by kernel_rfl) (by kernel_rfl) ?_
  refine take_to 26 (some 37) (.bool true) hQ rfl rfl (by kernel_rfl) (by kernel_rfl) (by kernel_rfl) (by kernel_rfl) (fun w => by go_simp) ?_
  refine take_to 27 (some 10) (.bool true) hQ rfl rfl (by kernel_rfl) (by kernel_rfl) (by kernel_rfl) (by kernel_rfl) (fun w => by go_simp) ?_
  refine wpAny_done (by kernel_rfl) ?_ _
  clear hQ
  go_simp
  go_wp2
  go_ret
  exact ⟨rfl, P.out.below⟩
end Go.Proofs.Ytdoodnbobpijoaa
