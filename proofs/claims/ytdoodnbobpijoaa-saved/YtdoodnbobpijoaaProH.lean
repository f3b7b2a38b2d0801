import Derived.Test.YtdoodnbobpijoaaProG
namespace Go.Proofs.Ytdoodnbobpijoaa
open Go.RowKit
attribute [local go_sem ↓] Go.wp_at_zero Go.wp_at_succ
set_option maxHeartbeats 8000000 in
set_option maxRecDepth 100000 in
theorem prefers_3 (b o d a : Nat) (T : Tb) (f : Nat → Int) (t : Bs) (w : World) (hd : d < 5) (h5 : a < 5) (hK : KT w b o T) (hn : decide (0 ≤ (T.ro d).nx) = true) (hx5 : (T.ro d).nx < 5) (ha : ((T.ro d).nx == (a : Int)) = false)
    (m0 : 0 ≤ (T.ro d).mt) (m1 : (T.ro d).mt ≤ 30) (t0 : 0 ≤ t.mt) (t1 : t.mt ≤ 30) (hf : ∀ k, 0 ≤ f k ∧ f k ≤ 9) :
    Calls Try.prog 84 #[.pointer (some ⟨b, o, none⟩), .int .i64 d, .int .i64 a, .agg (bsA t), .agg (coA f)] w fun e w' => e = .returned (.bool (decide (bet ⟨t.sq, t.mt + f a⟩ ⟨(T.ro d).sq, (T.ro d).mt + f (T.ro d).nx.toNat⟩))) ∧ Below w.heap.size w w' := by
  have P : Hid (Prf w ((w.alloc (.cells (bsA t) 92)).alloc (.cells (coA f) 85)).drew b o d T f t w.heap.size (w.heap.size + 1)) := Prf.mk0 w b o d T f t hK
  have hd' : (d : Int) < 5 := by omega
  have h5' : (a : Int) < 5 := by omega
  have hn' : 0 ≤ (T.ro d).nx := by simpa using hn
  clear hK
  have FT : ∀ W : World, KT W b o T → Calls Try.prog 103 #[.pointer (some ⟨b, o, none⟩), .int .i64 d, .agg (coA f)] W fun e w' => e = .returned (.agg (bsA ⟨(T.ro d).sq, (T.ro d).mt + f (T.ro d).nx.toNat⟩)) ∧ Below W.heap.size W w' := fun W hK => telling_any b o d T f W hd hK hn' hx5 m0 m1 (hf _).1 (hf _).2
  have FF : ∀ W : World, Calls Try.prog 108 #[.agg (bsA t), .int .i64 (f a)] W fun e w' => e = .returned (.agg (bsA ⟨t.sq, t.mt + f a⟩)) ∧ Below W.heap.size W w' := fun W => farther_any t (f a) W t0 t1 (hf _).1 (hf _).2
  obtain ⟨r, hr⟩ : ∃ r, r = decide (bet ⟨t.sq, t.mt + f a⟩ ⟨(T.ro d).sq, (T.ro d).mt + f (T.ro d).nx.toNat⟩) := ⟨_, rfl⟩
  have FB : ∀ W : World, Calls Try.prog 106 #[.agg (bsA ⟨t.sq, t.mt + f a⟩), .agg (bsA ⟨(T.ro d).sq, (T.ro d).mt + f (T.ro d).nx.toNat⟩)] W fun e w' => e = .returned (.bool r) ∧ Below W.heap.size W w' := fun W => by rw [hr]; exact pbetter_any _ _ W
  rw [← hr]
  clear m0 m1 t0 t1 hf hn' hx5 hr
  go_enter Try.func84, Try.ntmps84
  go_wp2_with fail
  generalize ((w.alloc (.cells (bsA t) 92)).alloc (.cells (coA f) 85)) = W at *
  have r0 := (P.out.kt.ro5 d hd).1
  have q0 := P.out.t0
  have q1 := P.out.t1
  have ca := P.out.c a h5
  have c0 := P.out.c 0 (by omega)
  have c1 := P.out.c 1 (by omega)
  have c2 := P.out.c 2 (by omega)
  have c3 := P.out.c 3 (by omega)
  have c4 := P.out.c 4 (by omega)
  first | go_region_with (first
    | (go_at_call 79; refine (hasr_any b o d T _ hd P.out.kt).mono ?_; rw [hn]; rintro e w1 ⟨rfl, rfl⟩)
    | (go_at_call 108; refine (FF _).mono ?_; rintro e w1 ⟨rfl, hb⟩; replace P : Hid (Prf w w1 b o d T f t w.heap.size (w.heap.size + 1)) := P.out.step hb; clear hb; have q0 := P.out.t0; have q1 := P.out.t1; have ca := P.out.c a h5; have c0 := P.out.c 0 (by omega); have c1 := P.out.c 1 (by omega); have c2 := P.out.c 2 (by omega); have c3 := P.out.c 3 (by omega); have c4 := P.out.c 4 (by omega))
    | (go_at_call 103; refine (FT _ P.out.kt).mono ?_; rintro e w1 ⟨rfl, hb⟩; replace P : Hid (Prf w w1 b o d T f t w.heap.size (w.heap.size + 1)) := P.out.step hb; clear hb; have q0 := P.out.t0; have q1 := P.out.t1; have ca := P.out.c a h5; have c0 := P.out.c 0 (by omega); have c1 := P.out.c 1 (by omega); have c2 := P.out.c 2 (by omega); have c3 := P.out.c 3 (by omega); have c4 := P.out.c 4 (by omega))
    | (go_at_call 106; refine (FB _).mono ?_; rintro e w1 ⟨rfl, hb⟩; replace P : Hid (Prf w w1 b o d T f t w.heap.size (w.heap.size + 1)) := P.out.step hb; clear hb)) | fail
  all_goals go_simp
  all_goals go_wp2
  all_goals go_ret
  all_goals exact ⟨rfl, P.out.below⟩
end Go.Proofs.Ytdoodnbobpijoaa
