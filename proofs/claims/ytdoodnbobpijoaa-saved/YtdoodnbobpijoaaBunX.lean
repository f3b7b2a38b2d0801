import Derived.Test.YtdoodnbobpijoaaBunS
import Derived.Test.YtdoodnbobpijoaaBunM
import Derived.Defers
import Derived.Recover
import Derived.Laws.Pointers
namespace Go.Proofs.Ytdoodnbobpijoaa
open Go.RowKit

/-! ### What a Dump tells, and what it leaves: the program's and the document's -/
theorem tell_told {A : Nt} (g : GoodP A) (x : Nat) (hx : x < A.n) : tellM (farT (A.rs x).t (A.co x) 5) (A.co x) x = toldM A x := by
  have hn := g.n5
  funext d
  unfold tellM toldM
  by_cases e : d = x
  · rw [if_pos e, if_pos e]; rfl
  · rw [if_neg e, if_neg e]
    have hro : (farT (A.rs x).t (A.co x) 5).ro d = if 0 ≤ ((A.rs x).t.ro d).nx ∧ 30 < total A x ((A.rs x).t.ro d) then noRt else (A.rs x).t.ro d := by
      show (if d < 5 ∧ _ then _ else _) = _
      rcases (g.t x hx).ro d with h | h
      · rw [h, if_neg (by rw [noRt_nx]; omega), if_neg (by rw [noRt_nx]; omega)]
      · have hd := h.dn
        have : (d < 5 ∧ 0 ≤ ((A.rs x).t.ro d).nx ∧ 30 < ((A.rs x).t.ro d).mt + A.co x ((A.rs x).t.ro d).nx.toNat) ↔ (0 ≤ ((A.rs x).t.ro d).nx ∧ 30 < total A x ((A.rs x).t.ro d)) := by
          unfold total
          omega
        simp only [this]
    rw [hro]
    by_cases h0 : ((A.rs x).t.ro d).nx < 0
    · have h1 : ¬ (0 ≤ ((A.rs x).t.ro d).nx ∧ 30 < total A x ((A.rs x).t.ro d)) := by omega
      rw [if_neg h1, if_pos h0, if_neg (by omega)]
    · rw [if_neg h0]
      by_cases h3 : 30 < total A x ((A.rs x).t.ro d)
      · have hc : 0 ≤ ((A.rs x).t.ro d).nx ∧ 30 < total A x ((A.rs x).t.ro d) := ⟨by omega, h3⟩
        rw [if_pos hc, if_pos h3, if_neg (by rw [noRt_nx]; decide)]
      · have h1 : ¬ (0 ≤ ((A.rs x).t.ro d).nx ∧ 30 < total A x ((A.rs x).t.ro d)) := by omega
        rw [if_neg h1, if_neg h3, if_pos (by omega)]; rfl
theorem raise_told {A : Nt} (g : GoodP A) (x : Nat) (hx : x < A.n) : raiseT (farT (A.rs x).t (A.co x) 5) (toldM A x) x 5 = toldT A x := by
  have hn := g.n5
  unfold raiseT toldT farT
  congr 1
  · funext d
    show (if d < 5 ∧ 0 ≤ ((A.rs x).t.ro d).nx ∧ 30 < ((A.rs x).t.ro d).mt + A.co x ((A.rs x).t.ro d).nx.toNat then noRt else (A.rs x).t.ro d) = if d ≠ x ∧ 0 ≤ ((A.rs x).t.ro d).nx ∧ 30 < total A x ((A.rs x).t.ro d) then noRt else (A.rs x).t.ro d
    rcases (g.t x hx).ro d with h | h
    · rw [h, if_neg (by rw [noRt_nx]; omega), if_neg (by rw [noRt_nx]; omega)]
    · have hd := h.dn
      have hdr := h.dr
      have : (d < 5 ∧ 0 ≤ ((A.rs x).t.ro d).nx ∧ 30 < ((A.rs x).t.ro d).mt + A.co x ((A.rs x).t.ro d).nx.toNat) ↔ (d ≠ x ∧ 0 ≤ ((A.rs x).t.ro d).nx ∧ 30 < total A x ((A.rs x).t.ro d)) := by
        unfold total
        omega
      simp only [this]
  · funext d
    show (if d < 5 ∧ d ≠ x ∧ bet (toldM A x d) ((A.rs x).t.be d) then toldM A x d else (A.rs x).t.be d) = if d ≠ x ∧ 0 ≤ ((A.rs x).t.ro d).nx ∧ total A x ((A.rs x).t.ro d) ≤ 30 ∧ bet ⟨((A.rs x).t.ro d).sq, total A x ((A.rs x).t.ro d)⟩ ((A.rs x).t.be d) then ⟨((A.rs x).t.ro d).sq, total A x ((A.rs x).t.ro d)⟩ else (A.rs x).t.be d
    have hnb : ¬ bet noBs ((A.rs x).t.be d) := fun hb => by
      rcases (g.t x hx).be d with e | e
      · rw [e] at hb; exact bet_irrefl hb
      · have h1 := e.sq0
        have h2 : noBs.sq = -1 := rfl
        omega
    by_cases e : d = x
    · rw [if_neg (by omega), if_neg (fun h => h.1 e)]
    · by_cases h0 : ((A.rs x).t.ro d).nx < 0
      · rw [(told_none A x d e h0).1, if_neg (fun h => hnb h.2.2), if_neg (by omega)]
      · by_cases h3 : 30 < total A x ((A.rs x).t.ro d)
        · rw [(told_far A x d e (by omega) h3).1, if_neg (fun h => hnb h.2.2), if_neg (by omega)]
        · rw [(told_near A x d e (by omega) (by omega)).1]
          have hd5 : d < 5 := by
            rcases (g.t x hx).ro d with h | h
            · rw [h, noRt_nx] at h0; omega
            · have := h.dn; omega
          by_cases hb : bet ⟨((A.rs x).t.ro d).sq, total A x ((A.rs x).t.ro d)⟩ ((A.rs x).t.be d)
          · rw [if_pos ⟨hd5, e, hb⟩, if_pos ⟨e, by omega, by omega, hb⟩]
          · rw [if_neg (fun h => hb h.2.2), if_neg (fun h => hb h.2.2.2)]
theorem sent_dump {A : Nt} (g : GoodP A) (x : Nat) (R : Ro) (hR : R = { (A.rs x) with t := toldT A x, dk := toldT A x }) : ({ upR A x R with wa := sentM (upR A x R) x (toldM A x) 5 } : Nt) = dumpOk A x := by
  have hn := g.n5
  have hwa : sentM (upR A x R) x (toldM A x) 5 = (dumpOk A x).wa := by
    funext a c
    show (if a = x ∧ c < 5 ∧ 0 < A.co x c ∧ (A.wa x c).length < 6 then A.wa x c ++ [toldM A x] else A.wa a c) = if a = x ∧ c < A.n ∧ 0 < A.co x c ∧ (A.wa x c).length < 6 then A.wa x c ++ [toldM A x] else A.wa a c
    have : (a = x ∧ c < 5 ∧ 0 < A.co x c ∧ (A.wa x c).length < 6) ↔ (a = x ∧ c < A.n ∧ 0 < A.co x c ∧ (A.wa x c).length < 6) := by
      constructor
      · rintro ⟨h1, h2, h3, h4⟩; exact ⟨h1, (g.cn x c h3).2, h3, h4⟩
      · rintro ⟨h1, h2, h3, h4⟩; exact ⟨h1, by omega, h3, h4⟩
    simp only [this]
  rw [hwa, hR]
  rfl
theorem PN.dk {w : World} {bx bs : Nat} {A : Nt} {V : Nat → Nat → Value} (h : PN w bx bs A V) (i : Nat) (hi : i < A.n) : KT w bs (i * 74 + 36) (A.rs i).dk :=
  ⟨fun j hj => by rw [show i * 74 + 36 + j = i * 74 + (36 + j) by omega, h.r i (36 + j) hi (by omega), roV_dk _ _ hj], h.rfz⟩
/-- A router's knowledge and disk turned. -/
theorem pn_dump {w w' : World} {bx bs : Nat} {A : Nt} {V : Nat → Nat → Value} (h : PN w bx bs A V) (i : Nat) (hi : i < A.n) {bl : Nat} {T : Tb} (hk : KT w' bs (i * 74) T) (hd : KT w' bs (i * 74 + 36) T) (hc : Ck w w' bs bl bl) (ho : ∀ p, p < i * 74 ∨ i * 74 + 72 ≤ p → w'.cell? ⟨bs, p, none⟩ = w.cell? ⟨bs, p, none⟩) (_hl : bs < bl) (hx : bx < bl) : PN w' bx bs (upR A i { (A.rs i) with t := T, dk := T }) V := by
  refine h.upd i _ (hc.block bx h.lt h.ne (by omega) (.inl hx)) hk.fz (fun _ j hj => ?_) (fun o ho' => ho o (by omega))
  unfold roV
  by_cases h36 : j < 36
  · rw [if_pos h36]; exact hk.at_ j h36
  · rw [if_neg h36]
    by_cases h72 : j < 72
    · rw [if_pos h72]
      have := hd.at_ (j - 36) (by omega)
      rw [show i * 74 + 36 + (j - 36) = i * 74 + j by omega] at this
      exact this
    · rw [if_neg h72, ho _ (by omega), h.r i j hi hj]
      unfold roV
      rw [if_neg h36, if_neg h72]
/-- What is held while a Dump goes on. -/
def SX (bw bq bx bs n x : Nat) (f : Nat → Int) (w' : World) : Prop := w'.cell? ⟨bw, 0, none⟩ = some (.pointer (some ⟨bx, 0, none⟩)) ∧ w'.cell? ⟨bq, 0, none⟩ = some (.int .i64 x) ∧ w'.cell? ⟨bx, 0, none⟩ = some (.slice (some ⟨bs, 0, none⟩) n n) ∧ midA w' bx (1 + x * 5) 5 = coA f ∧ MidOk w' bx (1 + x * 5) 5
theorem SX.of {bw bq bx bs n x : Nat} {f : Nat → Int} {w w' : World} (h : SX bw bq bx bs n x f w) (h1 : w'.heap[bw]? = w.heap[bw]?) (h2 : w'.heap[bq]? = w.heap[bq]?) (h3 : w'.heap[bx]? = w.heap[bx]?) : SX bw bq bx bs n x f w' :=
  ⟨(World.cell?_of_block (w := w) h1).trans h.1, (World.cell?_of_block (w := w) h2).trans h.2.1, (World.cell?_of_block (w := w) h3).trans h.2.2.1, (midA_of h3 _ _).trans h.2.2.2.1, h.2.2.2.2.of h3⟩
theorem SX.sent {bw bq bx bs x : Nat} {A A' : Nt} {V : Nat → Nat → Value} {w w' : World} (h : SX bw bq bx bs A.n x (A.co x) w) (p : PN w' bx bs A' V) (hx : x < 5) (h1 : w'.heap[bw]? = w.heap[bw]?) (h2 : w'.heap[bq]? = w.heap[bq]?) (hn : A'.n = A.n := by rfl) (hc : A'.co = A.co := by rfl) : SX bw bq bx bs A.n x (A.co x) w' :=
  ⟨(World.cell?_of_block (w := w) h1).trans h.1, (World.cell?_of_block (w := w) h2).trans h.2.1, by rw [← hn]; exact p.rs, by rw [← hc]; exact (p.cost x hx).1, (p.cost x hx).2⟩
attribute [local go_sem ↓] Go.wp_at_zero Go.wp_at_succ
set_option maxHeartbeats 4000000 in
set_option maxRecDepth 100000 in
theorem dump1_ok (bw bq bx bs bl x B w00 : Nat) (ρ : Nat → Part) (tg : Nat → Nat → Part) (A : Nt) (V : Nat → Nat → Value) (w : World) (g : GoodP A) (hxn : x < A.n) (hR : PN w bx bs A V) (hW : WR w B 104 ρ tg V A.wa) (hBw : B ≤ w.heap.size) (tz : TgOk tg) (hbx : ∀ a c, ρ bx ≠ tg a c) (hbs : ∀ a c, ρ bs ≠ tg a c) (h0 : ∀ j, w00 ≤ j → ρ j = (0, 0)) (hw0 : bx < w00) (hs0 : bs < w00)
    (hbw0 : w00 ≤ bw) (hbq0 : w00 ≤ bq) (hbw : bw < bl) (hbq : bq < bl) (hcw : w.cell? ⟨bw, 0, none⟩ = some (.pointer (some ⟨bx, 0, none⟩))) (hcq : w.cell? ⟨bq, 0, none⟩ = some (.int .i64 x)) (hL : Lg w bl bs (x * 74) bl []) (hfa : (A.rs x).fa = 0) :
    Calls Try.prog 49 #[.pointer (some ⟨bl, 0, none⟩), .pointer (some ⟨bw, 0, none⟩), .pointer (some ⟨bq, 0, none⟩)] w fun e w' => e = .returned (.tuple #[]) ∧ ∃ ρ' V', PN w' bx bs (dumpOk A x) V' ∧ WR w' B 104 ρ' tg V' (dumpOk A x).wa ∧ (∀ k, k < w.heap.size → ρ' k = ρ k) ∧ (∀ k, w'.heap.size ≤ k → ρ' k = (0, 0)) ∧ w.heap.size ≤ w'.heap.size ∧ w'.os = w.os ∧ w'.tape = w.tape ∧ w'.output = w.output ∧ (∀ k, k < bl → ¬ MineP bx bs ρ tg k → w'.heap[k]? = w.heap[k]?) := by
  have hn5 := g.n5
  have hx5 : x < 5 := by omega
  have hn0 : 0 < A.n := by omega
  have hx' : (x : Int) < 5 := by omega
  have hxn' : (x : Int) < (A.n : Int) := by omega
  have hx0 : (0 : Int) ≤ (x : Int) := by omega
  have ll := hL.lt
  have hlx : bx < bl := by omega
  have hB : bs < bl := by omega
  have hxs := hR.ne
  have hws : bw ≠ bs := by omega
  have hqs : bq ≠ bs := by omega
  have hwx : bw ≠ bx := by omega
  have hqx : bq ≠ bx := by omega
  have sS : SX bw bq bx bs A.n x (A.co x) w.drew := ⟨hcw, hcq, hR.rs, (hR.cost x hx5).1, (hR.cost x hx5).2⟩
  have hT : ∀ d, d < 5 → ((A.rs x).t.ro d).nx < 5 ∧ (0 ≤ ((A.rs x).t.ro d).nx → 0 ≤ ((A.rs x).t.ro d).mt ∧ ((A.rs x).t.ro d).mt ≤ 30) := fun d _ => by
    rcases (g.t x hxn).ro d with e | e
    · rw [e, noRt_nx]; exact ⟨by decide, fun h => by omega⟩
    · exact ⟨by have := e.nx1; omega, fun _ => ⟨e.mt0, e.mt1⟩⟩
  have hf : ∀ k, 0 ≤ A.co x k ∧ A.co x k ≤ 9 := fun k => ⟨g.c0 x k, g.c9 x k⟩
  have hdk := (hR.dk x hxn).of (w' := w.drew) rfl
  have hfl : w.drew.cell? ⟨bs, x * 74 + 36 + 36, none⟩ = some (I (A.rs x).fa) := hR.r x 72 hxn (by omega)
  rw [hfa] at hfl
  have rd := prdump_ok bs (x * 74) x bl bl (A.rs x).t (A.rs x).dk (A.co x) w.drew hB (Nat.le_refl _) (Nat.le_of_lt ll) ((hR.kt x hxn).of rfl) (hL.keep (Nat.le_refl _) (fun _ _ _ => rfl)) hdk hfl hf hT
  rw [tell_told g x hxn, raise_told g x hxn] at rd
  have HR : Hid (PN w bx bs A V) := hR; clear hR
  have HW : Hid (WR w B 104 ρ tg V A.wa) := hW; clear hW
  have HJ : Hid (TgOk tg) := tz; clear tz
  have HBX : Hid (∀ a c, ρ bx ≠ tg a c) := hbx; clear hbx
  have HBS : Hid (∀ a c, ρ bs ≠ tg a c) := hbs; clear hbs
  have H0 : Hid (∀ j, w00 ≤ j → ρ j = (0, 0)) := h0; clear h0
  have HG : Hid (GoodP A) := g; clear g
  have RD : Hid (Calls Try.prog 51 #[.pointer (some ⟨bs, x * 74, none⟩), .int .i64 x, .agg (coA (A.co x)), .pointer (some ⟨bl, 0, none⟩)] w.drew fun e w' => e = .returned (.agg (mgA (toldM A x))) ∧ KT w' bs (x * 74) (toldT A x) ∧ KT w' bs (x * 74 + 36) (toldT A x) ∧ Ck w.drew w' bs bl bl ∧ (∀ p, p < x * 74 ∨ x * 74 + 72 ≤ p → w'.cell? ⟨bs, p, none⟩ = w.drew.cell? ⟨bs, p, none⟩)) := rd; clear rd
  clear hfl hdk hf hT hL hcw hcq
  go_enter Try.func49, Try.ntmps49
  go_wp2_with fail
  refine wp_region_held_drew (S := (SX bw bq bx bs A.n x (A.co x))) (by kernel_rfl) sS (fun _ => ?_)
  change wpAnyH _ _ _ _ _ _ _ _ (World.drew _)
  refine held_hq (fun _ _ x _ _ h => by cases x <;> exact h) ?_
  intro hQ
  refine held_to 0 (some 4) (.pointer (some ⟨bx, 0, none⟩)) hQ sS rfl rfl (by kernel_rfl) (by kernel_rfl) (by kernel_rfl) (by kernel_rfl) (fun w hS => by obtain ⟨h1, h2, h3, h4, h5⟩ := hS; go_simp) ?_
  refine held_to 1 (some 5) (.int .i64 x) hQ sS rfl rfl (by kernel_rfl) (by kernel_rfl) (by kernel_rfl) (by kernel_rfl) (fun w hS => by obtain ⟨h1, h2, h3, h4, h5⟩ := hS; go_simp) ?_
  refine held_to 2 (some 6) (.pointer (some ⟨bx, 0, none⟩)) hQ sS rfl rfl (by kernel_rfl) (by kernel_rfl) (by kernel_rfl) (by kernel_rfl) (fun w hS => by obtain ⟨h1, h2, h3, h4, h5⟩ := hS; go_simp) ?_
  refine held_to 3 (some 7) (.pointer (some ⟨bx, 0, none⟩)) hQ sS rfl rfl (by kernel_rfl) (by kernel_rfl) (by kernel_rfl) (by kernel_rfl) (fun w _ => by go_simp) ?_
  refine held_to 4 (some 8) (.pointer (some ⟨bx, 0, none⟩)) hQ sS rfl rfl (by kernel_rfl) (by kernel_rfl) (by kernel_rfl) (by kernel_rfl) (fun w _ => by go_simp) ?_
  refine held_to 5 (some 9) (.slice (some ⟨bs, 0, none⟩) A.n A.n) hQ sS rfl rfl (by kernel_rfl) (by kernel_rfl) (by kernel_rfl) (by kernel_rfl) (fun w hS => by obtain ⟨h1, h2, h3, h4, h5⟩ := hS; go_simp) ?_
  refine held_to 6 (some 10) (.int .i64 x) hQ sS rfl rfl (by kernel_rfl) (by kernel_rfl) (by kernel_rfl) (by kernel_rfl) (fun w hS => by obtain ⟨h1, h2, h3, h4, h5⟩ := hS; go_simp) ?_
  refine held_to 7 (some 11) (.pointer (some ⟨bs, x * 74, none⟩)) hQ sS rfl rfl (by kernel_rfl) (by kernel_rfl) (by kernel_rfl) (by kernel_rfl) (fun w _ => by go_simp) ?_
  refine held_to 8 (some 12) (.int .i64 x) hQ sS rfl rfl (by kernel_rfl) (by kernel_rfl) (by kernel_rfl) (by kernel_rfl) (fun w hS => by obtain ⟨h1, h2, h3, h4, h5⟩ := hS; go_simp) ?_
  refine held_to 9 (some 13) (.pointer (some ⟨bx, 0, none⟩)) hQ sS rfl rfl (by kernel_rfl) (by kernel_rfl) (by kernel_rfl) (by kernel_rfl) (fun w hS => by obtain ⟨h1, h2, h3, h4, h5⟩ := hS; go_simp) ?_
  refine held_to 10 (some 14) (.int .i64 x) hQ sS rfl rfl (by kernel_rfl) (by kernel_rfl) (by kernel_rfl) (by kernel_rfl) (fun w hS => by obtain ⟨h1, h2, h3, h4, h5⟩ := hS; go_simp) ?_
  refine held_to 11 (some 15) (.pointer (some ⟨bx, 0, none⟩)) hQ sS rfl rfl (by kernel_rfl) (by kernel_rfl) (by kernel_rfl) (by kernel_rfl) (fun w _ => by go_simp) ?_
  refine held_to 12 (some 16) (.pointer (some ⟨bx, 1, none⟩)) hQ sS rfl rfl (by kernel_rfl) (by kernel_rfl) (by kernel_rfl) (by kernel_rfl) (fun w _ => by go_simp) ?_
  refine held_to 13 (some 17) (.pointer (some ⟨bx, 1 + x * 5, none⟩)) hQ sS rfl rfl (by kernel_rfl) (by kernel_rfl) (by kernel_rfl) (by kernel_rfl) (fun w _ => by go_simp) ?_
  refine held_row Try.underlying85 rfl sizePC 14 (some 18) (coA (A.co x)) bx (1 + x * 5) (.tmp 17) hQ sS rfl rfl (by kernel_rfl) (by kernel_rfl) (by kernel_rfl) (by kernel_rfl) rfl (by kernel_rfl) (fun w hS => ⟨hS.2.2.2.1, hS.2.2.2.2⟩) ?_
  refine held_to 15 (some 19) (.pointer (some ⟨bl, 0, none⟩)) hQ sS rfl rfl (by kernel_rfl) (by kernel_rfl) (by kernel_rfl) (by kernel_rfl) (fun w _ => by go_simp) ?_
  refine wpAnyH_ready (rs := [16]) (by kernel_rfl) (by simp) ?_
  refine AllReadyH.cons rfl (fun K hK => ?_) AllReadyH.nil
  go_simp
  go_wp2_with (go_at_call 51; refine (RD.out).mono ?_; rintro e w1 ⟨rfl, t1, t2, t3, t4⟩; have r1 : PN w1 bx bs (upR A x { (A.rs x) with t := toldT A x, dk := toldT A x }) V := pn_dump HR.out x hxn t1 t2 ⟨t3.os, t3.tape, t3.output, t3.size, t3.block⟩ t4 hB hlx; have k1 : ∀ k, k < bl → k ≠ bs → w1.heap[k]? = w.heap[k]? := fun k hk hne => t3.block k (Nat.lt_trans hk ll) hne (Nat.ne_of_lt hk) (.inl hk))
  refine hK.out _ _ (SX.of sS (k1 bw hbw hws) (k1 bq hbq hqs) (k1 bx hlx hxs)) (fun _ => ?_)
  clear hK K
  have z1 : w.heap.size ≤ w1.heap.size := t3.size
  refine wpAnyH_ready (rs := [17]) (by kernel_rfl) (by simp) ?_
  refine AllReadyH.cons rfl (fun K hK => ?_) AllReadyH.nil
  go_simp
  go_wp2_with (go_at_call 50; refine (send_any bx bs x B (toldM A x) ρ tg (upR A x { (A.rs x) with t := toldT A x, dk := toldT A x }) V _ hx5 hn0 r1 (HW.out.of (fun k a c hk ha hc hp => by rcases Nat.lt_or_ge k w00 with h | h; exact k1 k (by omega) (fun e => HBS.out a c (e ▸ hp)); exact absurd ((H0.out k h).symm.trans hp) (fun e => HJ.out.nz a c e.symm)) (fun _ _ => rfl)) (by omega) HJ.out HBX.out HBS.out (fun j hj => H0.out j (by omega))).mono ?_; rintro e w2 ⟨rfl, ρ', V', p2, q2, r2⟩)
  refine hK.out _ _ (SX.sent (SX.of sS (k1 bw hbw hws) (k1 bq hbq hqs) (k1 bx hlx hxs)) p2 hx5 (r2.keep HJ.out (by omega) (H0.out bw hbw0) hwx hws) (r2.keep HJ.out (by omega) (H0.out bq hbq0) hqx hqs)) (fun _ => ?_)
  clear hK K
  refine wpAnyH_done (by kernel_rfl) ?_ _
  clear hQ
  go_simp
  go_end0
  have hN : (∀ k, k < w.heap.size → ρ' k = ρ k) := fun k hk => r2.old k (by omega)
  refine ⟨rfl, ρ', V', ?_, ?_, hN, r2.new, by have := r2.only.size; omega, r2.only.os.trans t3.os, r2.only.tape.trans t3.tape, r2.only.output.trans t3.output, fun k hk hm => (r2.only.block k (by omega) hm).trans (k1 k hk (fun e => hm (.inl e)))⟩
  · have := p2
    rw [sent_dump HG.out x _ rfl] at this
    exact this
  · have e := congrArg Nt.wa (sent_dump HG.out x { (A.rs x) with t := toldT A x, dk := toldT A x } rfl)
    have e2 : sentM (upR A x { (A.rs x) with t := toldT A x, dk := toldT A x }) x (toldM A x) 5 = (dumpOk A x).wa := e
    rw [← e2]; exact q2
set_option maxHeartbeats 4000000 in
set_option maxRecDepth 100000 in
theorem dump1_fail (bw bq bx bs bl x w00 : Nat) (A : Nt) (V : Nat → Nat → Value) (w : World) (g : GoodP A) (hxn : x < A.n) (hR : PN w bx bs A V) (hw0 : bx < w00) (hs0 : bs < w00)
    (hbw0 : w00 ≤ bw) (hbq0 : w00 ≤ bq) (hbw : bw < bl) (hcw : w.cell? ⟨bw, 0, none⟩ = some (.pointer (some ⟨bx, 0, none⟩))) (hcq : w.cell? ⟨bq, 0, none⟩ = some (.int .i64 x)) (hL : Lg w bl bs (x * 74) bl []) (hfa : 0 < (A.rs x).fa) :
    Calls Try.prog 49 #[.pointer (some ⟨bl, 0, none⟩), .pointer (some ⟨bw, 0, none⟩), .pointer (some ⟨bq, 0, none⟩)] w fun e w' => e = .panicked [pf] ∧ (∃ U L, KT w' bs (x * 74) U ∧ Lg w' bl bs (x * 74) bl L ∧ back L U = (A.rs x).t ∧ L.length ≤ 20) ∧ w'.cell? ⟨bs, x * 74 + 36 + 36, none⟩ = some (I ((A.rs x).fa - 1)) ∧ Ck w w' bs bl bl ∧ (∀ p, (p < x * 74 ∨ x * 74 + 36 ≤ p) → p ≠ x * 74 + 36 + 36 → w'.cell? ⟨bs, p, none⟩ = w.cell? ⟨bs, p, none⟩) := by
  have hn5 := g.n5
  have hx5 : x < 5 := by omega
  have hn0 : 0 < A.n := by omega
  have hx' : (x : Int) < 5 := by omega
  have hxn' : (x : Int) < (A.n : Int) := by omega
  have hx0 : (0 : Int) ≤ (x : Int) := by omega
  have ll := hL.lt
  have hlx : bx < bl := by omega
  have hB : bs < bl := by omega
  have hxs := hR.ne
  have hws : bw ≠ bs := by omega
  have hqs : bq ≠ bs := by omega
  have hwx : bw ≠ bx := by omega
  have hqx : bq ≠ bx := by omega
  have sS : SX bw bq bx bs A.n x (A.co x) w.drew := ⟨hcw, hcq, hR.rs, (hR.cost x hx5).1, (hR.cost x hx5).2⟩
  have hT : ∀ d, d < 5 → ((A.rs x).t.ro d).nx < 5 ∧ (0 ≤ ((A.rs x).t.ro d).nx → 0 ≤ ((A.rs x).t.ro d).mt ∧ ((A.rs x).t.ro d).mt ≤ 30) := fun d _ => by
    rcases (g.t x hxn).ro d with e | e
    · rw [e, noRt_nx]; exact ⟨by decide, fun h => by omega⟩
    · exact ⟨by have := e.nx1; omega, fun _ => ⟨e.mt0, e.mt1⟩⟩
  have hf : ∀ k, 0 ≤ A.co x k ∧ A.co x k ≤ 9 := fun k => ⟨g.c0 x k, g.c9 x k⟩
  have hdk := (hR.dk x hxn).of (w' := w.drew) rfl
  have hfl : w.drew.cell? ⟨bs, x * 74 + 36 + 36, none⟩ = some (I (A.rs x).fa) := hR.r x 72 hxn (by omega)
  have rd := prdump_fail bs (x * 74) x bl bl (A.rs x).t (A.rs x).dk (A.co x) w.drew hB (Nat.le_refl _) (Nat.le_of_lt ll) ((hR.kt x hxn).of rfl) (hL.keep (Nat.le_refl _) (fun _ _ _ => rfl)) hdk (A.rs x).fa hfl hfa (g.fa3 x hxn) hf hT
  have RD : Hid (Calls Try.prog 51 #[.pointer (some ⟨bs, x * 74, none⟩), .int .i64 x, .agg (coA (A.co x)), .pointer (some ⟨bl, 0, none⟩)] w.drew fun e w' => e = .panicked [pf] ∧ (∃ U L, KT w' bs (x * 74) U ∧ Lg w' bl bs (x * 74) bl L ∧ back L U = (A.rs x).t ∧ L.length ≤ 20) ∧ w'.cell? ⟨bs, x * 74 + 36 + 36, none⟩ = some (I ((A.rs x).fa - 1)) ∧ Ck w.drew w' bs bl bl ∧ (∀ p, (p < x * 74 ∨ x * 74 + 36 ≤ p) → p ≠ x * 74 + 36 + 36 → w'.cell? ⟨bs, p, none⟩ = w.drew.cell? ⟨bs, p, none⟩)) := rd; clear rd
  clear hfl hdk hf hT hL hcw hcq hR g
  go_enter Try.func49, Try.ntmps49
  go_wp2_with fail
  refine wp_region_held_drew (S := (SX bw bq bx bs A.n x (A.co x))) (by kernel_rfl) sS (fun _ => ?_)
  change wpAnyH _ _ _ _ _ _ _ _ (World.drew _)
  refine held_hq (fun _ _ x _ _ h => by cases x <;> exact h) ?_
  intro hQ
  refine held_to 0 (some 4) (.pointer (some ⟨bx, 0, none⟩)) hQ sS rfl rfl (by kernel_rfl) (by kernel_rfl) (by kernel_rfl) (by kernel_rfl) (fun w hS => by obtain ⟨h1, h2, h3, h4, h5⟩ := hS; go_simp) ?_
  refine held_to 1 (some 5) (.int .i64 x) hQ sS rfl rfl (by kernel_rfl) (by kernel_rfl) (by kernel_rfl) (by kernel_rfl) (fun w hS => by obtain ⟨h1, h2, h3, h4, h5⟩ := hS; go_simp) ?_
  refine held_to 2 (some 6) (.pointer (some ⟨bx, 0, none⟩)) hQ sS rfl rfl (by kernel_rfl) (by kernel_rfl) (by kernel_rfl) (by kernel_rfl) (fun w hS => by obtain ⟨h1, h2, h3, h4, h5⟩ := hS; go_simp) ?_
  refine held_to 3 (some 7) (.pointer (some ⟨bx, 0, none⟩)) hQ sS rfl rfl (by kernel_rfl) (by kernel_rfl) (by kernel_rfl) (by kernel_rfl) (fun w _ => by go_simp) ?_
  refine held_to 4 (some 8) (.pointer (some ⟨bx, 0, none⟩)) hQ sS rfl rfl (by kernel_rfl) (by kernel_rfl) (by kernel_rfl) (by kernel_rfl) (fun w _ => by go_simp) ?_
  refine held_to 5 (some 9) (.slice (some ⟨bs, 0, none⟩) A.n A.n) hQ sS rfl rfl (by kernel_rfl) (by kernel_rfl) (by kernel_rfl) (by kernel_rfl) (fun w hS => by obtain ⟨h1, h2, h3, h4, h5⟩ := hS; go_simp) ?_
  refine held_to 6 (some 10) (.int .i64 x) hQ sS rfl rfl (by kernel_rfl) (by kernel_rfl) (by kernel_rfl) (by kernel_rfl) (fun w hS => by obtain ⟨h1, h2, h3, h4, h5⟩ := hS; go_simp) ?_
  refine held_to 7 (some 11) (.pointer (some ⟨bs, x * 74, none⟩)) hQ sS rfl rfl (by kernel_rfl) (by kernel_rfl) (by kernel_rfl) (by kernel_rfl) (fun w _ => by go_simp) ?_
  refine held_to 8 (some 12) (.int .i64 x) hQ sS rfl rfl (by kernel_rfl) (by kernel_rfl) (by kernel_rfl) (by kernel_rfl) (fun w hS => by obtain ⟨h1, h2, h3, h4, h5⟩ := hS; go_simp) ?_
  refine held_to 9 (some 13) (.pointer (some ⟨bx, 0, none⟩)) hQ sS rfl rfl (by kernel_rfl) (by kernel_rfl) (by kernel_rfl) (by kernel_rfl) (fun w hS => by obtain ⟨h1, h2, h3, h4, h5⟩ := hS; go_simp) ?_
  refine held_to 10 (some 14) (.int .i64 x) hQ sS rfl rfl (by kernel_rfl) (by kernel_rfl) (by kernel_rfl) (by kernel_rfl) (fun w hS => by obtain ⟨h1, h2, h3, h4, h5⟩ := hS; go_simp) ?_
  refine held_to 11 (some 15) (.pointer (some ⟨bx, 0, none⟩)) hQ sS rfl rfl (by kernel_rfl) (by kernel_rfl) (by kernel_rfl) (by kernel_rfl) (fun w _ => by go_simp) ?_
  refine held_to 12 (some 16) (.pointer (some ⟨bx, 1, none⟩)) hQ sS rfl rfl (by kernel_rfl) (by kernel_rfl) (by kernel_rfl) (by kernel_rfl) (fun w _ => by go_simp) ?_
  refine held_to 13 (some 17) (.pointer (some ⟨bx, 1 + x * 5, none⟩)) hQ sS rfl rfl (by kernel_rfl) (by kernel_rfl) (by kernel_rfl) (by kernel_rfl) (fun w _ => by go_simp) ?_
  refine held_row Try.underlying85 rfl sizePC 14 (some 18) (coA (A.co x)) bx (1 + x * 5) (.tmp 17) hQ sS rfl rfl (by kernel_rfl) (by kernel_rfl) (by kernel_rfl) (by kernel_rfl) rfl (by kernel_rfl) (fun w hS => ⟨hS.2.2.2.1, hS.2.2.2.2⟩) ?_
  refine held_to 15 (some 19) (.pointer (some ⟨bl, 0, none⟩)) hQ sS rfl rfl (by kernel_rfl) (by kernel_rfl) (by kernel_rfl) (by kernel_rfl) (fun w _ => by go_simp) ?_
  refine wpAnyH_ready (rs := [16]) (by kernel_rfl) (by simp) ?_
  refine AllReadyH.cons rfl (fun K hK => ?_) AllReadyH.nil
  go_simp
  go_wp2_with (go_at_call 51; refine (RD.out).mono ?_; rintro e w1 ⟨rfl, t1, t2, t3, t4⟩)
  exact ⟨rfl, rfl, t1, t2, ⟨t3.os, t3.tape, t3.output, t3.size, t3.block⟩, t4⟩
end Go.Proofs.Ytdoodnbobpijoaa

namespace Go.Proofs.Ytdoodnbobpijoaa
open Go.RowKit

/-! ### saving and Dump -/
theorem catch_idle (p q : Value) (w : World) :
    CallsD Try.prog 72 #[p, q] .returning w fun e u' w' => e = .returned (.tuple #[]) ∧ u' = .returning ∧ w' = w := by
  refine callsD_of_wpS Try.func72 rfl fun c₀ cs hu => ?_
  apply wpS_seq
  apply wpS_region
  simp [wpOpsS, go_sem, recoverD, hu, Try.ntmps72, Exit.thenS]
  apply wpS_seq
  apply wpS_seq
  apply wpS_region
  simp [wpOpsS, go_sem, Exit.thenS]
  refine wpS_cond (t := true) (by simp [Act.eval, Array.replicate]) ?_
  simp only [if_true]
  refine wpS_of_wp (wp_ret ?_)
  cases c₀
  simp_all [Exit.thenS, bodyPostS, results, Try.results72]
theorem assert_disk (w : World) : (Instr.typeAssert (.iface 125 (.agg #[])) 20 125 true).run Try.prog w = .ok (.tuple #[.agg #[], .bool true]) w := by kernel_rfl
set_option maxHeartbeats 1000000 in
set_option maxRecDepth 100000 in
theorem catch_fail (b o bl pa : Nat) (U T : Tb) (L : List En) (w : World) (hb : b < bl) (hpa : pa < bl) (hpb : pa ≠ b) (hA : Whole w pa 40 #[I 0]) (hK : KT w b o U) (hL : Lg w bl b o bl L) (hbk : back L U = T) (hn : L.length ≤ 20) :
    CallsD Try.prog 72 #[.pointer (some ⟨bl, 0, none⟩), .pointer (some ⟨pa, 0, none⟩)] (.panicking [pf]) w fun e u' w' => e = .returned (.tuple #[]) ∧ u' = .panicking [{ pf with recovered := true }] ∧ KT w' b o T ∧ Whole w' pa 40 #[I 7] ∧ w.heap.size ≤ w'.heap.size ∧ w'.os = w.os ∧ w'.tape = w.tape ∧ w'.output = w.output ∧ (∀ k, k < bl → k ≠ b → k ≠ pa → w'.heap[k]? = w.heap[k]?) ∧ (∀ p, p < o ∨ o + 36 ≤ p → w'.cell? ⟨b, p, none⟩ = w.cell? ⟨b, p, none⟩) := by
  refine callsD_of_wpS Try.func72 rfl fun c₀ cs hu => ?_
  apply wpS_seq
  apply wpS_region
  simp [wpOpsS, go_sem, recoverD, hu, Try.ntmps72, Exit.thenS]
  refine wpS_of_wp ?_
  have hta := assert_disk
  have hrep : Array.replicate 15 undef = #[undef, undef, undef, undef, undef, undef, undef, undef, undef, undef, undef, undef, undef, undef, undef] := rfl
  rw [hrep]
  have b1 : Below w.heap.size w (w.alloc (.cells #[] 125)) := (Below.refl _ _).alloc (Nat.le_refl _) _
  have k1 := hK.below b1
  have l1 := hL.below (Nat.le_refl _) b1
  have a1 := hA.below b1
  have lb := k1.lt
  have TB : Hid (Calls Try.prog 73 #[.pointer (some ⟨bl, 0, none⟩)] (w.alloc (.cells #[] 125)) fun e w' => e = .returned (.tuple #[]) ∧ KT w' b o (back L U) ∧ Ch (w.alloc (.cells #[] 125)) w' b bl o bl) := takeback_any b o bl bl L U _ hb (Nat.le_refl _) hn k1 l1
  have A1 : Hid (Whole (w.alloc (.cells #[] 125)) pa 40 #[I 0]) := a1
  have B1 : Hid (Below w.heap.size w (w.alloc (.cells #[] 125))) := b1
  have HK : Hid (KT w b o U) := hK
  have HL : Hid (Lg w bl b o bl L) := hL
  have hpl : pa ≠ bl := Nat.ne_of_lt hpa
  clear b1 k1 l1 a1 hA hK hL hrep
  go_wp2_with (go_at_call 73; refine (TB.out).mono ?_; rintro e w1 ⟨rfl, t1, t2⟩; have a2 : Whole w1 pa 40 #[I 0] := A1.out.of (t2.block pa A1.out.lt hpb hpl (.inl hpa)); have ac := a2.cell 0; have af := a2.frozen 0)
  have e1 : ∀ k, k < bl → k ≠ b → w1.heap[k]? = w.heap[k]? := fun k hk hkb => by
    have hkw : k < w.heap.size := Nat.lt_trans hk HL.out.lt
    exact (t2.block k (Nat.lt_of_lt_of_le hkw B1.out.size) hkb (Nat.ne_of_lt hk) (.inl hk)).trans (B1.out.block k hkw)
  refine ⟨rfl, _, rfl, .tuple #[], by simp [results, Try.results72, go_sem], rfl, rfl, ?_, a2.setAt 0 (I 7), ?_, t2.os.trans B1.out.os, t2.tape.trans B1.out.tape, t2.output.trans B1.out.output, fun k hk hkb hkp => (heap_setCell_other _ _ _ _ hkp).trans (e1 k hk hkb), fun p hp => ?_⟩
  · rw [← hbk]
    exact t1.of (heap_setCell_other _ _ _ _ (fun e => hpb e.symm))
  · have h1 := B1.out.size
    have h2 := t2.size
    simp only [World.size_setCell]
    omega
  · exact (World.cell?_of_block (w := w1) (heap_setCell_other _ _ _ _ (fun e => hpb e.symm))).trans ((t2.cell p hp).trans (World.cell?_of_block (w := w) (B1.out.block b HK.out.lt)))
/-- A log that is new. -/
theorem Lg.nil {w : World} {bl b o B : Nat} (h : Whole w bl 123 #[.slice none 0 0]) : Lg w bl b o B [] :=
  ⟨.slice none 0 0, [], h, ⟨rfl, .inl ⟨rfl, rfl⟩⟩, fun i e he => by cases he⟩
set_option maxHeartbeats 2000000 in
set_option maxRecDepth 100000 in
theorem saving_ok (bw bq bx bs x B w00 : Nat) (ρ : Nat → Part) (tg : Nat → Nat → Part) (A : Nt) (V : Nat → Nat → Value) (w : World) (g : GoodP A) (hxn : x < A.n) (hR : PN w bx bs A V) (hW : WR w B 104 ρ tg V A.wa) (hBw : B ≤ w.heap.size) (tz : TgOk tg) (hbx : ∀ a c, ρ bx ≠ tg a c) (hbs : ∀ a c, ρ bs ≠ tg a c) (h0 : ∀ j, w00 ≤ j → ρ j = (0, 0)) (hw0 : bx < w00) (hs0 : bs < w00)
    (hbw0 : w00 ≤ bw) (hbq0 : w00 ≤ bq) (hcw : w.cell? ⟨bw, 0, none⟩ = some (.pointer (some ⟨bx, 0, none⟩))) (hcq : w.cell? ⟨bq, 0, none⟩ = some (.int .i64 x)) (hfa : (A.rs x).fa = 0) :
    Calls Try.prog 48 #[.func (.func 49) #[] #[.pointer (some ⟨bw, 0, none⟩), .pointer (some ⟨bq, 0, none⟩)]] w fun e w' => e = .returned (.int .i64 0) ∧ ∃ ρ' V', PN w' bx bs (dumpOk A x) V' ∧ WR w' B 104 ρ' tg V' (dumpOk A x).wa ∧ TurnP bx bs tg ρ ρ' w w' := by
  have hmf : ∀ (fn : Fn) (first cap : Array Value) (w : World), (Instr.makeFunc fn first cap).run Try.prog w = .ok (.func fn first cap) w := fun _ _ _ _ => rfl
  have hn0 : 0 < A.n := by omega
  have hlw := lt_of_cell hcw
  have hlq := lt_of_cell hcq
  have b1 : Below w.heap.size w ((w.alloc (.cells #[.int .i64 0] 40)).alloc (.cells #[.slice none 0 0] 123)) := ((Below.refl _ _).alloc (Nat.le_refl _) _).alloc (by simp) _
  have nA : Whole ((w.alloc (.cells #[.int .i64 0] 40)).alloc (.cells #[.slice none 0 0] 123)) w.heap.size 40 #[I 0] := (Whole.new w _ _).alloc _
  have nL : Whole ((w.alloc (.cells #[.int .i64 0] 40)).alloc (.cells #[.slice none 0 0] 123)) (w.heap.size + 1) 123 #[.slice none 0 0] := by
    have := Whole.new (w.alloc (.cells #[.int .i64 0] 40)) 123 #[.slice none 0 0]
    simp only [World.size_alloc] at this
    exact this
  have D1 := dump1_ok bw bq bx bs (w.heap.size + 1) x B w00 ρ tg A V _ g hxn (hR.below hn0 b1) (hW.below b1) (Nat.le_trans hBw b1.size) tz hbx hbs h0 hw0 hs0 hbw0 hbq0 (by omega) (by omega) (cell_below hcw b1) (cell_below hcq b1) (Lg.nil nL) hfa
  have hpx : w.heap.size ≠ bx := by omega
  have hps : w.heap.size ≠ bs := by omega
  have hnm : ¬ MineP bx bs ρ tg w.heap.size := by
    rintro (e | e | ⟨a, c, _, _, e⟩)
    · exact hps e
    · exact hpx e
    · rw [h0 _ (by omega)] at e; exact tz.nz a c e.symm
  go_enter_defers Try.func48, Try.ntmps48
  go_wp2_with fail
  refine D1.mono ?_
  rintro e w1 ⟨rfl, ρ', V', p1, q1, a1, d1, z1, o1, o2, o3, f1⟩
  have a2 : Whole w1 w.heap.size 40 #[I 0] := nA.of (f1 w.heap.size (by omega) hnm)
  have ac := a2.cell 0
  have af := a2.frozen 0
  have zz := b1.size
  have hlt2 : w.heap.size + 1 < w1.heap.size := Nat.lt_of_lt_of_le nL.lt z1
  have X1 : PN (w1.setCell ⟨w.heap.size, 0, none⟩ (.int .i64 0)) bx bs (dumpOk A x) V' := p1.of (heap_setCell_other _ _ _ _ (fun e => hpx e.symm)) (heap_setCell_other _ _ _ _ (fun e => hps e.symm))
  have X2 : WR (w1.setCell ⟨w.heap.size, 0, none⟩ (.int .i64 0)) B 104 ρ' tg V' (dumpOk A x).wa := q1.of (fun k a c hk _ _ hp => heap_setCell_other _ _ _ _ (by
    show k ≠ w.heap.size
    rintro rfl
    rw [a1 _ nA.lt, h0 _ (by omega)] at hp
    exact tz.nz a c hp.symm)) (fun _ _ => rfl)
  have X3 : TurnP bx bs tg ρ ρ' w (w1.setCell ⟨w.heap.size, 0, none⟩ (.int .i64 0)) := by
    have o5 : Only (MineP bx bs ρ tg) w w1 := ⟨o1.trans b1.os, o2.trans b1.tape, o3.trans b1.output, Nat.le_trans zz z1, fun k hk hm => (f1 k (by omega) hm).trans (b1.block k hk)⟩
    exact ⟨o5.setCell (p := ⟨w.heap.size, 0, none⟩) (.inr (Nat.le_refl _)) _, fun k hk => a1 k (Nat.lt_of_lt_of_le hk zz), fun k hk => d1 k (by simpa using hk)⟩
  have HX1 : Hid (PN (w1.setCell ⟨w.heap.size, 0, none⟩ (.int .i64 0)) bx bs (dumpOk A x) V') := X1; clear X1
  have HX2 : Hid (WR (w1.setCell ⟨w.heap.size, 0, none⟩ (.int .i64 0)) B 104 ρ' tg V' (dumpOk A x).wa) := X2; clear X2
  have HX3 : Hid (TurnP bx bs tg ρ ρ' w (w1.setCell ⟨w.heap.size, 0, none⟩ (.int .i64 0))) := X3; clear X3
  clear D1 p1 q1 a1 d1 f1 hR hW tz hbx hbs h0 hcw hcq hnm b1 nA nL a2 o1 o2 o3 g
  go_wp2
  refine leaves_cons (f := 72) (args := #[.pointer (some ⟨w.heap.size + 1, 0, none⟩), .pointer (some ⟨w.heap.size, 0, none⟩)]) (by simp) (by simp [go_sem]) ?_
  refine (catch_idle _ _ _).mono ?_
  rintro e u' w'' ⟨rfl, rfl, rfl⟩
  simp [Leaves, settle, results, Try.results48, go_sem, ac]
  exact ⟨ρ', V', HX1.out, HX2.out, HX3.out⟩
end Go.Proofs.Ytdoodnbobpijoaa

namespace Go.Proofs.Ytdoodnbobpijoaa
open Go.RowKit

/-! ### A Dump that its disk does not take, and Dump -/
theorem pn_fail {w w' : World} {bx bs : Nat} {A : Nt} {V : Nat → Nat → Value} (h : PN w bx bs A V) (i : Nat) (hi : i < A.n) (hx : w'.heap[bx]? = w.heap[bx]?) (hk : KT w' bs (i * 74) (A.rs i).t) (hf : w'.cell? ⟨bs, i * 74 + 36 + 36, none⟩ = some (I ((A.rs i).fa - 1))) (ho : ∀ p, (p < i * 74 ∨ i * 74 + 36 ≤ p) → p ≠ i * 74 + 36 + 36 → w'.cell? ⟨bs, p, none⟩ = w.cell? ⟨bs, p, none⟩) : PN w' bx bs (failOnce A i) V := by
  refine h.upd i _ hx hk.fz (fun _ j hj => ?_) (fun o ho' => ho o (by omega) (by omega))
  rw [roV_fails _ _ _ hj]
  by_cases h72 : j = 72
  · rw [if_pos h72, h72, show i * 74 + 72 = i * 74 + 36 + 36 by omega]; exact hf
  · rw [if_neg h72]
    by_cases h36 : j < 36
    · rw [hk.at_ j h36, roV_t _ _ h36]
    · rw [ho _ (by omega) (by omega)]; exact h.r i j hi hj
set_option maxHeartbeats 2000000 in
set_option maxRecDepth 100000 in
theorem saving_fail (bw bq bx bs x w00 : Nat) (A : Nt) (V : Nat → Nat → Value) (w : World) (g : GoodP A) (hxn : x < A.n) (hR : PN w bx bs A V) (hw0 : bx < w00) (hs0 : bs < w00)
    (hbw0 : w00 ≤ bw) (hbq0 : w00 ≤ bq) (hcw : w.cell? ⟨bw, 0, none⟩ = some (.pointer (some ⟨bx, 0, none⟩))) (hcq : w.cell? ⟨bq, 0, none⟩ = some (.int .i64 x)) (hfa : 0 < (A.rs x).fa) :
    Calls Try.prog 48 #[.func (.func 49) #[] #[.pointer (some ⟨bw, 0, none⟩), .pointer (some ⟨bq, 0, none⟩)]] w fun e w' => e = .returned (.int .i64 7) ∧ PN w' bx bs (failOnce A x) V ∧ Only (· = bs) w w' := by
  have hmf : ∀ (fn : Fn) (first cap : Array Value) (w : World), (Instr.makeFunc fn first cap).run Try.prog w = .ok (.func fn first cap) w := fun _ _ _ _ => rfl
  have hn0 : 0 < A.n := by omega
  have hlw := lt_of_cell hcw
  have hlq := lt_of_cell hcq
  have b1 : Below w.heap.size w ((w.alloc (.cells #[.int .i64 0] 40)).alloc (.cells #[.slice none 0 0] 123)) := ((Below.refl _ _).alloc (Nat.le_refl _) _).alloc (by simp) _
  have nA : Whole ((w.alloc (.cells #[.int .i64 0] 40)).alloc (.cells #[.slice none 0 0] 123)) w.heap.size 40 #[I 0] := (Whole.new w _ _).alloc _
  have nL : Whole ((w.alloc (.cells #[.int .i64 0] 40)).alloc (.cells #[.slice none 0 0] 123)) (w.heap.size + 1) 123 #[.slice none 0 0] := by
    have := Whole.new (w.alloc (.cells #[.int .i64 0] 40)) 123 #[.slice none 0 0]
    simp only [World.size_alloc] at this
    exact this
  have P1 := hR.below hn0 b1
  have D1 := dump1_fail bw bq bx bs (w.heap.size + 1) x w00 A V _ g hxn P1 hw0 hs0 hbw0 hbq0 (by omega) (cell_below hcw b1) (cell_below hcq b1) (Lg.nil nL) hfa
  have hpx : w.heap.size ≠ bx := by omega
  have hps : w.heap.size ≠ bs := by omega
  have hxs := hR.ne
  go_enter_defers Try.func48, Try.ntmps48
  go_wp2_with fail
  refine D1.mono ?_
  rintro e w1 ⟨rfl, ⟨U, L, k1, l1, bk, hn⟩, c1, d1, e1⟩
  have a2 : Whole w1 w.heap.size 40 #[I 0] := nA.of (d1.block w.heap.size nA.lt hps (by omega) (.inl (by omega)))
  refine leaves_cons (f := 72) (args := #[.pointer (some ⟨w.heap.size + 1, 0, none⟩), .pointer (some ⟨w.heap.size, 0, none⟩)]) (by simp) (by simp [go_sem]) ?_
  refine (catch_fail bs (x * 74) (w.heap.size + 1) w.heap.size U (A.rs x).t L w1 (by omega) (by omega) hps a2 k1 l1 bk hn).mono ?_
  rintro e u' w2 ⟨rfl, rfl, s1, s2, s3, s4, s5, s6, s7, s8⟩
  have ac := s2.cell 0
  have hbx1 : w2.heap[bx]? = w.heap[bx]? := ((s7 bx (by omega) hxs (fun e => hpx e.symm)).trans (d1.block bx P1.lt hxs (by omega) (.inl (by omega)))).trans (b1.block bx hR.lt)
  have hcell : ∀ p, w1.cell? ⟨bs, p, none⟩ = ((w.alloc (.cells #[.int .i64 0] 40)).alloc (.cells #[.slice none 0 0] 123)).cell? ⟨bs, p, none⟩ → w1.cell? ⟨bs, p, none⟩ = w.cell? ⟨bs, p, none⟩ := fun p h => h.trans (World.cell?_of_block (w := w) (b1.block bs (hR.lts hn0)))
  have p2 : PN w2 bx bs (failOnce A x) V := pn_fail hR x hxn hbx1 s1 ((s8 _ (by omega)).trans c1) (fun p hp hp2 => (s8 p (by omega)).trans (hcell p (e1 p hp hp2)))
  have o2 : Only (· = bs) w w2 := ⟨s4.trans (d1.os.trans b1.os), s5.trans (d1.tape.trans b1.tape), s6.trans (d1.output.trans b1.output), Nat.le_trans b1.size (Nat.le_trans d1.size s3), fun k hk hks => ((s7 k (by omega) hks (Nat.ne_of_lt hk)).trans (d1.block k (Nat.lt_of_lt_of_le hk b1.size) hks (by omega) (.inl (by omega)))).trans (b1.block k hk)⟩
  have HP : Hid (PN w2 bx bs (failOnce A x) V) := p2
  have HO : Hid (Only (· = bs) w w2) := o2
  clear p2 o2 hcell hbx1 s1 s2 s3 s4 s5 s6 s7 s8 D1 d1 e1 c1 k1 l1 a2 P1 b1 nA nL
  simp [Leaves, settle, results, Try.results48, go_sem, ac]
  exact ⟨HP.out, HO.out⟩
theorem dumpE_split (A : Nt) (r : Nat) (g : GoodP A) (hr : r < A.n) : (0 < (A.rs r).fa ∧ dumpE A r = 7 ∧ dumpN A r = failOnce A r) ∨ ((A.rs r).fa = 0 ∧ dumpE A r = 0 ∧ dumpN A r = dumpOk A r) := by
  unfold dumpE dumpN
  by_cases h : 0 < (A.rs r).fa
  · exact .inl ⟨h, by rw [if_pos h], by rw [if_pos h]⟩
  · exact .inr ⟨by have := g.fa0 r hr; omega, by rw [if_neg h], by rw [if_neg h]⟩
attribute [local go_sem ↓] Go.wp_at_zero Go.wp_at_succ
set_option maxHeartbeats 2000000 in
theorem pdump (bx bs B : Nat) (r : Int) (ρ : Nat → Part) (tg : Nat → Nat → Part) (A : Nt) (V : Nat → Nat → Value) (w : World) (g : GoodP A) (hR : PN w bx bs A V) (hW : WR w B 104 ρ tg V A.wa) (hB : B ≤ w.heap.size)
    (tz : TgOk tg) (hbx : ∀ a c, ρ bx ≠ tg a c) (hbs : ∀ a c, ρ bs ≠ tg a c) (hnew : ∀ j, w.heap.size ≤ j → ρ j = (0, 0)) :
    Calls Try.prog 25 #[.pointer (some ⟨bx, 0, none⟩), .int .i64 r] w fun e w' => e = .returned (.int .i64 (dumpCE A r)) ∧ ∃ ρ' V', PN w' bx bs (dumpC A r) V' ∧ WR w' B 104 ρ' tg V' (dumpC A r).wa ∧ TurnP bx bs tg ρ ρ' w w' := by
  have hmf : ∀ (fn : Fn) (first cap : Array Value) (w : World), (Instr.makeFunc fn first cap).run Try.prog w = .ok (.func fn first cap) w := fun _ _ _ _ => rfl
  have hn0 : 0 < A.n := by have := g.n2; omega
  have lx := hR.lt
  have ls := hR.lts hn0
  have b1 : Below w.heap.size w ((w.alloc (.cells #[.pointer (some ⟨bx, 0, none⟩)] 37)).alloc (.cells #[.int .i64 r] 3)) := ((Below.refl _ _).alloc (Nat.le_refl _) _).alloc (by simp) _
  have n0 : Whole ((w.alloc (.cells #[.pointer (some ⟨bx, 0, none⟩)] 37)).alloc (.cells #[.int .i64 r] 3)) w.heap.size 37 #[.pointer (some ⟨bx, 0, none⟩)] := (Whole.new w _ _).alloc _
  have n1 : Whole ((w.alloc (.cells #[.pointer (some ⟨bx, 0, none⟩)] 37)).alloc (.cells #[.int .i64 r] 3)) (w.heap.size + 1) 3 #[.int .i64 r] := by
    have := Whole.new (w.alloc (.cells #[.pointer (some ⟨bx, 0, none⟩)] 37)) 3 #[.int .i64 r]
    simp only [World.size_alloc] at this
    exact this
  have c0 := n0.cell 0
  have c1 := n1.cell 0
  have P1 : Hid (PN ((w.alloc (.cells #[.pointer (some ⟨bx, 0, none⟩)] 37)).alloc (.cells #[.int .i64 r] 3)) bx bs A V) := hR.below hn0 b1
  have W1 : Hid (WR ((w.alloc (.cells #[.pointer (some ⟨bx, 0, none⟩)] 37)).alloc (.cells #[.int .i64 r] 3)) B 104 ρ tg V A.wa) := hW.below b1
  have B1 : Hid (Below w.heap.size w ((w.alloc (.cells #[.pointer (some ⟨bx, 0, none⟩)] 37)).alloc (.cells #[.int .i64 r] 3))) := b1
  by_cases h0 : upE A r = 0
  · obtain ⟨h1, h2, h3⟩ := upE_zero h0
    obtain ⟨x, rfl⟩ := Int.eq_ofNat_of_zero_le h1
    have hx : x < A.n := by omega
    rcases dumpE_split A x g hx with ⟨hf, e1, e2⟩ | ⟨hf, e1, e2⟩
    · have hE : dumpCE A x = 7 := by unfold dumpCE; rw [if_neg (by simpa using h0), Int.toNat_natCast, e1]
      have hC : dumpC A x = failOnce A x := by unfold dumpC; rw [if_pos h0, Int.toNat_natCast, e2]
      rw [hE, hC]
      have SV : Hid (Calls Try.prog 48 #[.func (.func 49) #[] #[.pointer (some ⟨w.heap.size, 0, none⟩), .pointer (some ⟨w.heap.size + 1, 0, none⟩)]] ((w.alloc (.cells #[.pointer (some ⟨bx, 0, none⟩)] 37)).alloc (.cells #[.int .i64 x] 3)) fun e w' => e = .returned (.int .i64 7) ∧ PN w' bx bs (failOnce A x) V ∧ Only (· = bs) ((w.alloc (.cells #[.pointer (some ⟨bx, 0, none⟩)] 37)).alloc (.cells #[.int .i64 x] 3)) w') := saving_fail w.heap.size (w.heap.size + 1) bx bs x w.heap.size A V _ g hx P1.out lx ls (Nat.le_refl _) (by omega) c0 c1 hf
      clear hR hW b1 n0 n1
      go_enter Try.func25, Try.ntmps25
      go_wp2_with (first | (go_at_call 47; refine (cup_any bx bs _ A V _ P1.out).mono ?_; rw [h0]; rintro e w' ⟨rfl, rfl⟩) | (go_at_call 48; refine (SV.out).mono ?_; rintro e w2 ⟨rfl, t1, t2⟩))
      go_ret
      have o2 : Only (Two bx bs) w w2 := (Only.ofBelow (S := Two bx bs) B1.out).trans (t2.two (.inr rfl)) (fun _ _ h => h)
      exact ⟨rfl, ρ, V, t1, W1.out.two hbx hbs (t2.two (.inr rfl)), TurnP.two hnew o2⟩
    · have hE : dumpCE A x = 0 := by unfold dumpCE; rw [if_neg (by simpa using h0), Int.toNat_natCast, e1]
      have hC : dumpC A x = dumpOk A x := by unfold dumpC; rw [if_pos h0, Int.toNat_natCast, e2]
      rw [hE, hC]
      have SV : Hid (Calls Try.prog 48 #[.func (.func 49) #[] #[.pointer (some ⟨w.heap.size, 0, none⟩), .pointer (some ⟨w.heap.size + 1, 0, none⟩)]] ((w.alloc (.cells #[.pointer (some ⟨bx, 0, none⟩)] 37)).alloc (.cells #[.int .i64 x] 3)) fun e w' => e = .returned (.int .i64 0) ∧ ∃ ρ' V', PN w' bx bs (dumpOk A x) V' ∧ WR w' B 104 ρ' tg V' (dumpOk A x).wa ∧ TurnP bx bs tg ρ ρ' ((w.alloc (.cells #[.pointer (some ⟨bx, 0, none⟩)] 37)).alloc (.cells #[.int .i64 x] 3)) w') := saving_ok w.heap.size (w.heap.size + 1) bx bs x B w.heap.size ρ tg A V _ g hx P1.out W1.out (Nat.le_trans hB b1.size) tz hbx hbs hnew lx ls (Nat.le_refl _) (by omega) c0 c1 hf
      clear hR hW b1 n0 n1
      go_enter Try.func25, Try.ntmps25
      go_wp2_with (first | (go_at_call 47; refine (cup_any bx bs _ A V _ P1.out).mono ?_; rw [h0]; rintro e w' ⟨rfl, rfl⟩) | (go_at_call 48; refine (SV.out).mono ?_; rintro e w2 ⟨rfl, ρ', V', t1, t2, t3⟩))
      go_ret
      exact ⟨rfl, ρ', V', t1, t2, (TurnP.below hnew B1.out).trans t3⟩
  · have hE : dumpCE A r = upE A r := by unfold dumpCE; rw [if_pos h0]
    have hC : dumpC A r = A := by unfold dumpC; rw [if_neg h0]
    have h0' : (upE A r != 0) = true := by simp [h0]
    rw [hE, hC]
    clear hR hW b1 n0 n1
    go_enter Try.func25, Try.ntmps25
    go_wp2_with (go_at_call 47; refine (cup_any bx bs _ A V _ P1.out).mono ?_; rintro e w' ⟨rfl, rfl⟩)
    go_ret
    exact ⟨rfl, ρ, V, P1.out, W1.out, TurnP.below hnew B1.out⟩
end Go.Proofs.Ytdoodnbobpijoaa

