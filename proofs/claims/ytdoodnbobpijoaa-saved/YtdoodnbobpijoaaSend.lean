import Derived.Test.YtdoodnbobpijoaaRefC
import Derived.Deep.RegionLaw
namespace Go.Proofs.Ytdoodnbobpijoaa
open Go.RowKit

/-- The parts of links: each its own, none that of what is nobody's. -/
structure TgOk (tg : Nat → Nat → Part) : Prop where
  inj : ∀ a c a' c', a < 5 → c < 5 → a' < 5 → c' < 5 → tg a c = tg a' c' → a = a' ∧ c = c'
  nz : ∀ a c, tg a c ≠ (0, 0)
/-- Which blocks a call on a net may turn. -/
def Mine (b : Nat) (ρ : Nat → Part) (tg : Nat → Nat → Part) : Nat → Prop := fun k => k = b ∨ ∃ a c, a < 5 ∧ c < 5 ∧ ρ k = tg a c
/-- What a call leaves: its own blocks alone turned; parts as they were; new blocks are nobody's, or a link's. -/
structure Turn (b : Nat) (tg : Nat → Nat → Part) (ρ ρ' : Nat → Part) (w w' : World) : Prop where
  only : Only (Mine b ρ tg) w w'
  old : ∀ k, k < w.heap.size → ρ' k = ρ k
  new : ∀ k, w'.heap.size ≤ k → ρ' k = (0, 0)
theorem Turn.refl {b : Nat} {tg : Nat → Nat → Part} {ρ : Nat → Part} {w : World} (hn : ∀ k, w.heap.size ≤ k → ρ k = (0, 0)) : Turn b tg ρ ρ w w := ⟨Only.refl _ _, fun _ _ => rfl, hn⟩
theorem Turn.trans {b : Nat} {tg : Nat → Nat → Part} {ρ ρ1 ρ2 : Nat → Part} {u v w : World} (h : Turn b tg ρ ρ1 u v) (k : Turn b tg ρ1 ρ2 v w) : Turn b tg ρ ρ2 u w :=
  ⟨h.only.trans k.only (fun j hj hT => by unfold Mine at hT ⊢; rw [h.old j hj] at hT; exact hT), fun j hj => (k.old j (Nat.lt_of_lt_of_le hj h.only.size)).trans (h.old j hj), k.new⟩
theorem Turn.below {b : Nat} {tg : Nat → Nat → Part} {ρ : Nat → Part} {w w' : World} (hn : ∀ k, w.heap.size ≤ k → ρ k = (0, 0)) (h : Below w.heap.size w w') : Turn b tg ρ ρ w w' := ⟨Only.ofBelow h, fun _ _ => rfl, fun k hk => hn k (Nat.le_trans h.size hk)⟩
theorem Turn.onlyB {b : Nat} {tg : Nat → Nat → Part} {ρ : Nat → Part} {w w' : World} (hn : ∀ k, w.heap.size ≤ k → ρ k = (0, 0)) (h : Only (· = b) w w') : Turn b tg ρ ρ w w' :=
  ⟨⟨h.os, h.tape, h.output, h.size, fun k hk hs => h.block k hk (fun e => hs (.inl e))⟩, fun _ _ => rfl, fun k hk => hn k (Nat.le_trans h.size hk)⟩
/-- Rows are as they were if the net's own block alone turned. -/
theorem WR.onlyB {w w' : World} {B e b : Nat} {ρ : Nat → Part} {tg : Nat → Nat → Part} {V : Nat → Nat → Value} {W : Nat → Nat → List (Nat → Bs)} (h : WR w B e ρ tg V W) (hb : ∀ a c, ρ b ≠ tg a c) (ho : Only (· = b) w w') : WR w' B e ρ tg V W :=
  h.of (fun k a c hk _ _ hp => ho.block k hk (fun e => hb a c (e ▸ hp))) (fun _ _ => rfl)
theorem WR.below {w w' : World} {B e : Nat} {ρ : Nat → Part} {tg : Nat → Nat → Part} {V : Nat → Nat → Value} {W : Nat → Nat → List (Nat → Bs)} (h : WR w B e ρ tg V W) (ho : Below w.heap.size w w') : WR w' B e ρ tg V W :=
  h.of (fun k _ _ hk _ _ _ => ho.block k hk) (fun _ _ => rfl)
theorem RN.wa {w : World} {b : Nat} {A : Nt} {V : Nat → Nat → Value} (h : RN w b A V) (W : Nat → Nat → List (Nat → Bs)) : RN w b { A with wa := W } V := ⟨h.n, h.r, h.c, h.v, h.fz⟩

/-- One message more waits: all that it keeps. -/
theorem send_step {w wr w0 w2 : World} {B e b mb x k o g cap H : Nat} {ρ ρ' : Nat → Part} {tg : Nat → Nat → Part} {V : Nat → Nat → Value} {W : Nat → Nat → List (Nat → Bs)} {l : List (Nat → Bs)} (nv : Value)
    (K2 : WR wr B e ρ' tg V W) (tz : TgOk tg) (hx : x < 5) (hk : k < 5) (hb : b < w.heap.size) (hB : ∀ a c, ρ b ≠ tg a c) (K3 : ∀ j, j < w.heap.size → ρ' j = ρ j) (K4 : ∀ j, wr.heap.size ≤ j → ρ' j = (0, 0)) (K5 : ρ' mb = (0, 0)) (hm : mb < wr.heap.size) (hmb : mb ≠ b)
    (r7 : Only (Mine b ρ tg) w wr) (h0 : Below wr.heap.size wr w0) (hs : w0.heap.size = H) (ho : w2.ownsRow B e 10 nv l.length (flat l)) (hgrow : w0.grownBy w2 (V x k).ownBlock) (hat : (V x k).ownBlock = some g ∨ g = H) (hlt : g < w2.heap.size) (hnv : nv = .slice (some ⟨g, 0, none⟩) l.length cap) :
    w2.heap[b]? = wr.heap[b]? ∧ WR (w2.setCell ⟨b, o, none⟩ nv) B e (playG ρ' g (tg x k)) tg (upd2 V x k nv) (setWa W x k l) ∧ (∀ j, j < w.heap.size → playG ρ' g (tg x k) j = ρ j) ∧ (∀ j, (w2.setCell ⟨b, o, none⟩ nv).heap.size ≤ j → playG ρ' g (tg x k) j = (0, 0)) ∧ playG ρ' g (tg x k) mb = (0, 0) ∧ (w2.setCell ⟨b, o, none⟩ nv).heap[mb]? = wr.heap[mb]? ∧ Only (Mine b ρ tg) w (w2.setCell ⟨b, o, none⟩ nv) := by
  have hbr : b < wr.heap.size := Nat.lt_of_lt_of_le hb r7.size
  have hw0 := h0.size
  have hpart : ∀ j, (V x k).ownBlock = some j → ρ' j = tg x k := fun j hj => K2.part x k j hx hk hj
  have nb : some b ≠ (V x k).ownBlock := fun e => by
    have h1 := hpart b e.symm
    rw [K3 b hb] at h1
    exact hB x k h1
  have nm : some mb ≠ (V x k).ownBlock := fun e => by
    have h1 := hpart mb e.symm
    rw [K5] at h1
    exact tz.nz x k h1.symm
  have gb : b ≠ g := by
    rintro rfl
    rcases hat with e | e
    · exact nb e.symm
    · omega
  have gm : mb ≠ g := by
    rintro rfl
    rcases hat with e | e
    · exact nm e.symm
    · omega
  have hfar : ∀ j, j < wr.heap.size → some j ≠ (V x k).ownBlock → w2.heap[j]? = wr.heap[j]? := fun j hj hn => (hgrow.block j (by omega) hn).trans (h0.block j hj)
  have hsz2 : (w2.setCell ⟨b, o, none⟩ nv).heap.size = w2.heap.size := by simp
  have hgs := hgrow.size
  have hρ : ∀ j, j < wr.heap.size → playG ρ' g (tg x k) j = ρ' j := fun j hj => by
    by_cases hjg : j = g
    · subst hjg
      rw [playG_same]
      rcases hat with e | e
      · exact (hpart j e).symm
      · omega
    · rw [playG_other _ _ _ _ hjg]
  refine ⟨hfar b hbr nb, ?_, fun j hj => ?_, fun j hj => ?_, ?_, ?_, ?_⟩
  · refine K2.put x k nv l (ownsRow_of ho fun j hj => heap_setCell_other _ _ _ _ ?_) hρ (fun j hj => ?_) fun j a c hj ha hc hac hp => ?_
    · rw [hnv] at hj
      have : g = j := by simpa [Value.ownBlock] using hj
      exact fun e => gb (this ▸ e.symm)
    · rw [hnv] at hj
      have : g = j := by simpa [Value.ownBlock] using hj
      rw [← this, playG_same]
    · have hjb : j ≠ b := by
        rintro rfl
        rw [K3 j hb] at hp
        exact hB a c hp
      rw [heap_setCell_other _ _ _ _ hjb]
      refine hfar j hj fun e => ?_
      have h1 := hpart j e.symm
      obtain ⟨e1, e2⟩ := tz.inj a c x k ha hc hx hk (hp.symm.trans h1)
      exact hac ⟨e1, e2⟩
  · rw [hρ j (Nat.lt_of_lt_of_le hj r7.size)]; exact K3 j hj
  · have : j ≠ g := by omega
    rw [playG_other _ _ _ _ this]
    exact K4 j (by omega)
  · rw [playG_other _ _ _ _ gm]; exact K5
  · rw [heap_setCell_other _ _ _ _ hmb]; exact hfar mb hm nm
  · refine ⟨hgrow.os.trans (h0.os.trans r7.os), hgrow.tape.trans (h0.tape.trans r7.tape), hgrow.output.trans (h0.output.trans r7.output), by have := r7.size; omega, fun j hj hn => ?_⟩
    have hjb : j ≠ b := fun e => hn (.inl e)
    rw [heap_setCell_other _ _ _ _ hjb, hfar j (Nat.lt_of_lt_of_le hj r7.size) (fun e => hn (.inr ⟨x, k, hx, hk, by rw [← K3 j hj]; exact hpart j e.symm⟩))]
    exact r7.block j hj hn
end Go.Proofs.Ytdoodnbobpijoaa
