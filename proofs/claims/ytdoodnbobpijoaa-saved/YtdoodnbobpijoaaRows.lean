/-
  No cell of these rows narrows 'for every input' (looked for: loops, veiled, ifaces, maps, wideKeys, modest, calm, conditions, laid).
  DERIVED. THE GIVEN ROWS OF THIS SEAT. 10 by the template 'for every input the law returns true; each argument reads behind the call as it read before'; 0 by the template 'total and deterministic' (their statements: YtdoodnbobpijoaaTotals.lean).
  GIVEN WITH THE SEED: the statements are not yours to turn. If you find one false, say at which input.
  Laid BY PROGRAM, IN A SANDBOX (cutbox-rows.mjs): the forced cells as the released guide's own fill.sh prints them over the translation bdd3d9506d1da18f… (all of the seat's roots in one cut). By AI agents, Wed Nov 11 2026. No macro, syntax, notation, axiom, sorry.
-/
import Derived.Test.YtdoodnbobpijoaaChecked
import GoSem.Claim
import GoSem.ClaimJoined
import GoSem.ClaimMapViews
import Derived.JoinedTies
import Derived.KernelRfl
namespace Go.Proofs.Ytdoodnbobpijoaa
/- THE CELL 'sum', in the pinned program and in every row, IS THE sha256 OF THE DUMP (.gsa) THAT YtdoodnbobpijoaaProg.lean LOADS. Nothing in Lean hashes anything: it is a label: what it is worth is what the hold of that sum in a sandbox is worth. -/
noncomputable def Try.pinned : Pinned := { name := "ytdoodnbobpijoaa", sum := "bdd3d9506d1da18f6dab750c5ab4f73ecff6cc46b5caa7772f6d35bdacd1319c", checked := Try.checked }
namespace Rows
def none {H : Type} : Left H := { results := [], args := [] }

/-- 'morainelaw.Links': WHATEVER THE INPUT: true; the input reads as it did. -/
def linksSpec : ChangeSpec := { name := "links", fn := fun _ => fun
  | [d] => { results := [.lit (.bool true)], args := [d] }
  | _ => none }
def linksRow : OpenClaim := { program := "ytdoodnbobpijoaa", sum := "bdd3d9506d1da18f6dab750c5ab4f73ecff6cc46b5caa7772f6d35bdacd1319c", func := "moraine/morainelaw.Links", spec := "links", unfollowed := true, recurses := true, apart := false }
def LinksSaid : Prop := linksRow.holds Try.pinned (OpenSpec.ofChange linksSpec)

/-- ITS FALSE NEIGHBOUR: 'it returns false'. Refute it at one input. -/
def linksWrong : ChangeSpec := { name := "links", fn := fun _ => fun
  | [d] => { results := [.lit (.bool false)], args := [d] }
  | _ => none }
def LinksWrongFalsely : Prop := linksRow.holds Try.pinned (OpenSpec.ofChange linksWrong)

/-- 'morainelaw.Ways': WHATEVER THE INPUT: true; the input reads as it did. -/
def waysSpec : ChangeSpec := { name := "ways", fn := fun _ => fun
  | [d] => { results := [.lit (.bool true)], args := [d] }
  | _ => none }
def waysRow : OpenClaim := { program := "ytdoodnbobpijoaa", sum := "bdd3d9506d1da18f6dab750c5ab4f73ecff6cc46b5caa7772f6d35bdacd1319c", func := "moraine/morainelaw.Ways", spec := "ways", unfollowed := true, recurses := true, apart := false }
def WaysSaid : Prop := waysRow.holds Try.pinned (OpenSpec.ofChange waysSpec)

/-- ITS FALSE NEIGHBOUR: 'it returns false'. Refute it at one input. -/
def waysWrong : ChangeSpec := { name := "ways", fn := fun _ => fun
  | [d] => { results := [.lit (.bool false)], args := [d] }
  | _ => none }
def WaysWrongFalsely : Prop := waysRow.holds Try.pinned (OpenSpec.ofChange waysWrong)

/-- 'morainelaw.Lossy': WHATEVER THE INPUT: true; the input reads as it did. -/
def lossySpec : ChangeSpec := { name := "lossy", fn := fun _ => fun
  | [d] => { results := [.lit (.bool true)], args := [d] }
  | _ => none }
def lossyRow : OpenClaim := { program := "ytdoodnbobpijoaa", sum := "bdd3d9506d1da18f6dab750c5ab4f73ecff6cc46b5caa7772f6d35bdacd1319c", func := "moraine/morainelaw.Lossy", spec := "lossy", unfollowed := true, recurses := true, apart := false }
def LossySaid : Prop := lossyRow.holds Try.pinned (OpenSpec.ofChange lossySpec)

/-- ITS FALSE NEIGHBOUR: 'it returns false'. Refute it at one input. -/
def lossyWrong : ChangeSpec := { name := "lossy", fn := fun _ => fun
  | [d] => { results := [.lit (.bool false)], args := [d] }
  | _ => none }
def LossyWrongFalsely : Prop := lossyRow.holds Try.pinned (OpenSpec.ofChange lossyWrong)

/-- 'morainekeep.Straight': WHATEVER THE INPUT: true; the input reads as it did. -/
def straightSpec : ChangeSpec := { name := "straight", fn := fun _ => fun
  | [d1, d2] => { results := [.lit (.bool true)], args := [d1, d2] }
  | _ => none }
def straightRow : OpenClaim := { program := "ytdoodnbobpijoaa", sum := "bdd3d9506d1da18f6dab750c5ab4f73ecff6cc46b5caa7772f6d35bdacd1319c", func := "moraine/morainekeep.Straight", spec := "straight", unfollowed := true, recurses := true, apart := false }
def StraightSaid : Prop := straightRow.holds Try.pinned (OpenSpec.ofChange straightSpec)

/-- ITS FALSE NEIGHBOUR: 'it returns false'. Refute it at one input. -/
def straightWrong : ChangeSpec := { name := "straight", fn := fun _ => fun
  | [d1, d2] => { results := [.lit (.bool false)], args := [d1, d2] }
  | _ => none }
def StraightWrongFalsely : Prop := straightRow.holds Try.pinned (OpenSpec.ofChange straightWrong)

/-- 'morainekeep.Found': WHATEVER THE INPUT: true; the input reads as it did. -/
def foundSpec : ChangeSpec := { name := "found", fn := fun _ => fun
  | [d1, d2] => { results := [.lit (.bool true)], args := [d1, d2] }
  | _ => none }
def foundRow : OpenClaim := { program := "ytdoodnbobpijoaa", sum := "bdd3d9506d1da18f6dab750c5ab4f73ecff6cc46b5caa7772f6d35bdacd1319c", func := "moraine/morainekeep.Found", spec := "found", unfollowed := true, recurses := true, apart := false }
def FoundSaid : Prop := foundRow.holds Try.pinned (OpenSpec.ofChange foundSpec)

/-- ITS FALSE NEIGHBOUR: 'it returns false'. Refute it at one input. -/
def foundWrong : ChangeSpec := { name := "found", fn := fun _ => fun
  | [d1, d2] => { results := [.lit (.bool false)], args := [d1, d2] }
  | _ => none }
def FoundWrongFalsely : Prop := foundRow.holds Try.pinned (OpenSpec.ofChange foundWrong)

/-- 'morainekeep.Undone': WHATEVER THE INPUT: true; the input reads as it did. -/
def undoneSpec : ChangeSpec := { name := "undone", fn := fun _ => fun
  | [d1, d2, d3] => { results := [.lit (.bool true)], args := [d1, d2, d3] }
  | _ => none }
def undoneRow : OpenClaim := { program := "ytdoodnbobpijoaa", sum := "bdd3d9506d1da18f6dab750c5ab4f73ecff6cc46b5caa7772f6d35bdacd1319c", func := "moraine/morainekeep.Undone", spec := "undone", unfollowed := true, recurses := true, apart := false }
def UndoneSaid : Prop := undoneRow.holds Try.pinned (OpenSpec.ofChange undoneSpec)

/-- ITS FALSE NEIGHBOUR: 'it returns false'. Refute it at one input. -/
def undoneWrong : ChangeSpec := { name := "undone", fn := fun _ => fun
  | [d1, d2, d3] => { results := [.lit (.bool false)], args := [d1, d2, d3] }
  | _ => none }
def UndoneWrongFalsely : Prop := undoneRow.holds Try.pinned (OpenSpec.ofChange undoneWrong)

/-- 'morainekeep.Saved': WHATEVER THE INPUT: true; the input reads as it did. -/
def savedSpec : ChangeSpec := { name := "saved", fn := fun _ => fun
  | [d1, d2, d3, d4] => { results := [.lit (.bool true)], args := [d1, d2, d3, d4] }
  | _ => none }
def savedRow : OpenClaim := { program := "ytdoodnbobpijoaa", sum := "bdd3d9506d1da18f6dab750c5ab4f73ecff6cc46b5caa7772f6d35bdacd1319c", func := "moraine/morainekeep.Saved", spec := "saved", unfollowed := true, recurses := true, apart := false }
def SavedSaid : Prop := savedRow.holds Try.pinned (OpenSpec.ofChange savedSpec)

/-- ITS FALSE NEIGHBOUR: 'it returns false'. Refute it at one input. -/
def savedWrong : ChangeSpec := { name := "saved", fn := fun _ => fun
  | [d1, d2, d3, d4] => { results := [.lit (.bool false)], args := [d1, d2, d3, d4] }
  | _ => none }
def SavedWrongFalsely : Prop := savedRow.holds Try.pinned (OpenSpec.ofChange savedWrong)

/-- 'morainekeep.Better': WHATEVER THE INPUT: true; the input reads as it did. -/
def betterSpec : ChangeSpec := { name := "better", fn := fun _ => fun
  | [d1, d2] => { results := [.lit (.bool true)], args := [d1, d2] }
  | _ => none }
def betterRow : OpenClaim := { program := "ytdoodnbobpijoaa", sum := "bdd3d9506d1da18f6dab750c5ab4f73ecff6cc46b5caa7772f6d35bdacd1319c", func := "moraine/morainekeep.Better", spec := "better", unfollowed := true, recurses := true, apart := false }
def BetterSaid : Prop := betterRow.holds Try.pinned (OpenSpec.ofChange betterSpec)

/-- ITS FALSE NEIGHBOUR: 'it returns false'. Refute it at one input. -/
def betterWrong : ChangeSpec := { name := "better", fn := fun _ => fun
  | [d1, d2] => { results := [.lit (.bool false)], args := [d1, d2] }
  | _ => none }
def BetterWrongFalsely : Prop := betterRow.holds Try.pinned (OpenSpec.ofChange betterWrong)

/-- 'morainekeep.Aged': WHATEVER THE INPUT: true; the input reads as it did. -/
def agedSpec : ChangeSpec := { name := "aged", fn := fun _ => fun
  | [d1, d2, d3] => { results := [.lit (.bool true)], args := [d1, d2, d3] }
  | _ => none }
def agedRow : OpenClaim := { program := "ytdoodnbobpijoaa", sum := "bdd3d9506d1da18f6dab750c5ab4f73ecff6cc46b5caa7772f6d35bdacd1319c", func := "moraine/morainekeep.Aged", spec := "aged", unfollowed := true, recurses := true, apart := false }
def AgedSaid : Prop := agedRow.holds Try.pinned (OpenSpec.ofChange agedSpec)

/-- ITS FALSE NEIGHBOUR: 'it returns false'. Refute it at one input. -/
def agedWrong : ChangeSpec := { name := "aged", fn := fun _ => fun
  | [d1, d2, d3] => { results := [.lit (.bool false)], args := [d1, d2, d3] }
  | _ => none }
def AgedWrongFalsely : Prop := agedRow.holds Try.pinned (OpenSpec.ofChange agedWrong)

/-- 'morainelaw.All': WHATEVER THE INPUT: true; the input reads as it did. -/
def allSpec : ChangeSpec := { name := "all", fn := fun _ => fun
  | [d] => { results := [.lit (.bool true)], args := [d] }
  | _ => none }
def allRow : OpenClaim := { program := "ytdoodnbobpijoaa", sum := "bdd3d9506d1da18f6dab750c5ab4f73ecff6cc46b5caa7772f6d35bdacd1319c", func := "moraine/morainelaw.All", spec := "all", unfollowed := true, recurses := true, apart := false }
def AllSaid : Prop := allRow.holds Try.pinned (OpenSpec.ofChange allSpec)

/-- ITS FALSE NEIGHBOUR: 'it returns false'. Refute it at one input. -/
def allWrong : ChangeSpec := { name := "all", fn := fun _ => fun
  | [d] => { results := [.lit (.bool false)], args := [d] }
  | _ => none }
def AllWrongFalsely : Prop := allRow.holds Try.pinned (OpenSpec.ofChange allWrong)

/- THE SECOND FORM. 'bulk': how many values and letters a reading holds, each counted each time it is reached (what is shared counts as often as it is met; a slice's spare places count too). A statement '..UptoSaid' is the law's where the arguments, and the package variables that the reading takes, are together of bulk at most 1048576: NARROWER than '..Said'. Prove '..Said' where nothing that the law and all that it calls make is longer than what came in: it says more and counts as full. Else prove '..UptoSaid'. A law counts once. -/
mutual
def uptoBulk {H : Type} : DataW H → Nat
  | .lit (.string bytes) => bytes.length + 1
  | .lit _ => 1
  | .nil => 1
  | .ptr d => uptoBulk d + 1
  | .slice elems spare => uptoBulkAll elems + uptoBulkAll spare + 1
  | .agg parts => uptoBulkAll parts + 1
  | .iface _ d => uptoBulk d + 1
  | .map entries => uptoBulkEntries entries + 1
  | .held _ => 1
def uptoBulkAll {H : Type} : List (DataW H) → Nat
  | [] => 0
  | d :: r => uptoBulk d + uptoBulkAll r
def uptoBulkEntries {H : Type} : List (Lit × DataW H) → Nat
  | [] => 0
  | x :: r => uptoBulkEntry x + uptoBulkEntries r
def uptoBulkEntry {H : Type} : Lit × DataW H → Nat
  | (.string bytes, d) => bytes.length + uptoBulk d + 1
  | (_, d) => uptoBulk d + 1
 end
def uptoSmall : (H : Type) → List (DataW H) → Bool := fun _ ds => decide (uptoBulkAll ds ≤ 1048576)
def OpenSpec.upto (s : _root_.Go.ChangeSpec) : _root_.Go.OpenSpec := { _root_.Go.OpenSpec.ofChange s with cond := some uptoSmall }

/-- 'morainelaw.Links', WHERE WHAT IT READS IS OF BULK AT MOST 1048576: true; the input reads as it did. -/
def linksUptoRow : OpenClaim := { program := "ytdoodnbobpijoaa", sum := "bdd3d9506d1da18f6dab750c5ab4f73ecff6cc46b5caa7772f6d35bdacd1319c", func := "moraine/morainelaw.Links", spec := "links", unfollowed := true, recurses := true, apart := false, narrowed := true }
def LinksUptoSaid : Prop := linksUptoRow.holds Try.pinned (OpenSpec.upto linksSpec)

/-- 'morainelaw.Ways', WHERE WHAT IT READS IS OF BULK AT MOST 1048576: true; the input reads as it did. -/
def waysUptoRow : OpenClaim := { program := "ytdoodnbobpijoaa", sum := "bdd3d9506d1da18f6dab750c5ab4f73ecff6cc46b5caa7772f6d35bdacd1319c", func := "moraine/morainelaw.Ways", spec := "ways", unfollowed := true, recurses := true, apart := false, narrowed := true }
def WaysUptoSaid : Prop := waysUptoRow.holds Try.pinned (OpenSpec.upto waysSpec)

/-- 'morainelaw.Lossy', WHERE WHAT IT READS IS OF BULK AT MOST 1048576: true; the input reads as it did. -/
def lossyUptoRow : OpenClaim := { program := "ytdoodnbobpijoaa", sum := "bdd3d9506d1da18f6dab750c5ab4f73ecff6cc46b5caa7772f6d35bdacd1319c", func := "moraine/morainelaw.Lossy", spec := "lossy", unfollowed := true, recurses := true, apart := false, narrowed := true }
def LossyUptoSaid : Prop := lossyUptoRow.holds Try.pinned (OpenSpec.upto lossySpec)

/-- 'morainekeep.Straight', WHERE WHAT IT READS IS OF BULK AT MOST 1048576: true; the input reads as it did. -/
def straightUptoRow : OpenClaim := { program := "ytdoodnbobpijoaa", sum := "bdd3d9506d1da18f6dab750c5ab4f73ecff6cc46b5caa7772f6d35bdacd1319c", func := "moraine/morainekeep.Straight", spec := "straight", unfollowed := true, recurses := true, apart := false, narrowed := true }
def StraightUptoSaid : Prop := straightUptoRow.holds Try.pinned (OpenSpec.upto straightSpec)

/-- 'morainekeep.Found', WHERE WHAT IT READS IS OF BULK AT MOST 1048576: true; the input reads as it did. -/
def foundUptoRow : OpenClaim := { program := "ytdoodnbobpijoaa", sum := "bdd3d9506d1da18f6dab750c5ab4f73ecff6cc46b5caa7772f6d35bdacd1319c", func := "moraine/morainekeep.Found", spec := "found", unfollowed := true, recurses := true, apart := false, narrowed := true }
def FoundUptoSaid : Prop := foundUptoRow.holds Try.pinned (OpenSpec.upto foundSpec)

/-- 'morainekeep.Undone', WHERE WHAT IT READS IS OF BULK AT MOST 1048576: true; the input reads as it did. -/
def undoneUptoRow : OpenClaim := { program := "ytdoodnbobpijoaa", sum := "bdd3d9506d1da18f6dab750c5ab4f73ecff6cc46b5caa7772f6d35bdacd1319c", func := "moraine/morainekeep.Undone", spec := "undone", unfollowed := true, recurses := true, apart := false, narrowed := true }
def UndoneUptoSaid : Prop := undoneUptoRow.holds Try.pinned (OpenSpec.upto undoneSpec)

/-- 'morainekeep.Saved', WHERE WHAT IT READS IS OF BULK AT MOST 1048576: true; the input reads as it did. -/
def savedUptoRow : OpenClaim := { program := "ytdoodnbobpijoaa", sum := "bdd3d9506d1da18f6dab750c5ab4f73ecff6cc46b5caa7772f6d35bdacd1319c", func := "moraine/morainekeep.Saved", spec := "saved", unfollowed := true, recurses := true, apart := false, narrowed := true }
def SavedUptoSaid : Prop := savedUptoRow.holds Try.pinned (OpenSpec.upto savedSpec)

/-- 'morainekeep.Better', WHERE WHAT IT READS IS OF BULK AT MOST 1048576: true; the input reads as it did. -/
def betterUptoRow : OpenClaim := { program := "ytdoodnbobpijoaa", sum := "bdd3d9506d1da18f6dab750c5ab4f73ecff6cc46b5caa7772f6d35bdacd1319c", func := "moraine/morainekeep.Better", spec := "better", unfollowed := true, recurses := true, apart := false, narrowed := true }
def BetterUptoSaid : Prop := betterUptoRow.holds Try.pinned (OpenSpec.upto betterSpec)

/-- 'morainekeep.Aged', WHERE WHAT IT READS IS OF BULK AT MOST 1048576: true; the input reads as it did. -/
def agedUptoRow : OpenClaim := { program := "ytdoodnbobpijoaa", sum := "bdd3d9506d1da18f6dab750c5ab4f73ecff6cc46b5caa7772f6d35bdacd1319c", func := "moraine/morainekeep.Aged", spec := "aged", unfollowed := true, recurses := true, apart := false, narrowed := true }
def AgedUptoSaid : Prop := agedUptoRow.holds Try.pinned (OpenSpec.upto agedSpec)

/-- 'morainelaw.All', WHERE WHAT IT READS IS OF BULK AT MOST 1048576: true; the input reads as it did. -/
def allUptoRow : OpenClaim := { program := "ytdoodnbobpijoaa", sum := "bdd3d9506d1da18f6dab750c5ab4f73ecff6cc46b5caa7772f6d35bdacd1319c", func := "moraine/morainelaw.All", spec := "all", unfollowed := true, recurses := true, apart := false, narrowed := true }
def AllUptoSaid : Prop := allUptoRow.holds Try.pinned (OpenSpec.upto allSpec)

end Rows
end Go.Proofs.Ytdoodnbobpijoaa
