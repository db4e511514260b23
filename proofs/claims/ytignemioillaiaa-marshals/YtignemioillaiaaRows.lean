/-
  No cell of these rows narrows 'for every input' (looked for: loops, veiled, ifaces, maps, wideKeys, modest, calm, conditions, laid).
  DERIVED. THE GIVEN ROWS OF THIS SEAT. 7 by the template 'for every input the law returns true; each argument reads behind the call as it read before'; 0 by the template 'total and deterministic' (their statements: YtignemioillaiaaTotals.lean).
  GIVEN WITH THE SEED: the statements are not yours to turn. If you find one false, say at which input.
  Laid BY PROGRAM, IN A SANDBOX (cutbox-rows.mjs): the forced cells as the released guide's own fill.sh prints them over the translation 98b50d2b23a50ede… (all of the seat's roots in one cut). By AI agents, Wed Nov 11 2026. No macro, syntax, notation, axiom, sorry.
-/
import Derived.Test.YtignemioillaiaaChecked
import GoSem.Claim
import GoSem.ClaimJoined
import GoSem.ClaimMapViews
import Derived.JoinedTies
import Derived.KernelRfl
namespace Go.Proofs.Ytignemioillaiaa
/- THE CELL 'sum', in the pinned program and in every row, IS THE sha256 OF THE DUMP (.gsa) THAT YtignemioillaiaaProg.lean LOADS. Nothing in Lean hashes anything: it is a label: what it is worth is what the hold of that sum in a sandbox is worth. -/
noncomputable def Try.pinned : Pinned := { name := "ytignemioillaiaa", sum := "98b50d2b23a50ede95128d77976fbcb6120e6a7c35f1703bc7bc38144fc2934a", checked := Try.checked }
namespace Rows
def none {H : Type} : Left H := { results := [], args := [] }

/-- 'handoverlaw.Marshals': WHATEVER THE INPUT: true; the input reads as it did. -/
def marshalsSpec : ChangeSpec := { name := "marshals", fn := fun _ => fun
  | [d] => { results := [.lit (.bool true)], args := [d] }
  | _ => none }
def marshalsRow : OpenClaim := { program := "ytignemioillaiaa", sum := "98b50d2b23a50ede95128d77976fbcb6120e6a7c35f1703bc7bc38144fc2934a", func := "handover/handoverlaw.Marshals", spec := "marshals", unfollowed := true, recurses := true, apart := false }
def MarshalsSaid : Prop := marshalsRow.holds Try.pinned (OpenSpec.ofChange marshalsSpec)

/-- ITS FALSE NEIGHBOUR: 'it returns false'. Refute it at one input. -/
def marshalsWrong : ChangeSpec := { name := "marshals", fn := fun _ => fun
  | [d] => { results := [.lit (.bool false)], args := [d] }
  | _ => none }
def MarshalsWrongFalsely : Prop := marshalsRow.holds Try.pinned (OpenSpec.ofChange marshalsWrong)

/-- 'handoverlaw.Parses': WHATEVER THE INPUT: true; the input reads as it did. -/
def parsesSpec : ChangeSpec := { name := "parses", fn := fun _ => fun
  | [d1, d2] => { results := [.lit (.bool true)], args := [d1, d2] }
  | _ => none }
def parsesRow : OpenClaim := { program := "ytignemioillaiaa", sum := "98b50d2b23a50ede95128d77976fbcb6120e6a7c35f1703bc7bc38144fc2934a", func := "handover/handoverlaw.Parses", spec := "parses", unfollowed := true, recurses := true, apart := false }
def ParsesSaid : Prop := parsesRow.holds Try.pinned (OpenSpec.ofChange parsesSpec)

/-- ITS FALSE NEIGHBOUR: 'it returns false'. Refute it at one input. -/
def parsesWrong : ChangeSpec := { name := "parses", fn := fun _ => fun
  | [d1, d2] => { results := [.lit (.bool false)], args := [d1, d2] }
  | _ => none }
def ParsesWrongFalsely : Prop := parsesRow.holds Try.pinned (OpenSpec.ofChange parsesWrong)

/-- 'handoverlaw.Maps': WHATEVER THE INPUT: true; the input reads as it did. -/
def mapsSpec : ChangeSpec := { name := "maps", fn := fun _ => fun
  | [d1, d2, d3, d4, d5] => { results := [.lit (.bool true)], args := [d1, d2, d3, d4, d5] }
  | _ => none }
def mapsRow : OpenClaim := { program := "ytignemioillaiaa", sum := "98b50d2b23a50ede95128d77976fbcb6120e6a7c35f1703bc7bc38144fc2934a", func := "handover/handoverlaw.Maps", spec := "maps", apart := false }
def MapsSaid : Prop := mapsRow.holds Try.pinned (OpenSpec.ofChange mapsSpec)

/-- ITS FALSE NEIGHBOUR: 'it returns false'. Refute it at one input. -/
def mapsWrong : ChangeSpec := { name := "maps", fn := fun _ => fun
  | [d1, d2, d3, d4, d5] => { results := [.lit (.bool false)], args := [d1, d2, d3, d4, d5] }
  | _ => none }
def MapsWrongFalsely : Prop := mapsRow.holds Try.pinned (OpenSpec.ofChange mapsWrong)

/-- 'handoverlaw.Begins': WHATEVER THE INPUT: true; the input reads as it did. -/
def beginsSpec : ChangeSpec := { name := "begins", fn := fun _ => fun
  | [d1, d2] => { results := [.lit (.bool true)], args := [d1, d2] }
  | _ => none }
def beginsRow : OpenClaim := { program := "ytignemioillaiaa", sum := "98b50d2b23a50ede95128d77976fbcb6120e6a7c35f1703bc7bc38144fc2934a", func := "handover/handoverlaw.Begins", spec := "begins", apart := false }
def BeginsSaid : Prop := beginsRow.holds Try.pinned (OpenSpec.ofChange beginsSpec)

/-- ITS FALSE NEIGHBOUR: 'it returns false'. Refute it at one input. -/
def beginsWrong : ChangeSpec := { name := "begins", fn := fun _ => fun
  | [d1, d2] => { results := [.lit (.bool false)], args := [d1, d2] }
  | _ => none }
def BeginsWrongFalsely : Prop := beginsRow.holds Try.pinned (OpenSpec.ofChange beginsWrong)

/-- 'handoverkeep.Round': WHATEVER THE INPUT: true; the input reads as it did. -/
def roundSpec : ChangeSpec := { name := "round", fn := fun _ => fun
  | [d1, d2, d3, d4, d5] => { results := [.lit (.bool true)], args := [d1, d2, d3, d4, d5] }
  | _ => none }
def roundRow : OpenClaim := { program := "ytignemioillaiaa", sum := "98b50d2b23a50ede95128d77976fbcb6120e6a7c35f1703bc7bc38144fc2934a", func := "handover/handoverkeep.Round", spec := "round", unfollowed := true, recurses := true, apart := false }
def RoundSaid : Prop := roundRow.holds Try.pinned (OpenSpec.ofChange roundSpec)

/-- ITS FALSE NEIGHBOUR: 'it returns false'. Refute it at one input. -/
def roundWrong : ChangeSpec := { name := "round", fn := fun _ => fun
  | [d1, d2, d3, d4, d5] => { results := [.lit (.bool false)], args := [d1, d2, d3, d4, d5] }
  | _ => none }
def RoundWrongFalsely : Prop := roundRow.holds Try.pinned (OpenSpec.ofChange roundWrong)

/-- 'handoverkeep.Held': WHATEVER THE INPUT: true; the input reads as it did. -/
def heldSpec : ChangeSpec := { name := "held", fn := fun _ => fun
  | [d1, d2] => { results := [.lit (.bool true)], args := [d1, d2] }
  | _ => none }
def heldRow : OpenClaim := { program := "ytignemioillaiaa", sum := "98b50d2b23a50ede95128d77976fbcb6120e6a7c35f1703bc7bc38144fc2934a", func := "handover/handoverkeep.Held", spec := "held", apart := false }
def HeldSaid : Prop := heldRow.holds Try.pinned (OpenSpec.ofChange heldSpec)

/-- ITS FALSE NEIGHBOUR: 'it returns false'. Refute it at one input. -/
def heldWrong : ChangeSpec := { name := "held", fn := fun _ => fun
  | [d1, d2] => { results := [.lit (.bool false)], args := [d1, d2] }
  | _ => none }
def HeldWrongFalsely : Prop := heldRow.holds Try.pinned (OpenSpec.ofChange heldWrong)

/-- 'handoverkeep.Kept': WHATEVER THE INPUT: true; the input reads as it did. -/
def keptSpec : ChangeSpec := { name := "kept", fn := fun _ => fun
  | [d] => { results := [.lit (.bool true)], args := [d] }
  | _ => none }
def keptRow : OpenClaim := { program := "ytignemioillaiaa", sum := "98b50d2b23a50ede95128d77976fbcb6120e6a7c35f1703bc7bc38144fc2934a", func := "handover/handoverkeep.Kept", spec := "kept", inPlace := ["slices.overlaps[handover/api.Row]", "slices.overlaps[handover/api.Reply]"], unfollowed := true, recurses := true, apart := false }
def KeptSaid : Prop := keptRow.holds Try.pinned (OpenSpec.ofChange keptSpec)

/-- ITS FALSE NEIGHBOUR: 'it returns false'. Refute it at one input. -/
def keptWrong : ChangeSpec := { name := "kept", fn := fun _ => fun
  | [d] => { results := [.lit (.bool false)], args := [d] }
  | _ => none }
def KeptWrongFalsely : Prop := keptRow.holds Try.pinned (OpenSpec.ofChange keptWrong)

/- THE SECOND FORM. 'bulk': how many values and letters a reading holds, each counted each time it is reached (what is shared counts as often as it is met; a slice's spare places count too). A statement '..UptoSaid' is the law's where the arguments, and the package variables that the reading takes, are together of bulk at most 1048576: NARROWER than '..Said'. Prove '..Said' where nothing that the law and all that it calls make is longer than what came in: it says more and counts as full. Else prove '..UptoSaid'. A law counts once. -/
mutual
def uptoBulk {H : Type} : DataW H → Nat
  | .lit (.string bytes) => bytes.length + 1
  | .lit _ => 1
  | .nil => 1
  | .ptr d => uptoBulk d + 1
  | .slice elems spare => uptoBulkAll elems + uptoBulkAll spare + 1
  | .agg parts => uptoBulkAll parts + 1
  | .iface _ d => uptoBulk d + 1
  | .map entries => uptoBulkEntries entries + 1
  | .held _ => 1
def uptoBulkAll {H : Type} : List (DataW H) → Nat
  | [] => 0
  | d :: r => uptoBulk d + uptoBulkAll r
def uptoBulkEntries {H : Type} : List (Lit × DataW H) → Nat
  | [] => 0
  | x :: r => uptoBulkEntry x + uptoBulkEntries r
def uptoBulkEntry {H : Type} : Lit × DataW H → Nat
  | (.string bytes, d) => bytes.length + uptoBulk d + 1
  | (_, d) => uptoBulk d + 1
 end
def uptoSmall : (H : Type) → List (DataW H) → Bool := fun _ ds => decide (uptoBulkAll ds ≤ 1048576)
def OpenSpec.upto (s : _root_.Go.ChangeSpec) : _root_.Go.OpenSpec := { _root_.Go.OpenSpec.ofChange s with cond := some uptoSmall }

/-- 'handoverlaw.Marshals', WHERE WHAT IT READS IS OF BULK AT MOST 1048576: true; the input reads as it did. -/
def marshalsUptoRow : OpenClaim := { program := "ytignemioillaiaa", sum := "98b50d2b23a50ede95128d77976fbcb6120e6a7c35f1703bc7bc38144fc2934a", func := "handover/handoverlaw.Marshals", spec := "marshals", unfollowed := true, recurses := true, apart := false, narrowed := true }
def MarshalsUptoSaid : Prop := marshalsUptoRow.holds Try.pinned (OpenSpec.upto marshalsSpec)

/-- 'handoverlaw.Parses', WHERE WHAT IT READS IS OF BULK AT MOST 1048576: true; the input reads as it did. -/
def parsesUptoRow : OpenClaim := { program := "ytignemioillaiaa", sum := "98b50d2b23a50ede95128d77976fbcb6120e6a7c35f1703bc7bc38144fc2934a", func := "handover/handoverlaw.Parses", spec := "parses", unfollowed := true, recurses := true, apart := false, narrowed := true }
def ParsesUptoSaid : Prop := parsesUptoRow.holds Try.pinned (OpenSpec.upto parsesSpec)

/-- 'handoverlaw.Maps', WHERE WHAT IT READS IS OF BULK AT MOST 1048576: true; the input reads as it did. -/
def mapsUptoRow : OpenClaim := { program := "ytignemioillaiaa", sum := "98b50d2b23a50ede95128d77976fbcb6120e6a7c35f1703bc7bc38144fc2934a", func := "handover/handoverlaw.Maps", spec := "maps", apart := false, narrowed := true }
def MapsUptoSaid : Prop := mapsUptoRow.holds Try.pinned (OpenSpec.upto mapsSpec)

/-- 'handoverlaw.Begins', WHERE WHAT IT READS IS OF BULK AT MOST 1048576: true; the input reads as it did. -/
def beginsUptoRow : OpenClaim := { program := "ytignemioillaiaa", sum := "98b50d2b23a50ede95128d77976fbcb6120e6a7c35f1703bc7bc38144fc2934a", func := "handover/handoverlaw.Begins", spec := "begins", apart := false, narrowed := true }
def BeginsUptoSaid : Prop := beginsUptoRow.holds Try.pinned (OpenSpec.upto beginsSpec)

/-- 'handoverkeep.Round', WHERE WHAT IT READS IS OF BULK AT MOST 1048576: true; the input reads as it did. -/
def roundUptoRow : OpenClaim := { program := "ytignemioillaiaa", sum := "98b50d2b23a50ede95128d77976fbcb6120e6a7c35f1703bc7bc38144fc2934a", func := "handover/handoverkeep.Round", spec := "round", unfollowed := true, recurses := true, apart := false, narrowed := true }
def RoundUptoSaid : Prop := roundUptoRow.holds Try.pinned (OpenSpec.upto roundSpec)

/-- 'handoverkeep.Held', WHERE WHAT IT READS IS OF BULK AT MOST 1048576: true; the input reads as it did. -/
def heldUptoRow : OpenClaim := { program := "ytignemioillaiaa", sum := "98b50d2b23a50ede95128d77976fbcb6120e6a7c35f1703bc7bc38144fc2934a", func := "handover/handoverkeep.Held", spec := "held", apart := false, narrowed := true }
def HeldUptoSaid : Prop := heldUptoRow.holds Try.pinned (OpenSpec.upto heldSpec)

/-- 'handoverkeep.Kept', WHERE WHAT IT READS IS OF BULK AT MOST 1048576: true; the input reads as it did. -/
def keptUptoRow : OpenClaim := { program := "ytignemioillaiaa", sum := "98b50d2b23a50ede95128d77976fbcb6120e6a7c35f1703bc7bc38144fc2934a", func := "handover/handoverkeep.Kept", spec := "kept", inPlace := ["slices.overlaps[handover/api.Row]", "slices.overlaps[handover/api.Reply]"], unfollowed := true, recurses := true, apart := false, narrowed := true }
def KeptUptoSaid : Prop := keptUptoRow.holds Try.pinned (OpenSpec.upto keptSpec)

end Rows
end Go.Proofs.Ytignemioillaiaa
