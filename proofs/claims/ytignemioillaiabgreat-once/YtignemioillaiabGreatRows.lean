/-
  No cell of these rows narrows 'for every input' (looked for: loops, veiled, ifaces, maps, wideKeys, modest, calm, conditions, laid).
  DERIVED. THE GIVEN ROWS OF THIS SEAT. 4 by the template 'for every input the law returns true; each argument reads behind the call as it read before'; 0 by the template 'total and deterministic' (their statements: YtignemioillaiabGreatTotals.lean).
  GIVEN WITH THE SEED: the statements are not yours to turn. If you find one false, say at which input.
  Laid BY PROGRAM, IN A SANDBOX (cutbox-rows.mjs): the forced cells as the released guide's own fill.sh prints them over the translation 953eb2a08280e873… (all of the seat's roots in one cut). By AI agents, Wed Nov 11 2026. No macro, syntax, notation, axiom, sorry.
-/
import Derived.Test.YtignemioillaiabGreatChecked
import GoSem.Claim
import GoSem.ClaimJoined
import GoSem.ClaimMapViews
import Derived.JoinedTies
import Derived.KernelRfl
namespace Go.Proofs.YtignemioillaiabGreat
/- THE CELL 'sum', in the pinned program and in every row, IS THE sha256 OF THE DUMP (.gsa) THAT YtignemioillaiabGreatProg.lean LOADS. Nothing in Lean hashes anything: it is a label: what it is worth is what the hold of that sum in a sandbox is worth. -/
noncomputable def Tryz.pinned : Pinned := { name := "ytignemioillaiabgreat", sum := "953eb2a08280e8735097d5f1ff2d7812ce13b32455a5f15acb46888c4449b55b", checked := Tryz.checked }
namespace Rows
def none {H : Type} : Left H := { results := [], args := [] }

/-- 'handoverkeep.Once': WHATEVER THE INPUT: true; the input reads as it did. -/
def onceSpec : ChangeSpec := { name := "once", fn := fun _ => fun
  | [d1, d2, d3] => { results := [.lit (.bool true)], args := [d1, d2, d3] }
  | _ => none }
def onceRow : OpenClaim := { program := "ytignemioillaiabgreat", sum := "953eb2a08280e8735097d5f1ff2d7812ce13b32455a5f15acb46888c4449b55b", func := "handover/handoverkeep.Once", spec := "once", inPlace := ["slices.overlaps[handover/api.Row]", "slices.overlaps[handover/api.Reply]"], unfollowed := true, recurses := true, leaving := true, apart := false }
def OnceSaid : Prop := onceRow.holds Tryz.pinned (OpenSpec.ofChange onceSpec)

/-- ITS FALSE NEIGHBOUR: 'it returns false'. Refute it at one input. -/
def onceWrong : ChangeSpec := { name := "once", fn := fun _ => fun
  | [d1, d2, d3] => { results := [.lit (.bool false)], args := [d1, d2, d3] }
  | _ => none }
def OnceWrongFalsely : Prop := onceRow.holds Tryz.pinned (OpenSpec.ofChange onceWrong)

/-- 'handoverkeep.Ends': WHATEVER THE INPUT: true; the input reads as it did. -/
def endsSpec : ChangeSpec := { name := "ends", fn := fun _ => fun
  | [d1, d2, d3, d4] => { results := [.lit (.bool true)], args := [d1, d2, d3, d4] }
  | _ => none }
def endsRow : OpenClaim := { program := "ytignemioillaiabgreat", sum := "953eb2a08280e8735097d5f1ff2d7812ce13b32455a5f15acb46888c4449b55b", func := "handover/handoverkeep.Ends", spec := "ends", inPlace := ["slices.overlaps[handover/api.Row]", "slices.overlaps[handover/api.Reply]"], unfollowed := true, recurses := true, leaving := true, apart := false }
def EndsSaid : Prop := endsRow.holds Tryz.pinned (OpenSpec.ofChange endsSpec)

/-- ITS FALSE NEIGHBOUR: 'it returns false'. Refute it at one input. -/
def endsWrong : ChangeSpec := { name := "ends", fn := fun _ => fun
  | [d1, d2, d3, d4] => { results := [.lit (.bool false)], args := [d1, d2, d3, d4] }
  | _ => none }
def EndsWrongFalsely : Prop := endsRow.holds Tryz.pinned (OpenSpec.ofChange endsWrong)

/-- 'handoverkeep.Junk': WHATEVER THE INPUT: true; the input reads as it did. -/
def junkSpec : ChangeSpec := { name := "junk", fn := fun _ => fun
  | [d1, d2, d3, d4, d5] => { results := [.lit (.bool true)], args := [d1, d2, d3, d4, d5] }
  | _ => none }
def junkRow : OpenClaim := { program := "ytignemioillaiabgreat", sum := "953eb2a08280e8735097d5f1ff2d7812ce13b32455a5f15acb46888c4449b55b", func := "handover/handoverkeep.Junk", spec := "junk", inPlace := ["slices.overlaps[handover/api.Row]", "slices.overlaps[handover/api.Reply]"], unfollowed := true, recurses := true, leaving := true, apart := false }
def JunkSaid : Prop := junkRow.holds Tryz.pinned (OpenSpec.ofChange junkSpec)

/-- ITS FALSE NEIGHBOUR: 'it returns false'. Refute it at one input. -/
def junkWrong : ChangeSpec := { name := "junk", fn := fun _ => fun
  | [d1, d2, d3, d4, d5] => { results := [.lit (.bool false)], args := [d1, d2, d3, d4, d5] }
  | _ => none }
def JunkWrongFalsely : Prop := junkRow.holds Tryz.pinned (OpenSpec.ofChange junkWrong)

/-- 'handoverkeep.Twins': WHATEVER THE INPUT: true; the input reads as it did. -/
def twinsSpec : ChangeSpec := { name := "twins", fn := fun _ => fun
  | [d1, d2, d3, d4] => { results := [.lit (.bool true)], args := [d1, d2, d3, d4] }
  | _ => none }
def twinsRow : OpenClaim := { program := "ytignemioillaiabgreat", sum := "953eb2a08280e8735097d5f1ff2d7812ce13b32455a5f15acb46888c4449b55b", func := "handover/handoverkeep.Twins", spec := "twins", inPlace := ["slices.overlaps[handover/api.Row]", "slices.overlaps[handover/api.Reply]"], unfollowed := true, recurses := true, leaving := true, apart := false }
def TwinsSaid : Prop := twinsRow.holds Tryz.pinned (OpenSpec.ofChange twinsSpec)

/-- ITS FALSE NEIGHBOUR: 'it returns false'. Refute it at one input. -/
def twinsWrong : ChangeSpec := { name := "twins", fn := fun _ => fun
  | [d1, d2, d3, d4] => { results := [.lit (.bool false)], args := [d1, d2, d3, d4] }
  | _ => none }
def TwinsWrongFalsely : Prop := twinsRow.holds Tryz.pinned (OpenSpec.ofChange twinsWrong)

/- THE SECOND FORM. 'bulk': how many values and letters a reading holds, each counted each time it is reached (what is shared counts as often as it is met; a slice's spare places count too). A statement '..UptoSaid' is the law's where the arguments, and the package variables that the reading takes, are together of bulk at most 1048576: NARROWER than '..Said'. Prove '..Said' where nothing that the law and all that it calls make is longer than what came in: it says more and counts as full. Else prove '..UptoSaid'. A law counts once. -/
mutual
def uptoBulk {H : Type} : DataW H → Nat
  | .lit (.string bytes) => bytes.length + 1
  | .lit _ => 1
  | .nil => 1
  | .ptr d => uptoBulk d + 1
  | .slice elems spare => uptoBulkAll elems + uptoBulkAll spare + 1
  | .agg parts => uptoBulkAll parts + 1
  | .iface _ d => uptoBulk d + 1
  | .map entries => uptoBulkEntries entries + 1
  | .held _ => 1
def uptoBulkAll {H : Type} : List (DataW H) → Nat
  | [] => 0
  | d :: r => uptoBulk d + uptoBulkAll r
def uptoBulkEntries {H : Type} : List (Lit × DataW H) → Nat
  | [] => 0
  | x :: r => uptoBulkEntry x + uptoBulkEntries r
def uptoBulkEntry {H : Type} : Lit × DataW H → Nat
  | (.string bytes, d) => bytes.length + uptoBulk d + 1
  | (_, d) => uptoBulk d + 1
 end
def uptoSmall : (H : Type) → List (DataW H) → Bool := fun _ ds => decide (uptoBulkAll ds ≤ 1048576)
def OpenSpec.upto (s : _root_.Go.ChangeSpec) : _root_.Go.OpenSpec := { _root_.Go.OpenSpec.ofChange s with cond := some uptoSmall }

/-- 'handoverkeep.Once', WHERE WHAT IT READS IS OF BULK AT MOST 1048576: true; the input reads as it did. -/
def onceUptoRow : OpenClaim := { program := "ytignemioillaiabgreat", sum := "953eb2a08280e8735097d5f1ff2d7812ce13b32455a5f15acb46888c4449b55b", func := "handover/handoverkeep.Once", spec := "once", inPlace := ["slices.overlaps[handover/api.Row]", "slices.overlaps[handover/api.Reply]"], unfollowed := true, recurses := true, leaving := true, apart := false, narrowed := true }
def OnceUptoSaid : Prop := onceUptoRow.holds Tryz.pinned (OpenSpec.upto onceSpec)

/-- 'handoverkeep.Ends', WHERE WHAT IT READS IS OF BULK AT MOST 1048576: true; the input reads as it did. -/
def endsUptoRow : OpenClaim := { program := "ytignemioillaiabgreat", sum := "953eb2a08280e8735097d5f1ff2d7812ce13b32455a5f15acb46888c4449b55b", func := "handover/handoverkeep.Ends", spec := "ends", inPlace := ["slices.overlaps[handover/api.Row]", "slices.overlaps[handover/api.Reply]"], unfollowed := true, recurses := true, leaving := true, apart := false, narrowed := true }
def EndsUptoSaid : Prop := endsUptoRow.holds Tryz.pinned (OpenSpec.upto endsSpec)

/-- 'handoverkeep.Junk', WHERE WHAT IT READS IS OF BULK AT MOST 1048576: true; the input reads as it did. -/
def junkUptoRow : OpenClaim := { program := "ytignemioillaiabgreat", sum := "953eb2a08280e8735097d5f1ff2d7812ce13b32455a5f15acb46888c4449b55b", func := "handover/handoverkeep.Junk", spec := "junk", inPlace := ["slices.overlaps[handover/api.Row]", "slices.overlaps[handover/api.Reply]"], unfollowed := true, recurses := true, leaving := true, apart := false, narrowed := true }
def JunkUptoSaid : Prop := junkUptoRow.holds Tryz.pinned (OpenSpec.upto junkSpec)

/-- 'handoverkeep.Twins', WHERE WHAT IT READS IS OF BULK AT MOST 1048576: true; the input reads as it did. -/
def twinsUptoRow : OpenClaim := { program := "ytignemioillaiabgreat", sum := "953eb2a08280e8735097d5f1ff2d7812ce13b32455a5f15acb46888c4449b55b", func := "handover/handoverkeep.Twins", spec := "twins", inPlace := ["slices.overlaps[handover/api.Row]", "slices.overlaps[handover/api.Reply]"], unfollowed := true, recurses := true, leaving := true, apart := false, narrowed := true }
def TwinsUptoSaid : Prop := twinsUptoRow.holds Tryz.pinned (OpenSpec.upto twinsSpec)

end Rows
end Go.Proofs.YtignemioillaiabGreat
