/-
  No cell of these rows narrows 'for every input' (looked for: loops, veiled, ifaces, maps, wideKeys, modest, calm, conditions, laid).
  DERIVED. THE GIVEN ROWS OF THIS SEAT. 5 by the template 'for every input the law returns true; each argument reads behind the call as it read before'; 0 by the template 'total and deterministic' (their statements: YtignemioillaiaaGreatTotals.lean).
  GIVEN WITH THE SEED: the statements are not yours to turn. If you find one false, say at which input.
  Laid BY PROGRAM, IN A SANDBOX (cutbox-rows.mjs): the forced cells as the released guide's own fill.sh prints them over the translation 5b64deafb06222fe… (all of the seat's roots in one cut). By AI agents, Wed Nov 11 2026. No macro, syntax, notation, axiom, sorry.
-/
import Derived.Test.YtignemioillaiaaGreatChecked
import GoSem.Claim
import GoSem.ClaimJoined
import GoSem.ClaimMapViews
import Derived.JoinedTies
import Derived.KernelRfl
namespace Go.Proofs.YtignemioillaiaaGreat
/- THE CELL 'sum', in the pinned program and in every row, IS THE sha256 OF THE DUMP (.gsa) THAT YtignemioillaiaaGreatProg.lean LOADS. Nothing in Lean hashes anything: it is a label: what it is worth is what the hold of that sum in a sandbox is worth. -/
noncomputable def Tryz.pinned : Pinned := { name := "ytignemioillaiaagreat", sum := "5b64deafb06222fedf3dcde7e861d591d8ddb55cb7d0dde6fb8216f1ba18171b", checked := Tryz.checked }
namespace Rows
def none {H : Type} : Left H := { results := [], args := [] }

/-- 'handoverlaw.Applies': WHATEVER THE INPUT: true; the input reads as it did. -/
def appliesSpec : ChangeSpec := { name := "applies", fn := fun _ => fun
  | [d1, d2, d3] => { results := [.lit (.bool true)], args := [d1, d2, d3] }
  | _ => none }
def appliesRow : OpenClaim := { program := "ytignemioillaiaagreat", sum := "5b64deafb06222fedf3dcde7e861d591d8ddb55cb7d0dde6fb8216f1ba18171b", func := "handover/handoverlaw.Applies", spec := "applies", inPlace := ["slices.overlaps[handover/api.Row]", "slices.overlaps[handover/api.Reply]"], unfollowed := true, recurses := true, leaving := true, apart := false }
def AppliesSaid : Prop := appliesRow.holds Tryz.pinned (OpenSpec.ofChange appliesSpec)

/-- ITS FALSE NEIGHBOUR: 'it returns false'. Refute it at one input. -/
def appliesWrong : ChangeSpec := { name := "applies", fn := fun _ => fun
  | [d1, d2, d3] => { results := [.lit (.bool false)], args := [d1, d2, d3] }
  | _ => none }
def AppliesWrongFalsely : Prop := appliesRow.holds Tryz.pinned (OpenSpec.ofChange appliesWrong)

/-- 'handoverkeep.Calls': WHATEVER THE INPUT: true; the input reads as it did. -/
def callsSpec : ChangeSpec := { name := "calls", fn := fun _ => fun
  | [d1, d2, d3, d4, d5] => { results := [.lit (.bool true)], args := [d1, d2, d3, d4, d5] }
  | _ => none }
def callsRow : OpenClaim := { program := "ytignemioillaiaagreat", sum := "5b64deafb06222fedf3dcde7e861d591d8ddb55cb7d0dde6fb8216f1ba18171b", func := "handover/handoverkeep.Calls", spec := "calls", inPlace := ["slices.overlaps[handover/api.Row]", "slices.overlaps[handover/api.Reply]"], unfollowed := true, recurses := true, leaving := true, apart := false }
def CallsSaid : Prop := callsRow.holds Tryz.pinned (OpenSpec.ofChange callsSpec)

/-- ITS FALSE NEIGHBOUR: 'it returns false'. Refute it at one input. -/
def callsWrong : ChangeSpec := { name := "calls", fn := fun _ => fun
  | [d1, d2, d3, d4, d5] => { results := [.lit (.bool false)], args := [d1, d2, d3, d4, d5] }
  | _ => none }
def CallsWrongFalsely : Prop := callsRow.holds Tryz.pinned (OpenSpec.ofChange callsWrong)

/-- 'handoverkeep.Agreed': WHATEVER THE INPUT: true; the input reads as it did. -/
def agreedSpec : ChangeSpec := { name := "agreed", fn := fun _ => fun
  | [d1, d2, d3] => { results := [.lit (.bool true)], args := [d1, d2, d3] }
  | _ => none }
def agreedRow : OpenClaim := { program := "ytignemioillaiaagreat", sum := "5b64deafb06222fedf3dcde7e861d591d8ddb55cb7d0dde6fb8216f1ba18171b", func := "handover/handoverkeep.Agreed", spec := "agreed", inPlace := ["slices.overlaps[handover/api.Row]", "slices.overlaps[handover/api.Reply]"], unfollowed := true, recurses := true, leaving := true, apart := false }
def AgreedSaid : Prop := agreedRow.holds Tryz.pinned (OpenSpec.ofChange agreedSpec)

/-- ITS FALSE NEIGHBOUR: 'it returns false'. Refute it at one input. -/
def agreedWrong : ChangeSpec := { name := "agreed", fn := fun _ => fun
  | [d1, d2, d3] => { results := [.lit (.bool false)], args := [d1, d2, d3] }
  | _ => none }
def AgreedWrongFalsely : Prop := agreedRow.holds Tryz.pinned (OpenSpec.ofChange agreedWrong)

/-- 'handoverkeep.Whence': WHATEVER THE INPUT: true; the input reads as it did. -/
def whenceSpec : ChangeSpec := { name := "whence", fn := fun _ => fun
  | [d1, d2, d3] => { results := [.lit (.bool true)], args := [d1, d2, d3] }
  | _ => none }
def whenceRow : OpenClaim := { program := "ytignemioillaiaagreat", sum := "5b64deafb06222fedf3dcde7e861d591d8ddb55cb7d0dde6fb8216f1ba18171b", func := "handover/handoverkeep.Whence", spec := "whence", inPlace := ["slices.overlaps[handover/api.Row]", "slices.overlaps[handover/api.Reply]"], unfollowed := true, recurses := true, leaving := true, apart := false }
def WhenceSaid : Prop := whenceRow.holds Tryz.pinned (OpenSpec.ofChange whenceSpec)

/-- ITS FALSE NEIGHBOUR: 'it returns false'. Refute it at one input. -/
def whenceWrong : ChangeSpec := { name := "whence", fn := fun _ => fun
  | [d1, d2, d3] => { results := [.lit (.bool false)], args := [d1, d2, d3] }
  | _ => none }
def WhenceWrongFalsely : Prop := whenceRow.holds Tryz.pinned (OpenSpec.ofChange whenceWrong)

/-- 'handoverkeep.Holders': WHATEVER THE INPUT: true; the input reads as it did. -/
def holdersSpec : ChangeSpec := { name := "holders", fn := fun _ => fun
  | [d1, d2, d3, d4] => { results := [.lit (.bool true)], args := [d1, d2, d3, d4] }
  | _ => none }
def holdersRow : OpenClaim := { program := "ytignemioillaiaagreat", sum := "5b64deafb06222fedf3dcde7e861d591d8ddb55cb7d0dde6fb8216f1ba18171b", func := "handover/handoverkeep.Holders", spec := "holders", inPlace := ["slices.overlaps[handover/api.Row]", "slices.overlaps[handover/api.Reply]"], unfollowed := true, recurses := true, leaving := true, apart := false }
def HoldersSaid : Prop := holdersRow.holds Tryz.pinned (OpenSpec.ofChange holdersSpec)

/-- ITS FALSE NEIGHBOUR: 'it returns false'. Refute it at one input. -/
def holdersWrong : ChangeSpec := { name := "holders", fn := fun _ => fun
  | [d1, d2, d3, d4] => { results := [.lit (.bool false)], args := [d1, d2, d3, d4] }
  | _ => none }
def HoldersWrongFalsely : Prop := holdersRow.holds Tryz.pinned (OpenSpec.ofChange holdersWrong)

/- THE SECOND FORM. 'bulk': how many values and letters a reading holds, each counted each time it is reached (what is shared counts as often as it is met; a slice's spare places count too). A statement '..UptoSaid' is the law's where the arguments, and the package variables that the reading takes, are together of bulk at most 1048576: NARROWER than '..Said'. Prove '..Said' where nothing that the law and all that it calls make is longer than what came in: it says more and counts as full. Else prove '..UptoSaid'. A law counts once. -/
mutual
def uptoBulk {H : Type} : DataW H → Nat
  | .lit (.string bytes) => bytes.length + 1
  | .lit _ => 1
  | .nil => 1
  | .ptr d => uptoBulk d + 1
  | .slice elems spare => uptoBulkAll elems + uptoBulkAll spare + 1
  | .agg parts => uptoBulkAll parts + 1
  | .iface _ d => uptoBulk d + 1
  | .map entries => uptoBulkEntries entries + 1
  | .held _ => 1
def uptoBulkAll {H : Type} : List (DataW H) → Nat
  | [] => 0
  | d :: r => uptoBulk d + uptoBulkAll r
def uptoBulkEntries {H : Type} : List (Lit × DataW H) → Nat
  | [] => 0
  | x :: r => uptoBulkEntry x + uptoBulkEntries r
def uptoBulkEntry {H : Type} : Lit × DataW H → Nat
  | (.string bytes, d) => bytes.length + uptoBulk d + 1
  | (_, d) => uptoBulk d + 1
 end
def uptoSmall : (H : Type) → List (DataW H) → Bool := fun _ ds => decide (uptoBulkAll ds ≤ 1048576)
def OpenSpec.upto (s : _root_.Go.ChangeSpec) : _root_.Go.OpenSpec := { _root_.Go.OpenSpec.ofChange s with cond := some uptoSmall }

/-- 'handoverlaw.Applies', WHERE WHAT IT READS IS OF BULK AT MOST 1048576: true; the input reads as it did. -/
def appliesUptoRow : OpenClaim := { program := "ytignemioillaiaagreat", sum := "5b64deafb06222fedf3dcde7e861d591d8ddb55cb7d0dde6fb8216f1ba18171b", func := "handover/handoverlaw.Applies", spec := "applies", inPlace := ["slices.overlaps[handover/api.Row]", "slices.overlaps[handover/api.Reply]"], unfollowed := true, recurses := true, leaving := true, apart := false, narrowed := true }
def AppliesUptoSaid : Prop := appliesUptoRow.holds Tryz.pinned (OpenSpec.upto appliesSpec)

/-- 'handoverkeep.Calls', WHERE WHAT IT READS IS OF BULK AT MOST 1048576: true; the input reads as it did. -/
def callsUptoRow : OpenClaim := { program := "ytignemioillaiaagreat", sum := "5b64deafb06222fedf3dcde7e861d591d8ddb55cb7d0dde6fb8216f1ba18171b", func := "handover/handoverkeep.Calls", spec := "calls", inPlace := ["slices.overlaps[handover/api.Row]", "slices.overlaps[handover/api.Reply]"], unfollowed := true, recurses := true, leaving := true, apart := false, narrowed := true }
def CallsUptoSaid : Prop := callsUptoRow.holds Tryz.pinned (OpenSpec.upto callsSpec)

/-- 'handoverkeep.Agreed', WHERE WHAT IT READS IS OF BULK AT MOST 1048576: true; the input reads as it did. -/
def agreedUptoRow : OpenClaim := { program := "ytignemioillaiaagreat", sum := "5b64deafb06222fedf3dcde7e861d591d8ddb55cb7d0dde6fb8216f1ba18171b", func := "handover/handoverkeep.Agreed", spec := "agreed", inPlace := ["slices.overlaps[handover/api.Row]", "slices.overlaps[handover/api.Reply]"], unfollowed := true, recurses := true, leaving := true, apart := false, narrowed := true }
def AgreedUptoSaid : Prop := agreedUptoRow.holds Tryz.pinned (OpenSpec.upto agreedSpec)

/-- 'handoverkeep.Whence', WHERE WHAT IT READS IS OF BULK AT MOST 1048576: true; the input reads as it did. -/
def whenceUptoRow : OpenClaim := { program := "ytignemioillaiaagreat", sum := "5b64deafb06222fedf3dcde7e861d591d8ddb55cb7d0dde6fb8216f1ba18171b", func := "handover/handoverkeep.Whence", spec := "whence", inPlace := ["slices.overlaps[handover/api.Row]", "slices.overlaps[handover/api.Reply]"], unfollowed := true, recurses := true, leaving := true, apart := false, narrowed := true }
def WhenceUptoSaid : Prop := whenceUptoRow.holds Tryz.pinned (OpenSpec.upto whenceSpec)

/-- 'handoverkeep.Holders', WHERE WHAT IT READS IS OF BULK AT MOST 1048576: true; the input reads as it did. -/
def holdersUptoRow : OpenClaim := { program := "ytignemioillaiaagreat", sum := "5b64deafb06222fedf3dcde7e861d591d8ddb55cb7d0dde6fb8216f1ba18171b", func := "handover/handoverkeep.Holders", spec := "holders", inPlace := ["slices.overlaps[handover/api.Row]", "slices.overlaps[handover/api.Reply]"], unfollowed := true, recurses := true, leaving := true, apart := false, narrowed := true }
def HoldersUptoSaid : Prop := holdersUptoRow.holds Tryz.pinned (OpenSpec.upto holdersSpec)

end Rows
end Go.Proofs.YtignemioillaiaaGreat
