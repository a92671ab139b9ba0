/-
  No cell of these rows narrows 'for every input' (looked for: loops, veiled, ifaces, maps, wideKeys, modest, calm, conditions, laid).
  DERIVED. THE GIVEN ROWS OF THIS SEAT. 7 by the template 'for every input the law returns true; each argument reads behind the call as it read before'; 0 by the template 'total and deterministic' (their statements: YtipfckfjelignaaTotals.lean).
  GIVEN WITH THE SEED: the statements are not yours to turn. If you find one false, say at which input.
  Laid BY PROGRAM, IN A SANDBOX (cutbox-rows.mjs): the forced cells as the released guide's own fill.sh prints them over the translation 25afeef92eb55a4b… (all of the seat's roots in one cut). By AI agents, Wed Nov 11 2026. No macro, syntax, notation, axiom, sorry.
-/
import Derived.Test.YtipfckfjelignaaChecked
import GoSem.Claim
import GoSem.ClaimJoined
import GoSem.ClaimMapViews
import Derived.JoinedTies
import Derived.KernelRfl
namespace Go.Proofs.Ytipfckfjelignaa
/- THE CELL 'sum', in the pinned program and in every row, IS THE sha256 OF THE DUMP (.gsa) THAT YtipfckfjelignaaProg.lean LOADS. Nothing in Lean hashes anything: it is a label: what it is worth is what the hold of that sum in a sandbox is worth. -/
noncomputable def Try.pinned : Pinned := { name := "ytipfckfjelignaa", sum := "25afeef92eb55a4bbef6daab3d371794819371da017e1055c2299d73510c7cbc", checked := Try.checked }
namespace Rows
def none {H : Type} : Left H := { results := [], args := [] }

/-- 'laws.FnResidues': WHATEVER THE INPUT: true; the input reads as it did. -/
def fnResiduesSpec : ChangeSpec := { name := "fnResidues", fn := fun _ => fun
  | [d1, d2] => { results := [.lit (.bool true)], args := [d1, d2] }
  | _ => none }
def fnResiduesRow : OpenClaim := { program := "ytipfckfjelignaa", sum := "25afeef92eb55a4bbef6daab3d371794819371da017e1055c2299d73510c7cbc", func := "loop.example/g00878/laws.FnResidues", spec := "fnResidues", unfollowed := true, recurses := true, apart := false }
def FnResiduesSaid : Prop := fnResiduesRow.holds Try.pinned (OpenSpec.ofChange fnResiduesSpec)

/-- ITS FALSE NEIGHBOUR: 'it returns false'. Refute it at one input. -/
def fnResiduesWrong : ChangeSpec := { name := "fnResidues", fn := fun _ => fun
  | [d1, d2] => { results := [.lit (.bool false)], args := [d1, d2] }
  | _ => none }
def FnResiduesWrongFalsely : Prop := fnResiduesRow.holds Try.pinned (OpenSpec.ofChange fnResiduesWrong)

/-- 'laws.FnGroups': WHATEVER THE INPUT: true; the input reads as it did. -/
def fnGroupsSpec : ChangeSpec := { name := "fnGroups", fn := fun _ => fun
  | [d1, d2] => { results := [.lit (.bool true)], args := [d1, d2] }
  | _ => none }
def fnGroupsRow : OpenClaim := { program := "ytipfckfjelignaa", sum := "25afeef92eb55a4bbef6daab3d371794819371da017e1055c2299d73510c7cbc", func := "loop.example/g00878/laws.FnGroups", spec := "fnGroups", unfollowed := true, recurses := true, apart := false }
def FnGroupsSaid : Prop := fnGroupsRow.holds Try.pinned (OpenSpec.ofChange fnGroupsSpec)

/-- ITS FALSE NEIGHBOUR: 'it returns false'. Refute it at one input. -/
def fnGroupsWrong : ChangeSpec := { name := "fnGroups", fn := fun _ => fun
  | [d1, d2] => { results := [.lit (.bool false)], args := [d1, d2] }
  | _ => none }
def FnGroupsWrongFalsely : Prop := fnGroupsRow.holds Try.pinned (OpenSpec.ofChange fnGroupsWrong)

/-- 'laws.FnPowers': WHATEVER THE INPUT: true; the input reads as it did. -/
def fnPowersSpec : ChangeSpec := { name := "fnPowers", fn := fun _ => fun
  | [d1, d2] => { results := [.lit (.bool true)], args := [d1, d2] }
  | _ => none }
def fnPowersRow : OpenClaim := { program := "ytipfckfjelignaa", sum := "25afeef92eb55a4bbef6daab3d371794819371da017e1055c2299d73510c7cbc", func := "loop.example/g00878/laws.FnPowers", spec := "fnPowers", unfollowed := true, recurses := true, apart := false }
def FnPowersSaid : Prop := fnPowersRow.holds Try.pinned (OpenSpec.ofChange fnPowersSpec)

/-- ITS FALSE NEIGHBOUR: 'it returns false'. Refute it at one input. -/
def fnPowersWrong : ChangeSpec := { name := "fnPowers", fn := fun _ => fun
  | [d1, d2] => { results := [.lit (.bool false)], args := [d1, d2] }
  | _ => none }
def FnPowersWrongFalsely : Prop := fnPowersRow.holds Try.pinned (OpenSpec.ofChange fnPowersWrong)

/-- 'laws.FnInterpolation': WHATEVER THE INPUT: true; the input reads as it did. -/
def fnInterpolationSpec : ChangeSpec := { name := "fnInterpolation", fn := fun _ => fun
  | [d1, d2] => { results := [.lit (.bool true)], args := [d1, d2] }
  | _ => none }
def fnInterpolationRow : OpenClaim := { program := "ytipfckfjelignaa", sum := "25afeef92eb55a4bbef6daab3d371794819371da017e1055c2299d73510c7cbc", func := "loop.example/g00878/laws.FnInterpolation", spec := "fnInterpolation", unfollowed := true, recurses := true, apart := false }
def FnInterpolationSaid : Prop := fnInterpolationRow.holds Try.pinned (OpenSpec.ofChange fnInterpolationSpec)

/-- ITS FALSE NEIGHBOUR: 'it returns false'. Refute it at one input. -/
def fnInterpolationWrong : ChangeSpec := { name := "fnInterpolation", fn := fun _ => fun
  | [d1, d2] => { results := [.lit (.bool false)], args := [d1, d2] }
  | _ => none }
def FnInterpolationWrongFalsely : Prop := fnInterpolationRow.holds Try.pinned (OpenSpec.ofChange fnInterpolationWrong)

/-- 'laws.FnExactSumMod': WHATEVER THE INPUT: true; the input reads as it did. -/
def fnExactSumModSpec : ChangeSpec := { name := "fnExactSumMod", fn := fun _ => fun
  | [d1, d2] => { results := [.lit (.bool true)], args := [d1, d2] }
  | _ => none }
def fnExactSumModRow : OpenClaim := { program := "ytipfckfjelignaa", sum := "25afeef92eb55a4bbef6daab3d371794819371da017e1055c2299d73510c7cbc", func := "loop.example/g00878/laws.FnExactSumMod", spec := "fnExactSumMod", unfollowed := true, recurses := true, apart := false }
def FnExactSumModSaid : Prop := fnExactSumModRow.holds Try.pinned (OpenSpec.ofChange fnExactSumModSpec)

/-- ITS FALSE NEIGHBOUR: 'it returns false'. Refute it at one input. -/
def fnExactSumModWrong : ChangeSpec := { name := "fnExactSumMod", fn := fun _ => fun
  | [d1, d2] => { results := [.lit (.bool false)], args := [d1, d2] }
  | _ => none }
def FnExactSumModWrongFalsely : Prop := fnExactSumModRow.holds Try.pinned (OpenSpec.ofChange fnExactSumModWrong)

/-- 'laws.FnExactDotMod': WHATEVER THE INPUT: true; the input reads as it did. -/
def fnExactDotModSpec : ChangeSpec := { name := "fnExactDotMod", fn := fun _ => fun
  | [d1, d2, d3] => { results := [.lit (.bool true)], args := [d1, d2, d3] }
  | _ => none }
def fnExactDotModRow : OpenClaim := { program := "ytipfckfjelignaa", sum := "25afeef92eb55a4bbef6daab3d371794819371da017e1055c2299d73510c7cbc", func := "loop.example/g00878/laws.FnExactDotMod", spec := "fnExactDotMod", unfollowed := true, recurses := true, apart := false }
def FnExactDotModSaid : Prop := fnExactDotModRow.holds Try.pinned (OpenSpec.ofChange fnExactDotModSpec)

/-- ITS FALSE NEIGHBOUR: 'it returns false'. Refute it at one input. -/
def fnExactDotModWrong : ChangeSpec := { name := "fnExactDotMod", fn := fun _ => fun
  | [d1, d2, d3] => { results := [.lit (.bool false)], args := [d1, d2, d3] }
  | _ => none }
def FnExactDotModWrongFalsely : Prop := fnExactDotModRow.holds Try.pinned (OpenSpec.ofChange fnExactDotModWrong)

/-- 'laws.FnExactMulOf': WHATEVER THE INPUT: true; the input reads as it did. -/
def fnExactMulOfSpec : ChangeSpec := { name := "fnExactMulOf", fn := fun _ => fun
  | [d1, d2] => { results := [.lit (.bool true)], args := [d1, d2] }
  | _ => none }
def fnExactMulOfRow : OpenClaim := { program := "ytipfckfjelignaa", sum := "25afeef92eb55a4bbef6daab3d371794819371da017e1055c2299d73510c7cbc", func := "loop.example/g00878/laws.FnExactMulOf", spec := "fnExactMulOf", unfollowed := true, recurses := true, apart := false }
def FnExactMulOfSaid : Prop := fnExactMulOfRow.holds Try.pinned (OpenSpec.ofChange fnExactMulOfSpec)

/-- ITS FALSE NEIGHBOUR: 'it returns false'. Refute it at one input. -/
def fnExactMulOfWrong : ChangeSpec := { name := "fnExactMulOf", fn := fun _ => fun
  | [d1, d2] => { results := [.lit (.bool false)], args := [d1, d2] }
  | _ => none }
def FnExactMulOfWrongFalsely : Prop := fnExactMulOfRow.holds Try.pinned (OpenSpec.ofChange fnExactMulOfWrong)

/- THE SECOND FORM. 'bulk': how many values and letters a reading holds, each counted each time it is reached (what is shared counts as often as it is met; a slice's spare places count too). A statement '..UptoSaid' is the law's where the arguments, and the package variables that the reading takes, are together of bulk at most 1048576: NARROWER than '..Said'. Prove '..Said' where nothing that the law and all that it calls make is longer than what came in: it says more and counts as full. Else prove '..UptoSaid'. A law counts once. -/
mutual
def uptoBulk {H : Type} : DataW H → Nat
  | .lit (.string bytes) => bytes.length + 1
  | .lit _ => 1
  | .nil => 1
  | .ptr d => uptoBulk d + 1
  | .slice elems spare => uptoBulkAll elems + uptoBulkAll spare + 1
  | .agg parts => uptoBulkAll parts + 1
  | .iface _ d => uptoBulk d + 1
  | .map entries => uptoBulkEntries entries + 1
  | .held _ => 1
def uptoBulkAll {H : Type} : List (DataW H) → Nat
  | [] => 0
  | d :: r => uptoBulk d + uptoBulkAll r
def uptoBulkEntries {H : Type} : List (Lit × DataW H) → Nat
  | [] => 0
  | x :: r => uptoBulkEntry x + uptoBulkEntries r
def uptoBulkEntry {H : Type} : Lit × DataW H → Nat
  | (.string bytes, d) => bytes.length + uptoBulk d + 1
  | (_, d) => uptoBulk d + 1
 end
def uptoSmall : (H : Type) → List (DataW H) → Bool := fun _ ds => decide (uptoBulkAll ds ≤ 1048576)
def OpenSpec.upto (s : _root_.Go.ChangeSpec) : _root_.Go.OpenSpec := { _root_.Go.OpenSpec.ofChange s with cond := some uptoSmall }

/-- 'laws.FnResidues', WHERE WHAT IT READS IS OF BULK AT MOST 1048576: true; the input reads as it did. -/
def fnResiduesUptoRow : OpenClaim := { program := "ytipfckfjelignaa", sum := "25afeef92eb55a4bbef6daab3d371794819371da017e1055c2299d73510c7cbc", func := "loop.example/g00878/laws.FnResidues", spec := "fnResidues", unfollowed := true, recurses := true, apart := false, narrowed := true }
def FnResiduesUptoSaid : Prop := fnResiduesUptoRow.holds Try.pinned (OpenSpec.upto fnResiduesSpec)

/-- 'laws.FnGroups', WHERE WHAT IT READS IS OF BULK AT MOST 1048576: true; the input reads as it did. -/
def fnGroupsUptoRow : OpenClaim := { program := "ytipfckfjelignaa", sum := "25afeef92eb55a4bbef6daab3d371794819371da017e1055c2299d73510c7cbc", func := "loop.example/g00878/laws.FnGroups", spec := "fnGroups", unfollowed := true, recurses := true, apart := false, narrowed := true }
def FnGroupsUptoSaid : Prop := fnGroupsUptoRow.holds Try.pinned (OpenSpec.upto fnGroupsSpec)

/-- 'laws.FnPowers', WHERE WHAT IT READS IS OF BULK AT MOST 1048576: true; the input reads as it did. -/
def fnPowersUptoRow : OpenClaim := { program := "ytipfckfjelignaa", sum := "25afeef92eb55a4bbef6daab3d371794819371da017e1055c2299d73510c7cbc", func := "loop.example/g00878/laws.FnPowers", spec := "fnPowers", unfollowed := true, recurses := true, apart := false, narrowed := true }
def FnPowersUptoSaid : Prop := fnPowersUptoRow.holds Try.pinned (OpenSpec.upto fnPowersSpec)

/-- 'laws.FnInterpolation', WHERE WHAT IT READS IS OF BULK AT MOST 1048576: true; the input reads as it did. -/
def fnInterpolationUptoRow : OpenClaim := { program := "ytipfckfjelignaa", sum := "25afeef92eb55a4bbef6daab3d371794819371da017e1055c2299d73510c7cbc", func := "loop.example/g00878/laws.FnInterpolation", spec := "fnInterpolation", unfollowed := true, recurses := true, apart := false, narrowed := true }
def FnInterpolationUptoSaid : Prop := fnInterpolationUptoRow.holds Try.pinned (OpenSpec.upto fnInterpolationSpec)

/-- 'laws.FnExactSumMod', WHERE WHAT IT READS IS OF BULK AT MOST 1048576: true; the input reads as it did. -/
def fnExactSumModUptoRow : OpenClaim := { program := "ytipfckfjelignaa", sum := "25afeef92eb55a4bbef6daab3d371794819371da017e1055c2299d73510c7cbc", func := "loop.example/g00878/laws.FnExactSumMod", spec := "fnExactSumMod", unfollowed := true, recurses := true, apart := false, narrowed := true }
def FnExactSumModUptoSaid : Prop := fnExactSumModUptoRow.holds Try.pinned (OpenSpec.upto fnExactSumModSpec)

/-- 'laws.FnExactDotMod', WHERE WHAT IT READS IS OF BULK AT MOST 1048576: true; the input reads as it did. -/
def fnExactDotModUptoRow : OpenClaim := { program := "ytipfckfjelignaa", sum := "25afeef92eb55a4bbef6daab3d371794819371da017e1055c2299d73510c7cbc", func := "loop.example/g00878/laws.FnExactDotMod", spec := "fnExactDotMod", unfollowed := true, recurses := true, apart := false, narrowed := true }
def FnExactDotModUptoSaid : Prop := fnExactDotModUptoRow.holds Try.pinned (OpenSpec.upto fnExactDotModSpec)

/-- 'laws.FnExactMulOf', WHERE WHAT IT READS IS OF BULK AT MOST 1048576: true; the input reads as it did. -/
def fnExactMulOfUptoRow : OpenClaim := { program := "ytipfckfjelignaa", sum := "25afeef92eb55a4bbef6daab3d371794819371da017e1055c2299d73510c7cbc", func := "loop.example/g00878/laws.FnExactMulOf", spec := "fnExactMulOf", unfollowed := true, recurses := true, apart := false, narrowed := true }
def FnExactMulOfUptoSaid : Prop := fnExactMulOfUptoRow.holds Try.pinned (OpenSpec.upto fnExactMulOfSpec)

end Rows
end Go.Proofs.Ytipfckfjelignaa
