/-
  No cell of these rows narrows 'for every input' (looked for: loops, veiled, ifaces, maps, wideKeys, modest, calm, conditions, laid).
  DERIVED. THE GIVEN ROWS OF THIS SEAT. 11 by the template 'for every input the law returns true; each argument reads behind the call as it read before'; 0 by the template 'total and deterministic' (their statements: YtcfdokngchjopaaTotals.lean).
  GIVEN WITH THE SEED: the statements are not yours to turn. If you find one false, say at which input.
  Laid BY PROGRAM, IN A SANDBOX (cutbox-rows.mjs): the forced cells as the released guide's own fill.sh prints them over the translation 31a9ae230ba0901a… (all of the seat's roots in one cut). By AI agents, Wed Nov 11 2026. No macro, syntax, notation, axiom, sorry.
-/
import Derived.Test.YtcfdokngchjopaaChecked
import GoSem.Claim
import GoSem.ClaimJoined
import GoSem.ClaimMapViews
import Derived.JoinedTies
import Derived.KernelRfl
namespace Go.Proofs.Ytcfdokngchjopaa
/- THE CELL 'sum', in the pinned program and in every row, IS THE sha256 OF THE DUMP (.gsa) THAT YtcfdokngchjopaaProg.lean LOADS. Nothing in Lean hashes anything: it is a label: what it is worth is what the hold of that sum in a sandbox is worth. -/
noncomputable def Try.pinned : Pinned := { name := "ytcfdokngchjopaa", sum := "31a9ae230ba0901ae94934fd6b4132b6e7b6b67e3572a722c8a5d1907335b9b3", checked := Try.checked }
namespace Rows
def none {H : Type} : Left H := { results := [], args := [] }

/-- 'laws.FnResidues': WHATEVER THE INPUT: true; the input reads as it did. -/
def fnResiduesSpec : ChangeSpec := { name := "fnResidues", fn := fun _ => fun
  | [d1, d2] => { results := [.lit (.bool true)], args := [d1, d2] }
  | _ => none }
def fnResiduesRow : OpenClaim := { program := "ytcfdokngchjopaa", sum := "31a9ae230ba0901ae94934fd6b4132b6e7b6b67e3572a722c8a5d1907335b9b3", func := "loop.example/g00878/laws.FnResidues", spec := "fnResidues", unfollowed := true, recurses := true, apart := false }
def FnResiduesSaid : Prop := fnResiduesRow.holds Try.pinned (OpenSpec.ofChange fnResiduesSpec)

/-- ITS FALSE NEIGHBOUR: 'it returns false'. Refute it at one input. -/
def fnResiduesWrong : ChangeSpec := { name := "fnResidues", fn := fun _ => fun
  | [d1, d2] => { results := [.lit (.bool false)], args := [d1, d2] }
  | _ => none }
def FnResiduesWrongFalsely : Prop := fnResiduesRow.holds Try.pinned (OpenSpec.ofChange fnResiduesWrong)

/-- 'laws.FnPrimes': WHATEVER THE INPUT: true; the input reads as it did. -/
def fnPrimesSpec : ChangeSpec := { name := "fnPrimes", fn := fun _ => fun
  | [d1, d2] => { results := [.lit (.bool true)], args := [d1, d2] }
  | _ => none }
def fnPrimesRow : OpenClaim := { program := "ytcfdokngchjopaa", sum := "31a9ae230ba0901ae94934fd6b4132b6e7b6b67e3572a722c8a5d1907335b9b3", func := "loop.example/g00878/laws.FnPrimes", spec := "fnPrimes", apart := false }
def FnPrimesSaid : Prop := fnPrimesRow.holds Try.pinned (OpenSpec.ofChange fnPrimesSpec)

/-- ITS FALSE NEIGHBOUR: 'it returns false'. Refute it at one input. -/
def fnPrimesWrong : ChangeSpec := { name := "fnPrimes", fn := fun _ => fun
  | [d1, d2] => { results := [.lit (.bool false)], args := [d1, d2] }
  | _ => none }
def FnPrimesWrongFalsely : Prop := fnPrimesRow.holds Try.pinned (OpenSpec.ofChange fnPrimesWrong)

/-- 'laws.FnExactInverseMod': WHATEVER THE INPUT: true; the input reads as it did. -/
def fnExactInverseModSpec : ChangeSpec := { name := "fnExactInverseMod", fn := fun _ => fun
  | [d1, d2] => { results := [.lit (.bool true)], args := [d1, d2] }
  | _ => none }
def fnExactInverseModRow : OpenClaim := { program := "ytcfdokngchjopaa", sum := "31a9ae230ba0901ae94934fd6b4132b6e7b6b67e3572a722c8a5d1907335b9b3", func := "loop.example/g00878/laws.FnExactInverseMod", spec := "fnExactInverseMod", apart := false }
def FnExactInverseModSaid : Prop := fnExactInverseModRow.holds Try.pinned (OpenSpec.ofChange fnExactInverseModSpec)

/-- ITS FALSE NEIGHBOUR: 'it returns false'. Refute it at one input. -/
def fnExactInverseModWrong : ChangeSpec := { name := "fnExactInverseMod", fn := fun _ => fun
  | [d1, d2] => { results := [.lit (.bool false)], args := [d1, d2] }
  | _ => none }
def FnExactInverseModWrongFalsely : Prop := fnExactInverseModRow.holds Try.pinned (OpenSpec.ofChange fnExactInverseModWrong)

/-- 'laws.FnExactPowerMod': WHATEVER THE INPUT: true; the input reads as it did. -/
def fnExactPowerModSpec : ChangeSpec := { name := "fnExactPowerMod", fn := fun _ => fun
  | [d1, d2, d3] => { results := [.lit (.bool true)], args := [d1, d2, d3] }
  | _ => none }
def fnExactPowerModRow : OpenClaim := { program := "ytcfdokngchjopaa", sum := "31a9ae230ba0901ae94934fd6b4132b6e7b6b67e3572a722c8a5d1907335b9b3", func := "loop.example/g00878/laws.FnExactPowerMod", spec := "fnExactPowerMod", apart := false }
def FnExactPowerModSaid : Prop := fnExactPowerModRow.holds Try.pinned (OpenSpec.ofChange fnExactPowerModSpec)

/-- ITS FALSE NEIGHBOUR: 'it returns false'. Refute it at one input. -/
def fnExactPowerModWrong : ChangeSpec := { name := "fnExactPowerMod", fn := fun _ => fun
  | [d1, d2, d3] => { results := [.lit (.bool false)], args := [d1, d2, d3] }
  | _ => none }
def FnExactPowerModWrongFalsely : Prop := fnExactPowerModRow.holds Try.pinned (OpenSpec.ofChange fnExactPowerModWrong)

/-- 'laws.FnExactSumMod': WHATEVER THE INPUT: true; the input reads as it did. -/
def fnExactSumModSpec : ChangeSpec := { name := "fnExactSumMod", fn := fun _ => fun
  | [d1, d2] => { results := [.lit (.bool true)], args := [d1, d2] }
  | _ => none }
def fnExactSumModRow : OpenClaim := { program := "ytcfdokngchjopaa", sum := "31a9ae230ba0901ae94934fd6b4132b6e7b6b67e3572a722c8a5d1907335b9b3", func := "loop.example/g00878/laws.FnExactSumMod", spec := "fnExactSumMod", unfollowed := true, recurses := true, apart := false }
def FnExactSumModSaid : Prop := fnExactSumModRow.holds Try.pinned (OpenSpec.ofChange fnExactSumModSpec)

/-- ITS FALSE NEIGHBOUR: 'it returns false'. Refute it at one input. -/
def fnExactSumModWrong : ChangeSpec := { name := "fnExactSumMod", fn := fun _ => fun
  | [d1, d2] => { results := [.lit (.bool false)], args := [d1, d2] }
  | _ => none }
def FnExactSumModWrongFalsely : Prop := fnExactSumModRow.holds Try.pinned (OpenSpec.ofChange fnExactSumModWrong)

/-- 'laws.FnExactDotMod': WHATEVER THE INPUT: true; the input reads as it did. -/
def fnExactDotModSpec : ChangeSpec := { name := "fnExactDotMod", fn := fun _ => fun
  | [d1, d2, d3] => { results := [.lit (.bool true)], args := [d1, d2, d3] }
  | _ => none }
def fnExactDotModRow : OpenClaim := { program := "ytcfdokngchjopaa", sum := "31a9ae230ba0901ae94934fd6b4132b6e7b6b67e3572a722c8a5d1907335b9b3", func := "loop.example/g00878/laws.FnExactDotMod", spec := "fnExactDotMod", unfollowed := true, recurses := true, apart := false }
def FnExactDotModSaid : Prop := fnExactDotModRow.holds Try.pinned (OpenSpec.ofChange fnExactDotModSpec)

/-- ITS FALSE NEIGHBOUR: 'it returns false'. Refute it at one input. -/
def fnExactDotModWrong : ChangeSpec := { name := "fnExactDotMod", fn := fun _ => fun
  | [d1, d2, d3] => { results := [.lit (.bool false)], args := [d1, d2, d3] }
  | _ => none }
def FnExactDotModWrongFalsely : Prop := fnExactDotModRow.holds Try.pinned (OpenSpec.ofChange fnExactDotModWrong)

/-- 'laws.FnExactInvertAll': WHATEVER THE INPUT: true; the input reads as it did. -/
def fnExactInvertAllSpec : ChangeSpec := { name := "fnExactInvertAll", fn := fun _ => fun
  | [d1, d2] => { results := [.lit (.bool true)], args := [d1, d2] }
  | _ => none }
def fnExactInvertAllRow : OpenClaim := { program := "ytcfdokngchjopaa", sum := "31a9ae230ba0901ae94934fd6b4132b6e7b6b67e3572a722c8a5d1907335b9b3", func := "loop.example/g00878/laws.FnExactInvertAll", spec := "fnExactInvertAll", apart := false }
def FnExactInvertAllSaid : Prop := fnExactInvertAllRow.holds Try.pinned (OpenSpec.ofChange fnExactInvertAllSpec)

/-- ITS FALSE NEIGHBOUR: 'it returns false'. Refute it at one input. -/
def fnExactInvertAllWrong : ChangeSpec := { name := "fnExactInvertAll", fn := fun _ => fun
  | [d1, d2] => { results := [.lit (.bool false)], args := [d1, d2] }
  | _ => none }
def FnExactInvertAllWrongFalsely : Prop := fnExactInvertAllRow.holds Try.pinned (OpenSpec.ofChange fnExactInvertAllWrong)

/-- 'laws.FnExactIsPrime': WHATEVER THE INPUT: true; the input reads as it did. -/
def fnExactIsPrimeSpec : ChangeSpec := { name := "fnExactIsPrime", fn := fun _ => fun
  | [d] => { results := [.lit (.bool true)], args := [d] }
  | _ => none }
def fnExactIsPrimeRow : OpenClaim := { program := "ytcfdokngchjopaa", sum := "31a9ae230ba0901ae94934fd6b4132b6e7b6b67e3572a722c8a5d1907335b9b3", func := "loop.example/g00878/laws.FnExactIsPrime", spec := "fnExactIsPrime", apart := false }
def FnExactIsPrimeSaid : Prop := fnExactIsPrimeRow.holds Try.pinned (OpenSpec.ofChange fnExactIsPrimeSpec)

/-- ITS FALSE NEIGHBOUR: 'it returns false'. Refute it at one input. -/
def fnExactIsPrimeWrong : ChangeSpec := { name := "fnExactIsPrime", fn := fun _ => fun
  | [d] => { results := [.lit (.bool false)], args := [d] }
  | _ => none }
def FnExactIsPrimeWrongFalsely : Prop := fnExactIsPrimeRow.holds Try.pinned (OpenSpec.ofChange fnExactIsPrimeWrong)

/-- 'laws.FnExactFactorOf': WHATEVER THE INPUT: true; the input reads as it did. -/
def fnExactFactorOfSpec : ChangeSpec := { name := "fnExactFactorOf", fn := fun _ => fun
  | [d] => { results := [.lit (.bool true)], args := [d] }
  | _ => none }
def fnExactFactorOfRow : OpenClaim := { program := "ytcfdokngchjopaa", sum := "31a9ae230ba0901ae94934fd6b4132b6e7b6b67e3572a722c8a5d1907335b9b3", func := "loop.example/g00878/laws.FnExactFactorOf", spec := "fnExactFactorOf", apart := false }
def FnExactFactorOfSaid : Prop := fnExactFactorOfRow.holds Try.pinned (OpenSpec.ofChange fnExactFactorOfSpec)

/-- ITS FALSE NEIGHBOUR: 'it returns false'. Refute it at one input. -/
def fnExactFactorOfWrong : ChangeSpec := { name := "fnExactFactorOf", fn := fun _ => fun
  | [d] => { results := [.lit (.bool false)], args := [d] }
  | _ => none }
def FnExactFactorOfWrongFalsely : Prop := fnExactFactorOfRow.holds Try.pinned (OpenSpec.ofChange fnExactFactorOfWrong)

/-- 'laws.FnExactPrimitiveRoot': WHATEVER THE INPUT: true; the input reads as it did. -/
def fnExactPrimitiveRootSpec : ChangeSpec := { name := "fnExactPrimitiveRoot", fn := fun _ => fun
  | [d] => { results := [.lit (.bool true)], args := [d] }
  | _ => none }
def fnExactPrimitiveRootRow : OpenClaim := { program := "ytcfdokngchjopaa", sum := "31a9ae230ba0901ae94934fd6b4132b6e7b6b67e3572a722c8a5d1907335b9b3", func := "loop.example/g00878/laws.FnExactPrimitiveRoot", spec := "fnExactPrimitiveRoot", apart := false }
def FnExactPrimitiveRootSaid : Prop := fnExactPrimitiveRootRow.holds Try.pinned (OpenSpec.ofChange fnExactPrimitiveRootSpec)

/-- ITS FALSE NEIGHBOUR: 'it returns false'. Refute it at one input. -/
def fnExactPrimitiveRootWrong : ChangeSpec := { name := "fnExactPrimitiveRoot", fn := fun _ => fun
  | [d] => { results := [.lit (.bool false)], args := [d] }
  | _ => none }
def FnExactPrimitiveRootWrongFalsely : Prop := fnExactPrimitiveRootRow.holds Try.pinned (OpenSpec.ofChange fnExactPrimitiveRootWrong)

/-- 'laws.FnExactLegendreOf': WHATEVER THE INPUT: true; the input reads as it did. -/
def fnExactLegendreOfSpec : ChangeSpec := { name := "fnExactLegendreOf", fn := fun _ => fun
  | [d1, d2] => { results := [.lit (.bool true)], args := [d1, d2] }
  | _ => none }
def fnExactLegendreOfRow : OpenClaim := { program := "ytcfdokngchjopaa", sum := "31a9ae230ba0901ae94934fd6b4132b6e7b6b67e3572a722c8a5d1907335b9b3", func := "loop.example/g00878/laws.FnExactLegendreOf", spec := "fnExactLegendreOf", apart := false }
def FnExactLegendreOfSaid : Prop := fnExactLegendreOfRow.holds Try.pinned (OpenSpec.ofChange fnExactLegendreOfSpec)

/-- ITS FALSE NEIGHBOUR: 'it returns false'. Refute it at one input. -/
def fnExactLegendreOfWrong : ChangeSpec := { name := "fnExactLegendreOf", fn := fun _ => fun
  | [d1, d2] => { results := [.lit (.bool false)], args := [d1, d2] }
  | _ => none }
def FnExactLegendreOfWrongFalsely : Prop := fnExactLegendreOfRow.holds Try.pinned (OpenSpec.ofChange fnExactLegendreOfWrong)

/- THE SECOND FORM. 'bulk': how many values and letters a reading holds, each counted each time it is reached (what is shared counts as often as it is met; a slice's spare places count too). A statement '..UptoSaid' is the law's where the arguments, and the package variables that the reading takes, are together of bulk at most 1048576: NARROWER than '..Said'. Prove '..Said' where nothing that the law and all that it calls make is longer than what came in: it says more and counts as full. Else prove '..UptoSaid'. A law counts once. -/
mutual
def uptoBulk {H : Type} : DataW H → Nat
  | .lit (.string bytes) => bytes.length + 1
  | .lit _ => 1
  | .nil => 1
  | .ptr d => uptoBulk d + 1
  | .slice elems spare => uptoBulkAll elems + uptoBulkAll spare + 1
  | .agg parts => uptoBulkAll parts + 1
  | .iface _ d => uptoBulk d + 1
  | .map entries => uptoBulkEntries entries + 1
  | .held _ => 1
def uptoBulkAll {H : Type} : List (DataW H) → Nat
  | [] => 0
  | d :: r => uptoBulk d + uptoBulkAll r
def uptoBulkEntries {H : Type} : List (Lit × DataW H) → Nat
  | [] => 0
  | x :: r => uptoBulkEntry x + uptoBulkEntries r
def uptoBulkEntry {H : Type} : Lit × DataW H → Nat
  | (.string bytes, d) => bytes.length + uptoBulk d + 1
  | (_, d) => uptoBulk d + 1
 end
def uptoSmall : (H : Type) → List (DataW H) → Bool := fun _ ds => decide (uptoBulkAll ds ≤ 1048576)
def OpenSpec.upto (s : _root_.Go.ChangeSpec) : _root_.Go.OpenSpec := { _root_.Go.OpenSpec.ofChange s with cond := some uptoSmall }

/-- 'laws.FnResidues', WHERE WHAT IT READS IS OF BULK AT MOST 1048576: true; the input reads as it did. -/
def fnResiduesUptoRow : OpenClaim := { program := "ytcfdokngchjopaa", sum := "31a9ae230ba0901ae94934fd6b4132b6e7b6b67e3572a722c8a5d1907335b9b3", func := "loop.example/g00878/laws.FnResidues", spec := "fnResidues", unfollowed := true, recurses := true, apart := false, narrowed := true }
def FnResiduesUptoSaid : Prop := fnResiduesUptoRow.holds Try.pinned (OpenSpec.upto fnResiduesSpec)

/-- 'laws.FnPrimes', WHERE WHAT IT READS IS OF BULK AT MOST 1048576: true; the input reads as it did. -/
def fnPrimesUptoRow : OpenClaim := { program := "ytcfdokngchjopaa", sum := "31a9ae230ba0901ae94934fd6b4132b6e7b6b67e3572a722c8a5d1907335b9b3", func := "loop.example/g00878/laws.FnPrimes", spec := "fnPrimes", apart := false, narrowed := true }
def FnPrimesUptoSaid : Prop := fnPrimesUptoRow.holds Try.pinned (OpenSpec.upto fnPrimesSpec)

/-- 'laws.FnExactInverseMod', WHERE WHAT IT READS IS OF BULK AT MOST 1048576: true; the input reads as it did. -/
def fnExactInverseModUptoRow : OpenClaim := { program := "ytcfdokngchjopaa", sum := "31a9ae230ba0901ae94934fd6b4132b6e7b6b67e3572a722c8a5d1907335b9b3", func := "loop.example/g00878/laws.FnExactInverseMod", spec := "fnExactInverseMod", apart := false, narrowed := true }
def FnExactInverseModUptoSaid : Prop := fnExactInverseModUptoRow.holds Try.pinned (OpenSpec.upto fnExactInverseModSpec)

/-- 'laws.FnExactPowerMod', WHERE WHAT IT READS IS OF BULK AT MOST 1048576: true; the input reads as it did. -/
def fnExactPowerModUptoRow : OpenClaim := { program := "ytcfdokngchjopaa", sum := "31a9ae230ba0901ae94934fd6b4132b6e7b6b67e3572a722c8a5d1907335b9b3", func := "loop.example/g00878/laws.FnExactPowerMod", spec := "fnExactPowerMod", apart := false, narrowed := true }
def FnExactPowerModUptoSaid : Prop := fnExactPowerModUptoRow.holds Try.pinned (OpenSpec.upto fnExactPowerModSpec)

/-- 'laws.FnExactSumMod', WHERE WHAT IT READS IS OF BULK AT MOST 1048576: true; the input reads as it did. -/
def fnExactSumModUptoRow : OpenClaim := { program := "ytcfdokngchjopaa", sum := "31a9ae230ba0901ae94934fd6b4132b6e7b6b67e3572a722c8a5d1907335b9b3", func := "loop.example/g00878/laws.FnExactSumMod", spec := "fnExactSumMod", unfollowed := true, recurses := true, apart := false, narrowed := true }
def FnExactSumModUptoSaid : Prop := fnExactSumModUptoRow.holds Try.pinned (OpenSpec.upto fnExactSumModSpec)

/-- 'laws.FnExactDotMod', WHERE WHAT IT READS IS OF BULK AT MOST 1048576: true; the input reads as it did. -/
def fnExactDotModUptoRow : OpenClaim := { program := "ytcfdokngchjopaa", sum := "31a9ae230ba0901ae94934fd6b4132b6e7b6b67e3572a722c8a5d1907335b9b3", func := "loop.example/g00878/laws.FnExactDotMod", spec := "fnExactDotMod", unfollowed := true, recurses := true, apart := false, narrowed := true }
def FnExactDotModUptoSaid : Prop := fnExactDotModUptoRow.holds Try.pinned (OpenSpec.upto fnExactDotModSpec)

/-- 'laws.FnExactInvertAll', WHERE WHAT IT READS IS OF BULK AT MOST 1048576: true; the input reads as it did. -/
def fnExactInvertAllUptoRow : OpenClaim := { program := "ytcfdokngchjopaa", sum := "31a9ae230ba0901ae94934fd6b4132b6e7b6b67e3572a722c8a5d1907335b9b3", func := "loop.example/g00878/laws.FnExactInvertAll", spec := "fnExactInvertAll", apart := false, narrowed := true }
def FnExactInvertAllUptoSaid : Prop := fnExactInvertAllUptoRow.holds Try.pinned (OpenSpec.upto fnExactInvertAllSpec)

/-- 'laws.FnExactIsPrime', WHERE WHAT IT READS IS OF BULK AT MOST 1048576: true; the input reads as it did. -/
def fnExactIsPrimeUptoRow : OpenClaim := { program := "ytcfdokngchjopaa", sum := "31a9ae230ba0901ae94934fd6b4132b6e7b6b67e3572a722c8a5d1907335b9b3", func := "loop.example/g00878/laws.FnExactIsPrime", spec := "fnExactIsPrime", apart := false, narrowed := true }
def FnExactIsPrimeUptoSaid : Prop := fnExactIsPrimeUptoRow.holds Try.pinned (OpenSpec.upto fnExactIsPrimeSpec)

/-- 'laws.FnExactFactorOf', WHERE WHAT IT READS IS OF BULK AT MOST 1048576: true; the input reads as it did. -/
def fnExactFactorOfUptoRow : OpenClaim := { program := "ytcfdokngchjopaa", sum := "31a9ae230ba0901ae94934fd6b4132b6e7b6b67e3572a722c8a5d1907335b9b3", func := "loop.example/g00878/laws.FnExactFactorOf", spec := "fnExactFactorOf", apart := false, narrowed := true }
def FnExactFactorOfUptoSaid : Prop := fnExactFactorOfUptoRow.holds Try.pinned (OpenSpec.upto fnExactFactorOfSpec)

/-- 'laws.FnExactPrimitiveRoot', WHERE WHAT IT READS IS OF BULK AT MOST 1048576: true; the input reads as it did. -/
def fnExactPrimitiveRootUptoRow : OpenClaim := { program := "ytcfdokngchjopaa", sum := "31a9ae230ba0901ae94934fd6b4132b6e7b6b67e3572a722c8a5d1907335b9b3", func := "loop.example/g00878/laws.FnExactPrimitiveRoot", spec := "fnExactPrimitiveRoot", apart := false, narrowed := true }
def FnExactPrimitiveRootUptoSaid : Prop := fnExactPrimitiveRootUptoRow.holds Try.pinned (OpenSpec.upto fnExactPrimitiveRootSpec)

/-- 'laws.FnExactLegendreOf', WHERE WHAT IT READS IS OF BULK AT MOST 1048576: true; the input reads as it did. -/
def fnExactLegendreOfUptoRow : OpenClaim := { program := "ytcfdokngchjopaa", sum := "31a9ae230ba0901ae94934fd6b4132b6e7b6b67e3572a722c8a5d1907335b9b3", func := "loop.example/g00878/laws.FnExactLegendreOf", spec := "fnExactLegendreOf", apart := false, narrowed := true }
def FnExactLegendreOfUptoSaid : Prop := fnExactLegendreOfUptoRow.holds Try.pinned (OpenSpec.upto fnExactLegendreOfSpec)

end Rows
end Go.Proofs.Ytcfdokngchjopaa
