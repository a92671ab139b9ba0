/-
  No cell of these rows narrows 'for every input' (looked for: loops, veiled, ifaces, maps, wideKeys, modest, calm, conditions, laid).
  DERIVED. THE GIVEN ROWS OF THIS SEAT. 17 by the template 'for every input the law returns true; each argument reads behind the call as it read before'; 0 by the template 'total and deterministic' (their statements: YtdeedblemcfllaaTotals.lean).
  GIVEN WITH THE SEED: the statements are not yours to turn. If you find one false, say at which input.
  Laid BY PROGRAM, IN A SANDBOX (cutbox-rows.mjs): the forced cells as the released guide's own fill.sh prints them over the translation 90e8d783b5789574… (all of the seat's roots in one cut). By AI agents, Wed Nov 11 2026. No macro, syntax, notation, axiom, sorry.
-/
import Derived.Test.YtdeedblemcfllaaChecked
import GoSem.Claim
import GoSem.ClaimJoined
import GoSem.ClaimMapViews
import Derived.JoinedTies
import Derived.KernelRfl
namespace Go.Proofs.Ytdeedblemcfllaa
/- THE CELL 'sum', in the pinned program and in every row, IS THE sha256 OF THE DUMP (.gsa) THAT YtdeedblemcfllaaProg.lean LOADS. Nothing in Lean hashes anything: it is a label: what it is worth is what the hold of that sum in a sandbox is worth. -/
noncomputable def Try.pinned : Pinned := { name := "ytdeedblemcfllaa", sum := "90e8d783b57895742e665f17da4f74b43463768e2d2875e63f74d0b03386189c", checked := Try.checked }
namespace Rows
def none {H : Type} : Left H := { results := [], args := [] }

/-- 'laws.FnPrimes': WHATEVER THE INPUT: true; the input reads as it did. -/
def fnPrimesSpec : ChangeSpec := { name := "fnPrimes", fn := fun _ => fun
  | [d1, d2] => { results := [.lit (.bool true)], args := [d1, d2] }
  | _ => none }
def fnPrimesRow : OpenClaim := { program := "ytdeedblemcfllaa", sum := "90e8d783b57895742e665f17da4f74b43463768e2d2875e63f74d0b03386189c", func := "loop.example/g00878/laws.FnPrimes", spec := "fnPrimes", apart := false }
def FnPrimesSaid : Prop := fnPrimesRow.holds Try.pinned (OpenSpec.ofChange fnPrimesSpec)

/-- ITS FALSE NEIGHBOUR: 'it returns false'. Refute it at one input. -/
def fnPrimesWrong : ChangeSpec := { name := "fnPrimes", fn := fun _ => fun
  | [d1, d2] => { results := [.lit (.bool false)], args := [d1, d2] }
  | _ => none }
def FnPrimesWrongFalsely : Prop := fnPrimesRow.holds Try.pinned (OpenSpec.ofChange fnPrimesWrong)

/-- 'laws.FnGroups': WHATEVER THE INPUT: true; the input reads as it did. -/
def fnGroupsSpec : ChangeSpec := { name := "fnGroups", fn := fun _ => fun
  | [d1, d2] => { results := [.lit (.bool true)], args := [d1, d2] }
  | _ => none }
def fnGroupsRow : OpenClaim := { program := "ytdeedblemcfllaa", sum := "90e8d783b57895742e665f17da4f74b43463768e2d2875e63f74d0b03386189c", func := "loop.example/g00878/laws.FnGroups", spec := "fnGroups", unfollowed := true, recurses := true, apart := false }
def FnGroupsSaid : Prop := fnGroupsRow.holds Try.pinned (OpenSpec.ofChange fnGroupsSpec)

/-- ITS FALSE NEIGHBOUR: 'it returns false'. Refute it at one input. -/
def fnGroupsWrong : ChangeSpec := { name := "fnGroups", fn := fun _ => fun
  | [d1, d2] => { results := [.lit (.bool false)], args := [d1, d2] }
  | _ => none }
def FnGroupsWrongFalsely : Prop := fnGroupsRow.holds Try.pinned (OpenSpec.ofChange fnGroupsWrong)

/-- 'laws.FnPowers': WHATEVER THE INPUT: true; the input reads as it did. -/
def fnPowersSpec : ChangeSpec := { name := "fnPowers", fn := fun _ => fun
  | [d1, d2] => { results := [.lit (.bool true)], args := [d1, d2] }
  | _ => none }
def fnPowersRow : OpenClaim := { program := "ytdeedblemcfllaa", sum := "90e8d783b57895742e665f17da4f74b43463768e2d2875e63f74d0b03386189c", func := "loop.example/g00878/laws.FnPowers", spec := "fnPowers", unfollowed := true, recurses := true, apart := false }
def FnPowersSaid : Prop := fnPowersRow.holds Try.pinned (OpenSpec.ofChange fnPowersSpec)

/-- ITS FALSE NEIGHBOUR: 'it returns false'. Refute it at one input. -/
def fnPowersWrong : ChangeSpec := { name := "fnPowers", fn := fun _ => fun
  | [d1, d2] => { results := [.lit (.bool false)], args := [d1, d2] }
  | _ => none }
def FnPowersWrongFalsely : Prop := fnPowersRow.holds Try.pinned (OpenSpec.ofChange fnPowersWrong)

/-- 'laws.FnTinyGroups': WHATEVER THE INPUT: true; the input reads as it did. -/
def fnTinyGroupsSpec : ChangeSpec := { name := "fnTinyGroups", fn := fun _ => fun
  | [d1, d2] => { results := [.lit (.bool true)], args := [d1, d2] }
  | _ => none }
def fnTinyGroupsRow : OpenClaim := { program := "ytdeedblemcfllaa", sum := "90e8d783b57895742e665f17da4f74b43463768e2d2875e63f74d0b03386189c", func := "loop.example/g00878/laws.FnTinyGroups", spec := "fnTinyGroups", recurses := true, apart := false }
def FnTinyGroupsSaid : Prop := fnTinyGroupsRow.holds Try.pinned (OpenSpec.ofChange fnTinyGroupsSpec)

/-- ITS FALSE NEIGHBOUR: 'it returns false'. Refute it at one input. -/
def fnTinyGroupsWrong : ChangeSpec := { name := "fnTinyGroups", fn := fun _ => fun
  | [d1, d2] => { results := [.lit (.bool false)], args := [d1, d2] }
  | _ => none }
def FnTinyGroupsWrongFalsely : Prop := fnTinyGroupsRow.holds Try.pinned (OpenSpec.ofChange fnTinyGroupsWrong)

/-- 'laws.FnExactIsPrime': WHATEVER THE INPUT: true; the input reads as it did. -/
def fnExactIsPrimeSpec : ChangeSpec := { name := "fnExactIsPrime", fn := fun _ => fun
  | [d] => { results := [.lit (.bool true)], args := [d] }
  | _ => none }
def fnExactIsPrimeRow : OpenClaim := { program := "ytdeedblemcfllaa", sum := "90e8d783b57895742e665f17da4f74b43463768e2d2875e63f74d0b03386189c", func := "loop.example/g00878/laws.FnExactIsPrime", spec := "fnExactIsPrime", apart := false }
def FnExactIsPrimeSaid : Prop := fnExactIsPrimeRow.holds Try.pinned (OpenSpec.ofChange fnExactIsPrimeSpec)

/-- ITS FALSE NEIGHBOUR: 'it returns false'. Refute it at one input. -/
def fnExactIsPrimeWrong : ChangeSpec := { name := "fnExactIsPrime", fn := fun _ => fun
  | [d] => { results := [.lit (.bool false)], args := [d] }
  | _ => none }
def FnExactIsPrimeWrongFalsely : Prop := fnExactIsPrimeRow.holds Try.pinned (OpenSpec.ofChange fnExactIsPrimeWrong)

/-- 'laws.FnExactPrimitiveRoot': WHATEVER THE INPUT: true; the input reads as it did. -/
def fnExactPrimitiveRootSpec : ChangeSpec := { name := "fnExactPrimitiveRoot", fn := fun _ => fun
  | [d] => { results := [.lit (.bool true)], args := [d] }
  | _ => none }
def fnExactPrimitiveRootRow : OpenClaim := { program := "ytdeedblemcfllaa", sum := "90e8d783b57895742e665f17da4f74b43463768e2d2875e63f74d0b03386189c", func := "loop.example/g00878/laws.FnExactPrimitiveRoot", spec := "fnExactPrimitiveRoot", apart := false }
def FnExactPrimitiveRootSaid : Prop := fnExactPrimitiveRootRow.holds Try.pinned (OpenSpec.ofChange fnExactPrimitiveRootSpec)

/-- ITS FALSE NEIGHBOUR: 'it returns false'. Refute it at one input. -/
def fnExactPrimitiveRootWrong : ChangeSpec := { name := "fnExactPrimitiveRoot", fn := fun _ => fun
  | [d] => { results := [.lit (.bool false)], args := [d] }
  | _ => none }
def FnExactPrimitiveRootWrongFalsely : Prop := fnExactPrimitiveRootRow.holds Try.pinned (OpenSpec.ofChange fnExactPrimitiveRootWrong)

/-- 'laws.FnExactLegendreOf': WHATEVER THE INPUT: true; the input reads as it did. -/
def fnExactLegendreOfSpec : ChangeSpec := { name := "fnExactLegendreOf", fn := fun _ => fun
  | [d1, d2] => { results := [.lit (.bool true)], args := [d1, d2] }
  | _ => none }
def fnExactLegendreOfRow : OpenClaim := { program := "ytdeedblemcfllaa", sum := "90e8d783b57895742e665f17da4f74b43463768e2d2875e63f74d0b03386189c", func := "loop.example/g00878/laws.FnExactLegendreOf", spec := "fnExactLegendreOf", apart := false }
def FnExactLegendreOfSaid : Prop := fnExactLegendreOfRow.holds Try.pinned (OpenSpec.ofChange fnExactLegendreOfSpec)

/-- ITS FALSE NEIGHBOUR: 'it returns false'. Refute it at one input. -/
def fnExactLegendreOfWrong : ChangeSpec := { name := "fnExactLegendreOf", fn := fun _ => fun
  | [d1, d2] => { results := [.lit (.bool false)], args := [d1, d2] }
  | _ => none }
def FnExactLegendreOfWrongFalsely : Prop := fnExactLegendreOfRow.holds Try.pinned (OpenSpec.ofChange fnExactLegendreOfWrong)

/-- 'laws.FnExactIsValidGroup': WHATEVER THE INPUT: true; the input reads as it did. -/
def fnExactIsValidGroupSpec : ChangeSpec := { name := "fnExactIsValidGroup", fn := fun _ => fun
  | [d] => { results := [.lit (.bool true)], args := [d] }
  | _ => none }
def fnExactIsValidGroupRow : OpenClaim := { program := "ytdeedblemcfllaa", sum := "90e8d783b57895742e665f17da4f74b43463768e2d2875e63f74d0b03386189c", func := "loop.example/g00878/laws.FnExactIsValidGroup", spec := "fnExactIsValidGroup", apart := false }
def FnExactIsValidGroupSaid : Prop := fnExactIsValidGroupRow.holds Try.pinned (OpenSpec.ofChange fnExactIsValidGroupSpec)

/-- ITS FALSE NEIGHBOUR: 'it returns false'. Refute it at one input. -/
def fnExactIsValidGroupWrong : ChangeSpec := { name := "fnExactIsValidGroup", fn := fun _ => fun
  | [d] => { results := [.lit (.bool false)], args := [d] }
  | _ => none }
def FnExactIsValidGroupWrongFalsely : Prop := fnExactIsValidGroupRow.holds Try.pinned (OpenSpec.ofChange fnExactIsValidGroupWrong)

/-- 'laws.FnExactMakeGroup': WHATEVER THE INPUT: true; the input reads as it did. -/
def fnExactMakeGroupSpec : ChangeSpec := { name := "fnExactMakeGroup", fn := fun _ => fun
  | [d] => { results := [.lit (.bool true)], args := [d] }
  | _ => none }
def fnExactMakeGroupRow : OpenClaim := { program := "ytdeedblemcfllaa", sum := "90e8d783b57895742e665f17da4f74b43463768e2d2875e63f74d0b03386189c", func := "loop.example/g00878/laws.FnExactMakeGroup", spec := "fnExactMakeGroup", apart := false }
def FnExactMakeGroupSaid : Prop := fnExactMakeGroupRow.holds Try.pinned (OpenSpec.ofChange fnExactMakeGroupSpec)

/-- ITS FALSE NEIGHBOUR: 'it returns false'. Refute it at one input. -/
def fnExactMakeGroupWrong : ChangeSpec := { name := "fnExactMakeGroup", fn := fun _ => fun
  | [d] => { results := [.lit (.bool false)], args := [d] }
  | _ => none }
def FnExactMakeGroupWrongFalsely : Prop := fnExactMakeGroupRow.holds Try.pinned (OpenSpec.ofChange fnExactMakeGroupWrong)

/-- 'laws.FnExactIsElement': WHATEVER THE INPUT: true; the input reads as it did. -/
def fnExactIsElementSpec : ChangeSpec := { name := "fnExactIsElement", fn := fun _ => fun
  | [d1, d2] => { results := [.lit (.bool true)], args := [d1, d2] }
  | _ => none }
def fnExactIsElementRow : OpenClaim := { program := "ytdeedblemcfllaa", sum := "90e8d783b57895742e665f17da4f74b43463768e2d2875e63f74d0b03386189c", func := "loop.example/g00878/laws.FnExactIsElement", spec := "fnExactIsElement", apart := false }
def FnExactIsElementSaid : Prop := fnExactIsElementRow.holds Try.pinned (OpenSpec.ofChange fnExactIsElementSpec)

/-- ITS FALSE NEIGHBOUR: 'it returns false'. Refute it at one input. -/
def fnExactIsElementWrong : ChangeSpec := { name := "fnExactIsElement", fn := fun _ => fun
  | [d1, d2] => { results := [.lit (.bool false)], args := [d1, d2] }
  | _ => none }
def FnExactIsElementWrongFalsely : Prop := fnExactIsElementRow.holds Try.pinned (OpenSpec.ofChange fnExactIsElementWrong)

/-- 'laws.FnExactExpOf': WHATEVER THE INPUT: true; the input reads as it did. -/
def fnExactExpOfSpec : ChangeSpec := { name := "fnExactExpOf", fn := fun _ => fun
  | [d1, d2, d3] => { results := [.lit (.bool true)], args := [d1, d2, d3] }
  | _ => none }
def fnExactExpOfRow : OpenClaim := { program := "ytdeedblemcfllaa", sum := "90e8d783b57895742e665f17da4f74b43463768e2d2875e63f74d0b03386189c", func := "loop.example/g00878/laws.FnExactExpOf", spec := "fnExactExpOf", unfollowed := true, recurses := true, apart := false }
def FnExactExpOfSaid : Prop := fnExactExpOfRow.holds Try.pinned (OpenSpec.ofChange fnExactExpOfSpec)

/-- ITS FALSE NEIGHBOUR: 'it returns false'. Refute it at one input. -/
def fnExactExpOfWrong : ChangeSpec := { name := "fnExactExpOf", fn := fun _ => fun
  | [d1, d2, d3] => { results := [.lit (.bool false)], args := [d1, d2, d3] }
  | _ => none }
def FnExactExpOfWrongFalsely : Prop := fnExactExpOfRow.holds Try.pinned (OpenSpec.ofChange fnExactExpOfWrong)

/-- 'laws.FnExactMulOf': WHATEVER THE INPUT: true; the input reads as it did. -/
def fnExactMulOfSpec : ChangeSpec := { name := "fnExactMulOf", fn := fun _ => fun
  | [d1, d2] => { results := [.lit (.bool true)], args := [d1, d2] }
  | _ => none }
def fnExactMulOfRow : OpenClaim := { program := "ytdeedblemcfllaa", sum := "90e8d783b57895742e665f17da4f74b43463768e2d2875e63f74d0b03386189c", func := "loop.example/g00878/laws.FnExactMulOf", spec := "fnExactMulOf", unfollowed := true, recurses := true, apart := false }
def FnExactMulOfSaid : Prop := fnExactMulOfRow.holds Try.pinned (OpenSpec.ofChange fnExactMulOfSpec)

/-- ITS FALSE NEIGHBOUR: 'it returns false'. Refute it at one input. -/
def fnExactMulOfWrong : ChangeSpec := { name := "fnExactMulOf", fn := fun _ => fun
  | [d1, d2] => { results := [.lit (.bool false)], args := [d1, d2] }
  | _ => none }
def FnExactMulOfWrongFalsely : Prop := fnExactMulOfRow.holds Try.pinned (OpenSpec.ofChange fnExactMulOfWrong)

/-- 'laws.FnExactInverseOf': WHATEVER THE INPUT: true; the input reads as it did. -/
def fnExactInverseOfSpec : ChangeSpec := { name := "fnExactInverseOf", fn := fun _ => fun
  | [d1, d2] => { results := [.lit (.bool true)], args := [d1, d2] }
  | _ => none }
def fnExactInverseOfRow : OpenClaim := { program := "ytdeedblemcfllaa", sum := "90e8d783b57895742e665f17da4f74b43463768e2d2875e63f74d0b03386189c", func := "loop.example/g00878/laws.FnExactInverseOf", spec := "fnExactInverseOf", apart := false }
def FnExactInverseOfSaid : Prop := fnExactInverseOfRow.holds Try.pinned (OpenSpec.ofChange fnExactInverseOfSpec)

/-- ITS FALSE NEIGHBOUR: 'it returns false'. Refute it at one input. -/
def fnExactInverseOfWrong : ChangeSpec := { name := "fnExactInverseOf", fn := fun _ => fun
  | [d1, d2] => { results := [.lit (.bool false)], args := [d1, d2] }
  | _ => none }
def FnExactInverseOfWrongFalsely : Prop := fnExactInverseOfRow.holds Try.pinned (OpenSpec.ofChange fnExactInverseOfWrong)

/-- 'laws.FnExactProductOfPowers': WHATEVER THE INPUT: true; the input reads as it did. -/
def fnExactProductOfPowersSpec : ChangeSpec := { name := "fnExactProductOfPowers", fn := fun _ => fun
  | [d1, d2, d3] => { results := [.lit (.bool true)], args := [d1, d2, d3] }
  | _ => none }
def fnExactProductOfPowersRow : OpenClaim := { program := "ytdeedblemcfllaa", sum := "90e8d783b57895742e665f17da4f74b43463768e2d2875e63f74d0b03386189c", func := "loop.example/g00878/laws.FnExactProductOfPowers", spec := "fnExactProductOfPowers", unfollowed := true, recurses := true, apart := false }
def FnExactProductOfPowersSaid : Prop := fnExactProductOfPowersRow.holds Try.pinned (OpenSpec.ofChange fnExactProductOfPowersSpec)

/-- ITS FALSE NEIGHBOUR: 'it returns false'. Refute it at one input. -/
def fnExactProductOfPowersWrong : ChangeSpec := { name := "fnExactProductOfPowers", fn := fun _ => fun
  | [d1, d2, d3] => { results := [.lit (.bool false)], args := [d1, d2, d3] }
  | _ => none }
def FnExactProductOfPowersWrongFalsely : Prop := fnExactProductOfPowersRow.holds Try.pinned (OpenSpec.ofChange fnExactProductOfPowersWrong)

/-- 'laws.FnExactLogOf': WHATEVER THE INPUT: true; the input reads as it did. -/
def fnExactLogOfSpec : ChangeSpec := { name := "fnExactLogOf", fn := fun _ => fun
  | [d1, d2, d3, d4] => { results := [.lit (.bool true)], args := [d1, d2, d3, d4] }
  | _ => none }
def fnExactLogOfRow : OpenClaim := { program := "ytdeedblemcfllaa", sum := "90e8d783b57895742e665f17da4f74b43463768e2d2875e63f74d0b03386189c", func := "loop.example/g00878/laws.FnExactLogOf", spec := "fnExactLogOf", apart := false }
def FnExactLogOfSaid : Prop := fnExactLogOfRow.holds Try.pinned (OpenSpec.ofChange fnExactLogOfSpec)

/-- ITS FALSE NEIGHBOUR: 'it returns false'. Refute it at one input. -/
def fnExactLogOfWrong : ChangeSpec := { name := "fnExactLogOf", fn := fun _ => fun
  | [d1, d2, d3, d4] => { results := [.lit (.bool false)], args := [d1, d2, d3, d4] }
  | _ => none }
def FnExactLogOfWrongFalsely : Prop := fnExactLogOfRow.holds Try.pinned (OpenSpec.ofChange fnExactLogOfWrong)

/-- 'laws.FnExactElementsOf': WHATEVER THE INPUT: true; the input reads as it did. -/
def fnExactElementsOfSpec : ChangeSpec := { name := "fnExactElementsOf", fn := fun _ => fun
  | [d] => { results := [.lit (.bool true)], args := [d] }
  | _ => none }
def fnExactElementsOfRow : OpenClaim := { program := "ytdeedblemcfllaa", sum := "90e8d783b57895742e665f17da4f74b43463768e2d2875e63f74d0b03386189c", func := "loop.example/g00878/laws.FnExactElementsOf", spec := "fnExactElementsOf", recurses := true, apart := false }
def FnExactElementsOfSaid : Prop := fnExactElementsOfRow.holds Try.pinned (OpenSpec.ofChange fnExactElementsOfSpec)

/-- ITS FALSE NEIGHBOUR: 'it returns false'. Refute it at one input. -/
def fnExactElementsOfWrong : ChangeSpec := { name := "fnExactElementsOf", fn := fun _ => fun
  | [d] => { results := [.lit (.bool false)], args := [d] }
  | _ => none }
def FnExactElementsOfWrongFalsely : Prop := fnExactElementsOfRow.holds Try.pinned (OpenSpec.ofChange fnExactElementsOfWrong)

/-- 'laws.FnExactElementFrom': WHATEVER THE INPUT: true; the input reads as it did. -/
def fnExactElementFromSpec : ChangeSpec := { name := "fnExactElementFrom", fn := fun _ => fun
  | [d1, d2] => { results := [.lit (.bool true)], args := [d1, d2] }
  | _ => none }
def fnExactElementFromRow : OpenClaim := { program := "ytdeedblemcfllaa", sum := "90e8d783b57895742e665f17da4f74b43463768e2d2875e63f74d0b03386189c", func := "loop.example/g00878/laws.FnExactElementFrom", spec := "fnExactElementFrom", apart := false }
def FnExactElementFromSaid : Prop := fnExactElementFromRow.holds Try.pinned (OpenSpec.ofChange fnExactElementFromSpec)

/-- ITS FALSE NEIGHBOUR: 'it returns false'. Refute it at one input. -/
def fnExactElementFromWrong : ChangeSpec := { name := "fnExactElementFrom", fn := fun _ => fun
  | [d1, d2] => { results := [.lit (.bool false)], args := [d1, d2] }
  | _ => none }
def FnExactElementFromWrongFalsely : Prop := fnExactElementFromRow.holds Try.pinned (OpenSpec.ofChange fnExactElementFromWrong)

/- THE SECOND FORM. 'bulk': how many values and letters a reading holds, each counted each time it is reached (what is shared counts as often as it is met; a slice's spare places count too). A statement '..UptoSaid' is the law's where the arguments, and the package variables that the reading takes, are together of bulk at most 1048576: NARROWER than '..Said'. Prove '..Said' where nothing that the law and all that it calls make is longer than what came in: it says more and counts as full. Else prove '..UptoSaid'. A law counts once. -/
mutual
def uptoBulk {H : Type} : DataW H → Nat
  | .lit (.string bytes) => bytes.length + 1
  | .lit _ => 1
  | .nil => 1
  | .ptr d => uptoBulk d + 1
  | .slice elems spare => uptoBulkAll elems + uptoBulkAll spare + 1
  | .agg parts => uptoBulkAll parts + 1
  | .iface _ d => uptoBulk d + 1
  | .map entries => uptoBulkEntries entries + 1
  | .held _ => 1
def uptoBulkAll {H : Type} : List (DataW H) → Nat
  | [] => 0
  | d :: r => uptoBulk d + uptoBulkAll r
def uptoBulkEntries {H : Type} : List (Lit × DataW H) → Nat
  | [] => 0
  | x :: r => uptoBulkEntry x + uptoBulkEntries r
def uptoBulkEntry {H : Type} : Lit × DataW H → Nat
  | (.string bytes, d) => bytes.length + uptoBulk d + 1
  | (_, d) => uptoBulk d + 1
 end
def uptoSmall : (H : Type) → List (DataW H) → Bool := fun _ ds => decide (uptoBulkAll ds ≤ 1048576)
def OpenSpec.upto (s : _root_.Go.ChangeSpec) : _root_.Go.OpenSpec := { _root_.Go.OpenSpec.ofChange s with cond := some uptoSmall }

/-- 'laws.FnPrimes', WHERE WHAT IT READS IS OF BULK AT MOST 1048576: true; the input reads as it did. -/
def fnPrimesUptoRow : OpenClaim := { program := "ytdeedblemcfllaa", sum := "90e8d783b57895742e665f17da4f74b43463768e2d2875e63f74d0b03386189c", func := "loop.example/g00878/laws.FnPrimes", spec := "fnPrimes", apart := false, narrowed := true }
def FnPrimesUptoSaid : Prop := fnPrimesUptoRow.holds Try.pinned (OpenSpec.upto fnPrimesSpec)

/-- 'laws.FnGroups', WHERE WHAT IT READS IS OF BULK AT MOST 1048576: true; the input reads as it did. -/
def fnGroupsUptoRow : OpenClaim := { program := "ytdeedblemcfllaa", sum := "90e8d783b57895742e665f17da4f74b43463768e2d2875e63f74d0b03386189c", func := "loop.example/g00878/laws.FnGroups", spec := "fnGroups", unfollowed := true, recurses := true, apart := false, narrowed := true }
def FnGroupsUptoSaid : Prop := fnGroupsUptoRow.holds Try.pinned (OpenSpec.upto fnGroupsSpec)

/-- 'laws.FnPowers', WHERE WHAT IT READS IS OF BULK AT MOST 1048576: true; the input reads as it did. -/
def fnPowersUptoRow : OpenClaim := { program := "ytdeedblemcfllaa", sum := "90e8d783b57895742e665f17da4f74b43463768e2d2875e63f74d0b03386189c", func := "loop.example/g00878/laws.FnPowers", spec := "fnPowers", unfollowed := true, recurses := true, apart := false, narrowed := true }
def FnPowersUptoSaid : Prop := fnPowersUptoRow.holds Try.pinned (OpenSpec.upto fnPowersSpec)

/-- 'laws.FnTinyGroups', WHERE WHAT IT READS IS OF BULK AT MOST 1048576: true; the input reads as it did. -/
def fnTinyGroupsUptoRow : OpenClaim := { program := "ytdeedblemcfllaa", sum := "90e8d783b57895742e665f17da4f74b43463768e2d2875e63f74d0b03386189c", func := "loop.example/g00878/laws.FnTinyGroups", spec := "fnTinyGroups", recurses := true, apart := false, narrowed := true }
def FnTinyGroupsUptoSaid : Prop := fnTinyGroupsUptoRow.holds Try.pinned (OpenSpec.upto fnTinyGroupsSpec)

/-- 'laws.FnExactIsPrime', WHERE WHAT IT READS IS OF BULK AT MOST 1048576: true; the input reads as it did. -/
def fnExactIsPrimeUptoRow : OpenClaim := { program := "ytdeedblemcfllaa", sum := "90e8d783b57895742e665f17da4f74b43463768e2d2875e63f74d0b03386189c", func := "loop.example/g00878/laws.FnExactIsPrime", spec := "fnExactIsPrime", apart := false, narrowed := true }
def FnExactIsPrimeUptoSaid : Prop := fnExactIsPrimeUptoRow.holds Try.pinned (OpenSpec.upto fnExactIsPrimeSpec)

/-- 'laws.FnExactPrimitiveRoot', WHERE WHAT IT READS IS OF BULK AT MOST 1048576: true; the input reads as it did. -/
def fnExactPrimitiveRootUptoRow : OpenClaim := { program := "ytdeedblemcfllaa", sum := "90e8d783b57895742e665f17da4f74b43463768e2d2875e63f74d0b03386189c", func := "loop.example/g00878/laws.FnExactPrimitiveRoot", spec := "fnExactPrimitiveRoot", apart := false, narrowed := true }
def FnExactPrimitiveRootUptoSaid : Prop := fnExactPrimitiveRootUptoRow.holds Try.pinned (OpenSpec.upto fnExactPrimitiveRootSpec)

/-- 'laws.FnExactLegendreOf', WHERE WHAT IT READS IS OF BULK AT MOST 1048576: true; the input reads as it did. -/
def fnExactLegendreOfUptoRow : OpenClaim := { program := "ytdeedblemcfllaa", sum := "90e8d783b57895742e665f17da4f74b43463768e2d2875e63f74d0b03386189c", func := "loop.example/g00878/laws.FnExactLegendreOf", spec := "fnExactLegendreOf", apart := false, narrowed := true }
def FnExactLegendreOfUptoSaid : Prop := fnExactLegendreOfUptoRow.holds Try.pinned (OpenSpec.upto fnExactLegendreOfSpec)

/-- 'laws.FnExactIsValidGroup', WHERE WHAT IT READS IS OF BULK AT MOST 1048576: true; the input reads as it did. -/
def fnExactIsValidGroupUptoRow : OpenClaim := { program := "ytdeedblemcfllaa", sum := "90e8d783b57895742e665f17da4f74b43463768e2d2875e63f74d0b03386189c", func := "loop.example/g00878/laws.FnExactIsValidGroup", spec := "fnExactIsValidGroup", apart := false, narrowed := true }
def FnExactIsValidGroupUptoSaid : Prop := fnExactIsValidGroupUptoRow.holds Try.pinned (OpenSpec.upto fnExactIsValidGroupSpec)

/-- 'laws.FnExactMakeGroup', WHERE WHAT IT READS IS OF BULK AT MOST 1048576: true; the input reads as it did. -/
def fnExactMakeGroupUptoRow : OpenClaim := { program := "ytdeedblemcfllaa", sum := "90e8d783b57895742e665f17da4f74b43463768e2d2875e63f74d0b03386189c", func := "loop.example/g00878/laws.FnExactMakeGroup", spec := "fnExactMakeGroup", apart := false, narrowed := true }
def FnExactMakeGroupUptoSaid : Prop := fnExactMakeGroupUptoRow.holds Try.pinned (OpenSpec.upto fnExactMakeGroupSpec)

/-- 'laws.FnExactIsElement', WHERE WHAT IT READS IS OF BULK AT MOST 1048576: true; the input reads as it did. -/
def fnExactIsElementUptoRow : OpenClaim := { program := "ytdeedblemcfllaa", sum := "90e8d783b57895742e665f17da4f74b43463768e2d2875e63f74d0b03386189c", func := "loop.example/g00878/laws.FnExactIsElement", spec := "fnExactIsElement", apart := false, narrowed := true }
def FnExactIsElementUptoSaid : Prop := fnExactIsElementUptoRow.holds Try.pinned (OpenSpec.upto fnExactIsElementSpec)

/-- 'laws.FnExactExpOf', WHERE WHAT IT READS IS OF BULK AT MOST 1048576: true; the input reads as it did. -/
def fnExactExpOfUptoRow : OpenClaim := { program := "ytdeedblemcfllaa", sum := "90e8d783b57895742e665f17da4f74b43463768e2d2875e63f74d0b03386189c", func := "loop.example/g00878/laws.FnExactExpOf", spec := "fnExactExpOf", unfollowed := true, recurses := true, apart := false, narrowed := true }
def FnExactExpOfUptoSaid : Prop := fnExactExpOfUptoRow.holds Try.pinned (OpenSpec.upto fnExactExpOfSpec)

/-- 'laws.FnExactMulOf', WHERE WHAT IT READS IS OF BULK AT MOST 1048576: true; the input reads as it did. -/
def fnExactMulOfUptoRow : OpenClaim := { program := "ytdeedblemcfllaa", sum := "90e8d783b57895742e665f17da4f74b43463768e2d2875e63f74d0b03386189c", func := "loop.example/g00878/laws.FnExactMulOf", spec := "fnExactMulOf", unfollowed := true, recurses := true, apart := false, narrowed := true }
def FnExactMulOfUptoSaid : Prop := fnExactMulOfUptoRow.holds Try.pinned (OpenSpec.upto fnExactMulOfSpec)

/-- 'laws.FnExactInverseOf', WHERE WHAT IT READS IS OF BULK AT MOST 1048576: true; the input reads as it did. -/
def fnExactInverseOfUptoRow : OpenClaim := { program := "ytdeedblemcfllaa", sum := "90e8d783b57895742e665f17da4f74b43463768e2d2875e63f74d0b03386189c", func := "loop.example/g00878/laws.FnExactInverseOf", spec := "fnExactInverseOf", apart := false, narrowed := true }
def FnExactInverseOfUptoSaid : Prop := fnExactInverseOfUptoRow.holds Try.pinned (OpenSpec.upto fnExactInverseOfSpec)

/-- 'laws.FnExactProductOfPowers', WHERE WHAT IT READS IS OF BULK AT MOST 1048576: true; the input reads as it did. -/
def fnExactProductOfPowersUptoRow : OpenClaim := { program := "ytdeedblemcfllaa", sum := "90e8d783b57895742e665f17da4f74b43463768e2d2875e63f74d0b03386189c", func := "loop.example/g00878/laws.FnExactProductOfPowers", spec := "fnExactProductOfPowers", unfollowed := true, recurses := true, apart := false, narrowed := true }
def FnExactProductOfPowersUptoSaid : Prop := fnExactProductOfPowersUptoRow.holds Try.pinned (OpenSpec.upto fnExactProductOfPowersSpec)

/-- 'laws.FnExactLogOf', WHERE WHAT IT READS IS OF BULK AT MOST 1048576: true; the input reads as it did. -/
def fnExactLogOfUptoRow : OpenClaim := { program := "ytdeedblemcfllaa", sum := "90e8d783b57895742e665f17da4f74b43463768e2d2875e63f74d0b03386189c", func := "loop.example/g00878/laws.FnExactLogOf", spec := "fnExactLogOf", apart := false, narrowed := true }
def FnExactLogOfUptoSaid : Prop := fnExactLogOfUptoRow.holds Try.pinned (OpenSpec.upto fnExactLogOfSpec)

/-- 'laws.FnExactElementsOf', WHERE WHAT IT READS IS OF BULK AT MOST 1048576: true; the input reads as it did. -/
def fnExactElementsOfUptoRow : OpenClaim := { program := "ytdeedblemcfllaa", sum := "90e8d783b57895742e665f17da4f74b43463768e2d2875e63f74d0b03386189c", func := "loop.example/g00878/laws.FnExactElementsOf", spec := "fnExactElementsOf", recurses := true, apart := false, narrowed := true }
def FnExactElementsOfUptoSaid : Prop := fnExactElementsOfUptoRow.holds Try.pinned (OpenSpec.upto fnExactElementsOfSpec)

/-- 'laws.FnExactElementFrom', WHERE WHAT IT READS IS OF BULK AT MOST 1048576: true; the input reads as it did. -/
def fnExactElementFromUptoRow : OpenClaim := { program := "ytdeedblemcfllaa", sum := "90e8d783b57895742e665f17da4f74b43463768e2d2875e63f74d0b03386189c", func := "loop.example/g00878/laws.FnExactElementFrom", spec := "fnExactElementFrom", apart := false, narrowed := true }
def FnExactElementFromUptoSaid : Prop := fnExactElementFromUptoRow.holds Try.pinned (OpenSpec.upto fnExactElementFromSpec)

end Rows
end Go.Proofs.Ytdeedblemcfllaa
