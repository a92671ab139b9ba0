/-
  No cell of these rows narrows 'for every input' (looked for: loops, veiled, ifaces, maps, wideKeys, modest, calm, conditions, laid).
  DERIVED. THE GIVEN ROWS OF THIS SEAT. 11 by the template 'for every input the law returns true; each argument reads behind the call as it read before'; 0 by the template 'total and deterministic' (their statements: YtfjaohmildkeoaaTotals.lean).
  GIVEN WITH THE SEED: the statements are not yours to turn. If you find one false, say at which input.
  Laid BY PROGRAM, IN A SANDBOX (cutbox-rows.mjs): the forced cells as the released guide's own fill.sh prints them over the translation 9e52fffec393c99d… (all of the seat's roots in one cut). By AI agents, Wed Nov 11 2026. No macro, syntax, notation, axiom, sorry.
-/
import Derived.Test.YtfjaohmildkeoaaChecked
import GoSem.Claim
import GoSem.ClaimJoined
import GoSem.ClaimMapViews
import Derived.JoinedTies
import Derived.KernelRfl
namespace Go.Proofs.Ytfjaohmildkeoaa
/- THE CELL 'sum', in the pinned program and in every row, IS THE sha256 OF THE DUMP (.gsa) THAT YtfjaohmildkeoaaProg.lean LOADS. Nothing in Lean hashes anything: it is a label: what it is worth is what the hold of that sum in a sandbox is worth. -/
noncomputable def Try.pinned : Pinned := { name := "ytfjaohmildkeoaa", sum := "9e52fffec393c99dede99605a632589c758055fbf6eff2851cf2ae170def8069", checked := Try.checked }
namespace Rows
def none {H : Type} : Left H := { results := [], args := [] }

/-- 'laws.FnShareChecks': WHATEVER THE INPUT: true; the input reads as it did. -/
def fnShareChecksSpec : ChangeSpec := { name := "fnShareChecks", fn := fun _ => fun
  | [d1, d2] => { results := [.lit (.bool true)], args := [d1, d2] }
  | _ => none }
def fnShareChecksRow : OpenClaim := { program := "ytfjaohmildkeoaa", sum := "9e52fffec393c99dede99605a632589c758055fbf6eff2851cf2ae170def8069", func := "loop.example/g00878/laws.FnShareChecks", spec := "fnShareChecks", unfollowed := true, recurses := true, apart := false }
def FnShareChecksSaid : Prop := fnShareChecksRow.holds Try.pinned (OpenSpec.ofChange fnShareChecksSpec)

/-- ITS FALSE NEIGHBOUR: 'it returns false'. Refute it at one input. -/
def fnShareChecksWrong : ChangeSpec := { name := "fnShareChecks", fn := fun _ => fun
  | [d1, d2] => { results := [.lit (.bool false)], args := [d1, d2] }
  | _ => none }
def FnShareChecksWrongFalsely : Prop := fnShareChecksRow.holds Try.pinned (OpenSpec.ofChange fnShareChecksWrong)

/-- 'laws.FnExactProveSum': WHATEVER THE INPUT: true; the input reads as it did. -/
def fnExactProveSumSpec : ChangeSpec := { name := "fnExactProveSum", fn := fun _ => fun
  | [d1, d2, d3, d4, d5] => { results := [.lit (.bool true)], args := [d1, d2, d3, d4, d5] }
  | _ => none }
def fnExactProveSumRow : OpenClaim := { program := "ytfjaohmildkeoaa", sum := "9e52fffec393c99dede99605a632589c758055fbf6eff2851cf2ae170def8069", func := "loop.example/g00878/laws.FnExactProveSum", spec := "fnExactProveSum", unfollowed := true, recurses := true, apart := false }
def FnExactProveSumSaid : Prop := fnExactProveSumRow.holds Try.pinned (OpenSpec.ofChange fnExactProveSumSpec)

/-- ITS FALSE NEIGHBOUR: 'it returns false'. Refute it at one input. -/
def fnExactProveSumWrong : ChangeSpec := { name := "fnExactProveSum", fn := fun _ => fun
  | [d1, d2, d3, d4, d5] => { results := [.lit (.bool false)], args := [d1, d2, d3, d4, d5] }
  | _ => none }
def FnExactProveSumWrongFalsely : Prop := fnExactProveSumRow.holds Try.pinned (OpenSpec.ofChange fnExactProveSumWrong)

/-- 'laws.FnExactDealShares': WHATEVER THE INPUT: true; the input reads as it did. -/
def fnExactDealSharesSpec : ChangeSpec := { name := "fnExactDealShares", fn := fun _ => fun
  | [d1, d2, d3] => { results := [.lit (.bool true)], args := [d1, d2, d3] }
  | _ => none }
def fnExactDealSharesRow : OpenClaim := { program := "ytfjaohmildkeoaa", sum := "9e52fffec393c99dede99605a632589c758055fbf6eff2851cf2ae170def8069", func := "loop.example/g00878/laws.FnExactDealShares", spec := "fnExactDealShares", unfollowed := true, recurses := true, apart := false }
def FnExactDealSharesSaid : Prop := fnExactDealSharesRow.holds Try.pinned (OpenSpec.ofChange fnExactDealSharesSpec)

/-- ITS FALSE NEIGHBOUR: 'it returns false'. Refute it at one input. -/
def fnExactDealSharesWrong : ChangeSpec := { name := "fnExactDealShares", fn := fun _ => fun
  | [d1, d2, d3] => { results := [.lit (.bool false)], args := [d1, d2, d3] }
  | _ => none }
def FnExactDealSharesWrongFalsely : Prop := fnExactDealSharesRow.holds Try.pinned (OpenSpec.ofChange fnExactDealSharesWrong)

/-- 'laws.FnExactIsValidDealing': WHATEVER THE INPUT: true; the input reads as it did. -/
def fnExactIsValidDealingSpec : ChangeSpec := { name := "fnExactIsValidDealing", fn := fun _ => fun
  | [d1, d2] => { results := [.lit (.bool true)], args := [d1, d2] }
  | _ => none }
def fnExactIsValidDealingRow : OpenClaim := { program := "ytfjaohmildkeoaa", sum := "9e52fffec393c99dede99605a632589c758055fbf6eff2851cf2ae170def8069", func := "loop.example/g00878/laws.FnExactIsValidDealing", spec := "fnExactIsValidDealing", unfollowed := true, recurses := true, apart := false }
def FnExactIsValidDealingSaid : Prop := fnExactIsValidDealingRow.holds Try.pinned (OpenSpec.ofChange fnExactIsValidDealingSpec)

/-- ITS FALSE NEIGHBOUR: 'it returns false'. Refute it at one input. -/
def fnExactIsValidDealingWrong : ChangeSpec := { name := "fnExactIsValidDealing", fn := fun _ => fun
  | [d1, d2] => { results := [.lit (.bool false)], args := [d1, d2] }
  | _ => none }
def FnExactIsValidDealingWrongFalsely : Prop := fnExactIsValidDealingRow.holds Try.pinned (OpenSpec.ofChange fnExactIsValidDealingWrong)

/-- 'laws.FnExactCommitAt': WHATEVER THE INPUT: true; the input reads as it did. -/
def fnExactCommitAtSpec : ChangeSpec := { name := "fnExactCommitAt", fn := fun _ => fun
  | [d1, d2, d3] => { results := [.lit (.bool true)], args := [d1, d2, d3] }
  | _ => none }
def fnExactCommitAtRow : OpenClaim := { program := "ytfjaohmildkeoaa", sum := "9e52fffec393c99dede99605a632589c758055fbf6eff2851cf2ae170def8069", func := "loop.example/g00878/laws.FnExactCommitAt", spec := "fnExactCommitAt", unfollowed := true, recurses := true, apart := false }
def FnExactCommitAtSaid : Prop := fnExactCommitAtRow.holds Try.pinned (OpenSpec.ofChange fnExactCommitAtSpec)

/-- ITS FALSE NEIGHBOUR: 'it returns false'. Refute it at one input. -/
def fnExactCommitAtWrong : ChangeSpec := { name := "fnExactCommitAt", fn := fun _ => fun
  | [d1, d2, d3] => { results := [.lit (.bool false)], args := [d1, d2, d3] }
  | _ => none }
def FnExactCommitAtWrongFalsely : Prop := fnExactCommitAtRow.holds Try.pinned (OpenSpec.ofChange fnExactCommitAtWrong)

/-- 'laws.FnExactCheckShare': WHATEVER THE INPUT: true; the input reads as it did. -/
def fnExactCheckShareSpec : ChangeSpec := { name := "fnExactCheckShare", fn := fun _ => fun
  | [d1, d2, d3, d4] => { results := [.lit (.bool true)], args := [d1, d2, d3, d4] }
  | _ => none }
def fnExactCheckShareRow : OpenClaim := { program := "ytfjaohmildkeoaa", sum := "9e52fffec393c99dede99605a632589c758055fbf6eff2851cf2ae170def8069", func := "loop.example/g00878/laws.FnExactCheckShare", spec := "fnExactCheckShare", unfollowed := true, recurses := true, apart := false }
def FnExactCheckShareSaid : Prop := fnExactCheckShareRow.holds Try.pinned (OpenSpec.ofChange fnExactCheckShareSpec)

/-- ITS FALSE NEIGHBOUR: 'it returns false'. Refute it at one input. -/
def fnExactCheckShareWrong : ChangeSpec := { name := "fnExactCheckShare", fn := fun _ => fun
  | [d1, d2, d3, d4] => { results := [.lit (.bool false)], args := [d1, d2, d3, d4] }
  | _ => none }
def FnExactCheckShareWrongFalsely : Prop := fnExactCheckShareRow.holds Try.pinned (OpenSpec.ofChange fnExactCheckShareWrong)

/-- 'laws.FnExactBadShares': WHATEVER THE INPUT: true; the input reads as it did. -/
def fnExactBadSharesSpec : ChangeSpec := { name := "fnExactBadShares", fn := fun _ => fun
  | [d1, d2] => { results := [.lit (.bool true)], args := [d1, d2] }
  | _ => none }
def fnExactBadSharesRow : OpenClaim := { program := "ytfjaohmildkeoaa", sum := "9e52fffec393c99dede99605a632589c758055fbf6eff2851cf2ae170def8069", func := "loop.example/g00878/laws.FnExactBadShares", spec := "fnExactBadShares", unfollowed := true, recurses := true, apart := false }
def FnExactBadSharesSaid : Prop := fnExactBadSharesRow.holds Try.pinned (OpenSpec.ofChange fnExactBadSharesSpec)

/-- ITS FALSE NEIGHBOUR: 'it returns false'. Refute it at one input. -/
def fnExactBadSharesWrong : ChangeSpec := { name := "fnExactBadShares", fn := fun _ => fun
  | [d1, d2] => { results := [.lit (.bool false)], args := [d1, d2] }
  | _ => none }
def FnExactBadSharesWrongFalsely : Prop := fnExactBadSharesRow.holds Try.pinned (OpenSpec.ofChange fnExactBadSharesWrong)

/-- 'laws.FnExactReconstruct': WHATEVER THE INPUT: true; the input reads as it did. -/
def fnExactReconstructSpec : ChangeSpec := { name := "fnExactReconstruct", fn := fun _ => fun
  | [d1, d2, d3, d4] => { results := [.lit (.bool true)], args := [d1, d2, d3, d4] }
  | _ => none }
def fnExactReconstructRow : OpenClaim := { program := "ytfjaohmildkeoaa", sum := "9e52fffec393c99dede99605a632589c758055fbf6eff2851cf2ae170def8069", func := "loop.example/g00878/laws.FnExactReconstruct", spec := "fnExactReconstruct", unfollowed := true, recurses := true, apart := false }
def FnExactReconstructSaid : Prop := fnExactReconstructRow.holds Try.pinned (OpenSpec.ofChange fnExactReconstructSpec)

/-- ITS FALSE NEIGHBOUR: 'it returns false'. Refute it at one input. -/
def fnExactReconstructWrong : ChangeSpec := { name := "fnExactReconstruct", fn := fun _ => fun
  | [d1, d2, d3, d4] => { results := [.lit (.bool false)], args := [d1, d2, d3, d4] }
  | _ => none }
def FnExactReconstructWrongFalsely : Prop := fnExactReconstructRow.holds Try.pinned (OpenSpec.ofChange fnExactReconstructWrong)

/-- 'laws.FnExactAreConsistent': WHATEVER THE INPUT: true; the input reads as it did. -/
def fnExactAreConsistentSpec : ChangeSpec := { name := "fnExactAreConsistent", fn := fun _ => fun
  | [d1, d2, d3] => { results := [.lit (.bool true)], args := [d1, d2, d3] }
  | _ => none }
def fnExactAreConsistentRow : OpenClaim := { program := "ytfjaohmildkeoaa", sum := "9e52fffec393c99dede99605a632589c758055fbf6eff2851cf2ae170def8069", func := "loop.example/g00878/laws.FnExactAreConsistent", spec := "fnExactAreConsistent", unfollowed := true, recurses := true, apart := false }
def FnExactAreConsistentSaid : Prop := fnExactAreConsistentRow.holds Try.pinned (OpenSpec.ofChange fnExactAreConsistentSpec)

/-- ITS FALSE NEIGHBOUR: 'it returns false'. Refute it at one input. -/
def fnExactAreConsistentWrong : ChangeSpec := { name := "fnExactAreConsistent", fn := fun _ => fun
  | [d1, d2, d3] => { results := [.lit (.bool false)], args := [d1, d2, d3] }
  | _ => none }
def FnExactAreConsistentWrongFalsely : Prop := fnExactAreConsistentRow.holds Try.pinned (OpenSpec.ofChange fnExactAreConsistentWrong)

/-- 'laws.FnExactSumDealings': WHATEVER THE INPUT: true; the input reads as it did. -/
def fnExactSumDealingsSpec : ChangeSpec := { name := "fnExactSumDealings", fn := fun _ => fun
  | [d1, d2] => { results := [.lit (.bool true)], args := [d1, d2] }
  | _ => none }
def fnExactSumDealingsRow : OpenClaim := { program := "ytfjaohmildkeoaa", sum := "9e52fffec393c99dede99605a632589c758055fbf6eff2851cf2ae170def8069", func := "loop.example/g00878/laws.FnExactSumDealings", spec := "fnExactSumDealings", unfollowed := true, recurses := true, apart := false }
def FnExactSumDealingsSaid : Prop := fnExactSumDealingsRow.holds Try.pinned (OpenSpec.ofChange fnExactSumDealingsSpec)

/-- ITS FALSE NEIGHBOUR: 'it returns false'. Refute it at one input. -/
def fnExactSumDealingsWrong : ChangeSpec := { name := "fnExactSumDealings", fn := fun _ => fun
  | [d1, d2] => { results := [.lit (.bool false)], args := [d1, d2] }
  | _ => none }
def FnExactSumDealingsWrongFalsely : Prop := fnExactSumDealingsRow.holds Try.pinned (OpenSpec.ofChange fnExactSumDealingsWrong)

/-- 'laws.FnExactShareCounts': WHATEVER THE INPUT: true; the input reads as it did. -/
def fnExactShareCountsSpec : ChangeSpec := { name := "fnExactShareCounts", fn := fun _ => fun
  | [d1, d2, d3] => { results := [.lit (.bool true)], args := [d1, d2, d3] }
  | _ => none }
def fnExactShareCountsRow : OpenClaim := { program := "ytfjaohmildkeoaa", sum := "9e52fffec393c99dede99605a632589c758055fbf6eff2851cf2ae170def8069", func := "loop.example/g00878/laws.FnExactShareCounts", spec := "fnExactShareCounts", unfollowed := true, recurses := true, apart := false }
def FnExactShareCountsSaid : Prop := fnExactShareCountsRow.holds Try.pinned (OpenSpec.ofChange fnExactShareCountsSpec)

/-- ITS FALSE NEIGHBOUR: 'it returns false'. Refute it at one input. -/
def fnExactShareCountsWrong : ChangeSpec := { name := "fnExactShareCounts", fn := fun _ => fun
  | [d1, d2, d3] => { results := [.lit (.bool false)], args := [d1, d2, d3] }
  | _ => none }
def FnExactShareCountsWrongFalsely : Prop := fnExactShareCountsRow.holds Try.pinned (OpenSpec.ofChange fnExactShareCountsWrong)

/- THE SECOND FORM. 'bulk': how many values and letters a reading holds, each counted each time it is reached (what is shared counts as often as it is met; a slice's spare places count too). A statement '..UptoSaid' is the law's where the arguments, and the package variables that the reading takes, are together of bulk at most 1048576: NARROWER than '..Said'. Prove '..Said' where nothing that the law and all that it calls make is longer than what came in: it says more and counts as full. Else prove '..UptoSaid'. A law counts once. -/
mutual
def uptoBulk {H : Type} : DataW H → Nat
  | .lit (.string bytes) => bytes.length + 1
  | .lit _ => 1
  | .nil => 1
  | .ptr d => uptoBulk d + 1
  | .slice elems spare => uptoBulkAll elems + uptoBulkAll spare + 1
  | .agg parts => uptoBulkAll parts + 1
  | .iface _ d => uptoBulk d + 1
  | .map entries => uptoBulkEntries entries + 1
  | .held _ => 1
def uptoBulkAll {H : Type} : List (DataW H) → Nat
  | [] => 0
  | d :: r => uptoBulk d + uptoBulkAll r
def uptoBulkEntries {H : Type} : List (Lit × DataW H) → Nat
  | [] => 0
  | x :: r => uptoBulkEntry x + uptoBulkEntries r
def uptoBulkEntry {H : Type} : Lit × DataW H → Nat
  | (.string bytes, d) => bytes.length + uptoBulk d + 1
  | (_, d) => uptoBulk d + 1
 end
def uptoSmall : (H : Type) → List (DataW H) → Bool := fun _ ds => decide (uptoBulkAll ds ≤ 1048576)
def OpenSpec.upto (s : _root_.Go.ChangeSpec) : _root_.Go.OpenSpec := { _root_.Go.OpenSpec.ofChange s with cond := some uptoSmall }

/-- 'laws.FnShareChecks', WHERE WHAT IT READS IS OF BULK AT MOST 1048576: true; the input reads as it did. -/
def fnShareChecksUptoRow : OpenClaim := { program := "ytfjaohmildkeoaa", sum := "9e52fffec393c99dede99605a632589c758055fbf6eff2851cf2ae170def8069", func := "loop.example/g00878/laws.FnShareChecks", spec := "fnShareChecks", unfollowed := true, recurses := true, apart := false, narrowed := true }
def FnShareChecksUptoSaid : Prop := fnShareChecksUptoRow.holds Try.pinned (OpenSpec.upto fnShareChecksSpec)

/-- 'laws.FnExactProveSum', WHERE WHAT IT READS IS OF BULK AT MOST 1048576: true; the input reads as it did. -/
def fnExactProveSumUptoRow : OpenClaim := { program := "ytfjaohmildkeoaa", sum := "9e52fffec393c99dede99605a632589c758055fbf6eff2851cf2ae170def8069", func := "loop.example/g00878/laws.FnExactProveSum", spec := "fnExactProveSum", unfollowed := true, recurses := true, apart := false, narrowed := true }
def FnExactProveSumUptoSaid : Prop := fnExactProveSumUptoRow.holds Try.pinned (OpenSpec.upto fnExactProveSumSpec)

/-- 'laws.FnExactDealShares', WHERE WHAT IT READS IS OF BULK AT MOST 1048576: true; the input reads as it did. -/
def fnExactDealSharesUptoRow : OpenClaim := { program := "ytfjaohmildkeoaa", sum := "9e52fffec393c99dede99605a632589c758055fbf6eff2851cf2ae170def8069", func := "loop.example/g00878/laws.FnExactDealShares", spec := "fnExactDealShares", unfollowed := true, recurses := true, apart := false, narrowed := true }
def FnExactDealSharesUptoSaid : Prop := fnExactDealSharesUptoRow.holds Try.pinned (OpenSpec.upto fnExactDealSharesSpec)

/-- 'laws.FnExactIsValidDealing', WHERE WHAT IT READS IS OF BULK AT MOST 1048576: true; the input reads as it did. -/
def fnExactIsValidDealingUptoRow : OpenClaim := { program := "ytfjaohmildkeoaa", sum := "9e52fffec393c99dede99605a632589c758055fbf6eff2851cf2ae170def8069", func := "loop.example/g00878/laws.FnExactIsValidDealing", spec := "fnExactIsValidDealing", unfollowed := true, recurses := true, apart := false, narrowed := true }
def FnExactIsValidDealingUptoSaid : Prop := fnExactIsValidDealingUptoRow.holds Try.pinned (OpenSpec.upto fnExactIsValidDealingSpec)

/-- 'laws.FnExactCommitAt', WHERE WHAT IT READS IS OF BULK AT MOST 1048576: true; the input reads as it did. -/
def fnExactCommitAtUptoRow : OpenClaim := { program := "ytfjaohmildkeoaa", sum := "9e52fffec393c99dede99605a632589c758055fbf6eff2851cf2ae170def8069", func := "loop.example/g00878/laws.FnExactCommitAt", spec := "fnExactCommitAt", unfollowed := true, recurses := true, apart := false, narrowed := true }
def FnExactCommitAtUptoSaid : Prop := fnExactCommitAtUptoRow.holds Try.pinned (OpenSpec.upto fnExactCommitAtSpec)

/-- 'laws.FnExactCheckShare', WHERE WHAT IT READS IS OF BULK AT MOST 1048576: true; the input reads as it did. -/
def fnExactCheckShareUptoRow : OpenClaim := { program := "ytfjaohmildkeoaa", sum := "9e52fffec393c99dede99605a632589c758055fbf6eff2851cf2ae170def8069", func := "loop.example/g00878/laws.FnExactCheckShare", spec := "fnExactCheckShare", unfollowed := true, recurses := true, apart := false, narrowed := true }
def FnExactCheckShareUptoSaid : Prop := fnExactCheckShareUptoRow.holds Try.pinned (OpenSpec.upto fnExactCheckShareSpec)

/-- 'laws.FnExactBadShares', WHERE WHAT IT READS IS OF BULK AT MOST 1048576: true; the input reads as it did. -/
def fnExactBadSharesUptoRow : OpenClaim := { program := "ytfjaohmildkeoaa", sum := "9e52fffec393c99dede99605a632589c758055fbf6eff2851cf2ae170def8069", func := "loop.example/g00878/laws.FnExactBadShares", spec := "fnExactBadShares", unfollowed := true, recurses := true, apart := false, narrowed := true }
def FnExactBadSharesUptoSaid : Prop := fnExactBadSharesUptoRow.holds Try.pinned (OpenSpec.upto fnExactBadSharesSpec)

/-- 'laws.FnExactReconstruct', WHERE WHAT IT READS IS OF BULK AT MOST 1048576: true; the input reads as it did. -/
def fnExactReconstructUptoRow : OpenClaim := { program := "ytfjaohmildkeoaa", sum := "9e52fffec393c99dede99605a632589c758055fbf6eff2851cf2ae170def8069", func := "loop.example/g00878/laws.FnExactReconstruct", spec := "fnExactReconstruct", unfollowed := true, recurses := true, apart := false, narrowed := true }
def FnExactReconstructUptoSaid : Prop := fnExactReconstructUptoRow.holds Try.pinned (OpenSpec.upto fnExactReconstructSpec)

/-- 'laws.FnExactAreConsistent', WHERE WHAT IT READS IS OF BULK AT MOST 1048576: true; the input reads as it did. -/
def fnExactAreConsistentUptoRow : OpenClaim := { program := "ytfjaohmildkeoaa", sum := "9e52fffec393c99dede99605a632589c758055fbf6eff2851cf2ae170def8069", func := "loop.example/g00878/laws.FnExactAreConsistent", spec := "fnExactAreConsistent", unfollowed := true, recurses := true, apart := false, narrowed := true }
def FnExactAreConsistentUptoSaid : Prop := fnExactAreConsistentUptoRow.holds Try.pinned (OpenSpec.upto fnExactAreConsistentSpec)

/-- 'laws.FnExactSumDealings', WHERE WHAT IT READS IS OF BULK AT MOST 1048576: true; the input reads as it did. -/
def fnExactSumDealingsUptoRow : OpenClaim := { program := "ytfjaohmildkeoaa", sum := "9e52fffec393c99dede99605a632589c758055fbf6eff2851cf2ae170def8069", func := "loop.example/g00878/laws.FnExactSumDealings", spec := "fnExactSumDealings", unfollowed := true, recurses := true, apart := false, narrowed := true }
def FnExactSumDealingsUptoSaid : Prop := fnExactSumDealingsUptoRow.holds Try.pinned (OpenSpec.upto fnExactSumDealingsSpec)

/-- 'laws.FnExactShareCounts', WHERE WHAT IT READS IS OF BULK AT MOST 1048576: true; the input reads as it did. -/
def fnExactShareCountsUptoRow : OpenClaim := { program := "ytfjaohmildkeoaa", sum := "9e52fffec393c99dede99605a632589c758055fbf6eff2851cf2ae170def8069", func := "loop.example/g00878/laws.FnExactShareCounts", spec := "fnExactShareCounts", unfollowed := true, recurses := true, apart := false, narrowed := true }
def FnExactShareCountsUptoSaid : Prop := fnExactShareCountsUptoRow.holds Try.pinned (OpenSpec.upto fnExactShareCountsSpec)

end Rows
end Go.Proofs.Ytfjaohmildkeoaa
