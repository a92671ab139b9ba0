/-
  No cell of these rows narrows 'for every input' (looked for: loops, veiled, ifaces, maps, wideKeys, modest, calm, conditions, laid).
  DERIVED. THE GIVEN ROWS OF THIS SEAT. 9 by the template 'for every input the law returns true; each argument reads behind the call as it read before'; 0 by the template 'total and deterministic' (their statements: YtkpfmpndaenclaaTotals.lean).
  GIVEN WITH THE SEED: the statements are not yours to turn. If you find one false, say at which input.
  Laid BY PROGRAM, IN A SANDBOX (cutbox-rows.mjs): the forced cells as the released guide's own fill.sh prints them over the translation d1aed7ba79ff3b8d… (all of the seat's roots in one cut). By AI agents, Wed Nov 11 2026. No macro, syntax, notation, axiom, sorry.
-/
import Derived.Test.YtkpfmpndaenclaaChecked
import GoSem.Claim
import GoSem.ClaimJoined
import GoSem.ClaimMapViews
import Derived.JoinedTies
import Derived.KernelRfl
namespace Go.Proofs.Ytkpfmpndaenclaa
/- THE CELL 'sum', in the pinned program and in every row, IS THE sha256 OF THE DUMP (.gsa) THAT YtkpfmpndaenclaaProg.lean LOADS. Nothing in Lean hashes anything: it is a label: what it is worth is what the hold of that sum in a sandbox is worth. -/
noncomputable def Try.pinned : Pinned := { name := "ytkpfmpndaenclaa", sum := "d1aed7ba79ff3b8d6f0c21f27e7a063ec53cf6ea2b4dee7e862f02b3901208ea", checked := Try.checked }
namespace Rows
def none {H : Type} : Left H := { results := [], args := [] }

/-- 'laws.FnGroups': WHATEVER THE INPUT: true; the input reads as it did. -/
def fnGroupsSpec : ChangeSpec := { name := "fnGroups", fn := fun _ => fun
  | [d1, d2] => { results := [.lit (.bool true)], args := [d1, d2] }
  | _ => none }
def fnGroupsRow : OpenClaim := { program := "ytkpfmpndaenclaa", sum := "d1aed7ba79ff3b8d6f0c21f27e7a063ec53cf6ea2b4dee7e862f02b3901208ea", func := "loop.example/g00878/laws.FnGroups", spec := "fnGroups", unfollowed := true, recurses := true, apart := false }
def FnGroupsSaid : Prop := fnGroupsRow.holds Try.pinned (OpenSpec.ofChange fnGroupsSpec)

/-- ITS FALSE NEIGHBOUR: 'it returns false'. Refute it at one input. -/
def fnGroupsWrong : ChangeSpec := { name := "fnGroups", fn := fun _ => fun
  | [d1, d2] => { results := [.lit (.bool false)], args := [d1, d2] }
  | _ => none }
def FnGroupsWrongFalsely : Prop := fnGroupsRow.holds Try.pinned (OpenSpec.ofChange fnGroupsWrong)

/-- 'laws.FnPowers': WHATEVER THE INPUT: true; the input reads as it did. -/
def fnPowersSpec : ChangeSpec := { name := "fnPowers", fn := fun _ => fun
  | [d1, d2] => { results := [.lit (.bool true)], args := [d1, d2] }
  | _ => none }
def fnPowersRow : OpenClaim := { program := "ytkpfmpndaenclaa", sum := "d1aed7ba79ff3b8d6f0c21f27e7a063ec53cf6ea2b4dee7e862f02b3901208ea", func := "loop.example/g00878/laws.FnPowers", spec := "fnPowers", unfollowed := true, recurses := true, apart := false }
def FnPowersSaid : Prop := fnPowersRow.holds Try.pinned (OpenSpec.ofChange fnPowersSpec)

/-- ITS FALSE NEIGHBOUR: 'it returns false'. Refute it at one input. -/
def fnPowersWrong : ChangeSpec := { name := "fnPowers", fn := fun _ => fun
  | [d1, d2] => { results := [.lit (.bool false)], args := [d1, d2] }
  | _ => none }
def FnPowersWrongFalsely : Prop := fnPowersRow.holds Try.pinned (OpenSpec.ofChange fnPowersWrong)

/-- 'laws.FnTinyGroups': WHATEVER THE INPUT: true; the input reads as it did. -/
def fnTinyGroupsSpec : ChangeSpec := { name := "fnTinyGroups", fn := fun _ => fun
  | [d1, d2] => { results := [.lit (.bool true)], args := [d1, d2] }
  | _ => none }
def fnTinyGroupsRow : OpenClaim := { program := "ytkpfmpndaenclaa", sum := "d1aed7ba79ff3b8d6f0c21f27e7a063ec53cf6ea2b4dee7e862f02b3901208ea", func := "loop.example/g00878/laws.FnTinyGroups", spec := "fnTinyGroups", recurses := true, apart := false }
def FnTinyGroupsSaid : Prop := fnTinyGroupsRow.holds Try.pinned (OpenSpec.ofChange fnTinyGroupsSpec)

/-- ITS FALSE NEIGHBOUR: 'it returns false'. Refute it at one input. -/
def fnTinyGroupsWrong : ChangeSpec := { name := "fnTinyGroups", fn := fun _ => fun
  | [d1, d2] => { results := [.lit (.bool false)], args := [d1, d2] }
  | _ => none }
def FnTinyGroupsWrongFalsely : Prop := fnTinyGroupsRow.holds Try.pinned (OpenSpec.ofChange fnTinyGroupsWrong)

/-- 'laws.FnExactHashInts': WHATEVER THE INPUT: true; the input reads as it did. -/
def fnExactHashIntsSpec : ChangeSpec := { name := "fnExactHashInts", fn := fun _ => fun
  | [d] => { results := [.lit (.bool true)], args := [d] }
  | _ => none }
def fnExactHashIntsRow : OpenClaim := { program := "ytkpfmpndaenclaa", sum := "d1aed7ba79ff3b8d6f0c21f27e7a063ec53cf6ea2b4dee7e862f02b3901208ea", func := "loop.example/g00878/laws.FnExactHashInts", spec := "fnExactHashInts", apart := false }
def FnExactHashIntsSaid : Prop := fnExactHashIntsRow.holds Try.pinned (OpenSpec.ofChange fnExactHashIntsSpec)

/-- ITS FALSE NEIGHBOUR: 'it returns false'. Refute it at one input. -/
def fnExactHashIntsWrong : ChangeSpec := { name := "fnExactHashInts", fn := fun _ => fun
  | [d] => { results := [.lit (.bool false)], args := [d] }
  | _ => none }
def FnExactHashIntsWrongFalsely : Prop := fnExactHashIntsRow.holds Try.pinned (OpenSpec.ofChange fnExactHashIntsWrong)

/-- 'laws.FnExactHashLabelled': WHATEVER THE INPUT: true; the input reads as it did. -/
def fnExactHashLabelledSpec : ChangeSpec := { name := "fnExactHashLabelled", fn := fun _ => fun
  | [d1, d2] => { results := [.lit (.bool true)], args := [d1, d2] }
  | _ => none }
def fnExactHashLabelledRow : OpenClaim := { program := "ytkpfmpndaenclaa", sum := "d1aed7ba79ff3b8d6f0c21f27e7a063ec53cf6ea2b4dee7e862f02b3901208ea", func := "loop.example/g00878/laws.FnExactHashLabelled", spec := "fnExactHashLabelled", apart := false }
def FnExactHashLabelledSaid : Prop := fnExactHashLabelledRow.holds Try.pinned (OpenSpec.ofChange fnExactHashLabelledSpec)

/-- ITS FALSE NEIGHBOUR: 'it returns false'. Refute it at one input. -/
def fnExactHashLabelledWrong : ChangeSpec := { name := "fnExactHashLabelled", fn := fun _ => fun
  | [d1, d2] => { results := [.lit (.bool false)], args := [d1, d2] }
  | _ => none }
def FnExactHashLabelledWrongFalsely : Prop := fnExactHashLabelledRow.holds Try.pinned (OpenSpec.ofChange fnExactHashLabelledWrong)

/-- 'laws.FnExactChallenge': WHATEVER THE INPUT: true; the input reads as it did. -/
def fnExactChallengeSpec : ChangeSpec := { name := "fnExactChallenge", fn := fun _ => fun
  | [d1, d2, d3] => { results := [.lit (.bool true)], args := [d1, d2, d3] }
  | _ => none }
def fnExactChallengeRow : OpenClaim := { program := "ytkpfmpndaenclaa", sum := "d1aed7ba79ff3b8d6f0c21f27e7a063ec53cf6ea2b4dee7e862f02b3901208ea", func := "loop.example/g00878/laws.FnExactChallenge", spec := "fnExactChallenge", apart := false }
def FnExactChallengeSaid : Prop := fnExactChallengeRow.holds Try.pinned (OpenSpec.ofChange fnExactChallengeSpec)

/-- ITS FALSE NEIGHBOUR: 'it returns false'. Refute it at one input. -/
def fnExactChallengeWrong : ChangeSpec := { name := "fnExactChallenge", fn := fun _ => fun
  | [d1, d2, d3] => { results := [.lit (.bool false)], args := [d1, d2, d3] }
  | _ => none }
def FnExactChallengeWrongFalsely : Prop := fnExactChallengeRow.holds Try.pinned (OpenSpec.ofChange fnExactChallengeWrong)

/-- 'laws.FnExactChallenges': WHATEVER THE INPUT: true; the input reads as it did. -/
def fnExactChallengesSpec : ChangeSpec := { name := "fnExactChallenges", fn := fun _ => fun
  | [d1, d2, d3, d4] => { results := [.lit (.bool true)], args := [d1, d2, d3, d4] }
  | _ => none }
def fnExactChallengesRow : OpenClaim := { program := "ytkpfmpndaenclaa", sum := "d1aed7ba79ff3b8d6f0c21f27e7a063ec53cf6ea2b4dee7e862f02b3901208ea", func := "loop.example/g00878/laws.FnExactChallenges", spec := "fnExactChallenges", apart := false }
def FnExactChallengesSaid : Prop := fnExactChallengesRow.holds Try.pinned (OpenSpec.ofChange fnExactChallengesSpec)

/-- ITS FALSE NEIGHBOUR: 'it returns false'. Refute it at one input. -/
def fnExactChallengesWrong : ChangeSpec := { name := "fnExactChallenges", fn := fun _ => fun
  | [d1, d2, d3, d4] => { results := [.lit (.bool false)], args := [d1, d2, d3, d4] }
  | _ => none }
def FnExactChallengesWrongFalsely : Prop := fnExactChallengesRow.holds Try.pinned (OpenSpec.ofChange fnExactChallengesWrong)

/-- 'laws.FnExactDeriveElement': WHATEVER THE INPUT: true; the input reads as it did. -/
def fnExactDeriveElementSpec : ChangeSpec := { name := "fnExactDeriveElement", fn := fun _ => fun
  | [d1, d2, d3] => { results := [.lit (.bool true)], args := [d1, d2, d3] }
  | _ => none }
def fnExactDeriveElementRow : OpenClaim := { program := "ytkpfmpndaenclaa", sum := "d1aed7ba79ff3b8d6f0c21f27e7a063ec53cf6ea2b4dee7e862f02b3901208ea", func := "loop.example/g00878/laws.FnExactDeriveElement", spec := "fnExactDeriveElement", apart := false }
def FnExactDeriveElementSaid : Prop := fnExactDeriveElementRow.holds Try.pinned (OpenSpec.ofChange fnExactDeriveElementSpec)

/-- ITS FALSE NEIGHBOUR: 'it returns false'. Refute it at one input. -/
def fnExactDeriveElementWrong : ChangeSpec := { name := "fnExactDeriveElement", fn := fun _ => fun
  | [d1, d2, d3] => { results := [.lit (.bool false)], args := [d1, d2, d3] }
  | _ => none }
def FnExactDeriveElementWrongFalsely : Prop := fnExactDeriveElementRow.holds Try.pinned (OpenSpec.ofChange fnExactDeriveElementWrong)

/-- 'laws.FnExactDeriveElements': WHATEVER THE INPUT: true; the input reads as it did. -/
def fnExactDeriveElementsSpec : ChangeSpec := { name := "fnExactDeriveElements", fn := fun _ => fun
  | [d1, d2, d3] => { results := [.lit (.bool true)], args := [d1, d2, d3] }
  | _ => none }
def fnExactDeriveElementsRow : OpenClaim := { program := "ytkpfmpndaenclaa", sum := "d1aed7ba79ff3b8d6f0c21f27e7a063ec53cf6ea2b4dee7e862f02b3901208ea", func := "loop.example/g00878/laws.FnExactDeriveElements", spec := "fnExactDeriveElements", apart := false }
def FnExactDeriveElementsSaid : Prop := fnExactDeriveElementsRow.holds Try.pinned (OpenSpec.ofChange fnExactDeriveElementsSpec)

/-- ITS FALSE NEIGHBOUR: 'it returns false'. Refute it at one input. -/
def fnExactDeriveElementsWrong : ChangeSpec := { name := "fnExactDeriveElements", fn := fun _ => fun
  | [d1, d2, d3] => { results := [.lit (.bool false)], args := [d1, d2, d3] }
  | _ => none }
def FnExactDeriveElementsWrongFalsely : Prop := fnExactDeriveElementsRow.holds Try.pinned (OpenSpec.ofChange fnExactDeriveElementsWrong)

/- THE SECOND FORM. 'bulk': how many values and letters a reading holds, each counted each time it is reached (what is shared counts as often as it is met; a slice's spare places count too). A statement '..UptoSaid' is the law's where the arguments, and the package variables that the reading takes, are together of bulk at most 1048576: NARROWER than '..Said'. Prove '..Said' where nothing that the law and all that it calls make is longer than what came in: it says more and counts as full. Else prove '..UptoSaid'. A law counts once. -/
mutual
def uptoBulk {H : Type} : DataW H → Nat
  | .lit (.string bytes) => bytes.length + 1
  | .lit _ => 1
  | .nil => 1
  | .ptr d => uptoBulk d + 1
  | .slice elems spare => uptoBulkAll elems + uptoBulkAll spare + 1
  | .agg parts => uptoBulkAll parts + 1
  | .iface _ d => uptoBulk d + 1
  | .map entries => uptoBulkEntries entries + 1
  | .held _ => 1
def uptoBulkAll {H : Type} : List (DataW H) → Nat
  | [] => 0
  | d :: r => uptoBulk d + uptoBulkAll r
def uptoBulkEntries {H : Type} : List (Lit × DataW H) → Nat
  | [] => 0
  | x :: r => uptoBulkEntry x + uptoBulkEntries r
def uptoBulkEntry {H : Type} : Lit × DataW H → Nat
  | (.string bytes, d) => bytes.length + uptoBulk d + 1
  | (_, d) => uptoBulk d + 1
 end
def uptoSmall : (H : Type) → List (DataW H) → Bool := fun _ ds => decide (uptoBulkAll ds ≤ 1048576)
def OpenSpec.upto (s : _root_.Go.ChangeSpec) : _root_.Go.OpenSpec := { _root_.Go.OpenSpec.ofChange s with cond := some uptoSmall }

/-- 'laws.FnGroups', WHERE WHAT IT READS IS OF BULK AT MOST 1048576: true; the input reads as it did. -/
def fnGroupsUptoRow : OpenClaim := { program := "ytkpfmpndaenclaa", sum := "d1aed7ba79ff3b8d6f0c21f27e7a063ec53cf6ea2b4dee7e862f02b3901208ea", func := "loop.example/g00878/laws.FnGroups", spec := "fnGroups", unfollowed := true, recurses := true, apart := false, narrowed := true }
def FnGroupsUptoSaid : Prop := fnGroupsUptoRow.holds Try.pinned (OpenSpec.upto fnGroupsSpec)

/-- 'laws.FnPowers', WHERE WHAT IT READS IS OF BULK AT MOST 1048576: true; the input reads as it did. -/
def fnPowersUptoRow : OpenClaim := { program := "ytkpfmpndaenclaa", sum := "d1aed7ba79ff3b8d6f0c21f27e7a063ec53cf6ea2b4dee7e862f02b3901208ea", func := "loop.example/g00878/laws.FnPowers", spec := "fnPowers", unfollowed := true, recurses := true, apart := false, narrowed := true }
def FnPowersUptoSaid : Prop := fnPowersUptoRow.holds Try.pinned (OpenSpec.upto fnPowersSpec)

/-- 'laws.FnTinyGroups', WHERE WHAT IT READS IS OF BULK AT MOST 1048576: true; the input reads as it did. -/
def fnTinyGroupsUptoRow : OpenClaim := { program := "ytkpfmpndaenclaa", sum := "d1aed7ba79ff3b8d6f0c21f27e7a063ec53cf6ea2b4dee7e862f02b3901208ea", func := "loop.example/g00878/laws.FnTinyGroups", spec := "fnTinyGroups", recurses := true, apart := false, narrowed := true }
def FnTinyGroupsUptoSaid : Prop := fnTinyGroupsUptoRow.holds Try.pinned (OpenSpec.upto fnTinyGroupsSpec)

/-- 'laws.FnExactHashInts', WHERE WHAT IT READS IS OF BULK AT MOST 1048576: true; the input reads as it did. -/
def fnExactHashIntsUptoRow : OpenClaim := { program := "ytkpfmpndaenclaa", sum := "d1aed7ba79ff3b8d6f0c21f27e7a063ec53cf6ea2b4dee7e862f02b3901208ea", func := "loop.example/g00878/laws.FnExactHashInts", spec := "fnExactHashInts", apart := false, narrowed := true }
def FnExactHashIntsUptoSaid : Prop := fnExactHashIntsUptoRow.holds Try.pinned (OpenSpec.upto fnExactHashIntsSpec)

/-- 'laws.FnExactHashLabelled', WHERE WHAT IT READS IS OF BULK AT MOST 1048576: true; the input reads as it did. -/
def fnExactHashLabelledUptoRow : OpenClaim := { program := "ytkpfmpndaenclaa", sum := "d1aed7ba79ff3b8d6f0c21f27e7a063ec53cf6ea2b4dee7e862f02b3901208ea", func := "loop.example/g00878/laws.FnExactHashLabelled", spec := "fnExactHashLabelled", apart := false, narrowed := true }
def FnExactHashLabelledUptoSaid : Prop := fnExactHashLabelledUptoRow.holds Try.pinned (OpenSpec.upto fnExactHashLabelledSpec)

/-- 'laws.FnExactChallenge', WHERE WHAT IT READS IS OF BULK AT MOST 1048576: true; the input reads as it did. -/
def fnExactChallengeUptoRow : OpenClaim := { program := "ytkpfmpndaenclaa", sum := "d1aed7ba79ff3b8d6f0c21f27e7a063ec53cf6ea2b4dee7e862f02b3901208ea", func := "loop.example/g00878/laws.FnExactChallenge", spec := "fnExactChallenge", apart := false, narrowed := true }
def FnExactChallengeUptoSaid : Prop := fnExactChallengeUptoRow.holds Try.pinned (OpenSpec.upto fnExactChallengeSpec)

/-- 'laws.FnExactChallenges', WHERE WHAT IT READS IS OF BULK AT MOST 1048576: true; the input reads as it did. -/
def fnExactChallengesUptoRow : OpenClaim := { program := "ytkpfmpndaenclaa", sum := "d1aed7ba79ff3b8d6f0c21f27e7a063ec53cf6ea2b4dee7e862f02b3901208ea", func := "loop.example/g00878/laws.FnExactChallenges", spec := "fnExactChallenges", apart := false, narrowed := true }
def FnExactChallengesUptoSaid : Prop := fnExactChallengesUptoRow.holds Try.pinned (OpenSpec.upto fnExactChallengesSpec)

/-- 'laws.FnExactDeriveElement', WHERE WHAT IT READS IS OF BULK AT MOST 1048576: true; the input reads as it did. -/
def fnExactDeriveElementUptoRow : OpenClaim := { program := "ytkpfmpndaenclaa", sum := "d1aed7ba79ff3b8d6f0c21f27e7a063ec53cf6ea2b4dee7e862f02b3901208ea", func := "loop.example/g00878/laws.FnExactDeriveElement", spec := "fnExactDeriveElement", apart := false, narrowed := true }
def FnExactDeriveElementUptoSaid : Prop := fnExactDeriveElementUptoRow.holds Try.pinned (OpenSpec.upto fnExactDeriveElementSpec)

/-- 'laws.FnExactDeriveElements', WHERE WHAT IT READS IS OF BULK AT MOST 1048576: true; the input reads as it did. -/
def fnExactDeriveElementsUptoRow : OpenClaim := { program := "ytkpfmpndaenclaa", sum := "d1aed7ba79ff3b8d6f0c21f27e7a063ec53cf6ea2b4dee7e862f02b3901208ea", func := "loop.example/g00878/laws.FnExactDeriveElements", spec := "fnExactDeriveElements", apart := false, narrowed := true }
def FnExactDeriveElementsUptoSaid : Prop := fnExactDeriveElementsUptoRow.holds Try.pinned (OpenSpec.upto fnExactDeriveElementsSpec)

end Rows
end Go.Proofs.Ytkpfmpndaenclaa
