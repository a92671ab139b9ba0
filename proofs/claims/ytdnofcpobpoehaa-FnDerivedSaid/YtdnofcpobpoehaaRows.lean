/-
  No cell of these rows narrows 'for every input' (looked for: loops, veiled, ifaces, maps, wideKeys, modest, calm, conditions, laid).
  DERIVED. THE GIVEN ROWS OF THIS SEAT. 12 by the template 'for every input the law returns true; each argument reads behind the call as it read before'; 0 by the template 'total and deterministic' (their statements: YtdnofcpobpoehaaTotals.lean).
  GIVEN WITH THE SEED: the statements are not yours to turn. If you find one false, say at which input.
  Laid BY PROGRAM, IN A SANDBOX (cutbox-rows.mjs): the forced cells as the released guide's own fill.sh prints them over the translation 8118bf91153ef9ac… (all of the seat's roots in one cut). By AI agents, Wed Nov 11 2026. No macro, syntax, notation, axiom, sorry.
-/
import Derived.Test.YtdnofcpobpoehaaChecked
import GoSem.Claim
import GoSem.ClaimJoined
import GoSem.ClaimMapViews
import Derived.JoinedTies
import Derived.KernelRfl
namespace Go.Proofs.Ytdnofcpobpoehaa
/- THE CELL 'sum', in the pinned program and in every row, IS THE sha256 OF THE DUMP (.gsa) THAT YtdnofcpobpoehaaProg.lean LOADS. Nothing in Lean hashes anything: it is a label: what it is worth is what the hold of that sum in a sandbox is worth. -/
noncomputable def Try.pinned : Pinned := { name := "ytdnofcpobpoehaa", sum := "8118bf91153ef9ac771046e046ffe972a9ec724e232a72e9eb08a00e9741e709", checked := Try.checked }
namespace Rows
def none {H : Type} : Left H := { results := [], args := [] }

/-- 'laws.FnExactIsValidBases': WHATEVER THE INPUT: true; the input reads as it did. -/
def fnExactIsValidBasesSpec : ChangeSpec := { name := "fnExactIsValidBases", fn := fun _ => fun
  | [d1, d2] => { results := [.lit (.bool true)], args := [d1, d2] }
  | _ => none }
def fnExactIsValidBasesRow : OpenClaim := { program := "ytdnofcpobpoehaa", sum := "8118bf91153ef9ac771046e046ffe972a9ec724e232a72e9eb08a00e9741e709", func := "loop.example/g00878/laws.FnExactIsValidBases", spec := "fnExactIsValidBases", unfollowed := true, recurses := true, apart := false }
def FnExactIsValidBasesSaid : Prop := fnExactIsValidBasesRow.holds Try.pinned (OpenSpec.ofChange fnExactIsValidBasesSpec)

/-- ITS FALSE NEIGHBOUR: 'it returns false'. Refute it at one input. -/
def fnExactIsValidBasesWrong : ChangeSpec := { name := "fnExactIsValidBases", fn := fun _ => fun
  | [d1, d2] => { results := [.lit (.bool false)], args := [d1, d2] }
  | _ => none }
def FnExactIsValidBasesWrongFalsely : Prop := fnExactIsValidBasesRow.holds Try.pinned (OpenSpec.ofChange fnExactIsValidBasesWrong)

/-- 'laws.FnExactCommit': WHATEVER THE INPUT: true; the input reads as it did. -/
def fnExactCommitSpec : ChangeSpec := { name := "fnExactCommit", fn := fun _ => fun
  | [d1, d2, d3, d4] => { results := [.lit (.bool true)], args := [d1, d2, d3, d4] }
  | _ => none }
def fnExactCommitRow : OpenClaim := { program := "ytdnofcpobpoehaa", sum := "8118bf91153ef9ac771046e046ffe972a9ec724e232a72e9eb08a00e9741e709", func := "loop.example/g00878/laws.FnExactCommit", spec := "fnExactCommit", unfollowed := true, recurses := true, apart := false }
def FnExactCommitSaid : Prop := fnExactCommitRow.holds Try.pinned (OpenSpec.ofChange fnExactCommitSpec)

/-- ITS FALSE NEIGHBOUR: 'it returns false'. Refute it at one input. -/
def fnExactCommitWrong : ChangeSpec := { name := "fnExactCommit", fn := fun _ => fun
  | [d1, d2, d3, d4] => { results := [.lit (.bool false)], args := [d1, d2, d3, d4] }
  | _ => none }
def FnExactCommitWrongFalsely : Prop := fnExactCommitRow.holds Try.pinned (OpenSpec.ofChange fnExactCommitWrong)

/-- 'laws.FnExactCheckOpening': WHATEVER THE INPUT: true; the input reads as it did. -/
def fnExactCheckOpeningSpec : ChangeSpec := { name := "fnExactCheckOpening", fn := fun _ => fun
  | [d1, d2, d3, d4, d5] => { results := [.lit (.bool true)], args := [d1, d2, d3, d4, d5] }
  | _ => none }
def fnExactCheckOpeningRow : OpenClaim := { program := "ytdnofcpobpoehaa", sum := "8118bf91153ef9ac771046e046ffe972a9ec724e232a72e9eb08a00e9741e709", func := "loop.example/g00878/laws.FnExactCheckOpening", spec := "fnExactCheckOpening", unfollowed := true, recurses := true, apart := false }
def FnExactCheckOpeningSaid : Prop := fnExactCheckOpeningRow.holds Try.pinned (OpenSpec.ofChange fnExactCheckOpeningSpec)

/-- ITS FALSE NEIGHBOUR: 'it returns false'. Refute it at one input. -/
def fnExactCheckOpeningWrong : ChangeSpec := { name := "fnExactCheckOpening", fn := fun _ => fun
  | [d1, d2, d3, d4, d5] => { results := [.lit (.bool false)], args := [d1, d2, d3, d4, d5] }
  | _ => none }
def FnExactCheckOpeningWrongFalsely : Prop := fnExactCheckOpeningRow.holds Try.pinned (OpenSpec.ofChange fnExactCheckOpeningWrong)

/-- 'laws.FnExactCommitVector': WHATEVER THE INPUT: true; the input reads as it did. -/
def fnExactCommitVectorSpec : ChangeSpec := { name := "fnExactCommitVector", fn := fun _ => fun
  | [d1, d2, d3, d4] => { results := [.lit (.bool true)], args := [d1, d2, d3, d4] }
  | _ => none }
def fnExactCommitVectorRow : OpenClaim := { program := "ytdnofcpobpoehaa", sum := "8118bf91153ef9ac771046e046ffe972a9ec724e232a72e9eb08a00e9741e709", func := "loop.example/g00878/laws.FnExactCommitVector", spec := "fnExactCommitVector", unfollowed := true, recurses := true, apart := false }
def FnExactCommitVectorSaid : Prop := fnExactCommitVectorRow.holds Try.pinned (OpenSpec.ofChange fnExactCommitVectorSpec)

/-- ITS FALSE NEIGHBOUR: 'it returns false'. Refute it at one input. -/
def fnExactCommitVectorWrong : ChangeSpec := { name := "fnExactCommitVector", fn := fun _ => fun
  | [d1, d2, d3, d4] => { results := [.lit (.bool false)], args := [d1, d2, d3, d4] }
  | _ => none }
def FnExactCommitVectorWrongFalsely : Prop := fnExactCommitVectorRow.holds Try.pinned (OpenSpec.ofChange fnExactCommitVectorWrong)

/-- 'laws.FnExactCheckVector': WHATEVER THE INPUT: true; the input reads as it did. -/
def fnExactCheckVectorSpec : ChangeSpec := { name := "fnExactCheckVector", fn := fun _ => fun
  | [d1, d2, d3, d4, d5] => { results := [.lit (.bool true)], args := [d1, d2, d3, d4, d5] }
  | _ => none }
def fnExactCheckVectorRow : OpenClaim := { program := "ytdnofcpobpoehaa", sum := "8118bf91153ef9ac771046e046ffe972a9ec724e232a72e9eb08a00e9741e709", func := "loop.example/g00878/laws.FnExactCheckVector", spec := "fnExactCheckVector", unfollowed := true, recurses := true, apart := false }
def FnExactCheckVectorSaid : Prop := fnExactCheckVectorRow.holds Try.pinned (OpenSpec.ofChange fnExactCheckVectorSpec)

/-- ITS FALSE NEIGHBOUR: 'it returns false'. Refute it at one input. -/
def fnExactCheckVectorWrong : ChangeSpec := { name := "fnExactCheckVector", fn := fun _ => fun
  | [d1, d2, d3, d4, d5] => { results := [.lit (.bool false)], args := [d1, d2, d3, d4, d5] }
  | _ => none }
def FnExactCheckVectorWrongFalsely : Prop := fnExactCheckVectorRow.holds Try.pinned (OpenSpec.ofChange fnExactCheckVectorWrong)

/-- 'laws.FnExactEquivocate': WHATEVER THE INPUT: true; the input reads as it did. -/
def fnExactEquivocateSpec : ChangeSpec := { name := "fnExactEquivocate", fn := fun _ => fun
  | [d1, d2, d3, d4, d5] => { results := [.lit (.bool true)], args := [d1, d2, d3, d4, d5] }
  | _ => none }
def fnExactEquivocateRow : OpenClaim := { program := "ytdnofcpobpoehaa", sum := "8118bf91153ef9ac771046e046ffe972a9ec724e232a72e9eb08a00e9741e709", func := "loop.example/g00878/laws.FnExactEquivocate", spec := "fnExactEquivocate", unfollowed := true, recurses := true, apart := false }
def FnExactEquivocateSaid : Prop := fnExactEquivocateRow.holds Try.pinned (OpenSpec.ofChange fnExactEquivocateSpec)

/-- ITS FALSE NEIGHBOUR: 'it returns false'. Refute it at one input. -/
def fnExactEquivocateWrong : ChangeSpec := { name := "fnExactEquivocate", fn := fun _ => fun
  | [d1, d2, d3, d4, d5] => { results := [.lit (.bool false)], args := [d1, d2, d3, d4, d5] }
  | _ => none }
def FnExactEquivocateWrongFalsely : Prop := fnExactEquivocateRow.holds Try.pinned (OpenSpec.ofChange fnExactEquivocateWrong)

/-- 'laws.FnExactProveOpening': WHATEVER THE INPUT: true; the input reads as it did. -/
def fnExactProveOpeningSpec : ChangeSpec := { name := "fnExactProveOpening", fn := fun _ => fun
  | [d1, d2, d3, d4, d5] => { results := [.lit (.bool true)], args := [d1, d2, d3, d4, d5] }
  | _ => none }
def fnExactProveOpeningRow : OpenClaim := { program := "ytdnofcpobpoehaa", sum := "8118bf91153ef9ac771046e046ffe972a9ec724e232a72e9eb08a00e9741e709", func := "loop.example/g00878/laws.FnExactProveOpening", spec := "fnExactProveOpening", unfollowed := true, recurses := true, apart := false }
def FnExactProveOpeningSaid : Prop := fnExactProveOpeningRow.holds Try.pinned (OpenSpec.ofChange fnExactProveOpeningSpec)

/-- ITS FALSE NEIGHBOUR: 'it returns false'. Refute it at one input. -/
def fnExactProveOpeningWrong : ChangeSpec := { name := "fnExactProveOpening", fn := fun _ => fun
  | [d1, d2, d3, d4, d5] => { results := [.lit (.bool false)], args := [d1, d2, d3, d4, d5] }
  | _ => none }
def FnExactProveOpeningWrongFalsely : Prop := fnExactProveOpeningRow.holds Try.pinned (OpenSpec.ofChange fnExactProveOpeningWrong)

/-- 'laws.FnExactVerifyOpening': WHATEVER THE INPUT: true; the input reads as it did. -/
def fnExactVerifyOpeningSpec : ChangeSpec := { name := "fnExactVerifyOpening", fn := fun _ => fun
  | [d1, d2, d3, d4] => { results := [.lit (.bool true)], args := [d1, d2, d3, d4] }
  | _ => none }
def fnExactVerifyOpeningRow : OpenClaim := { program := "ytdnofcpobpoehaa", sum := "8118bf91153ef9ac771046e046ffe972a9ec724e232a72e9eb08a00e9741e709", func := "loop.example/g00878/laws.FnExactVerifyOpening", spec := "fnExactVerifyOpening", unfollowed := true, recurses := true, apart := false }
def FnExactVerifyOpeningSaid : Prop := fnExactVerifyOpeningRow.holds Try.pinned (OpenSpec.ofChange fnExactVerifyOpeningSpec)

/-- ITS FALSE NEIGHBOUR: 'it returns false'. Refute it at one input. -/
def fnExactVerifyOpeningWrong : ChangeSpec := { name := "fnExactVerifyOpening", fn := fun _ => fun
  | [d1, d2, d3, d4] => { results := [.lit (.bool false)], args := [d1, d2, d3, d4] }
  | _ => none }
def FnExactVerifyOpeningWrongFalsely : Prop := fnExactVerifyOpeningRow.holds Try.pinned (OpenSpec.ofChange fnExactVerifyOpeningWrong)

/-- 'laws.FnDerived': WHATEVER THE INPUT: true; the input reads as it did. -/
def fnDerivedSpec : ChangeSpec := { name := "fnDerived", fn := fun _ => fun
  | [d1, d2] => { results := [.lit (.bool true)], args := [d1, d2] }
  | _ => none }
def fnDerivedRow : OpenClaim := { program := "ytdnofcpobpoehaa", sum := "8118bf91153ef9ac771046e046ffe972a9ec724e232a72e9eb08a00e9741e709", func := "loop.example/g00878/laws.FnDerived", spec := "fnDerived", unfollowed := true, recurses := true, apart := false }
def FnDerivedSaid : Prop := fnDerivedRow.holds Try.pinned (OpenSpec.ofChange fnDerivedSpec)

/-- ITS FALSE NEIGHBOUR: 'it returns false'. Refute it at one input. -/
def fnDerivedWrong : ChangeSpec := { name := "fnDerived", fn := fun _ => fun
  | [d1, d2] => { results := [.lit (.bool false)], args := [d1, d2] }
  | _ => none }
def FnDerivedWrongFalsely : Prop := fnDerivedRow.holds Try.pinned (OpenSpec.ofChange fnDerivedWrong)

/-- 'laws.FnCommitments': WHATEVER THE INPUT: true; the input reads as it did. -/
def fnCommitmentsSpec : ChangeSpec := { name := "fnCommitments", fn := fun _ => fun
  | [d1, d2] => { results := [.lit (.bool true)], args := [d1, d2] }
  | _ => none }
def fnCommitmentsRow : OpenClaim := { program := "ytdnofcpobpoehaa", sum := "8118bf91153ef9ac771046e046ffe972a9ec724e232a72e9eb08a00e9741e709", func := "loop.example/g00878/laws.FnCommitments", spec := "fnCommitments", unfollowed := true, recurses := true, apart := false }
def FnCommitmentsSaid : Prop := fnCommitmentsRow.holds Try.pinned (OpenSpec.ofChange fnCommitmentsSpec)

/-- ITS FALSE NEIGHBOUR: 'it returns false'. Refute it at one input. -/
def fnCommitmentsWrong : ChangeSpec := { name := "fnCommitments", fn := fun _ => fun
  | [d1, d2] => { results := [.lit (.bool false)], args := [d1, d2] }
  | _ => none }
def FnCommitmentsWrongFalsely : Prop := fnCommitmentsRow.holds Try.pinned (OpenSpec.ofChange fnCommitmentsWrong)

/-- 'laws.FnExactExtractKnowledge': WHATEVER THE INPUT: true; the input reads as it did. -/
def fnExactExtractKnowledgeSpec : ChangeSpec := { name := "fnExactExtractKnowledge", fn := fun _ => fun
  | [d1, d2, d3, d4, d5] => { results := [.lit (.bool true)], args := [d1, d2, d3, d4, d5] }
  | _ => none }
def fnExactExtractKnowledgeRow : OpenClaim := { program := "ytdnofcpobpoehaa", sum := "8118bf91153ef9ac771046e046ffe972a9ec724e232a72e9eb08a00e9741e709", func := "loop.example/g00878/laws.FnExactExtractKnowledge", spec := "fnExactExtractKnowledge", unfollowed := true, recurses := true, apart := false }
def FnExactExtractKnowledgeSaid : Prop := fnExactExtractKnowledgeRow.holds Try.pinned (OpenSpec.ofChange fnExactExtractKnowledgeSpec)

/-- ITS FALSE NEIGHBOUR: 'it returns false'. Refute it at one input. -/
def fnExactExtractKnowledgeWrong : ChangeSpec := { name := "fnExactExtractKnowledge", fn := fun _ => fun
  | [d1, d2, d3, d4, d5] => { results := [.lit (.bool false)], args := [d1, d2, d3, d4, d5] }
  | _ => none }
def FnExactExtractKnowledgeWrongFalsely : Prop := fnExactExtractKnowledgeRow.holds Try.pinned (OpenSpec.ofChange fnExactExtractKnowledgeWrong)

/-- 'laws.FnExactSimulateEqual': WHATEVER THE INPUT: true; the input reads as it did. -/
def fnExactSimulateEqualSpec : ChangeSpec := { name := "fnExactSimulateEqual", fn := fun _ => fun
  | [d1, d2, d3, d4] => { results := [.lit (.bool true)], args := [d1, d2, d3, d4] }
  | _ => none }
def fnExactSimulateEqualRow : OpenClaim := { program := "ytdnofcpobpoehaa", sum := "8118bf91153ef9ac771046e046ffe972a9ec724e232a72e9eb08a00e9741e709", func := "loop.example/g00878/laws.FnExactSimulateEqual", spec := "fnExactSimulateEqual", unfollowed := true, recurses := true, apart := false }
def FnExactSimulateEqualSaid : Prop := fnExactSimulateEqualRow.holds Try.pinned (OpenSpec.ofChange fnExactSimulateEqualSpec)

/-- ITS FALSE NEIGHBOUR: 'it returns false'. Refute it at one input. -/
def fnExactSimulateEqualWrong : ChangeSpec := { name := "fnExactSimulateEqual", fn := fun _ => fun
  | [d1, d2, d3, d4] => { results := [.lit (.bool false)], args := [d1, d2, d3, d4] }
  | _ => none }
def FnExactSimulateEqualWrongFalsely : Prop := fnExactSimulateEqualRow.holds Try.pinned (OpenSpec.ofChange fnExactSimulateEqualWrong)

/- THE SECOND FORM. 'bulk': how many values and letters a reading holds, each counted each time it is reached (what is shared counts as often as it is met; a slice's spare places count too). A statement '..UptoSaid' is the law's where the arguments, and the package variables that the reading takes, are together of bulk at most 1048576: NARROWER than '..Said'. Prove '..Said' where nothing that the law and all that it calls make is longer than what came in: it says more and counts as full. Else prove '..UptoSaid'. A law counts once. -/
mutual
def uptoBulk {H : Type} : DataW H → Nat
  | .lit (.string bytes) => bytes.length + 1
  | .lit _ => 1
  | .nil => 1
  | .ptr d => uptoBulk d + 1
  | .slice elems spare => uptoBulkAll elems + uptoBulkAll spare + 1
  | .agg parts => uptoBulkAll parts + 1
  | .iface _ d => uptoBulk d + 1
  | .map entries => uptoBulkEntries entries + 1
  | .held _ => 1
def uptoBulkAll {H : Type} : List (DataW H) → Nat
  | [] => 0
  | d :: r => uptoBulk d + uptoBulkAll r
def uptoBulkEntries {H : Type} : List (Lit × DataW H) → Nat
  | [] => 0
  | x :: r => uptoBulkEntry x + uptoBulkEntries r
def uptoBulkEntry {H : Type} : Lit × DataW H → Nat
  | (.string bytes, d) => bytes.length + uptoBulk d + 1
  | (_, d) => uptoBulk d + 1
 end
def uptoSmall : (H : Type) → List (DataW H) → Bool := fun _ ds => decide (uptoBulkAll ds ≤ 1048576)
def OpenSpec.upto (s : _root_.Go.ChangeSpec) : _root_.Go.OpenSpec := { _root_.Go.OpenSpec.ofChange s with cond := some uptoSmall }

/-- 'laws.FnExactIsValidBases', WHERE WHAT IT READS IS OF BULK AT MOST 1048576: true; the input reads as it did. -/
def fnExactIsValidBasesUptoRow : OpenClaim := { program := "ytdnofcpobpoehaa", sum := "8118bf91153ef9ac771046e046ffe972a9ec724e232a72e9eb08a00e9741e709", func := "loop.example/g00878/laws.FnExactIsValidBases", spec := "fnExactIsValidBases", unfollowed := true, recurses := true, apart := false, narrowed := true }
def FnExactIsValidBasesUptoSaid : Prop := fnExactIsValidBasesUptoRow.holds Try.pinned (OpenSpec.upto fnExactIsValidBasesSpec)

/-- 'laws.FnExactCommit', WHERE WHAT IT READS IS OF BULK AT MOST 1048576: true; the input reads as it did. -/
def fnExactCommitUptoRow : OpenClaim := { program := "ytdnofcpobpoehaa", sum := "8118bf91153ef9ac771046e046ffe972a9ec724e232a72e9eb08a00e9741e709", func := "loop.example/g00878/laws.FnExactCommit", spec := "fnExactCommit", unfollowed := true, recurses := true, apart := false, narrowed := true }
def FnExactCommitUptoSaid : Prop := fnExactCommitUptoRow.holds Try.pinned (OpenSpec.upto fnExactCommitSpec)

/-- 'laws.FnExactCheckOpening', WHERE WHAT IT READS IS OF BULK AT MOST 1048576: true; the input reads as it did. -/
def fnExactCheckOpeningUptoRow : OpenClaim := { program := "ytdnofcpobpoehaa", sum := "8118bf91153ef9ac771046e046ffe972a9ec724e232a72e9eb08a00e9741e709", func := "loop.example/g00878/laws.FnExactCheckOpening", spec := "fnExactCheckOpening", unfollowed := true, recurses := true, apart := false, narrowed := true }
def FnExactCheckOpeningUptoSaid : Prop := fnExactCheckOpeningUptoRow.holds Try.pinned (OpenSpec.upto fnExactCheckOpeningSpec)

/-- 'laws.FnExactCommitVector', WHERE WHAT IT READS IS OF BULK AT MOST 1048576: true; the input reads as it did. -/
def fnExactCommitVectorUptoRow : OpenClaim := { program := "ytdnofcpobpoehaa", sum := "8118bf91153ef9ac771046e046ffe972a9ec724e232a72e9eb08a00e9741e709", func := "loop.example/g00878/laws.FnExactCommitVector", spec := "fnExactCommitVector", unfollowed := true, recurses := true, apart := false, narrowed := true }
def FnExactCommitVectorUptoSaid : Prop := fnExactCommitVectorUptoRow.holds Try.pinned (OpenSpec.upto fnExactCommitVectorSpec)

/-- 'laws.FnExactCheckVector', WHERE WHAT IT READS IS OF BULK AT MOST 1048576: true; the input reads as it did. -/
def fnExactCheckVectorUptoRow : OpenClaim := { program := "ytdnofcpobpoehaa", sum := "8118bf91153ef9ac771046e046ffe972a9ec724e232a72e9eb08a00e9741e709", func := "loop.example/g00878/laws.FnExactCheckVector", spec := "fnExactCheckVector", unfollowed := true, recurses := true, apart := false, narrowed := true }
def FnExactCheckVectorUptoSaid : Prop := fnExactCheckVectorUptoRow.holds Try.pinned (OpenSpec.upto fnExactCheckVectorSpec)

/-- 'laws.FnExactEquivocate', WHERE WHAT IT READS IS OF BULK AT MOST 1048576: true; the input reads as it did. -/
def fnExactEquivocateUptoRow : OpenClaim := { program := "ytdnofcpobpoehaa", sum := "8118bf91153ef9ac771046e046ffe972a9ec724e232a72e9eb08a00e9741e709", func := "loop.example/g00878/laws.FnExactEquivocate", spec := "fnExactEquivocate", unfollowed := true, recurses := true, apart := false, narrowed := true }
def FnExactEquivocateUptoSaid : Prop := fnExactEquivocateUptoRow.holds Try.pinned (OpenSpec.upto fnExactEquivocateSpec)

/-- 'laws.FnExactProveOpening', WHERE WHAT IT READS IS OF BULK AT MOST 1048576: true; the input reads as it did. -/
def fnExactProveOpeningUptoRow : OpenClaim := { program := "ytdnofcpobpoehaa", sum := "8118bf91153ef9ac771046e046ffe972a9ec724e232a72e9eb08a00e9741e709", func := "loop.example/g00878/laws.FnExactProveOpening", spec := "fnExactProveOpening", unfollowed := true, recurses := true, apart := false, narrowed := true }
def FnExactProveOpeningUptoSaid : Prop := fnExactProveOpeningUptoRow.holds Try.pinned (OpenSpec.upto fnExactProveOpeningSpec)

/-- 'laws.FnExactVerifyOpening', WHERE WHAT IT READS IS OF BULK AT MOST 1048576: true; the input reads as it did. -/
def fnExactVerifyOpeningUptoRow : OpenClaim := { program := "ytdnofcpobpoehaa", sum := "8118bf91153ef9ac771046e046ffe972a9ec724e232a72e9eb08a00e9741e709", func := "loop.example/g00878/laws.FnExactVerifyOpening", spec := "fnExactVerifyOpening", unfollowed := true, recurses := true, apart := false, narrowed := true }
def FnExactVerifyOpeningUptoSaid : Prop := fnExactVerifyOpeningUptoRow.holds Try.pinned (OpenSpec.upto fnExactVerifyOpeningSpec)

/-- 'laws.FnDerived', WHERE WHAT IT READS IS OF BULK AT MOST 1048576: true; the input reads as it did. -/
def fnDerivedUptoRow : OpenClaim := { program := "ytdnofcpobpoehaa", sum := "8118bf91153ef9ac771046e046ffe972a9ec724e232a72e9eb08a00e9741e709", func := "loop.example/g00878/laws.FnDerived", spec := "fnDerived", unfollowed := true, recurses := true, apart := false, narrowed := true }
def FnDerivedUptoSaid : Prop := fnDerivedUptoRow.holds Try.pinned (OpenSpec.upto fnDerivedSpec)

/-- 'laws.FnCommitments', WHERE WHAT IT READS IS OF BULK AT MOST 1048576: true; the input reads as it did. -/
def fnCommitmentsUptoRow : OpenClaim := { program := "ytdnofcpobpoehaa", sum := "8118bf91153ef9ac771046e046ffe972a9ec724e232a72e9eb08a00e9741e709", func := "loop.example/g00878/laws.FnCommitments", spec := "fnCommitments", unfollowed := true, recurses := true, apart := false, narrowed := true }
def FnCommitmentsUptoSaid : Prop := fnCommitmentsUptoRow.holds Try.pinned (OpenSpec.upto fnCommitmentsSpec)

/-- 'laws.FnExactExtractKnowledge', WHERE WHAT IT READS IS OF BULK AT MOST 1048576: true; the input reads as it did. -/
def fnExactExtractKnowledgeUptoRow : OpenClaim := { program := "ytdnofcpobpoehaa", sum := "8118bf91153ef9ac771046e046ffe972a9ec724e232a72e9eb08a00e9741e709", func := "loop.example/g00878/laws.FnExactExtractKnowledge", spec := "fnExactExtractKnowledge", unfollowed := true, recurses := true, apart := false, narrowed := true }
def FnExactExtractKnowledgeUptoSaid : Prop := fnExactExtractKnowledgeUptoRow.holds Try.pinned (OpenSpec.upto fnExactExtractKnowledgeSpec)

/-- 'laws.FnExactSimulateEqual', WHERE WHAT IT READS IS OF BULK AT MOST 1048576: true; the input reads as it did. -/
def fnExactSimulateEqualUptoRow : OpenClaim := { program := "ytdnofcpobpoehaa", sum := "8118bf91153ef9ac771046e046ffe972a9ec724e232a72e9eb08a00e9741e709", func := "loop.example/g00878/laws.FnExactSimulateEqual", spec := "fnExactSimulateEqual", unfollowed := true, recurses := true, apart := false, narrowed := true }
def FnExactSimulateEqualUptoSaid : Prop := fnExactSimulateEqualUptoRow.holds Try.pinned (OpenSpec.upto fnExactSimulateEqualSpec)

end Rows
end Go.Proofs.Ytdnofcpobpoehaa
