/-
  No cell of these rows narrows 'for every input' (looked for: loops, veiled, ifaces, maps, wideKeys, modest, calm, conditions, laid).
  DERIVED. THE GIVEN ROWS OF THIS SEAT. 9 by the template 'for every input the law returns true; each argument reads behind the call as it read before'; 0 by the template 'total and deterministic' (their statements: YtmiohdibbpckaaaTotals.lean).
  GIVEN WITH THE SEED: the statements are not yours to turn. If you find one false, say at which input.
  Laid BY PROGRAM, IN A SANDBOX (cutbox-rows.mjs): the forced cells as the released guide's own fill.sh prints them over the translation 55ecb63fc7c74ede… (all of the seat's roots in one cut). By AI agents, Wed Nov 11 2026. No macro, syntax, notation, axiom, sorry.
-/
import Derived.Test.YtmiohdibbpckaaaChecked
import GoSem.Claim
import GoSem.ClaimJoined
import GoSem.ClaimMapViews
import Derived.JoinedTies
import Derived.KernelRfl
namespace Go.Proofs.Ytmiohdibbpckaaa
/- THE CELL 'sum', in the pinned program and in every row, IS THE sha256 OF THE DUMP (.gsa) THAT YtmiohdibbpckaaaProg.lean LOADS. Nothing in Lean hashes anything: it is a label: what it is worth is what the hold of that sum in a sandbox is worth. -/
noncomputable def Try.pinned : Pinned := { name := "ytmiohdibbpckaaa", sum := "55ecb63fc7c74edeadcd323f6504eefbe2df6f56b002dededa47ac78c34919e3", checked := Try.checked }
namespace Rows
def none {H : Type} : Left H := { results := [], args := [] }

/-- 'laws.FnExactEncodeProof': WHATEVER THE INPUT: true; the input reads as it did. -/
def fnExactEncodeProofSpec : ChangeSpec := { name := "fnExactEncodeProof", fn := fun _ => fun
  | [d] => { results := [.lit (.bool true)], args := [d] }
  | _ => none }
def fnExactEncodeProofRow : OpenClaim := { program := "ytmiohdibbpckaaa", sum := "55ecb63fc7c74edeadcd323f6504eefbe2df6f56b002dededa47ac78c34919e3", func := "loop.example/g00878/laws.FnExactEncodeProof", spec := "fnExactEncodeProof", apart := false }
def FnExactEncodeProofSaid : Prop := fnExactEncodeProofRow.holds Try.pinned (OpenSpec.ofChange fnExactEncodeProofSpec)

/-- ITS FALSE NEIGHBOUR: 'it returns false'. Refute it at one input. -/
def fnExactEncodeProofWrong : ChangeSpec := { name := "fnExactEncodeProof", fn := fun _ => fun
  | [d] => { results := [.lit (.bool false)], args := [d] }
  | _ => none }
def FnExactEncodeProofWrongFalsely : Prop := fnExactEncodeProofRow.holds Try.pinned (OpenSpec.ofChange fnExactEncodeProofWrong)

/-- 'laws.FnExactDecodeProof': WHATEVER THE INPUT: true; the input reads as it did. -/
def fnExactDecodeProofSpec : ChangeSpec := { name := "fnExactDecodeProof", fn := fun _ => fun
  | [d] => { results := [.lit (.bool true)], args := [d] }
  | _ => none }
def fnExactDecodeProofRow : OpenClaim := { program := "ytmiohdibbpckaaa", sum := "55ecb63fc7c74edeadcd323f6504eefbe2df6f56b002dededa47ac78c34919e3", func := "loop.example/g00878/laws.FnExactDecodeProof", spec := "fnExactDecodeProof", apart := false }
def FnExactDecodeProofSaid : Prop := fnExactDecodeProofRow.holds Try.pinned (OpenSpec.ofChange fnExactDecodeProofSpec)

/-- ITS FALSE NEIGHBOUR: 'it returns false'. Refute it at one input. -/
def fnExactDecodeProofWrong : ChangeSpec := { name := "fnExactDecodeProof", fn := fun _ => fun
  | [d] => { results := [.lit (.bool false)], args := [d] }
  | _ => none }
def FnExactDecodeProofWrongFalsely : Prop := fnExactDecodeProofRow.holds Try.pinned (OpenSpec.ofChange fnExactDecodeProofWrong)

/-- 'laws.FnExactEncodeCiphers': WHATEVER THE INPUT: true; the input reads as it did. -/
def fnExactEncodeCiphersSpec : ChangeSpec := { name := "fnExactEncodeCiphers", fn := fun _ => fun
  | [d] => { results := [.lit (.bool true)], args := [d] }
  | _ => none }
def fnExactEncodeCiphersRow : OpenClaim := { program := "ytmiohdibbpckaaa", sum := "55ecb63fc7c74edeadcd323f6504eefbe2df6f56b002dededa47ac78c34919e3", func := "loop.example/g00878/laws.FnExactEncodeCiphers", spec := "fnExactEncodeCiphers", apart := false }
def FnExactEncodeCiphersSaid : Prop := fnExactEncodeCiphersRow.holds Try.pinned (OpenSpec.ofChange fnExactEncodeCiphersSpec)

/-- ITS FALSE NEIGHBOUR: 'it returns false'. Refute it at one input. -/
def fnExactEncodeCiphersWrong : ChangeSpec := { name := "fnExactEncodeCiphers", fn := fun _ => fun
  | [d] => { results := [.lit (.bool false)], args := [d] }
  | _ => none }
def FnExactEncodeCiphersWrongFalsely : Prop := fnExactEncodeCiphersRow.holds Try.pinned (OpenSpec.ofChange fnExactEncodeCiphersWrong)

/-- 'laws.FnExactDecodeCiphers': WHATEVER THE INPUT: true; the input reads as it did. -/
def fnExactDecodeCiphersSpec : ChangeSpec := { name := "fnExactDecodeCiphers", fn := fun _ => fun
  | [d] => { results := [.lit (.bool true)], args := [d] }
  | _ => none }
def fnExactDecodeCiphersRow : OpenClaim := { program := "ytmiohdibbpckaaa", sum := "55ecb63fc7c74edeadcd323f6504eefbe2df6f56b002dededa47ac78c34919e3", func := "loop.example/g00878/laws.FnExactDecodeCiphers", spec := "fnExactDecodeCiphers", apart := false }
def FnExactDecodeCiphersSaid : Prop := fnExactDecodeCiphersRow.holds Try.pinned (OpenSpec.ofChange fnExactDecodeCiphersSpec)

/-- ITS FALSE NEIGHBOUR: 'it returns false'. Refute it at one input. -/
def fnExactDecodeCiphersWrong : ChangeSpec := { name := "fnExactDecodeCiphers", fn := fun _ => fun
  | [d] => { results := [.lit (.bool false)], args := [d] }
  | _ => none }
def FnExactDecodeCiphersWrongFalsely : Prop := fnExactDecodeCiphersRow.holds Try.pinned (OpenSpec.ofChange fnExactDecodeCiphersWrong)

/-- 'laws.FnExactEncodeText': WHATEVER THE INPUT: true; the input reads as it did. -/
def fnExactEncodeTextSpec : ChangeSpec := { name := "fnExactEncodeText", fn := fun _ => fun
  | [d] => { results := [.lit (.bool true)], args := [d] }
  | _ => none }
def fnExactEncodeTextRow : OpenClaim := { program := "ytmiohdibbpckaaa", sum := "55ecb63fc7c74edeadcd323f6504eefbe2df6f56b002dededa47ac78c34919e3", func := "loop.example/g00878/laws.FnExactEncodeText", spec := "fnExactEncodeText", apart := false }
def FnExactEncodeTextSaid : Prop := fnExactEncodeTextRow.holds Try.pinned (OpenSpec.ofChange fnExactEncodeTextSpec)

/-- ITS FALSE NEIGHBOUR: 'it returns false'. Refute it at one input. -/
def fnExactEncodeTextWrong : ChangeSpec := { name := "fnExactEncodeText", fn := fun _ => fun
  | [d] => { results := [.lit (.bool false)], args := [d] }
  | _ => none }
def FnExactEncodeTextWrongFalsely : Prop := fnExactEncodeTextRow.holds Try.pinned (OpenSpec.ofChange fnExactEncodeTextWrong)

/-- 'laws.FnExactDecodeText': WHATEVER THE INPUT: true; the input reads as it did. -/
def fnExactDecodeTextSpec : ChangeSpec := { name := "fnExactDecodeText", fn := fun _ => fun
  | [d] => { results := [.lit (.bool true)], args := [d] }
  | _ => none }
def fnExactDecodeTextRow : OpenClaim := { program := "ytmiohdibbpckaaa", sum := "55ecb63fc7c74edeadcd323f6504eefbe2df6f56b002dededa47ac78c34919e3", func := "loop.example/g00878/laws.FnExactDecodeText", spec := "fnExactDecodeText", apart := false }
def FnExactDecodeTextSaid : Prop := fnExactDecodeTextRow.holds Try.pinned (OpenSpec.ofChange fnExactDecodeTextSpec)

/-- ITS FALSE NEIGHBOUR: 'it returns false'. Refute it at one input. -/
def fnExactDecodeTextWrong : ChangeSpec := { name := "fnExactDecodeText", fn := fun _ => fun
  | [d] => { results := [.lit (.bool false)], args := [d] }
  | _ => none }
def FnExactDecodeTextWrongFalsely : Prop := fnExactDecodeTextRow.holds Try.pinned (OpenSpec.ofChange fnExactDecodeTextWrong)

/-- 'laws.FnExactJoinRecords': WHATEVER THE INPUT: true; the input reads as it did. -/
def fnExactJoinRecordsSpec : ChangeSpec := { name := "fnExactJoinRecords", fn := fun _ => fun
  | [d] => { results := [.lit (.bool true)], args := [d] }
  | _ => none }
def fnExactJoinRecordsRow : OpenClaim := { program := "ytmiohdibbpckaaa", sum := "55ecb63fc7c74edeadcd323f6504eefbe2df6f56b002dededa47ac78c34919e3", func := "loop.example/g00878/laws.FnExactJoinRecords", spec := "fnExactJoinRecords", apart := false }
def FnExactJoinRecordsSaid : Prop := fnExactJoinRecordsRow.holds Try.pinned (OpenSpec.ofChange fnExactJoinRecordsSpec)

/-- ITS FALSE NEIGHBOUR: 'it returns false'. Refute it at one input. -/
def fnExactJoinRecordsWrong : ChangeSpec := { name := "fnExactJoinRecords", fn := fun _ => fun
  | [d] => { results := [.lit (.bool false)], args := [d] }
  | _ => none }
def FnExactJoinRecordsWrongFalsely : Prop := fnExactJoinRecordsRow.holds Try.pinned (OpenSpec.ofChange fnExactJoinRecordsWrong)

/-- 'laws.FnExactSplitRecords': WHATEVER THE INPUT: true; the input reads as it did. -/
def fnExactSplitRecordsSpec : ChangeSpec := { name := "fnExactSplitRecords", fn := fun _ => fun
  | [d] => { results := [.lit (.bool true)], args := [d] }
  | _ => none }
def fnExactSplitRecordsRow : OpenClaim := { program := "ytmiohdibbpckaaa", sum := "55ecb63fc7c74edeadcd323f6504eefbe2df6f56b002dededa47ac78c34919e3", func := "loop.example/g00878/laws.FnExactSplitRecords", spec := "fnExactSplitRecords", apart := false }
def FnExactSplitRecordsSaid : Prop := fnExactSplitRecordsRow.holds Try.pinned (OpenSpec.ofChange fnExactSplitRecordsSpec)

/-- ITS FALSE NEIGHBOUR: 'it returns false'. Refute it at one input. -/
def fnExactSplitRecordsWrong : ChangeSpec := { name := "fnExactSplitRecords", fn := fun _ => fun
  | [d] => { results := [.lit (.bool false)], args := [d] }
  | _ => none }
def FnExactSplitRecordsWrongFalsely : Prop := fnExactSplitRecordsRow.holds Try.pinned (OpenSpec.ofChange fnExactSplitRecordsWrong)

/-- 'laws.FnExactParseList': WHATEVER THE INPUT: true; the input reads as it did. -/
def fnExactParseListSpec : ChangeSpec := { name := "fnExactParseList", fn := fun _ => fun
  | [d] => { results := [.lit (.bool true)], args := [d] }
  | _ => none }
def fnExactParseListRow : OpenClaim := { program := "ytmiohdibbpckaaa", sum := "55ecb63fc7c74edeadcd323f6504eefbe2df6f56b002dededa47ac78c34919e3", func := "loop.example/g00878/laws.FnExactParseList", spec := "fnExactParseList", apart := false }
def FnExactParseListSaid : Prop := fnExactParseListRow.holds Try.pinned (OpenSpec.ofChange fnExactParseListSpec)

/-- ITS FALSE NEIGHBOUR: 'it returns false'. Refute it at one input. -/
def fnExactParseListWrong : ChangeSpec := { name := "fnExactParseList", fn := fun _ => fun
  | [d] => { results := [.lit (.bool false)], args := [d] }
  | _ => none }
def FnExactParseListWrongFalsely : Prop := fnExactParseListRow.holds Try.pinned (OpenSpec.ofChange fnExactParseListWrong)

/- THE SECOND FORM. 'bulk': how many values and letters a reading holds, each counted each time it is reached (what is shared counts as often as it is met; a slice's spare places count too). A statement '..UptoSaid' is the law's where the arguments, and the package variables that the reading takes, are together of bulk at most 1048576: NARROWER than '..Said'. Prove '..Said' where nothing that the law and all that it calls make is longer than what came in: it says more and counts as full. Else prove '..UptoSaid'. A law counts once. -/
mutual
def uptoBulk {H : Type} : DataW H → Nat
  | .lit (.string bytes) => bytes.length + 1
  | .lit _ => 1
  | .nil => 1
  | .ptr d => uptoBulk d + 1
  | .slice elems spare => uptoBulkAll elems + uptoBulkAll spare + 1
  | .agg parts => uptoBulkAll parts + 1
  | .iface _ d => uptoBulk d + 1
  | .map entries => uptoBulkEntries entries + 1
  | .held _ => 1
def uptoBulkAll {H : Type} : List (DataW H) → Nat
  | [] => 0
  | d :: r => uptoBulk d + uptoBulkAll r
def uptoBulkEntries {H : Type} : List (Lit × DataW H) → Nat
  | [] => 0
  | x :: r => uptoBulkEntry x + uptoBulkEntries r
def uptoBulkEntry {H : Type} : Lit × DataW H → Nat
  | (.string bytes, d) => bytes.length + uptoBulk d + 1
  | (_, d) => uptoBulk d + 1
 end
def uptoSmall : (H : Type) → List (DataW H) → Bool := fun _ ds => decide (uptoBulkAll ds ≤ 1048576)
def OpenSpec.upto (s : _root_.Go.ChangeSpec) : _root_.Go.OpenSpec := { _root_.Go.OpenSpec.ofChange s with cond := some uptoSmall }

/-- 'laws.FnExactEncodeProof', WHERE WHAT IT READS IS OF BULK AT MOST 1048576: true; the input reads as it did. -/
def fnExactEncodeProofUptoRow : OpenClaim := { program := "ytmiohdibbpckaaa", sum := "55ecb63fc7c74edeadcd323f6504eefbe2df6f56b002dededa47ac78c34919e3", func := "loop.example/g00878/laws.FnExactEncodeProof", spec := "fnExactEncodeProof", apart := false, narrowed := true }
def FnExactEncodeProofUptoSaid : Prop := fnExactEncodeProofUptoRow.holds Try.pinned (OpenSpec.upto fnExactEncodeProofSpec)

/-- 'laws.FnExactDecodeProof', WHERE WHAT IT READS IS OF BULK AT MOST 1048576: true; the input reads as it did. -/
def fnExactDecodeProofUptoRow : OpenClaim := { program := "ytmiohdibbpckaaa", sum := "55ecb63fc7c74edeadcd323f6504eefbe2df6f56b002dededa47ac78c34919e3", func := "loop.example/g00878/laws.FnExactDecodeProof", spec := "fnExactDecodeProof", apart := false, narrowed := true }
def FnExactDecodeProofUptoSaid : Prop := fnExactDecodeProofUptoRow.holds Try.pinned (OpenSpec.upto fnExactDecodeProofSpec)

/-- 'laws.FnExactEncodeCiphers', WHERE WHAT IT READS IS OF BULK AT MOST 1048576: true; the input reads as it did. -/
def fnExactEncodeCiphersUptoRow : OpenClaim := { program := "ytmiohdibbpckaaa", sum := "55ecb63fc7c74edeadcd323f6504eefbe2df6f56b002dededa47ac78c34919e3", func := "loop.example/g00878/laws.FnExactEncodeCiphers", spec := "fnExactEncodeCiphers", apart := false, narrowed := true }
def FnExactEncodeCiphersUptoSaid : Prop := fnExactEncodeCiphersUptoRow.holds Try.pinned (OpenSpec.upto fnExactEncodeCiphersSpec)

/-- 'laws.FnExactDecodeCiphers', WHERE WHAT IT READS IS OF BULK AT MOST 1048576: true; the input reads as it did. -/
def fnExactDecodeCiphersUptoRow : OpenClaim := { program := "ytmiohdibbpckaaa", sum := "55ecb63fc7c74edeadcd323f6504eefbe2df6f56b002dededa47ac78c34919e3", func := "loop.example/g00878/laws.FnExactDecodeCiphers", spec := "fnExactDecodeCiphers", apart := false, narrowed := true }
def FnExactDecodeCiphersUptoSaid : Prop := fnExactDecodeCiphersUptoRow.holds Try.pinned (OpenSpec.upto fnExactDecodeCiphersSpec)

/-- 'laws.FnExactEncodeText', WHERE WHAT IT READS IS OF BULK AT MOST 1048576: true; the input reads as it did. -/
def fnExactEncodeTextUptoRow : OpenClaim := { program := "ytmiohdibbpckaaa", sum := "55ecb63fc7c74edeadcd323f6504eefbe2df6f56b002dededa47ac78c34919e3", func := "loop.example/g00878/laws.FnExactEncodeText", spec := "fnExactEncodeText", apart := false, narrowed := true }
def FnExactEncodeTextUptoSaid : Prop := fnExactEncodeTextUptoRow.holds Try.pinned (OpenSpec.upto fnExactEncodeTextSpec)

/-- 'laws.FnExactDecodeText', WHERE WHAT IT READS IS OF BULK AT MOST 1048576: true; the input reads as it did. -/
def fnExactDecodeTextUptoRow : OpenClaim := { program := "ytmiohdibbpckaaa", sum := "55ecb63fc7c74edeadcd323f6504eefbe2df6f56b002dededa47ac78c34919e3", func := "loop.example/g00878/laws.FnExactDecodeText", spec := "fnExactDecodeText", apart := false, narrowed := true }
def FnExactDecodeTextUptoSaid : Prop := fnExactDecodeTextUptoRow.holds Try.pinned (OpenSpec.upto fnExactDecodeTextSpec)

/-- 'laws.FnExactJoinRecords', WHERE WHAT IT READS IS OF BULK AT MOST 1048576: true; the input reads as it did. -/
def fnExactJoinRecordsUptoRow : OpenClaim := { program := "ytmiohdibbpckaaa", sum := "55ecb63fc7c74edeadcd323f6504eefbe2df6f56b002dededa47ac78c34919e3", func := "loop.example/g00878/laws.FnExactJoinRecords", spec := "fnExactJoinRecords", apart := false, narrowed := true }
def FnExactJoinRecordsUptoSaid : Prop := fnExactJoinRecordsUptoRow.holds Try.pinned (OpenSpec.upto fnExactJoinRecordsSpec)

/-- 'laws.FnExactSplitRecords', WHERE WHAT IT READS IS OF BULK AT MOST 1048576: true; the input reads as it did. -/
def fnExactSplitRecordsUptoRow : OpenClaim := { program := "ytmiohdibbpckaaa", sum := "55ecb63fc7c74edeadcd323f6504eefbe2df6f56b002dededa47ac78c34919e3", func := "loop.example/g00878/laws.FnExactSplitRecords", spec := "fnExactSplitRecords", apart := false, narrowed := true }
def FnExactSplitRecordsUptoSaid : Prop := fnExactSplitRecordsUptoRow.holds Try.pinned (OpenSpec.upto fnExactSplitRecordsSpec)

/-- 'laws.FnExactParseList', WHERE WHAT IT READS IS OF BULK AT MOST 1048576: true; the input reads as it did. -/
def fnExactParseListUptoRow : OpenClaim := { program := "ytmiohdibbpckaaa", sum := "55ecb63fc7c74edeadcd323f6504eefbe2df6f56b002dededa47ac78c34919e3", func := "loop.example/g00878/laws.FnExactParseList", spec := "fnExactParseList", apart := false, narrowed := true }
def FnExactParseListUptoSaid : Prop := fnExactParseListUptoRow.holds Try.pinned (OpenSpec.upto fnExactParseListSpec)

end Rows
end Go.Proofs.Ytmiohdibbpckaaa
