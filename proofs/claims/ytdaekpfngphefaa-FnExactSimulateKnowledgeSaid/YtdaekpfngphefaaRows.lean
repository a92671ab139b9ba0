/-
  No cell of these rows narrows 'for every input' (looked for: loops, veiled, ifaces, maps, wideKeys, modest, calm, conditions, laid).
  DERIVED. THE GIVEN ROWS OF THIS SEAT. 12 by the template 'for every input the law returns true; each argument reads behind the call as it read before'; 0 by the template 'total and deterministic' (their statements: YtdaekpfngphefaaTotals.lean).
  GIVEN WITH THE SEED: the statements are not yours to turn. If you find one false, say at which input.
  Laid BY PROGRAM, IN A SANDBOX (cutbox-rows.mjs): the forced cells as the released guide's own fill.sh prints them over the translation 36500e4f082734ff… (all of the seat's roots in one cut). By AI agents, Wed Nov 11 2026. No macro, syntax, notation, axiom, sorry.
-/
import Derived.Test.YtdaekpfngphefaaChecked
import GoSem.Claim
import GoSem.ClaimJoined
import GoSem.ClaimMapViews
import Derived.JoinedTies
import Derived.KernelRfl
namespace Go.Proofs.Ytdaekpfngphefaa
/- THE CELL 'sum', in the pinned program and in every row, IS THE sha256 OF THE DUMP (.gsa) THAT YtdaekpfngphefaaProg.lean LOADS. Nothing in Lean hashes anything: it is a label: what it is worth is what the hold of that sum in a sandbox is worth. -/
noncomputable def Try.pinned : Pinned := { name := "ytdaekpfngphefaa", sum := "36500e4f082734ff92d20ec80b3741f26bf504305477afa75ff6c78e2366c64a", checked := Try.checked }
namespace Rows
def none {H : Type} : Left H := { results := [], args := [] }

/-- 'laws.FnExactVerifyLinear': WHATEVER THE INPUT: true; the input reads as it did. -/
def fnExactVerifyLinearSpec : ChangeSpec := { name := "fnExactVerifyLinear", fn := fun _ => fun
  | [d1, d2, d3, d4, d5] => { results := [.lit (.bool true)], args := [d1, d2, d3, d4, d5] }
  | _ => none }
def fnExactVerifyLinearRow : OpenClaim := { program := "ytdaekpfngphefaa", sum := "36500e4f082734ff92d20ec80b3741f26bf504305477afa75ff6c78e2366c64a", func := "loop.example/g00878/laws.FnExactVerifyLinear", spec := "fnExactVerifyLinear", unfollowed := true, recurses := true, apart := false }
def FnExactVerifyLinearSaid : Prop := fnExactVerifyLinearRow.holds Try.pinned (OpenSpec.ofChange fnExactVerifyLinearSpec)

/-- ITS FALSE NEIGHBOUR: 'it returns false'. Refute it at one input. -/
def fnExactVerifyLinearWrong : ChangeSpec := { name := "fnExactVerifyLinear", fn := fun _ => fun
  | [d1, d2, d3, d4, d5] => { results := [.lit (.bool false)], args := [d1, d2, d3, d4, d5] }
  | _ => none }
def FnExactVerifyLinearWrongFalsely : Prop := fnExactVerifyLinearRow.holds Try.pinned (OpenSpec.ofChange fnExactVerifyLinearWrong)

/-- 'laws.FnExactVerifyKnowledge': WHATEVER THE INPUT: true; the input reads as it did. -/
def fnExactVerifyKnowledgeSpec : ChangeSpec := { name := "fnExactVerifyKnowledge", fn := fun _ => fun
  | [d1, d2, d3, d4, d5] => { results := [.lit (.bool true)], args := [d1, d2, d3, d4, d5] }
  | _ => none }
def fnExactVerifyKnowledgeRow : OpenClaim := { program := "ytdaekpfngphefaa", sum := "36500e4f082734ff92d20ec80b3741f26bf504305477afa75ff6c78e2366c64a", func := "loop.example/g00878/laws.FnExactVerifyKnowledge", spec := "fnExactVerifyKnowledge", unfollowed := true, recurses := true, apart := false }
def FnExactVerifyKnowledgeSaid : Prop := fnExactVerifyKnowledgeRow.holds Try.pinned (OpenSpec.ofChange fnExactVerifyKnowledgeSpec)

/-- ITS FALSE NEIGHBOUR: 'it returns false'. Refute it at one input. -/
def fnExactVerifyKnowledgeWrong : ChangeSpec := { name := "fnExactVerifyKnowledge", fn := fun _ => fun
  | [d1, d2, d3, d4, d5] => { results := [.lit (.bool false)], args := [d1, d2, d3, d4, d5] }
  | _ => none }
def FnExactVerifyKnowledgeWrongFalsely : Prop := fnExactVerifyKnowledgeRow.holds Try.pinned (OpenSpec.ofChange fnExactVerifyKnowledgeWrong)

/-- 'laws.FnExactVerifyEqual': WHATEVER THE INPUT: true; the input reads as it did. -/
def fnExactVerifyEqualSpec : ChangeSpec := { name := "fnExactVerifyEqual", fn := fun _ => fun
  | [d1, d2, d3, d4] => { results := [.lit (.bool true)], args := [d1, d2, d3, d4] }
  | _ => none }
def fnExactVerifyEqualRow : OpenClaim := { program := "ytdaekpfngphefaa", sum := "36500e4f082734ff92d20ec80b3741f26bf504305477afa75ff6c78e2366c64a", func := "loop.example/g00878/laws.FnExactVerifyEqual", spec := "fnExactVerifyEqual", unfollowed := true, recurses := true, apart := false }
def FnExactVerifyEqualSaid : Prop := fnExactVerifyEqualRow.holds Try.pinned (OpenSpec.ofChange fnExactVerifyEqualSpec)

/-- ITS FALSE NEIGHBOUR: 'it returns false'. Refute it at one input. -/
def fnExactVerifyEqualWrong : ChangeSpec := { name := "fnExactVerifyEqual", fn := fun _ => fun
  | [d1, d2, d3, d4] => { results := [.lit (.bool false)], args := [d1, d2, d3, d4] }
  | _ => none }
def FnExactVerifyEqualWrongFalsely : Prop := fnExactVerifyEqualRow.holds Try.pinned (OpenSpec.ofChange fnExactVerifyEqualWrong)

/-- 'laws.FnExactVerifyOneOf': WHATEVER THE INPUT: true; the input reads as it did. -/
def fnExactVerifyOneOfSpec : ChangeSpec := { name := "fnExactVerifyOneOf", fn := fun _ => fun
  | [d1, d2, d3, d4] => { results := [.lit (.bool true)], args := [d1, d2, d3, d4] }
  | _ => none }
def fnExactVerifyOneOfRow : OpenClaim := { program := "ytdaekpfngphefaa", sum := "36500e4f082734ff92d20ec80b3741f26bf504305477afa75ff6c78e2366c64a", func := "loop.example/g00878/laws.FnExactVerifyOneOf", spec := "fnExactVerifyOneOf", unfollowed := true, recurses := true, apart := false }
def FnExactVerifyOneOfSaid : Prop := fnExactVerifyOneOfRow.holds Try.pinned (OpenSpec.ofChange fnExactVerifyOneOfSpec)

/-- ITS FALSE NEIGHBOUR: 'it returns false'. Refute it at one input. -/
def fnExactVerifyOneOfWrong : ChangeSpec := { name := "fnExactVerifyOneOf", fn := fun _ => fun
  | [d1, d2, d3, d4] => { results := [.lit (.bool false)], args := [d1, d2, d3, d4] }
  | _ => none }
def FnExactVerifyOneOfWrongFalsely : Prop := fnExactVerifyOneOfRow.holds Try.pinned (OpenSpec.ofChange fnExactVerifyOneOfWrong)

/-- 'laws.FnExactProveLinear': WHATEVER THE INPUT: true; the input reads as it did. -/
def fnExactProveLinearSpec : ChangeSpec := { name := "fnExactProveLinear", fn := fun _ => fun
  | [d1, d2, d3, d4, d5] => { results := [.lit (.bool true)], args := [d1, d2, d3, d4, d5] }
  | _ => none }
def fnExactProveLinearRow : OpenClaim := { program := "ytdaekpfngphefaa", sum := "36500e4f082734ff92d20ec80b3741f26bf504305477afa75ff6c78e2366c64a", func := "loop.example/g00878/laws.FnExactProveLinear", spec := "fnExactProveLinear", unfollowed := true, recurses := true, apart := false }
def FnExactProveLinearSaid : Prop := fnExactProveLinearRow.holds Try.pinned (OpenSpec.ofChange fnExactProveLinearSpec)

/-- ITS FALSE NEIGHBOUR: 'it returns false'. Refute it at one input. -/
def fnExactProveLinearWrong : ChangeSpec := { name := "fnExactProveLinear", fn := fun _ => fun
  | [d1, d2, d3, d4, d5] => { results := [.lit (.bool false)], args := [d1, d2, d3, d4, d5] }
  | _ => none }
def FnExactProveLinearWrongFalsely : Prop := fnExactProveLinearRow.holds Try.pinned (OpenSpec.ofChange fnExactProveLinearWrong)

/-- 'laws.FnExactProveKnowledge': WHATEVER THE INPUT: true; the input reads as it did. -/
def fnExactProveKnowledgeSpec : ChangeSpec := { name := "fnExactProveKnowledge", fn := fun _ => fun
  | [d1, d2, d3, d4, d5] => { results := [.lit (.bool true)], args := [d1, d2, d3, d4, d5] }
  | _ => none }
def fnExactProveKnowledgeRow : OpenClaim := { program := "ytdaekpfngphefaa", sum := "36500e4f082734ff92d20ec80b3741f26bf504305477afa75ff6c78e2366c64a", func := "loop.example/g00878/laws.FnExactProveKnowledge", spec := "fnExactProveKnowledge", unfollowed := true, recurses := true, apart := false }
def FnExactProveKnowledgeSaid : Prop := fnExactProveKnowledgeRow.holds Try.pinned (OpenSpec.ofChange fnExactProveKnowledgeSpec)

/-- ITS FALSE NEIGHBOUR: 'it returns false'. Refute it at one input. -/
def fnExactProveKnowledgeWrong : ChangeSpec := { name := "fnExactProveKnowledge", fn := fun _ => fun
  | [d1, d2, d3, d4, d5] => { results := [.lit (.bool false)], args := [d1, d2, d3, d4, d5] }
  | _ => none }
def FnExactProveKnowledgeWrongFalsely : Prop := fnExactProveKnowledgeRow.holds Try.pinned (OpenSpec.ofChange fnExactProveKnowledgeWrong)

/-- 'laws.FnExactProveEqual': WHATEVER THE INPUT: true; the input reads as it did. -/
def fnExactProveEqualSpec : ChangeSpec := { name := "fnExactProveEqual", fn := fun _ => fun
  | [d1, d2, d3, d4, d5] => { results := [.lit (.bool true)], args := [d1, d2, d3, d4, d5] }
  | _ => none }
def fnExactProveEqualRow : OpenClaim := { program := "ytdaekpfngphefaa", sum := "36500e4f082734ff92d20ec80b3741f26bf504305477afa75ff6c78e2366c64a", func := "loop.example/g00878/laws.FnExactProveEqual", spec := "fnExactProveEqual", unfollowed := true, recurses := true, apart := false }
def FnExactProveEqualSaid : Prop := fnExactProveEqualRow.holds Try.pinned (OpenSpec.ofChange fnExactProveEqualSpec)

/-- ITS FALSE NEIGHBOUR: 'it returns false'. Refute it at one input. -/
def fnExactProveEqualWrong : ChangeSpec := { name := "fnExactProveEqual", fn := fun _ => fun
  | [d1, d2, d3, d4, d5] => { results := [.lit (.bool false)], args := [d1, d2, d3, d4, d5] }
  | _ => none }
def FnExactProveEqualWrongFalsely : Prop := fnExactProveEqualRow.holds Try.pinned (OpenSpec.ofChange fnExactProveEqualWrong)

/-- 'laws.FnExactImagesOf': WHATEVER THE INPUT: true; the input reads as it did. -/
def fnExactImagesOfSpec : ChangeSpec := { name := "fnExactImagesOf", fn := fun _ => fun
  | [d1, d2, d3] => { results := [.lit (.bool true)], args := [d1, d2, d3] }
  | _ => none }
def fnExactImagesOfRow : OpenClaim := { program := "ytdaekpfngphefaa", sum := "36500e4f082734ff92d20ec80b3741f26bf504305477afa75ff6c78e2366c64a", func := "loop.example/g00878/laws.FnExactImagesOf", spec := "fnExactImagesOf", unfollowed := true, recurses := true, apart := false }
def FnExactImagesOfSaid : Prop := fnExactImagesOfRow.holds Try.pinned (OpenSpec.ofChange fnExactImagesOfSpec)

/-- ITS FALSE NEIGHBOUR: 'it returns false'. Refute it at one input. -/
def fnExactImagesOfWrong : ChangeSpec := { name := "fnExactImagesOf", fn := fun _ => fun
  | [d1, d2, d3] => { results := [.lit (.bool false)], args := [d1, d2, d3] }
  | _ => none }
def FnExactImagesOfWrongFalsely : Prop := fnExactImagesOfRow.holds Try.pinned (OpenSpec.ofChange fnExactImagesOfWrong)

/-- 'laws.FnExactIsTrueEqual': WHATEVER THE INPUT: true; the input reads as it did. -/
def fnExactIsTrueEqualSpec : ChangeSpec := { name := "fnExactIsTrueEqual", fn := fun _ => fun
  | [d1, d2, d3] => { results := [.lit (.bool true)], args := [d1, d2, d3] }
  | _ => none }
def fnExactIsTrueEqualRow : OpenClaim := { program := "ytdaekpfngphefaa", sum := "36500e4f082734ff92d20ec80b3741f26bf504305477afa75ff6c78e2366c64a", func := "loop.example/g00878/laws.FnExactIsTrueEqual", spec := "fnExactIsTrueEqual", unfollowed := true, recurses := true, apart := false }
def FnExactIsTrueEqualSaid : Prop := fnExactIsTrueEqualRow.holds Try.pinned (OpenSpec.ofChange fnExactIsTrueEqualSpec)

/-- ITS FALSE NEIGHBOUR: 'it returns false'. Refute it at one input. -/
def fnExactIsTrueEqualWrong : ChangeSpec := { name := "fnExactIsTrueEqual", fn := fun _ => fun
  | [d1, d2, d3] => { results := [.lit (.bool false)], args := [d1, d2, d3] }
  | _ => none }
def FnExactIsTrueEqualWrongFalsely : Prop := fnExactIsTrueEqualRow.holds Try.pinned (OpenSpec.ofChange fnExactIsTrueEqualWrong)

/-- 'laws.FnExactRespondTo': WHATEVER THE INPUT: true; the input reads as it did. -/
def fnExactRespondToSpec : ChangeSpec := { name := "fnExactRespondTo", fn := fun _ => fun
  | [d1, d2, d3, d4] => { results := [.lit (.bool true)], args := [d1, d2, d3, d4] }
  | _ => none }
def fnExactRespondToRow : OpenClaim := { program := "ytdaekpfngphefaa", sum := "36500e4f082734ff92d20ec80b3741f26bf504305477afa75ff6c78e2366c64a", func := "loop.example/g00878/laws.FnExactRespondTo", spec := "fnExactRespondTo", unfollowed := true, recurses := true, apart := false }
def FnExactRespondToSaid : Prop := fnExactRespondToRow.holds Try.pinned (OpenSpec.ofChange fnExactRespondToSpec)

/-- ITS FALSE NEIGHBOUR: 'it returns false'. Refute it at one input. -/
def fnExactRespondToWrong : ChangeSpec := { name := "fnExactRespondTo", fn := fun _ => fun
  | [d1, d2, d3, d4] => { results := [.lit (.bool false)], args := [d1, d2, d3, d4] }
  | _ => none }
def FnExactRespondToWrongFalsely : Prop := fnExactRespondToRow.holds Try.pinned (OpenSpec.ofChange fnExactRespondToWrong)

/-- 'laws.FnExactIsAccepting': WHATEVER THE INPUT: true; the input reads as it did. -/
def fnExactIsAcceptingSpec : ChangeSpec := { name := "fnExactIsAccepting", fn := fun _ => fun
  | [d1, d2, d3, d4] => { results := [.lit (.bool true)], args := [d1, d2, d3, d4] }
  | _ => none }
def fnExactIsAcceptingRow : OpenClaim := { program := "ytdaekpfngphefaa", sum := "36500e4f082734ff92d20ec80b3741f26bf504305477afa75ff6c78e2366c64a", func := "loop.example/g00878/laws.FnExactIsAccepting", spec := "fnExactIsAccepting", unfollowed := true, recurses := true, apart := false }
def FnExactIsAcceptingSaid : Prop := fnExactIsAcceptingRow.holds Try.pinned (OpenSpec.ofChange fnExactIsAcceptingSpec)

/-- ITS FALSE NEIGHBOUR: 'it returns false'. Refute it at one input. -/
def fnExactIsAcceptingWrong : ChangeSpec := { name := "fnExactIsAccepting", fn := fun _ => fun
  | [d1, d2, d3, d4] => { results := [.lit (.bool false)], args := [d1, d2, d3, d4] }
  | _ => none }
def FnExactIsAcceptingWrongFalsely : Prop := fnExactIsAcceptingRow.holds Try.pinned (OpenSpec.ofChange fnExactIsAcceptingWrong)

/-- 'laws.FnExactSimulateKnowledge': WHATEVER THE INPUT: true; the input reads as it did. -/
def fnExactSimulateKnowledgeSpec : ChangeSpec := { name := "fnExactSimulateKnowledge", fn := fun _ => fun
  | [d1, d2, d3, d4, d5] => { results := [.lit (.bool true)], args := [d1, d2, d3, d4, d5] }
  | _ => none }
def fnExactSimulateKnowledgeRow : OpenClaim := { program := "ytdaekpfngphefaa", sum := "36500e4f082734ff92d20ec80b3741f26bf504305477afa75ff6c78e2366c64a", func := "loop.example/g00878/laws.FnExactSimulateKnowledge", spec := "fnExactSimulateKnowledge", unfollowed := true, recurses := true, apart := false }
def FnExactSimulateKnowledgeSaid : Prop := fnExactSimulateKnowledgeRow.holds Try.pinned (OpenSpec.ofChange fnExactSimulateKnowledgeSpec)

/-- ITS FALSE NEIGHBOUR: 'it returns false'. Refute it at one input. -/
def fnExactSimulateKnowledgeWrong : ChangeSpec := { name := "fnExactSimulateKnowledge", fn := fun _ => fun
  | [d1, d2, d3, d4, d5] => { results := [.lit (.bool false)], args := [d1, d2, d3, d4, d5] }
  | _ => none }
def FnExactSimulateKnowledgeWrongFalsely : Prop := fnExactSimulateKnowledgeRow.holds Try.pinned (OpenSpec.ofChange fnExactSimulateKnowledgeWrong)

/- THE SECOND FORM. 'bulk': how many values and letters a reading holds, each counted each time it is reached (what is shared counts as often as it is met; a slice's spare places count too). A statement '..UptoSaid' is the law's where the arguments, and the package variables that the reading takes, are together of bulk at most 1048576: NARROWER than '..Said'. Prove '..Said' where nothing that the law and all that it calls make is longer than what came in: it says more and counts as full. Else prove '..UptoSaid'. A law counts once. -/
mutual
def uptoBulk {H : Type} : DataW H → Nat
  | .lit (.string bytes) => bytes.length + 1
  | .lit _ => 1
  | .nil => 1
  | .ptr d => uptoBulk d + 1
  | .slice elems spare => uptoBulkAll elems + uptoBulkAll spare + 1
  | .agg parts => uptoBulkAll parts + 1
  | .iface _ d => uptoBulk d + 1
  | .map entries => uptoBulkEntries entries + 1
  | .held _ => 1
def uptoBulkAll {H : Type} : List (DataW H) → Nat
  | [] => 0
  | d :: r => uptoBulk d + uptoBulkAll r
def uptoBulkEntries {H : Type} : List (Lit × DataW H) → Nat
  | [] => 0
  | x :: r => uptoBulkEntry x + uptoBulkEntries r
def uptoBulkEntry {H : Type} : Lit × DataW H → Nat
  | (.string bytes, d) => bytes.length + uptoBulk d + 1
  | (_, d) => uptoBulk d + 1
 end
def uptoSmall : (H : Type) → List (DataW H) → Bool := fun _ ds => decide (uptoBulkAll ds ≤ 1048576)
def OpenSpec.upto (s : _root_.Go.ChangeSpec) : _root_.Go.OpenSpec := { _root_.Go.OpenSpec.ofChange s with cond := some uptoSmall }

/-- 'laws.FnExactVerifyLinear', WHERE WHAT IT READS IS OF BULK AT MOST 1048576: true; the input reads as it did. -/
def fnExactVerifyLinearUptoRow : OpenClaim := { program := "ytdaekpfngphefaa", sum := "36500e4f082734ff92d20ec80b3741f26bf504305477afa75ff6c78e2366c64a", func := "loop.example/g00878/laws.FnExactVerifyLinear", spec := "fnExactVerifyLinear", unfollowed := true, recurses := true, apart := false, narrowed := true }
def FnExactVerifyLinearUptoSaid : Prop := fnExactVerifyLinearUptoRow.holds Try.pinned (OpenSpec.upto fnExactVerifyLinearSpec)

/-- 'laws.FnExactVerifyKnowledge', WHERE WHAT IT READS IS OF BULK AT MOST 1048576: true; the input reads as it did. -/
def fnExactVerifyKnowledgeUptoRow : OpenClaim := { program := "ytdaekpfngphefaa", sum := "36500e4f082734ff92d20ec80b3741f26bf504305477afa75ff6c78e2366c64a", func := "loop.example/g00878/laws.FnExactVerifyKnowledge", spec := "fnExactVerifyKnowledge", unfollowed := true, recurses := true, apart := false, narrowed := true }
def FnExactVerifyKnowledgeUptoSaid : Prop := fnExactVerifyKnowledgeUptoRow.holds Try.pinned (OpenSpec.upto fnExactVerifyKnowledgeSpec)

/-- 'laws.FnExactVerifyEqual', WHERE WHAT IT READS IS OF BULK AT MOST 1048576: true; the input reads as it did. -/
def fnExactVerifyEqualUptoRow : OpenClaim := { program := "ytdaekpfngphefaa", sum := "36500e4f082734ff92d20ec80b3741f26bf504305477afa75ff6c78e2366c64a", func := "loop.example/g00878/laws.FnExactVerifyEqual", spec := "fnExactVerifyEqual", unfollowed := true, recurses := true, apart := false, narrowed := true }
def FnExactVerifyEqualUptoSaid : Prop := fnExactVerifyEqualUptoRow.holds Try.pinned (OpenSpec.upto fnExactVerifyEqualSpec)

/-- 'laws.FnExactVerifyOneOf', WHERE WHAT IT READS IS OF BULK AT MOST 1048576: true; the input reads as it did. -/
def fnExactVerifyOneOfUptoRow : OpenClaim := { program := "ytdaekpfngphefaa", sum := "36500e4f082734ff92d20ec80b3741f26bf504305477afa75ff6c78e2366c64a", func := "loop.example/g00878/laws.FnExactVerifyOneOf", spec := "fnExactVerifyOneOf", unfollowed := true, recurses := true, apart := false, narrowed := true }
def FnExactVerifyOneOfUptoSaid : Prop := fnExactVerifyOneOfUptoRow.holds Try.pinned (OpenSpec.upto fnExactVerifyOneOfSpec)

/-- 'laws.FnExactProveLinear', WHERE WHAT IT READS IS OF BULK AT MOST 1048576: true; the input reads as it did. -/
def fnExactProveLinearUptoRow : OpenClaim := { program := "ytdaekpfngphefaa", sum := "36500e4f082734ff92d20ec80b3741f26bf504305477afa75ff6c78e2366c64a", func := "loop.example/g00878/laws.FnExactProveLinear", spec := "fnExactProveLinear", unfollowed := true, recurses := true, apart := false, narrowed := true }
def FnExactProveLinearUptoSaid : Prop := fnExactProveLinearUptoRow.holds Try.pinned (OpenSpec.upto fnExactProveLinearSpec)

/-- 'laws.FnExactProveKnowledge', WHERE WHAT IT READS IS OF BULK AT MOST 1048576: true; the input reads as it did. -/
def fnExactProveKnowledgeUptoRow : OpenClaim := { program := "ytdaekpfngphefaa", sum := "36500e4f082734ff92d20ec80b3741f26bf504305477afa75ff6c78e2366c64a", func := "loop.example/g00878/laws.FnExactProveKnowledge", spec := "fnExactProveKnowledge", unfollowed := true, recurses := true, apart := false, narrowed := true }
def FnExactProveKnowledgeUptoSaid : Prop := fnExactProveKnowledgeUptoRow.holds Try.pinned (OpenSpec.upto fnExactProveKnowledgeSpec)

/-- 'laws.FnExactProveEqual', WHERE WHAT IT READS IS OF BULK AT MOST 1048576: true; the input reads as it did. -/
def fnExactProveEqualUptoRow : OpenClaim := { program := "ytdaekpfngphefaa", sum := "36500e4f082734ff92d20ec80b3741f26bf504305477afa75ff6c78e2366c64a", func := "loop.example/g00878/laws.FnExactProveEqual", spec := "fnExactProveEqual", unfollowed := true, recurses := true, apart := false, narrowed := true }
def FnExactProveEqualUptoSaid : Prop := fnExactProveEqualUptoRow.holds Try.pinned (OpenSpec.upto fnExactProveEqualSpec)

/-- 'laws.FnExactImagesOf', WHERE WHAT IT READS IS OF BULK AT MOST 1048576: true; the input reads as it did. -/
def fnExactImagesOfUptoRow : OpenClaim := { program := "ytdaekpfngphefaa", sum := "36500e4f082734ff92d20ec80b3741f26bf504305477afa75ff6c78e2366c64a", func := "loop.example/g00878/laws.FnExactImagesOf", spec := "fnExactImagesOf", unfollowed := true, recurses := true, apart := false, narrowed := true }
def FnExactImagesOfUptoSaid : Prop := fnExactImagesOfUptoRow.holds Try.pinned (OpenSpec.upto fnExactImagesOfSpec)

/-- 'laws.FnExactIsTrueEqual', WHERE WHAT IT READS IS OF BULK AT MOST 1048576: true; the input reads as it did. -/
def fnExactIsTrueEqualUptoRow : OpenClaim := { program := "ytdaekpfngphefaa", sum := "36500e4f082734ff92d20ec80b3741f26bf504305477afa75ff6c78e2366c64a", func := "loop.example/g00878/laws.FnExactIsTrueEqual", spec := "fnExactIsTrueEqual", unfollowed := true, recurses := true, apart := false, narrowed := true }
def FnExactIsTrueEqualUptoSaid : Prop := fnExactIsTrueEqualUptoRow.holds Try.pinned (OpenSpec.upto fnExactIsTrueEqualSpec)

/-- 'laws.FnExactRespondTo', WHERE WHAT IT READS IS OF BULK AT MOST 1048576: true; the input reads as it did. -/
def fnExactRespondToUptoRow : OpenClaim := { program := "ytdaekpfngphefaa", sum := "36500e4f082734ff92d20ec80b3741f26bf504305477afa75ff6c78e2366c64a", func := "loop.example/g00878/laws.FnExactRespondTo", spec := "fnExactRespondTo", unfollowed := true, recurses := true, apart := false, narrowed := true }
def FnExactRespondToUptoSaid : Prop := fnExactRespondToUptoRow.holds Try.pinned (OpenSpec.upto fnExactRespondToSpec)

/-- 'laws.FnExactIsAccepting', WHERE WHAT IT READS IS OF BULK AT MOST 1048576: true; the input reads as it did. -/
def fnExactIsAcceptingUptoRow : OpenClaim := { program := "ytdaekpfngphefaa", sum := "36500e4f082734ff92d20ec80b3741f26bf504305477afa75ff6c78e2366c64a", func := "loop.example/g00878/laws.FnExactIsAccepting", spec := "fnExactIsAccepting", unfollowed := true, recurses := true, apart := false, narrowed := true }
def FnExactIsAcceptingUptoSaid : Prop := fnExactIsAcceptingUptoRow.holds Try.pinned (OpenSpec.upto fnExactIsAcceptingSpec)

/-- 'laws.FnExactSimulateKnowledge', WHERE WHAT IT READS IS OF BULK AT MOST 1048576: true; the input reads as it did. -/
def fnExactSimulateKnowledgeUptoRow : OpenClaim := { program := "ytdaekpfngphefaa", sum := "36500e4f082734ff92d20ec80b3741f26bf504305477afa75ff6c78e2366c64a", func := "loop.example/g00878/laws.FnExactSimulateKnowledge", spec := "fnExactSimulateKnowledge", unfollowed := true, recurses := true, apart := false, narrowed := true }
def FnExactSimulateKnowledgeUptoSaid : Prop := fnExactSimulateKnowledgeUptoRow.holds Try.pinned (OpenSpec.upto fnExactSimulateKnowledgeSpec)

end Rows
end Go.Proofs.Ytdaekpfngphefaa
