/-
  No cell of these rows narrows 'for every input' (looked for: loops, veiled, ifaces, maps, wideKeys, modest, calm, conditions, laid).
  DERIVED. THE GIVEN ROWS OF THIS SEAT. 10 by the template 'for every input the law returns true; each argument reads behind the call as it read before'; 0 by the template 'total and deterministic' (their statements: YtchlnkdlnfjijaaTotals.lean).
  GIVEN WITH THE SEED: the statements are not yours to turn. If you find one false, say at which input.
  Laid BY PROGRAM, IN A SANDBOX (cutbox-rows.mjs): the forced cells as the released guide's own fill.sh prints them over the translation b081f43cccbe592c… (all of the seat's roots in one cut). By AI agents, Wed Nov 11 2026. No macro, syntax, notation, axiom, sorry.
-/
import Derived.Test.YtchlnkdlnfjijaaChecked
import GoSem.Claim
import GoSem.ClaimJoined
import GoSem.ClaimMapViews
import Derived.JoinedTies
import Derived.KernelRfl
namespace Go.Proofs.Ytchlnkdlnfjijaa
/- THE CELL 'sum', in the pinned program and in every row, IS THE sha256 OF THE DUMP (.gsa) THAT YtchlnkdlnfjijaaProg.lean LOADS. Nothing in Lean hashes anything: it is a label: what it is worth is what the hold of that sum in a sandbox is worth. -/
noncomputable def Try.pinned : Pinned := { name := "ytchlnkdlnfjijaa", sum := "b081f43cccbe592c93f1c09dd64d3d1805e6cfdb2fb4ddb614a95ebe7a457307", checked := Try.checked }
namespace Rows
def none {H : Type} : Left H := { results := [], args := [] }

/-- 'laws.FnKeyGeneration': WHATEVER THE INPUT: true; the input reads as it did. -/
def fnKeyGenerationSpec : ChangeSpec := { name := "fnKeyGeneration", fn := fun _ => fun
  | [d1, d2] => { results := [.lit (.bool true)], args := [d1, d2] }
  | _ => none }
def fnKeyGenerationRow : OpenClaim := { program := "ytchlnkdlnfjijaa", sum := "b081f43cccbe592c93f1c09dd64d3d1805e6cfdb2fb4ddb614a95ebe7a457307", func := "loop.example/g00878/laws.FnKeyGeneration", spec := "fnKeyGeneration", unfollowed := true, recurses := true, apart := false }
def FnKeyGenerationSaid : Prop := fnKeyGenerationRow.holds Try.pinned (OpenSpec.ofChange fnKeyGenerationSpec)

/-- ITS FALSE NEIGHBOUR: 'it returns false'. Refute it at one input. -/
def fnKeyGenerationWrong : ChangeSpec := { name := "fnKeyGeneration", fn := fun _ => fun
  | [d1, d2] => { results := [.lit (.bool false)], args := [d1, d2] }
  | _ => none }
def FnKeyGenerationWrongFalsely : Prop := fnKeyGenerationRow.holds Try.pinned (OpenSpec.ofChange fnKeyGenerationWrong)

/-- 'laws.FnExactSumDealings': WHATEVER THE INPUT: true; the input reads as it did. -/
def fnExactSumDealingsSpec : ChangeSpec := { name := "fnExactSumDealings", fn := fun _ => fun
  | [d1, d2] => { results := [.lit (.bool true)], args := [d1, d2] }
  | _ => none }
def fnExactSumDealingsRow : OpenClaim := { program := "ytchlnkdlnfjijaa", sum := "b081f43cccbe592c93f1c09dd64d3d1805e6cfdb2fb4ddb614a95ebe7a457307", func := "loop.example/g00878/laws.FnExactSumDealings", spec := "fnExactSumDealings", unfollowed := true, recurses := true, apart := false }
def FnExactSumDealingsSaid : Prop := fnExactSumDealingsRow.holds Try.pinned (OpenSpec.ofChange fnExactSumDealingsSpec)

/-- ITS FALSE NEIGHBOUR: 'it returns false'. Refute it at one input. -/
def fnExactSumDealingsWrong : ChangeSpec := { name := "fnExactSumDealings", fn := fun _ => fun
  | [d1, d2] => { results := [.lit (.bool false)], args := [d1, d2] }
  | _ => none }
def FnExactSumDealingsWrongFalsely : Prop := fnExactSumDealingsRow.holds Try.pinned (OpenSpec.ofChange fnExactSumDealingsWrong)

/-- 'laws.FnExactIsKeyGenInput': WHATEVER THE INPUT: true; the input reads as it did. -/
def fnExactIsKeyGenInputSpec : ChangeSpec := { name := "fnExactIsKeyGenInput", fn := fun _ => fun
  | [d1, d2] => { results := [.lit (.bool true)], args := [d1, d2] }
  | _ => none }
def fnExactIsKeyGenInputRow : OpenClaim := { program := "ytchlnkdlnfjijaa", sum := "b081f43cccbe592c93f1c09dd64d3d1805e6cfdb2fb4ddb614a95ebe7a457307", func := "loop.example/g00878/laws.FnExactIsKeyGenInput", spec := "fnExactIsKeyGenInput", unfollowed := true, recurses := true, apart := false }
def FnExactIsKeyGenInputSaid : Prop := fnExactIsKeyGenInputRow.holds Try.pinned (OpenSpec.ofChange fnExactIsKeyGenInputSpec)

/-- ITS FALSE NEIGHBOUR: 'it returns false'. Refute it at one input. -/
def fnExactIsKeyGenInputWrong : ChangeSpec := { name := "fnExactIsKeyGenInput", fn := fun _ => fun
  | [d1, d2] => { results := [.lit (.bool false)], args := [d1, d2] }
  | _ => none }
def FnExactIsKeyGenInputWrongFalsely : Prop := fnExactIsKeyGenInputRow.holds Try.pinned (OpenSpec.ofChange fnExactIsKeyGenInputWrong)

/-- 'laws.FnExactPlayDealers': WHATEVER THE INPUT: true; the input reads as it did. -/
def fnExactPlayDealersSpec : ChangeSpec := { name := "fnExactPlayDealers", fn := fun _ => fun
  | [d1, d2, d3] => { results := [.lit (.bool true)], args := [d1, d2, d3] }
  | _ => none }
def fnExactPlayDealersRow : OpenClaim := { program := "ytchlnkdlnfjijaa", sum := "b081f43cccbe592c93f1c09dd64d3d1805e6cfdb2fb4ddb614a95ebe7a457307", func := "loop.example/g00878/laws.FnExactPlayDealers", spec := "fnExactPlayDealers", unfollowed := true, recurses := true, apart := false }
def FnExactPlayDealersSaid : Prop := fnExactPlayDealersRow.holds Try.pinned (OpenSpec.ofChange fnExactPlayDealersSpec)

/-- ITS FALSE NEIGHBOUR: 'it returns false'. Refute it at one input. -/
def fnExactPlayDealersWrong : ChangeSpec := { name := "fnExactPlayDealers", fn := fun _ => fun
  | [d1, d2, d3] => { results := [.lit (.bool false)], args := [d1, d2, d3] }
  | _ => none }
def FnExactPlayDealersWrongFalsely : Prop := fnExactPlayDealersRow.holds Try.pinned (OpenSpec.ofChange fnExactPlayDealersWrong)

/-- 'laws.FnExactComplaintsIn': WHATEVER THE INPUT: true; the input reads as it did. -/
def fnExactComplaintsInSpec : ChangeSpec := { name := "fnExactComplaintsIn", fn := fun _ => fun
  | [d1, d2] => { results := [.lit (.bool true)], args := [d1, d2] }
  | _ => none }
def fnExactComplaintsInRow : OpenClaim := { program := "ytchlnkdlnfjijaa", sum := "b081f43cccbe592c93f1c09dd64d3d1805e6cfdb2fb4ddb614a95ebe7a457307", func := "loop.example/g00878/laws.FnExactComplaintsIn", spec := "fnExactComplaintsIn", unfollowed := true, recurses := true, apart := false }
def FnExactComplaintsInSaid : Prop := fnExactComplaintsInRow.holds Try.pinned (OpenSpec.ofChange fnExactComplaintsInSpec)

/-- ITS FALSE NEIGHBOUR: 'it returns false'. Refute it at one input. -/
def fnExactComplaintsInWrong : ChangeSpec := { name := "fnExactComplaintsIn", fn := fun _ => fun
  | [d1, d2] => { results := [.lit (.bool false)], args := [d1, d2] }
  | _ => none }
def FnExactComplaintsInWrongFalsely : Prop := fnExactComplaintsInRow.holds Try.pinned (OpenSpec.ofChange fnExactComplaintsInWrong)

/-- 'laws.FnExactQualifiedIn': WHATEVER THE INPUT: true; the input reads as it did. -/
def fnExactQualifiedInSpec : ChangeSpec := { name := "fnExactQualifiedIn", fn := fun _ => fun
  | [d1, d2, d3] => { results := [.lit (.bool true)], args := [d1, d2, d3] }
  | _ => none }
def fnExactQualifiedInRow : OpenClaim := { program := "ytchlnkdlnfjijaa", sum := "b081f43cccbe592c93f1c09dd64d3d1805e6cfdb2fb4ddb614a95ebe7a457307", func := "loop.example/g00878/laws.FnExactQualifiedIn", spec := "fnExactQualifiedIn", unfollowed := true, recurses := true, apart := false }
def FnExactQualifiedInSaid : Prop := fnExactQualifiedInRow.holds Try.pinned (OpenSpec.ofChange fnExactQualifiedInSpec)

/-- ITS FALSE NEIGHBOUR: 'it returns false'. Refute it at one input. -/
def fnExactQualifiedInWrong : ChangeSpec := { name := "fnExactQualifiedIn", fn := fun _ => fun
  | [d1, d2, d3] => { results := [.lit (.bool false)], args := [d1, d2, d3] }
  | _ => none }
def FnExactQualifiedInWrongFalsely : Prop := fnExactQualifiedInRow.holds Try.pinned (OpenSpec.ofChange fnExactQualifiedInWrong)

/-- 'laws.FnExactCombineKey': WHATEVER THE INPUT: true; the input reads as it did. -/
def fnExactCombineKeySpec : ChangeSpec := { name := "fnExactCombineKey", fn := fun _ => fun
  | [d1, d2, d3] => { results := [.lit (.bool true)], args := [d1, d2, d3] }
  | _ => none }
def fnExactCombineKeyRow : OpenClaim := { program := "ytchlnkdlnfjijaa", sum := "b081f43cccbe592c93f1c09dd64d3d1805e6cfdb2fb4ddb614a95ebe7a457307", func := "loop.example/g00878/laws.FnExactCombineKey", spec := "fnExactCombineKey", unfollowed := true, recurses := true, apart := false }
def FnExactCombineKeySaid : Prop := fnExactCombineKeyRow.holds Try.pinned (OpenSpec.ofChange fnExactCombineKeySpec)

/-- ITS FALSE NEIGHBOUR: 'it returns false'. Refute it at one input. -/
def fnExactCombineKeyWrong : ChangeSpec := { name := "fnExactCombineKey", fn := fun _ => fun
  | [d1, d2, d3] => { results := [.lit (.bool false)], args := [d1, d2, d3] }
  | _ => none }
def FnExactCombineKeyWrongFalsely : Prop := fnExactCombineKeyRow.holds Try.pinned (OpenSpec.ofChange fnExactCombineKeyWrong)

/-- 'laws.FnExactCheckKeyGen': WHATEVER THE INPUT: true; the input reads as it did. -/
def fnExactCheckKeyGenSpec : ChangeSpec := { name := "fnExactCheckKeyGen", fn := fun _ => fun
  | [d1, d2, d3, d4] => { results := [.lit (.bool true)], args := [d1, d2, d3, d4] }
  | _ => none }
def fnExactCheckKeyGenRow : OpenClaim := { program := "ytchlnkdlnfjijaa", sum := "b081f43cccbe592c93f1c09dd64d3d1805e6cfdb2fb4ddb614a95ebe7a457307", func := "loop.example/g00878/laws.FnExactCheckKeyGen", spec := "fnExactCheckKeyGen", unfollowed := true, recurses := true, apart := false }
def FnExactCheckKeyGenSaid : Prop := fnExactCheckKeyGenRow.holds Try.pinned (OpenSpec.ofChange fnExactCheckKeyGenSpec)

/-- ITS FALSE NEIGHBOUR: 'it returns false'. Refute it at one input. -/
def fnExactCheckKeyGenWrong : ChangeSpec := { name := "fnExactCheckKeyGen", fn := fun _ => fun
  | [d1, d2, d3, d4] => { results := [.lit (.bool false)], args := [d1, d2, d3, d4] }
  | _ => none }
def FnExactCheckKeyGenWrongFalsely : Prop := fnExactCheckKeyGenRow.holds Try.pinned (OpenSpec.ofChange fnExactCheckKeyGenWrong)

/-- 'laws.FnExactTrusteeKey': WHATEVER THE INPUT: true; the input reads as it did. -/
def fnExactTrusteeKeySpec : ChangeSpec := { name := "fnExactTrusteeKey", fn := fun _ => fun
  | [d1, d2, d3] => { results := [.lit (.bool true)], args := [d1, d2, d3] }
  | _ => none }
def fnExactTrusteeKeyRow : OpenClaim := { program := "ytchlnkdlnfjijaa", sum := "b081f43cccbe592c93f1c09dd64d3d1805e6cfdb2fb4ddb614a95ebe7a457307", func := "loop.example/g00878/laws.FnExactTrusteeKey", spec := "fnExactTrusteeKey", unfollowed := true, recurses := true, apart := false }
def FnExactTrusteeKeySaid : Prop := fnExactTrusteeKeyRow.holds Try.pinned (OpenSpec.ofChange fnExactTrusteeKeySpec)

/-- ITS FALSE NEIGHBOUR: 'it returns false'. Refute it at one input. -/
def fnExactTrusteeKeyWrong : ChangeSpec := { name := "fnExactTrusteeKey", fn := fun _ => fun
  | [d1, d2, d3] => { results := [.lit (.bool false)], args := [d1, d2, d3] }
  | _ => none }
def FnExactTrusteeKeyWrongFalsely : Prop := fnExactTrusteeKeyRow.holds Try.pinned (OpenSpec.ofChange fnExactTrusteeKeyWrong)

/-- 'laws.FnExactProveDealer': WHATEVER THE INPUT: true; the input reads as it did. -/
def fnExactProveDealerSpec : ChangeSpec := { name := "fnExactProveDealer", fn := fun _ => fun
  | [d1, d2, d3] => { results := [.lit (.bool true)], args := [d1, d2, d3] }
  | _ => none }
def fnExactProveDealerRow : OpenClaim := { program := "ytchlnkdlnfjijaa", sum := "b081f43cccbe592c93f1c09dd64d3d1805e6cfdb2fb4ddb614a95ebe7a457307", func := "loop.example/g00878/laws.FnExactProveDealer", spec := "fnExactProveDealer", unfollowed := true, recurses := true, apart := false }
def FnExactProveDealerSaid : Prop := fnExactProveDealerRow.holds Try.pinned (OpenSpec.ofChange fnExactProveDealerSpec)

/-- ITS FALSE NEIGHBOUR: 'it returns false'. Refute it at one input. -/
def fnExactProveDealerWrong : ChangeSpec := { name := "fnExactProveDealer", fn := fun _ => fun
  | [d1, d2, d3] => { results := [.lit (.bool false)], args := [d1, d2, d3] }
  | _ => none }
def FnExactProveDealerWrongFalsely : Prop := fnExactProveDealerRow.holds Try.pinned (OpenSpec.ofChange fnExactProveDealerWrong)

/- THE SECOND FORM. 'bulk': how many values and letters a reading holds, each counted each time it is reached (what is shared counts as often as it is met; a slice's spare places count too). A statement '..UptoSaid' is the law's where the arguments, and the package variables that the reading takes, are together of bulk at most 1048576: NARROWER than '..Said'. Prove '..Said' where nothing that the law and all that it calls make is longer than what came in: it says more and counts as full. Else prove '..UptoSaid'. A law counts once. -/
mutual
def uptoBulk {H : Type} : DataW H → Nat
  | .lit (.string bytes) => bytes.length + 1
  | .lit _ => 1
  | .nil => 1
  | .ptr d => uptoBulk d + 1
  | .slice elems spare => uptoBulkAll elems + uptoBulkAll spare + 1
  | .agg parts => uptoBulkAll parts + 1
  | .iface _ d => uptoBulk d + 1
  | .map entries => uptoBulkEntries entries + 1
  | .held _ => 1
def uptoBulkAll {H : Type} : List (DataW H) → Nat
  | [] => 0
  | d :: r => uptoBulk d + uptoBulkAll r
def uptoBulkEntries {H : Type} : List (Lit × DataW H) → Nat
  | [] => 0
  | x :: r => uptoBulkEntry x + uptoBulkEntries r
def uptoBulkEntry {H : Type} : Lit × DataW H → Nat
  | (.string bytes, d) => bytes.length + uptoBulk d + 1
  | (_, d) => uptoBulk d + 1
 end
def uptoSmall : (H : Type) → List (DataW H) → Bool := fun _ ds => decide (uptoBulkAll ds ≤ 1048576)
def OpenSpec.upto (s : _root_.Go.ChangeSpec) : _root_.Go.OpenSpec := { _root_.Go.OpenSpec.ofChange s with cond := some uptoSmall }

/-- 'laws.FnKeyGeneration', WHERE WHAT IT READS IS OF BULK AT MOST 1048576: true; the input reads as it did. -/
def fnKeyGenerationUptoRow : OpenClaim := { program := "ytchlnkdlnfjijaa", sum := "b081f43cccbe592c93f1c09dd64d3d1805e6cfdb2fb4ddb614a95ebe7a457307", func := "loop.example/g00878/laws.FnKeyGeneration", spec := "fnKeyGeneration", unfollowed := true, recurses := true, apart := false, narrowed := true }
def FnKeyGenerationUptoSaid : Prop := fnKeyGenerationUptoRow.holds Try.pinned (OpenSpec.upto fnKeyGenerationSpec)

/-- 'laws.FnExactSumDealings', WHERE WHAT IT READS IS OF BULK AT MOST 1048576: true; the input reads as it did. -/
def fnExactSumDealingsUptoRow : OpenClaim := { program := "ytchlnkdlnfjijaa", sum := "b081f43cccbe592c93f1c09dd64d3d1805e6cfdb2fb4ddb614a95ebe7a457307", func := "loop.example/g00878/laws.FnExactSumDealings", spec := "fnExactSumDealings", unfollowed := true, recurses := true, apart := false, narrowed := true }
def FnExactSumDealingsUptoSaid : Prop := fnExactSumDealingsUptoRow.holds Try.pinned (OpenSpec.upto fnExactSumDealingsSpec)

/-- 'laws.FnExactIsKeyGenInput', WHERE WHAT IT READS IS OF BULK AT MOST 1048576: true; the input reads as it did. -/
def fnExactIsKeyGenInputUptoRow : OpenClaim := { program := "ytchlnkdlnfjijaa", sum := "b081f43cccbe592c93f1c09dd64d3d1805e6cfdb2fb4ddb614a95ebe7a457307", func := "loop.example/g00878/laws.FnExactIsKeyGenInput", spec := "fnExactIsKeyGenInput", unfollowed := true, recurses := true, apart := false, narrowed := true }
def FnExactIsKeyGenInputUptoSaid : Prop := fnExactIsKeyGenInputUptoRow.holds Try.pinned (OpenSpec.upto fnExactIsKeyGenInputSpec)

/-- 'laws.FnExactPlayDealers', WHERE WHAT IT READS IS OF BULK AT MOST 1048576: true; the input reads as it did. -/
def fnExactPlayDealersUptoRow : OpenClaim := { program := "ytchlnkdlnfjijaa", sum := "b081f43cccbe592c93f1c09dd64d3d1805e6cfdb2fb4ddb614a95ebe7a457307", func := "loop.example/g00878/laws.FnExactPlayDealers", spec := "fnExactPlayDealers", unfollowed := true, recurses := true, apart := false, narrowed := true }
def FnExactPlayDealersUptoSaid : Prop := fnExactPlayDealersUptoRow.holds Try.pinned (OpenSpec.upto fnExactPlayDealersSpec)

/-- 'laws.FnExactComplaintsIn', WHERE WHAT IT READS IS OF BULK AT MOST 1048576: true; the input reads as it did. -/
def fnExactComplaintsInUptoRow : OpenClaim := { program := "ytchlnkdlnfjijaa", sum := "b081f43cccbe592c93f1c09dd64d3d1805e6cfdb2fb4ddb614a95ebe7a457307", func := "loop.example/g00878/laws.FnExactComplaintsIn", spec := "fnExactComplaintsIn", unfollowed := true, recurses := true, apart := false, narrowed := true }
def FnExactComplaintsInUptoSaid : Prop := fnExactComplaintsInUptoRow.holds Try.pinned (OpenSpec.upto fnExactComplaintsInSpec)

/-- 'laws.FnExactQualifiedIn', WHERE WHAT IT READS IS OF BULK AT MOST 1048576: true; the input reads as it did. -/
def fnExactQualifiedInUptoRow : OpenClaim := { program := "ytchlnkdlnfjijaa", sum := "b081f43cccbe592c93f1c09dd64d3d1805e6cfdb2fb4ddb614a95ebe7a457307", func := "loop.example/g00878/laws.FnExactQualifiedIn", spec := "fnExactQualifiedIn", unfollowed := true, recurses := true, apart := false, narrowed := true }
def FnExactQualifiedInUptoSaid : Prop := fnExactQualifiedInUptoRow.holds Try.pinned (OpenSpec.upto fnExactQualifiedInSpec)

/-- 'laws.FnExactCombineKey', WHERE WHAT IT READS IS OF BULK AT MOST 1048576: true; the input reads as it did. -/
def fnExactCombineKeyUptoRow : OpenClaim := { program := "ytchlnkdlnfjijaa", sum := "b081f43cccbe592c93f1c09dd64d3d1805e6cfdb2fb4ddb614a95ebe7a457307", func := "loop.example/g00878/laws.FnExactCombineKey", spec := "fnExactCombineKey", unfollowed := true, recurses := true, apart := false, narrowed := true }
def FnExactCombineKeyUptoSaid : Prop := fnExactCombineKeyUptoRow.holds Try.pinned (OpenSpec.upto fnExactCombineKeySpec)

/-- 'laws.FnExactCheckKeyGen', WHERE WHAT IT READS IS OF BULK AT MOST 1048576: true; the input reads as it did. -/
def fnExactCheckKeyGenUptoRow : OpenClaim := { program := "ytchlnkdlnfjijaa", sum := "b081f43cccbe592c93f1c09dd64d3d1805e6cfdb2fb4ddb614a95ebe7a457307", func := "loop.example/g00878/laws.FnExactCheckKeyGen", spec := "fnExactCheckKeyGen", unfollowed := true, recurses := true, apart := false, narrowed := true }
def FnExactCheckKeyGenUptoSaid : Prop := fnExactCheckKeyGenUptoRow.holds Try.pinned (OpenSpec.upto fnExactCheckKeyGenSpec)

/-- 'laws.FnExactTrusteeKey', WHERE WHAT IT READS IS OF BULK AT MOST 1048576: true; the input reads as it did. -/
def fnExactTrusteeKeyUptoRow : OpenClaim := { program := "ytchlnkdlnfjijaa", sum := "b081f43cccbe592c93f1c09dd64d3d1805e6cfdb2fb4ddb614a95ebe7a457307", func := "loop.example/g00878/laws.FnExactTrusteeKey", spec := "fnExactTrusteeKey", unfollowed := true, recurses := true, apart := false, narrowed := true }
def FnExactTrusteeKeyUptoSaid : Prop := fnExactTrusteeKeyUptoRow.holds Try.pinned (OpenSpec.upto fnExactTrusteeKeySpec)

/-- 'laws.FnExactProveDealer', WHERE WHAT IT READS IS OF BULK AT MOST 1048576: true; the input reads as it did. -/
def fnExactProveDealerUptoRow : OpenClaim := { program := "ytchlnkdlnfjijaa", sum := "b081f43cccbe592c93f1c09dd64d3d1805e6cfdb2fb4ddb614a95ebe7a457307", func := "loop.example/g00878/laws.FnExactProveDealer", spec := "fnExactProveDealer", unfollowed := true, recurses := true, apart := false, narrowed := true }
def FnExactProveDealerUptoSaid : Prop := fnExactProveDealerUptoRow.holds Try.pinned (OpenSpec.upto fnExactProveDealerSpec)

end Rows
end Go.Proofs.Ytchlnkdlnfjijaa
