/-
  No cell of these rows narrows 'for every input' (looked for: loops, veiled, ifaces, maps, wideKeys, modest, calm, conditions, laid).
  DERIVED. THE GIVEN ROWS OF THIS SEAT. 15 by the template 'for every input the law returns true; each argument reads behind the call as it read before'; 0 by the template 'total and deterministic' (their statements: YtmihnohnfdjcaaaTotals.lean).
  GIVEN WITH THE SEED: the statements are not yours to turn. If you find one false, say at which input.
  Laid BY PROGRAM, IN A SANDBOX (cutbox-rows.mjs): the forced cells as the released guide's own fill.sh prints them over the translation e8bee49109ad2fe3… (all of the seat's roots in one cut). By AI agents, Wed Nov 11 2026. No macro, syntax, notation, axiom, sorry.
-/
import Derived.Test.YtmihnohnfdjcaaaChecked
import GoSem.Claim
import GoSem.ClaimJoined
import GoSem.ClaimMapViews
import Derived.JoinedTies
import Derived.KernelRfl
namespace Go.Proofs.Ytmihnohnfdjcaaa
/- THE CELL 'sum', in the pinned program and in every row, IS THE sha256 OF THE DUMP (.gsa) THAT YtmihnohnfdjcaaaProg.lean LOADS. Nothing in Lean hashes anything: it is a label: what it is worth is what the hold of that sum in a sandbox is worth. -/
noncomputable def Try.pinned : Pinned := { name := "ytmihnohnfdjcaaa", sum := "e8bee49109ad2fe3e483dcc62adced0445a826c118a03946ce55eacf8d263ae5", checked := Try.checked }
namespace Rows
def none {H : Type} : Left H := { results := [], args := [] }

/-- 'laws.FnEncryption': WHATEVER THE INPUT: true; the input reads as it did. -/
def fnEncryptionSpec : ChangeSpec := { name := "fnEncryption", fn := fun _ => fun
  | [d1, d2] => { results := [.lit (.bool true)], args := [d1, d2] }
  | _ => none }
def fnEncryptionRow : OpenClaim := { program := "ytmihnohnfdjcaaa", sum := "e8bee49109ad2fe3e483dcc62adced0445a826c118a03946ce55eacf8d263ae5", func := "loop.example/g00878/laws.FnEncryption", spec := "fnEncryption", unfollowed := true, recurses := true, apart := false }
def FnEncryptionSaid : Prop := fnEncryptionRow.holds Try.pinned (OpenSpec.ofChange fnEncryptionSpec)

/-- ITS FALSE NEIGHBOUR: 'it returns false'. Refute it at one input. -/
def fnEncryptionWrong : ChangeSpec := { name := "fnEncryption", fn := fun _ => fun
  | [d1, d2] => { results := [.lit (.bool false)], args := [d1, d2] }
  | _ => none }
def FnEncryptionWrongFalsely : Prop := fnEncryptionRow.holds Try.pinned (OpenSpec.ofChange fnEncryptionWrong)

/-- 'laws.FnHomomorphism': WHATEVER THE INPUT: true; the input reads as it did. -/
def fnHomomorphismSpec : ChangeSpec := { name := "fnHomomorphism", fn := fun _ => fun
  | [d1, d2] => { results := [.lit (.bool true)], args := [d1, d2] }
  | _ => none }
def fnHomomorphismRow : OpenClaim := { program := "ytmihnohnfdjcaaa", sum := "e8bee49109ad2fe3e483dcc62adced0445a826c118a03946ce55eacf8d263ae5", func := "loop.example/g00878/laws.FnHomomorphism", spec := "fnHomomorphism", unfollowed := true, recurses := true, apart := false }
def FnHomomorphismSaid : Prop := fnHomomorphismRow.holds Try.pinned (OpenSpec.ofChange fnHomomorphismSpec)

/-- ITS FALSE NEIGHBOUR: 'it returns false'. Refute it at one input. -/
def fnHomomorphismWrong : ChangeSpec := { name := "fnHomomorphism", fn := fun _ => fun
  | [d1, d2] => { results := [.lit (.bool false)], args := [d1, d2] }
  | _ => none }
def FnHomomorphismWrongFalsely : Prop := fnHomomorphismRow.holds Try.pinned (OpenSpec.ofChange fnHomomorphismWrong)

/-- 'laws.FnReencryption': WHATEVER THE INPUT: true; the input reads as it did. -/
def fnReencryptionSpec : ChangeSpec := { name := "fnReencryption", fn := fun _ => fun
  | [d1, d2] => { results := [.lit (.bool true)], args := [d1, d2] }
  | _ => none }
def fnReencryptionRow : OpenClaim := { program := "ytmihnohnfdjcaaa", sum := "e8bee49109ad2fe3e483dcc62adced0445a826c118a03946ce55eacf8d263ae5", func := "loop.example/g00878/laws.FnReencryption", spec := "fnReencryption", unfollowed := true, recurses := true, apart := false }
def FnReencryptionSaid : Prop := fnReencryptionRow.holds Try.pinned (OpenSpec.ofChange fnReencryptionSpec)

/-- ITS FALSE NEIGHBOUR: 'it returns false'. Refute it at one input. -/
def fnReencryptionWrong : ChangeSpec := { name := "fnReencryption", fn := fun _ => fun
  | [d1, d2] => { results := [.lit (.bool false)], args := [d1, d2] }
  | _ => none }
def FnReencryptionWrongFalsely : Prop := fnReencryptionRow.holds Try.pinned (OpenSpec.ofChange fnReencryptionWrong)

/-- 'laws.FnExactKeyOf': WHATEVER THE INPUT: true; the input reads as it did. -/
def fnExactKeyOfSpec : ChangeSpec := { name := "fnExactKeyOf", fn := fun _ => fun
  | [d1, d2] => { results := [.lit (.bool true)], args := [d1, d2] }
  | _ => none }
def fnExactKeyOfRow : OpenClaim := { program := "ytmihnohnfdjcaaa", sum := "e8bee49109ad2fe3e483dcc62adced0445a826c118a03946ce55eacf8d263ae5", func := "loop.example/g00878/laws.FnExactKeyOf", spec := "fnExactKeyOf", unfollowed := true, recurses := true, apart := false }
def FnExactKeyOfSaid : Prop := fnExactKeyOfRow.holds Try.pinned (OpenSpec.ofChange fnExactKeyOfSpec)

/-- ITS FALSE NEIGHBOUR: 'it returns false'. Refute it at one input. -/
def fnExactKeyOfWrong : ChangeSpec := { name := "fnExactKeyOf", fn := fun _ => fun
  | [d1, d2] => { results := [.lit (.bool false)], args := [d1, d2] }
  | _ => none }
def FnExactKeyOfWrongFalsely : Prop := fnExactKeyOfRow.holds Try.pinned (OpenSpec.ofChange fnExactKeyOfWrong)

/-- 'laws.FnExactIsValidCipher': WHATEVER THE INPUT: true; the input reads as it did. -/
def fnExactIsValidCipherSpec : ChangeSpec := { name := "fnExactIsValidCipher", fn := fun _ => fun
  | [d1, d2] => { results := [.lit (.bool true)], args := [d1, d2] }
  | _ => none }
def fnExactIsValidCipherRow : OpenClaim := { program := "ytmihnohnfdjcaaa", sum := "e8bee49109ad2fe3e483dcc62adced0445a826c118a03946ce55eacf8d263ae5", func := "loop.example/g00878/laws.FnExactIsValidCipher", spec := "fnExactIsValidCipher", apart := false }
def FnExactIsValidCipherSaid : Prop := fnExactIsValidCipherRow.holds Try.pinned (OpenSpec.ofChange fnExactIsValidCipherSpec)

/-- ITS FALSE NEIGHBOUR: 'it returns false'. Refute it at one input. -/
def fnExactIsValidCipherWrong : ChangeSpec := { name := "fnExactIsValidCipher", fn := fun _ => fun
  | [d1, d2] => { results := [.lit (.bool false)], args := [d1, d2] }
  | _ => none }
def FnExactIsValidCipherWrongFalsely : Prop := fnExactIsValidCipherRow.holds Try.pinned (OpenSpec.ofChange fnExactIsValidCipherWrong)

/-- 'laws.FnExactEncryptElement': WHATEVER THE INPUT: true; the input reads as it did. -/
def fnExactEncryptElementSpec : ChangeSpec := { name := "fnExactEncryptElement", fn := fun _ => fun
  | [d1, d2, d3, d4] => { results := [.lit (.bool true)], args := [d1, d2, d3, d4] }
  | _ => none }
def fnExactEncryptElementRow : OpenClaim := { program := "ytmihnohnfdjcaaa", sum := "e8bee49109ad2fe3e483dcc62adced0445a826c118a03946ce55eacf8d263ae5", func := "loop.example/g00878/laws.FnExactEncryptElement", spec := "fnExactEncryptElement", apart := false }
def FnExactEncryptElementSaid : Prop := fnExactEncryptElementRow.holds Try.pinned (OpenSpec.ofChange fnExactEncryptElementSpec)

/-- ITS FALSE NEIGHBOUR: 'it returns false'. Refute it at one input. -/
def fnExactEncryptElementWrong : ChangeSpec := { name := "fnExactEncryptElement", fn := fun _ => fun
  | [d1, d2, d3, d4] => { results := [.lit (.bool false)], args := [d1, d2, d3, d4] }
  | _ => none }
def FnExactEncryptElementWrongFalsely : Prop := fnExactEncryptElementRow.holds Try.pinned (OpenSpec.ofChange fnExactEncryptElementWrong)

/-- 'laws.FnExactEncryptExp': WHATEVER THE INPUT: true; the input reads as it did. -/
def fnExactEncryptExpSpec : ChangeSpec := { name := "fnExactEncryptExp", fn := fun _ => fun
  | [d1, d2, d3, d4] => { results := [.lit (.bool true)], args := [d1, d2, d3, d4] }
  | _ => none }
def fnExactEncryptExpRow : OpenClaim := { program := "ytmihnohnfdjcaaa", sum := "e8bee49109ad2fe3e483dcc62adced0445a826c118a03946ce55eacf8d263ae5", func := "loop.example/g00878/laws.FnExactEncryptExp", spec := "fnExactEncryptExp", unfollowed := true, recurses := true, apart := false }
def FnExactEncryptExpSaid : Prop := fnExactEncryptExpRow.holds Try.pinned (OpenSpec.ofChange fnExactEncryptExpSpec)

/-- ITS FALSE NEIGHBOUR: 'it returns false'. Refute it at one input. -/
def fnExactEncryptExpWrong : ChangeSpec := { name := "fnExactEncryptExp", fn := fun _ => fun
  | [d1, d2, d3, d4] => { results := [.lit (.bool false)], args := [d1, d2, d3, d4] }
  | _ => none }
def FnExactEncryptExpWrongFalsely : Prop := fnExactEncryptExpRow.holds Try.pinned (OpenSpec.ofChange fnExactEncryptExpWrong)

/-- 'laws.FnExactReencrypt': WHATEVER THE INPUT: true; the input reads as it did. -/
def fnExactReencryptSpec : ChangeSpec := { name := "fnExactReencrypt", fn := fun _ => fun
  | [d1, d2, d3, d4] => { results := [.lit (.bool true)], args := [d1, d2, d3, d4] }
  | _ => none }
def fnExactReencryptRow : OpenClaim := { program := "ytmihnohnfdjcaaa", sum := "e8bee49109ad2fe3e483dcc62adced0445a826c118a03946ce55eacf8d263ae5", func := "loop.example/g00878/laws.FnExactReencrypt", spec := "fnExactReencrypt", unfollowed := true, recurses := true, apart := false }
def FnExactReencryptSaid : Prop := fnExactReencryptRow.holds Try.pinned (OpenSpec.ofChange fnExactReencryptSpec)

/-- ITS FALSE NEIGHBOUR: 'it returns false'. Refute it at one input. -/
def fnExactReencryptWrong : ChangeSpec := { name := "fnExactReencrypt", fn := fun _ => fun
  | [d1, d2, d3, d4] => { results := [.lit (.bool false)], args := [d1, d2, d3, d4] }
  | _ => none }
def FnExactReencryptWrongFalsely : Prop := fnExactReencryptRow.holds Try.pinned (OpenSpec.ofChange fnExactReencryptWrong)

/-- 'laws.FnExactReencryptAll': WHATEVER THE INPUT: true; the input reads as it did. -/
def fnExactReencryptAllSpec : ChangeSpec := { name := "fnExactReencryptAll", fn := fun _ => fun
  | [d1, d2, d3, d4] => { results := [.lit (.bool true)], args := [d1, d2, d3, d4] }
  | _ => none }
def fnExactReencryptAllRow : OpenClaim := { program := "ytmihnohnfdjcaaa", sum := "e8bee49109ad2fe3e483dcc62adced0445a826c118a03946ce55eacf8d263ae5", func := "loop.example/g00878/laws.FnExactReencryptAll", spec := "fnExactReencryptAll", unfollowed := true, recurses := true, apart := false }
def FnExactReencryptAllSaid : Prop := fnExactReencryptAllRow.holds Try.pinned (OpenSpec.ofChange fnExactReencryptAllSpec)

/-- ITS FALSE NEIGHBOUR: 'it returns false'. Refute it at one input. -/
def fnExactReencryptAllWrong : ChangeSpec := { name := "fnExactReencryptAll", fn := fun _ => fun
  | [d1, d2, d3, d4] => { results := [.lit (.bool false)], args := [d1, d2, d3, d4] }
  | _ => none }
def FnExactReencryptAllWrongFalsely : Prop := fnExactReencryptAllRow.holds Try.pinned (OpenSpec.ofChange fnExactReencryptAllWrong)

/-- 'laws.FnExactMulCiphers': WHATEVER THE INPUT: true; the input reads as it did. -/
def fnExactMulCiphersSpec : ChangeSpec := { name := "fnExactMulCiphers", fn := fun _ => fun
  | [d1, d2] => { results := [.lit (.bool true)], args := [d1, d2] }
  | _ => none }
def fnExactMulCiphersRow : OpenClaim := { program := "ytmihnohnfdjcaaa", sum := "e8bee49109ad2fe3e483dcc62adced0445a826c118a03946ce55eacf8d263ae5", func := "loop.example/g00878/laws.FnExactMulCiphers", spec := "fnExactMulCiphers", unfollowed := true, recurses := true, apart := false }
def FnExactMulCiphersSaid : Prop := fnExactMulCiphersRow.holds Try.pinned (OpenSpec.ofChange fnExactMulCiphersSpec)

/-- ITS FALSE NEIGHBOUR: 'it returns false'. Refute it at one input. -/
def fnExactMulCiphersWrong : ChangeSpec := { name := "fnExactMulCiphers", fn := fun _ => fun
  | [d1, d2] => { results := [.lit (.bool false)], args := [d1, d2] }
  | _ => none }
def FnExactMulCiphersWrongFalsely : Prop := fnExactMulCiphersRow.holds Try.pinned (OpenSpec.ofChange fnExactMulCiphersWrong)

/-- 'laws.FnExactPowCipher': WHATEVER THE INPUT: true; the input reads as it did. -/
def fnExactPowCipherSpec : ChangeSpec := { name := "fnExactPowCipher", fn := fun _ => fun
  | [d1, d2, d3] => { results := [.lit (.bool true)], args := [d1, d2, d3] }
  | _ => none }
def fnExactPowCipherRow : OpenClaim := { program := "ytmihnohnfdjcaaa", sum := "e8bee49109ad2fe3e483dcc62adced0445a826c118a03946ce55eacf8d263ae5", func := "loop.example/g00878/laws.FnExactPowCipher", spec := "fnExactPowCipher", unfollowed := true, recurses := true, apart := false }
def FnExactPowCipherSaid : Prop := fnExactPowCipherRow.holds Try.pinned (OpenSpec.ofChange fnExactPowCipherSpec)

/-- ITS FALSE NEIGHBOUR: 'it returns false'. Refute it at one input. -/
def fnExactPowCipherWrong : ChangeSpec := { name := "fnExactPowCipher", fn := fun _ => fun
  | [d1, d2, d3] => { results := [.lit (.bool false)], args := [d1, d2, d3] }
  | _ => none }
def FnExactPowCipherWrongFalsely : Prop := fnExactPowCipherRow.holds Try.pinned (OpenSpec.ofChange fnExactPowCipherWrong)

/-- 'laws.FnExactWeightedProduct': WHATEVER THE INPUT: true; the input reads as it did. -/
def fnExactWeightedProductSpec : ChangeSpec := { name := "fnExactWeightedProduct", fn := fun _ => fun
  | [d1, d2, d3] => { results := [.lit (.bool true)], args := [d1, d2, d3] }
  | _ => none }
def fnExactWeightedProductRow : OpenClaim := { program := "ytmihnohnfdjcaaa", sum := "e8bee49109ad2fe3e483dcc62adced0445a826c118a03946ce55eacf8d263ae5", func := "loop.example/g00878/laws.FnExactWeightedProduct", spec := "fnExactWeightedProduct", unfollowed := true, recurses := true, apart := false }
def FnExactWeightedProductSaid : Prop := fnExactWeightedProductRow.holds Try.pinned (OpenSpec.ofChange fnExactWeightedProductSpec)

/-- ITS FALSE NEIGHBOUR: 'it returns false'. Refute it at one input. -/
def fnExactWeightedProductWrong : ChangeSpec := { name := "fnExactWeightedProduct", fn := fun _ => fun
  | [d1, d2, d3] => { results := [.lit (.bool false)], args := [d1, d2, d3] }
  | _ => none }
def FnExactWeightedProductWrongFalsely : Prop := fnExactWeightedProductRow.holds Try.pinned (OpenSpec.ofChange fnExactWeightedProductWrong)

/-- 'laws.FnExactDecryptElement': WHATEVER THE INPUT: true; the input reads as it did. -/
def fnExactDecryptElementSpec : ChangeSpec := { name := "fnExactDecryptElement", fn := fun _ => fun
  | [d1, d2, d3] => { results := [.lit (.bool true)], args := [d1, d2, d3] }
  | _ => none }
def fnExactDecryptElementRow : OpenClaim := { program := "ytmihnohnfdjcaaa", sum := "e8bee49109ad2fe3e483dcc62adced0445a826c118a03946ce55eacf8d263ae5", func := "loop.example/g00878/laws.FnExactDecryptElement", spec := "fnExactDecryptElement", apart := false }
def FnExactDecryptElementSaid : Prop := fnExactDecryptElementRow.holds Try.pinned (OpenSpec.ofChange fnExactDecryptElementSpec)

/-- ITS FALSE NEIGHBOUR: 'it returns false'. Refute it at one input. -/
def fnExactDecryptElementWrong : ChangeSpec := { name := "fnExactDecryptElement", fn := fun _ => fun
  | [d1, d2, d3] => { results := [.lit (.bool false)], args := [d1, d2, d3] }
  | _ => none }
def FnExactDecryptElementWrongFalsely : Prop := fnExactDecryptElementRow.holds Try.pinned (OpenSpec.ofChange fnExactDecryptElementWrong)

/-- 'laws.FnExactDecryptExp': WHATEVER THE INPUT: true; the input reads as it did. -/
def fnExactDecryptExpSpec : ChangeSpec := { name := "fnExactDecryptExp", fn := fun _ => fun
  | [d1, d2, d3, d4] => { results := [.lit (.bool true)], args := [d1, d2, d3, d4] }
  | _ => none }
def fnExactDecryptExpRow : OpenClaim := { program := "ytmihnohnfdjcaaa", sum := "e8bee49109ad2fe3e483dcc62adced0445a826c118a03946ce55eacf8d263ae5", func := "loop.example/g00878/laws.FnExactDecryptExp", spec := "fnExactDecryptExp", apart := false }
def FnExactDecryptExpSaid : Prop := fnExactDecryptExpRow.holds Try.pinned (OpenSpec.ofChange fnExactDecryptExpSpec)

/-- ITS FALSE NEIGHBOUR: 'it returns false'. Refute it at one input. -/
def fnExactDecryptExpWrong : ChangeSpec := { name := "fnExactDecryptExp", fn := fun _ => fun
  | [d1, d2, d3, d4] => { results := [.lit (.bool false)], args := [d1, d2, d3, d4] }
  | _ => none }
def FnExactDecryptExpWrongFalsely : Prop := fnExactDecryptExpRow.holds Try.pinned (OpenSpec.ofChange fnExactDecryptExpWrong)

/-- 'laws.FnExactCipherSum': WHATEVER THE INPUT: true; the input reads as it did. -/
def fnExactCipherSumSpec : ChangeSpec := { name := "fnExactCipherSum", fn := fun _ => fun
  | [d1, d2] => { results := [.lit (.bool true)], args := [d1, d2] }
  | _ => none }
def fnExactCipherSumRow : OpenClaim := { program := "ytmihnohnfdjcaaa", sum := "e8bee49109ad2fe3e483dcc62adced0445a826c118a03946ce55eacf8d263ae5", func := "loop.example/g00878/laws.FnExactCipherSum", spec := "fnExactCipherSum", unfollowed := true, recurses := true, apart := false }
def FnExactCipherSumSaid : Prop := fnExactCipherSumRow.holds Try.pinned (OpenSpec.ofChange fnExactCipherSumSpec)

/-- ITS FALSE NEIGHBOUR: 'it returns false'. Refute it at one input. -/
def fnExactCipherSumWrong : ChangeSpec := { name := "fnExactCipherSum", fn := fun _ => fun
  | [d1, d2] => { results := [.lit (.bool false)], args := [d1, d2] }
  | _ => none }
def FnExactCipherSumWrongFalsely : Prop := fnExactCipherSumRow.holds Try.pinned (OpenSpec.ofChange fnExactCipherSumWrong)

/- THE SECOND FORM. 'bulk': how many values and letters a reading holds, each counted each time it is reached (what is shared counts as often as it is met; a slice's spare places count too). A statement '..UptoSaid' is the law's where the arguments, and the package variables that the reading takes, are together of bulk at most 1048576: NARROWER than '..Said'. Prove '..Said' where nothing that the law and all that it calls make is longer than what came in: it says more and counts as full. Else prove '..UptoSaid'. A law counts once. -/
mutual
def uptoBulk {H : Type} : DataW H → Nat
  | .lit (.string bytes) => bytes.length + 1
  | .lit _ => 1
  | .nil => 1
  | .ptr d => uptoBulk d + 1
  | .slice elems spare => uptoBulkAll elems + uptoBulkAll spare + 1
  | .agg parts => uptoBulkAll parts + 1
  | .iface _ d => uptoBulk d + 1
  | .map entries => uptoBulkEntries entries + 1
  | .held _ => 1
def uptoBulkAll {H : Type} : List (DataW H) → Nat
  | [] => 0
  | d :: r => uptoBulk d + uptoBulkAll r
def uptoBulkEntries {H : Type} : List (Lit × DataW H) → Nat
  | [] => 0
  | x :: r => uptoBulkEntry x + uptoBulkEntries r
def uptoBulkEntry {H : Type} : Lit × DataW H → Nat
  | (.string bytes, d) => bytes.length + uptoBulk d + 1
  | (_, d) => uptoBulk d + 1
 end
def uptoSmall : (H : Type) → List (DataW H) → Bool := fun _ ds => decide (uptoBulkAll ds ≤ 1048576)
def OpenSpec.upto (s : _root_.Go.ChangeSpec) : _root_.Go.OpenSpec := { _root_.Go.OpenSpec.ofChange s with cond := some uptoSmall }

/-- 'laws.FnEncryption', WHERE WHAT IT READS IS OF BULK AT MOST 1048576: true; the input reads as it did. -/
def fnEncryptionUptoRow : OpenClaim := { program := "ytmihnohnfdjcaaa", sum := "e8bee49109ad2fe3e483dcc62adced0445a826c118a03946ce55eacf8d263ae5", func := "loop.example/g00878/laws.FnEncryption", spec := "fnEncryption", unfollowed := true, recurses := true, apart := false, narrowed := true }
def FnEncryptionUptoSaid : Prop := fnEncryptionUptoRow.holds Try.pinned (OpenSpec.upto fnEncryptionSpec)

/-- 'laws.FnHomomorphism', WHERE WHAT IT READS IS OF BULK AT MOST 1048576: true; the input reads as it did. -/
def fnHomomorphismUptoRow : OpenClaim := { program := "ytmihnohnfdjcaaa", sum := "e8bee49109ad2fe3e483dcc62adced0445a826c118a03946ce55eacf8d263ae5", func := "loop.example/g00878/laws.FnHomomorphism", spec := "fnHomomorphism", unfollowed := true, recurses := true, apart := false, narrowed := true }
def FnHomomorphismUptoSaid : Prop := fnHomomorphismUptoRow.holds Try.pinned (OpenSpec.upto fnHomomorphismSpec)

/-- 'laws.FnReencryption', WHERE WHAT IT READS IS OF BULK AT MOST 1048576: true; the input reads as it did. -/
def fnReencryptionUptoRow : OpenClaim := { program := "ytmihnohnfdjcaaa", sum := "e8bee49109ad2fe3e483dcc62adced0445a826c118a03946ce55eacf8d263ae5", func := "loop.example/g00878/laws.FnReencryption", spec := "fnReencryption", unfollowed := true, recurses := true, apart := false, narrowed := true }
def FnReencryptionUptoSaid : Prop := fnReencryptionUptoRow.holds Try.pinned (OpenSpec.upto fnReencryptionSpec)

/-- 'laws.FnExactKeyOf', WHERE WHAT IT READS IS OF BULK AT MOST 1048576: true; the input reads as it did. -/
def fnExactKeyOfUptoRow : OpenClaim := { program := "ytmihnohnfdjcaaa", sum := "e8bee49109ad2fe3e483dcc62adced0445a826c118a03946ce55eacf8d263ae5", func := "loop.example/g00878/laws.FnExactKeyOf", spec := "fnExactKeyOf", unfollowed := true, recurses := true, apart := false, narrowed := true }
def FnExactKeyOfUptoSaid : Prop := fnExactKeyOfUptoRow.holds Try.pinned (OpenSpec.upto fnExactKeyOfSpec)

/-- 'laws.FnExactIsValidCipher', WHERE WHAT IT READS IS OF BULK AT MOST 1048576: true; the input reads as it did. -/
def fnExactIsValidCipherUptoRow : OpenClaim := { program := "ytmihnohnfdjcaaa", sum := "e8bee49109ad2fe3e483dcc62adced0445a826c118a03946ce55eacf8d263ae5", func := "loop.example/g00878/laws.FnExactIsValidCipher", spec := "fnExactIsValidCipher", apart := false, narrowed := true }
def FnExactIsValidCipherUptoSaid : Prop := fnExactIsValidCipherUptoRow.holds Try.pinned (OpenSpec.upto fnExactIsValidCipherSpec)

/-- 'laws.FnExactEncryptElement', WHERE WHAT IT READS IS OF BULK AT MOST 1048576: true; the input reads as it did. -/
def fnExactEncryptElementUptoRow : OpenClaim := { program := "ytmihnohnfdjcaaa", sum := "e8bee49109ad2fe3e483dcc62adced0445a826c118a03946ce55eacf8d263ae5", func := "loop.example/g00878/laws.FnExactEncryptElement", spec := "fnExactEncryptElement", apart := false, narrowed := true }
def FnExactEncryptElementUptoSaid : Prop := fnExactEncryptElementUptoRow.holds Try.pinned (OpenSpec.upto fnExactEncryptElementSpec)

/-- 'laws.FnExactEncryptExp', WHERE WHAT IT READS IS OF BULK AT MOST 1048576: true; the input reads as it did. -/
def fnExactEncryptExpUptoRow : OpenClaim := { program := "ytmihnohnfdjcaaa", sum := "e8bee49109ad2fe3e483dcc62adced0445a826c118a03946ce55eacf8d263ae5", func := "loop.example/g00878/laws.FnExactEncryptExp", spec := "fnExactEncryptExp", unfollowed := true, recurses := true, apart := false, narrowed := true }
def FnExactEncryptExpUptoSaid : Prop := fnExactEncryptExpUptoRow.holds Try.pinned (OpenSpec.upto fnExactEncryptExpSpec)

/-- 'laws.FnExactReencrypt', WHERE WHAT IT READS IS OF BULK AT MOST 1048576: true; the input reads as it did. -/
def fnExactReencryptUptoRow : OpenClaim := { program := "ytmihnohnfdjcaaa", sum := "e8bee49109ad2fe3e483dcc62adced0445a826c118a03946ce55eacf8d263ae5", func := "loop.example/g00878/laws.FnExactReencrypt", spec := "fnExactReencrypt", unfollowed := true, recurses := true, apart := false, narrowed := true }
def FnExactReencryptUptoSaid : Prop := fnExactReencryptUptoRow.holds Try.pinned (OpenSpec.upto fnExactReencryptSpec)

/-- 'laws.FnExactReencryptAll', WHERE WHAT IT READS IS OF BULK AT MOST 1048576: true; the input reads as it did. -/
def fnExactReencryptAllUptoRow : OpenClaim := { program := "ytmihnohnfdjcaaa", sum := "e8bee49109ad2fe3e483dcc62adced0445a826c118a03946ce55eacf8d263ae5", func := "loop.example/g00878/laws.FnExactReencryptAll", spec := "fnExactReencryptAll", unfollowed := true, recurses := true, apart := false, narrowed := true }
def FnExactReencryptAllUptoSaid : Prop := fnExactReencryptAllUptoRow.holds Try.pinned (OpenSpec.upto fnExactReencryptAllSpec)

/-- 'laws.FnExactMulCiphers', WHERE WHAT IT READS IS OF BULK AT MOST 1048576: true; the input reads as it did. -/
def fnExactMulCiphersUptoRow : OpenClaim := { program := "ytmihnohnfdjcaaa", sum := "e8bee49109ad2fe3e483dcc62adced0445a826c118a03946ce55eacf8d263ae5", func := "loop.example/g00878/laws.FnExactMulCiphers", spec := "fnExactMulCiphers", unfollowed := true, recurses := true, apart := false, narrowed := true }
def FnExactMulCiphersUptoSaid : Prop := fnExactMulCiphersUptoRow.holds Try.pinned (OpenSpec.upto fnExactMulCiphersSpec)

/-- 'laws.FnExactPowCipher', WHERE WHAT IT READS IS OF BULK AT MOST 1048576: true; the input reads as it did. -/
def fnExactPowCipherUptoRow : OpenClaim := { program := "ytmihnohnfdjcaaa", sum := "e8bee49109ad2fe3e483dcc62adced0445a826c118a03946ce55eacf8d263ae5", func := "loop.example/g00878/laws.FnExactPowCipher", spec := "fnExactPowCipher", unfollowed := true, recurses := true, apart := false, narrowed := true }
def FnExactPowCipherUptoSaid : Prop := fnExactPowCipherUptoRow.holds Try.pinned (OpenSpec.upto fnExactPowCipherSpec)

/-- 'laws.FnExactWeightedProduct', WHERE WHAT IT READS IS OF BULK AT MOST 1048576: true; the input reads as it did. -/
def fnExactWeightedProductUptoRow : OpenClaim := { program := "ytmihnohnfdjcaaa", sum := "e8bee49109ad2fe3e483dcc62adced0445a826c118a03946ce55eacf8d263ae5", func := "loop.example/g00878/laws.FnExactWeightedProduct", spec := "fnExactWeightedProduct", unfollowed := true, recurses := true, apart := false, narrowed := true }
def FnExactWeightedProductUptoSaid : Prop := fnExactWeightedProductUptoRow.holds Try.pinned (OpenSpec.upto fnExactWeightedProductSpec)

/-- 'laws.FnExactDecryptElement', WHERE WHAT IT READS IS OF BULK AT MOST 1048576: true; the input reads as it did. -/
def fnExactDecryptElementUptoRow : OpenClaim := { program := "ytmihnohnfdjcaaa", sum := "e8bee49109ad2fe3e483dcc62adced0445a826c118a03946ce55eacf8d263ae5", func := "loop.example/g00878/laws.FnExactDecryptElement", spec := "fnExactDecryptElement", apart := false, narrowed := true }
def FnExactDecryptElementUptoSaid : Prop := fnExactDecryptElementUptoRow.holds Try.pinned (OpenSpec.upto fnExactDecryptElementSpec)

/-- 'laws.FnExactDecryptExp', WHERE WHAT IT READS IS OF BULK AT MOST 1048576: true; the input reads as it did. -/
def fnExactDecryptExpUptoRow : OpenClaim := { program := "ytmihnohnfdjcaaa", sum := "e8bee49109ad2fe3e483dcc62adced0445a826c118a03946ce55eacf8d263ae5", func := "loop.example/g00878/laws.FnExactDecryptExp", spec := "fnExactDecryptExp", apart := false, narrowed := true }
def FnExactDecryptExpUptoSaid : Prop := fnExactDecryptExpUptoRow.holds Try.pinned (OpenSpec.upto fnExactDecryptExpSpec)

/-- 'laws.FnExactCipherSum', WHERE WHAT IT READS IS OF BULK AT MOST 1048576: true; the input reads as it did. -/
def fnExactCipherSumUptoRow : OpenClaim := { program := "ytmihnohnfdjcaaa", sum := "e8bee49109ad2fe3e483dcc62adced0445a826c118a03946ce55eacf8d263ae5", func := "loop.example/g00878/laws.FnExactCipherSum", spec := "fnExactCipherSum", unfollowed := true, recurses := true, apart := false, narrowed := true }
def FnExactCipherSumUptoSaid : Prop := fnExactCipherSumUptoRow.holds Try.pinned (OpenSpec.upto fnExactCipherSumSpec)

end Rows
end Go.Proofs.Ytmihnohnfdjcaaa
