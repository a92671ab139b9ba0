/-
  No cell of these rows narrows 'for every input' (looked for: loops, veiled, ifaces, maps, wideKeys, modest, calm, conditions, laid).
  DERIVED. THE GIVEN ROWS OF THIS SEAT. 9 by the template 'for every input the law returns true; each argument reads behind the call as it read before'; 0 by the template 'total and deterministic' (their statements: YtafoenoilcgjdaaTotals.lean).
  GIVEN WITH THE SEED: the statements are not yours to turn. If you find one false, say at which input.
  Laid BY PROGRAM, IN A SANDBOX (cutbox-rows.mjs): the forced cells as the released guide's own fill.sh prints them over the translation 60117114b0540a8b… (all of the seat's roots in one cut). By AI agents, Wed Nov 11 2026. No macro, syntax, notation, axiom, sorry.
-/
import Derived.Test.YtafoenoilcgjdaaChecked
import GoSem.Claim
import GoSem.ClaimJoined
import GoSem.ClaimMapViews
import Derived.JoinedTies
import Derived.KernelRfl
namespace Go.Proofs.Ytafoenoilcgjdaa
/- THE CELL 'sum', in the pinned program and in every row, IS THE sha256 OF THE DUMP (.gsa) THAT YtafoenoilcgjdaaProg.lean LOADS. Nothing in Lean hashes anything: it is a label: what it is worth is what the hold of that sum in a sandbox is worth. -/
noncomputable def Try.pinned : Pinned := { name := "ytafoenoilcgjdaa", sum := "60117114b0540a8b05a7289c2c03d7e5f9bbb281fd87524a2aa372142785fced", checked := Try.checked }
namespace Rows
def none {H : Type} : Left H := { results := [], args := [] }

/-- 'laws.FnExactMulOf': WHATEVER THE INPUT: true; the input reads as it did. -/
def fnExactMulOfSpec : ChangeSpec := { name := "fnExactMulOf", fn := fun _ => fun
  | [d1, d2] => { results := [.lit (.bool true)], args := [d1, d2] }
  | _ => none }
def fnExactMulOfRow : OpenClaim := { program := "ytafoenoilcgjdaa", sum := "60117114b0540a8b05a7289c2c03d7e5f9bbb281fd87524a2aa372142785fced", func := "loop.example/g00878/laws.FnExactMulOf", spec := "fnExactMulOf", unfollowed := true, recurses := true, apart := false }
def FnExactMulOfSaid : Prop := fnExactMulOfRow.holds Try.pinned (OpenSpec.ofChange fnExactMulOfSpec)

/-- ITS FALSE NEIGHBOUR: 'it returns false'. Refute it at one input. -/
def fnExactMulOfWrong : ChangeSpec := { name := "fnExactMulOf", fn := fun _ => fun
  | [d1, d2] => { results := [.lit (.bool false)], args := [d1, d2] }
  | _ => none }
def FnExactMulOfWrongFalsely : Prop := fnExactMulOfRow.holds Try.pinned (OpenSpec.ofChange fnExactMulOfWrong)

/-- 'laws.FnGroups': WHATEVER THE INPUT: true; the input reads as it did. -/
def fnGroupsSpec : ChangeSpec := { name := "fnGroups", fn := fun _ => fun
  | [d1, d2] => { results := [.lit (.bool true)], args := [d1, d2] }
  | _ => none }
def fnGroupsRow : OpenClaim := { program := "ytafoenoilcgjdaa", sum := "60117114b0540a8b05a7289c2c03d7e5f9bbb281fd87524a2aa372142785fced", func := "loop.example/g00878/laws.FnGroups", spec := "fnGroups", unfollowed := true, recurses := true, apart := false }
def FnGroupsSaid : Prop := fnGroupsRow.holds Try.pinned (OpenSpec.ofChange fnGroupsSpec)

/-- ITS FALSE NEIGHBOUR: 'it returns false'. Refute it at one input. -/
def fnGroupsWrong : ChangeSpec := { name := "fnGroups", fn := fun _ => fun
  | [d1, d2] => { results := [.lit (.bool false)], args := [d1, d2] }
  | _ => none }
def FnGroupsWrongFalsely : Prop := fnGroupsRow.holds Try.pinned (OpenSpec.ofChange fnGroupsWrong)

/-- 'laws.FnPowers': WHATEVER THE INPUT: true; the input reads as it did. -/
def fnPowersSpec : ChangeSpec := { name := "fnPowers", fn := fun _ => fun
  | [d1, d2] => { results := [.lit (.bool true)], args := [d1, d2] }
  | _ => none }
def fnPowersRow : OpenClaim := { program := "ytafoenoilcgjdaa", sum := "60117114b0540a8b05a7289c2c03d7e5f9bbb281fd87524a2aa372142785fced", func := "loop.example/g00878/laws.FnPowers", spec := "fnPowers", unfollowed := true, recurses := true, apart := false }
def FnPowersSaid : Prop := fnPowersRow.holds Try.pinned (OpenSpec.ofChange fnPowersSpec)

/-- ITS FALSE NEIGHBOUR: 'it returns false'. Refute it at one input. -/
def fnPowersWrong : ChangeSpec := { name := "fnPowers", fn := fun _ => fun
  | [d1, d2] => { results := [.lit (.bool false)], args := [d1, d2] }
  | _ => none }
def FnPowersWrongFalsely : Prop := fnPowersRow.holds Try.pinned (OpenSpec.ofChange fnPowersWrong)

/-- 'laws.FnExactReencryptAll': WHATEVER THE INPUT: true; the input reads as it did. -/
def fnExactReencryptAllSpec : ChangeSpec := { name := "fnExactReencryptAll", fn := fun _ => fun
  | [d1, d2, d3, d4] => { results := [.lit (.bool true)], args := [d1, d2, d3, d4] }
  | _ => none }
def fnExactReencryptAllRow : OpenClaim := { program := "ytafoenoilcgjdaa", sum := "60117114b0540a8b05a7289c2c03d7e5f9bbb281fd87524a2aa372142785fced", func := "loop.example/g00878/laws.FnExactReencryptAll", spec := "fnExactReencryptAll", unfollowed := true, recurses := true, apart := false }
def FnExactReencryptAllSaid : Prop := fnExactReencryptAllRow.holds Try.pinned (OpenSpec.ofChange fnExactReencryptAllSpec)

/-- ITS FALSE NEIGHBOUR: 'it returns false'. Refute it at one input. -/
def fnExactReencryptAllWrong : ChangeSpec := { name := "fnExactReencryptAll", fn := fun _ => fun
  | [d1, d2, d3, d4] => { results := [.lit (.bool false)], args := [d1, d2, d3, d4] }
  | _ => none }
def FnExactReencryptAllWrongFalsely : Prop := fnExactReencryptAllRow.holds Try.pinned (OpenSpec.ofChange fnExactReencryptAllWrong)

/-- 'laws.FnExactMulCiphers': WHATEVER THE INPUT: true; the input reads as it did. -/
def fnExactMulCiphersSpec : ChangeSpec := { name := "fnExactMulCiphers", fn := fun _ => fun
  | [d1, d2] => { results := [.lit (.bool true)], args := [d1, d2] }
  | _ => none }
def fnExactMulCiphersRow : OpenClaim := { program := "ytafoenoilcgjdaa", sum := "60117114b0540a8b05a7289c2c03d7e5f9bbb281fd87524a2aa372142785fced", func := "loop.example/g00878/laws.FnExactMulCiphers", spec := "fnExactMulCiphers", unfollowed := true, recurses := true, apart := false }
def FnExactMulCiphersSaid : Prop := fnExactMulCiphersRow.holds Try.pinned (OpenSpec.ofChange fnExactMulCiphersSpec)

/-- ITS FALSE NEIGHBOUR: 'it returns false'. Refute it at one input. -/
def fnExactMulCiphersWrong : ChangeSpec := { name := "fnExactMulCiphers", fn := fun _ => fun
  | [d1, d2] => { results := [.lit (.bool false)], args := [d1, d2] }
  | _ => none }
def FnExactMulCiphersWrongFalsely : Prop := fnExactMulCiphersRow.holds Try.pinned (OpenSpec.ofChange fnExactMulCiphersWrong)

/-- 'laws.FnExactPowCipher': WHATEVER THE INPUT: true; the input reads as it did. -/
def fnExactPowCipherSpec : ChangeSpec := { name := "fnExactPowCipher", fn := fun _ => fun
  | [d1, d2, d3] => { results := [.lit (.bool true)], args := [d1, d2, d3] }
  | _ => none }
def fnExactPowCipherRow : OpenClaim := { program := "ytafoenoilcgjdaa", sum := "60117114b0540a8b05a7289c2c03d7e5f9bbb281fd87524a2aa372142785fced", func := "loop.example/g00878/laws.FnExactPowCipher", spec := "fnExactPowCipher", unfollowed := true, recurses := true, apart := false }
def FnExactPowCipherSaid : Prop := fnExactPowCipherRow.holds Try.pinned (OpenSpec.ofChange fnExactPowCipherSpec)

/-- ITS FALSE NEIGHBOUR: 'it returns false'. Refute it at one input. -/
def fnExactPowCipherWrong : ChangeSpec := { name := "fnExactPowCipher", fn := fun _ => fun
  | [d1, d2, d3] => { results := [.lit (.bool false)], args := [d1, d2, d3] }
  | _ => none }
def FnExactPowCipherWrongFalsely : Prop := fnExactPowCipherRow.holds Try.pinned (OpenSpec.ofChange fnExactPowCipherWrong)

/-- 'laws.FnExactWeightedProduct': WHATEVER THE INPUT: true; the input reads as it did. -/
def fnExactWeightedProductSpec : ChangeSpec := { name := "fnExactWeightedProduct", fn := fun _ => fun
  | [d1, d2, d3] => { results := [.lit (.bool true)], args := [d1, d2, d3] }
  | _ => none }
def fnExactWeightedProductRow : OpenClaim := { program := "ytafoenoilcgjdaa", sum := "60117114b0540a8b05a7289c2c03d7e5f9bbb281fd87524a2aa372142785fced", func := "loop.example/g00878/laws.FnExactWeightedProduct", spec := "fnExactWeightedProduct", unfollowed := true, recurses := true, apart := false }
def FnExactWeightedProductSaid : Prop := fnExactWeightedProductRow.holds Try.pinned (OpenSpec.ofChange fnExactWeightedProductSpec)

/-- ITS FALSE NEIGHBOUR: 'it returns false'. Refute it at one input. -/
def fnExactWeightedProductWrong : ChangeSpec := { name := "fnExactWeightedProduct", fn := fun _ => fun
  | [d1, d2, d3] => { results := [.lit (.bool false)], args := [d1, d2, d3] }
  | _ => none }
def FnExactWeightedProductWrongFalsely : Prop := fnExactWeightedProductRow.holds Try.pinned (OpenSpec.ofChange fnExactWeightedProductWrong)

/-- 'laws.FnExactCipherSum': WHATEVER THE INPUT: true; the input reads as it did. -/
def fnExactCipherSumSpec : ChangeSpec := { name := "fnExactCipherSum", fn := fun _ => fun
  | [d1, d2] => { results := [.lit (.bool true)], args := [d1, d2] }
  | _ => none }
def fnExactCipherSumRow : OpenClaim := { program := "ytafoenoilcgjdaa", sum := "60117114b0540a8b05a7289c2c03d7e5f9bbb281fd87524a2aa372142785fced", func := "loop.example/g00878/laws.FnExactCipherSum", spec := "fnExactCipherSum", unfollowed := true, recurses := true, apart := false }
def FnExactCipherSumSaid : Prop := fnExactCipherSumRow.holds Try.pinned (OpenSpec.ofChange fnExactCipherSumSpec)

/-- ITS FALSE NEIGHBOUR: 'it returns false'. Refute it at one input. -/
def fnExactCipherSumWrong : ChangeSpec := { name := "fnExactCipherSum", fn := fun _ => fun
  | [d1, d2] => { results := [.lit (.bool false)], args := [d1, d2] }
  | _ => none }
def FnExactCipherSumWrongFalsely : Prop := fnExactCipherSumRow.holds Try.pinned (OpenSpec.ofChange fnExactCipherSumWrong)

/-- 'laws.FnReencryption': WHATEVER THE INPUT: true; the input reads as it did. -/
def fnReencryptionSpec : ChangeSpec := { name := "fnReencryption", fn := fun _ => fun
  | [d1, d2] => { results := [.lit (.bool true)], args := [d1, d2] }
  | _ => none }
def fnReencryptionRow : OpenClaim := { program := "ytafoenoilcgjdaa", sum := "60117114b0540a8b05a7289c2c03d7e5f9bbb281fd87524a2aa372142785fced", func := "loop.example/g00878/laws.FnReencryption", spec := "fnReencryption", unfollowed := true, recurses := true, apart := false }
def FnReencryptionSaid : Prop := fnReencryptionRow.holds Try.pinned (OpenSpec.ofChange fnReencryptionSpec)

/-- ITS FALSE NEIGHBOUR: 'it returns false'. Refute it at one input. -/
def fnReencryptionWrong : ChangeSpec := { name := "fnReencryption", fn := fun _ => fun
  | [d1, d2] => { results := [.lit (.bool false)], args := [d1, d2] }
  | _ => none }
def FnReencryptionWrongFalsely : Prop := fnReencryptionRow.holds Try.pinned (OpenSpec.ofChange fnReencryptionWrong)

/- THE SECOND FORM. 'bulk': how many values and letters a reading holds, each counted each time it is reached (what is shared counts as often as it is met; a slice's spare places count too). A statement '..UptoSaid' is the law's where the arguments, and the package variables that the reading takes, are together of bulk at most 1048576: NARROWER than '..Said'. Prove '..Said' where nothing that the law and all that it calls make is longer than what came in: it says more and counts as full. Else prove '..UptoSaid'. A law counts once. -/
mutual
def uptoBulk {H : Type} : DataW H → Nat
  | .lit (.string bytes) => bytes.length + 1
  | .lit _ => 1
  | .nil => 1
  | .ptr d => uptoBulk d + 1
  | .slice elems spare => uptoBulkAll elems + uptoBulkAll spare + 1
  | .agg parts => uptoBulkAll parts + 1
  | .iface _ d => uptoBulk d + 1
  | .map entries => uptoBulkEntries entries + 1
  | .held _ => 1
def uptoBulkAll {H : Type} : List (DataW H) → Nat
  | [] => 0
  | d :: r => uptoBulk d + uptoBulkAll r
def uptoBulkEntries {H : Type} : List (Lit × DataW H) → Nat
  | [] => 0
  | x :: r => uptoBulkEntry x + uptoBulkEntries r
def uptoBulkEntry {H : Type} : Lit × DataW H → Nat
  | (.string bytes, d) => bytes.length + uptoBulk d + 1
  | (_, d) => uptoBulk d + 1
 end
def uptoSmall : (H : Type) → List (DataW H) → Bool := fun _ ds => decide (uptoBulkAll ds ≤ 1048576)
def OpenSpec.upto (s : _root_.Go.ChangeSpec) : _root_.Go.OpenSpec := { _root_.Go.OpenSpec.ofChange s with cond := some uptoSmall }

/-- 'laws.FnExactMulOf', WHERE WHAT IT READS IS OF BULK AT MOST 1048576: true; the input reads as it did. -/
def fnExactMulOfUptoRow : OpenClaim := { program := "ytafoenoilcgjdaa", sum := "60117114b0540a8b05a7289c2c03d7e5f9bbb281fd87524a2aa372142785fced", func := "loop.example/g00878/laws.FnExactMulOf", spec := "fnExactMulOf", unfollowed := true, recurses := true, apart := false, narrowed := true }
def FnExactMulOfUptoSaid : Prop := fnExactMulOfUptoRow.holds Try.pinned (OpenSpec.upto fnExactMulOfSpec)

/-- 'laws.FnGroups', WHERE WHAT IT READS IS OF BULK AT MOST 1048576: true; the input reads as it did. -/
def fnGroupsUptoRow : OpenClaim := { program := "ytafoenoilcgjdaa", sum := "60117114b0540a8b05a7289c2c03d7e5f9bbb281fd87524a2aa372142785fced", func := "loop.example/g00878/laws.FnGroups", spec := "fnGroups", unfollowed := true, recurses := true, apart := false, narrowed := true }
def FnGroupsUptoSaid : Prop := fnGroupsUptoRow.holds Try.pinned (OpenSpec.upto fnGroupsSpec)

/-- 'laws.FnPowers', WHERE WHAT IT READS IS OF BULK AT MOST 1048576: true; the input reads as it did. -/
def fnPowersUptoRow : OpenClaim := { program := "ytafoenoilcgjdaa", sum := "60117114b0540a8b05a7289c2c03d7e5f9bbb281fd87524a2aa372142785fced", func := "loop.example/g00878/laws.FnPowers", spec := "fnPowers", unfollowed := true, recurses := true, apart := false, narrowed := true }
def FnPowersUptoSaid : Prop := fnPowersUptoRow.holds Try.pinned (OpenSpec.upto fnPowersSpec)

/-- 'laws.FnExactReencryptAll', WHERE WHAT IT READS IS OF BULK AT MOST 1048576: true; the input reads as it did. -/
def fnExactReencryptAllUptoRow : OpenClaim := { program := "ytafoenoilcgjdaa", sum := "60117114b0540a8b05a7289c2c03d7e5f9bbb281fd87524a2aa372142785fced", func := "loop.example/g00878/laws.FnExactReencryptAll", spec := "fnExactReencryptAll", unfollowed := true, recurses := true, apart := false, narrowed := true }
def FnExactReencryptAllUptoSaid : Prop := fnExactReencryptAllUptoRow.holds Try.pinned (OpenSpec.upto fnExactReencryptAllSpec)

/-- 'laws.FnExactMulCiphers', WHERE WHAT IT READS IS OF BULK AT MOST 1048576: true; the input reads as it did. -/
def fnExactMulCiphersUptoRow : OpenClaim := { program := "ytafoenoilcgjdaa", sum := "60117114b0540a8b05a7289c2c03d7e5f9bbb281fd87524a2aa372142785fced", func := "loop.example/g00878/laws.FnExactMulCiphers", spec := "fnExactMulCiphers", unfollowed := true, recurses := true, apart := false, narrowed := true }
def FnExactMulCiphersUptoSaid : Prop := fnExactMulCiphersUptoRow.holds Try.pinned (OpenSpec.upto fnExactMulCiphersSpec)

/-- 'laws.FnExactPowCipher', WHERE WHAT IT READS IS OF BULK AT MOST 1048576: true; the input reads as it did. -/
def fnExactPowCipherUptoRow : OpenClaim := { program := "ytafoenoilcgjdaa", sum := "60117114b0540a8b05a7289c2c03d7e5f9bbb281fd87524a2aa372142785fced", func := "loop.example/g00878/laws.FnExactPowCipher", spec := "fnExactPowCipher", unfollowed := true, recurses := true, apart := false, narrowed := true }
def FnExactPowCipherUptoSaid : Prop := fnExactPowCipherUptoRow.holds Try.pinned (OpenSpec.upto fnExactPowCipherSpec)

/-- 'laws.FnExactWeightedProduct', WHERE WHAT IT READS IS OF BULK AT MOST 1048576: true; the input reads as it did. -/
def fnExactWeightedProductUptoRow : OpenClaim := { program := "ytafoenoilcgjdaa", sum := "60117114b0540a8b05a7289c2c03d7e5f9bbb281fd87524a2aa372142785fced", func := "loop.example/g00878/laws.FnExactWeightedProduct", spec := "fnExactWeightedProduct", unfollowed := true, recurses := true, apart := false, narrowed := true }
def FnExactWeightedProductUptoSaid : Prop := fnExactWeightedProductUptoRow.holds Try.pinned (OpenSpec.upto fnExactWeightedProductSpec)

/-- 'laws.FnExactCipherSum', WHERE WHAT IT READS IS OF BULK AT MOST 1048576: true; the input reads as it did. -/
def fnExactCipherSumUptoRow : OpenClaim := { program := "ytafoenoilcgjdaa", sum := "60117114b0540a8b05a7289c2c03d7e5f9bbb281fd87524a2aa372142785fced", func := "loop.example/g00878/laws.FnExactCipherSum", spec := "fnExactCipherSum", unfollowed := true, recurses := true, apart := false, narrowed := true }
def FnExactCipherSumUptoSaid : Prop := fnExactCipherSumUptoRow.holds Try.pinned (OpenSpec.upto fnExactCipherSumSpec)

/-- 'laws.FnReencryption', WHERE WHAT IT READS IS OF BULK AT MOST 1048576: true; the input reads as it did. -/
def fnReencryptionUptoRow : OpenClaim := { program := "ytafoenoilcgjdaa", sum := "60117114b0540a8b05a7289c2c03d7e5f9bbb281fd87524a2aa372142785fced", func := "loop.example/g00878/laws.FnReencryption", spec := "fnReencryption", unfollowed := true, recurses := true, apart := false, narrowed := true }
def FnReencryptionUptoSaid : Prop := fnReencryptionUptoRow.holds Try.pinned (OpenSpec.upto fnReencryptionSpec)

end Rows
end Go.Proofs.Ytafoenoilcgjdaa
