/-
  No cell of these rows narrows 'for every input' (looked for: loops, veiled, ifaces, maps, wideKeys, modest, calm, conditions, laid).
  DERIVED. THE GIVEN ROWS OF THIS SEAT. 7 by the template 'for every input the law returns true; each argument reads behind the call as it read before'; 0 by the template 'total and deterministic' (their statements: YtblclghbabhdlaaTotals.lean).
  GIVEN WITH THE SEED: the statements are not yours to turn. If you find one false, say at which input.
  Laid BY PROGRAM, IN A SANDBOX (cutbox-rows.mjs): the forced cells as the released guide's own fill.sh prints them over the translation f0c35748f079b205… (all of the seat's roots in one cut). By AI agents, Wed Nov 11 2026. No macro, syntax, notation, axiom, sorry.
-/
import Derived.Test.YtblclghbabhdlaaChecked
import GoSem.Claim
import GoSem.ClaimJoined
import GoSem.ClaimMapViews
import Derived.JoinedTies
import Derived.KernelRfl
namespace Go.Proofs.Ytblclghbabhdlaa
/- THE CELL 'sum', in the pinned program and in every row, IS THE sha256 OF THE DUMP (.gsa) THAT YtblclghbabhdlaaProg.lean LOADS. Nothing in Lean hashes anything: it is a label: what it is worth is what the hold of that sum in a sandbox is worth. -/
noncomputable def Try.pinned : Pinned := { name := "ytblclghbabhdlaa", sum := "f0c35748f079b2052879ae1a9b440895895cf10ae6b2f08261a26db8bc990450", checked := Try.checked }
namespace Rows
def none {H : Type} : Left H := { results := [], args := [] }

/-- 'laws.FnExactProveBit': WHATEVER THE INPUT: true; the input reads as it did. -/
def fnExactProveBitSpec : ChangeSpec := { name := "fnExactProveBit", fn := fun _ => fun
  | [d1, d2, d3, d4, d5] => { results := [.lit (.bool true)], args := [d1, d2, d3, d4, d5] }
  | _ => none }
def fnExactProveBitRow : OpenClaim := { program := "ytblclghbabhdlaa", sum := "f0c35748f079b2052879ae1a9b440895895cf10ae6b2f08261a26db8bc990450", func := "loop.example/g00878/laws.FnExactProveBit", spec := "fnExactProveBit", unfollowed := true, recurses := true, apart := false }
def FnExactProveBitSaid : Prop := fnExactProveBitRow.holds Try.pinned (OpenSpec.ofChange fnExactProveBitSpec)

/-- ITS FALSE NEIGHBOUR: 'it returns false'. Refute it at one input. -/
def fnExactProveBitWrong : ChangeSpec := { name := "fnExactProveBit", fn := fun _ => fun
  | [d1, d2, d3, d4, d5] => { results := [.lit (.bool false)], args := [d1, d2, d3, d4, d5] }
  | _ => none }
def FnExactProveBitWrongFalsely : Prop := fnExactProveBitRow.holds Try.pinned (OpenSpec.ofChange fnExactProveBitWrong)

/-- 'laws.FnExactVerifyBit': WHATEVER THE INPUT: true; the input reads as it did. -/
def fnExactVerifyBitSpec : ChangeSpec := { name := "fnExactVerifyBit", fn := fun _ => fun
  | [d1, d2, d3, d4] => { results := [.lit (.bool true)], args := [d1, d2, d3, d4] }
  | _ => none }
def fnExactVerifyBitRow : OpenClaim := { program := "ytblclghbabhdlaa", sum := "f0c35748f079b2052879ae1a9b440895895cf10ae6b2f08261a26db8bc990450", func := "loop.example/g00878/laws.FnExactVerifyBit", spec := "fnExactVerifyBit", unfollowed := true, recurses := true, apart := false }
def FnExactVerifyBitSaid : Prop := fnExactVerifyBitRow.holds Try.pinned (OpenSpec.ofChange fnExactVerifyBitSpec)

/-- ITS FALSE NEIGHBOUR: 'it returns false'. Refute it at one input. -/
def fnExactVerifyBitWrong : ChangeSpec := { name := "fnExactVerifyBit", fn := fun _ => fun
  | [d1, d2, d3, d4] => { results := [.lit (.bool false)], args := [d1, d2, d3, d4] }
  | _ => none }
def FnExactVerifyBitWrongFalsely : Prop := fnExactVerifyBitRow.holds Try.pinned (OpenSpec.ofChange fnExactVerifyBitWrong)

/-- 'laws.FnExactCoinsForRange': WHATEVER THE INPUT: true; the input reads as it did. -/
def fnExactCoinsForRangeSpec : ChangeSpec := { name := "fnExactCoinsForRange", fn := fun _ => fun
  | [d] => { results := [.lit (.bool true)], args := [d] }
  | _ => none }
def fnExactCoinsForRangeRow : OpenClaim := { program := "ytblclghbabhdlaa", sum := "f0c35748f079b2052879ae1a9b440895895cf10ae6b2f08261a26db8bc990450", func := "loop.example/g00878/laws.FnExactCoinsForRange", spec := "fnExactCoinsForRange", apart := false }
def FnExactCoinsForRangeSaid : Prop := fnExactCoinsForRangeRow.holds Try.pinned (OpenSpec.ofChange fnExactCoinsForRangeSpec)

/-- ITS FALSE NEIGHBOUR: 'it returns false'. Refute it at one input. -/
def fnExactCoinsForRangeWrong : ChangeSpec := { name := "fnExactCoinsForRange", fn := fun _ => fun
  | [d] => { results := [.lit (.bool false)], args := [d] }
  | _ => none }
def FnExactCoinsForRangeWrongFalsely : Prop := fnExactCoinsForRangeRow.holds Try.pinned (OpenSpec.ofChange fnExactCoinsForRangeWrong)

/-- 'laws.FnExactVerifyRange': WHATEVER THE INPUT: true; the input reads as it did. -/
def fnExactVerifyRangeSpec : ChangeSpec := { name := "fnExactVerifyRange", fn := fun _ => fun
  | [d1, d2, d3, d4, d5] => { results := [.lit (.bool true)], args := [d1, d2, d3, d4, d5] }
  | _ => none }
def fnExactVerifyRangeRow : OpenClaim := { program := "ytblclghbabhdlaa", sum := "f0c35748f079b2052879ae1a9b440895895cf10ae6b2f08261a26db8bc990450", func := "loop.example/g00878/laws.FnExactVerifyRange", spec := "fnExactVerifyRange", unfollowed := true, recurses := true, apart := false }
def FnExactVerifyRangeSaid : Prop := fnExactVerifyRangeRow.holds Try.pinned (OpenSpec.ofChange fnExactVerifyRangeSpec)

/-- ITS FALSE NEIGHBOUR: 'it returns false'. Refute it at one input. -/
def fnExactVerifyRangeWrong : ChangeSpec := { name := "fnExactVerifyRange", fn := fun _ => fun
  | [d1, d2, d3, d4, d5] => { results := [.lit (.bool false)], args := [d1, d2, d3, d4, d5] }
  | _ => none }
def FnExactVerifyRangeWrongFalsely : Prop := fnExactVerifyRangeRow.holds Try.pinned (OpenSpec.ofChange fnExactVerifyRangeWrong)

/-- 'laws.FnExactProveSum': WHATEVER THE INPUT: true; the input reads as it did. -/
def fnExactProveSumSpec : ChangeSpec := { name := "fnExactProveSum", fn := fun _ => fun
  | [d1, d2, d3, d4, d5] => { results := [.lit (.bool true)], args := [d1, d2, d3, d4, d5] }
  | _ => none }
def fnExactProveSumRow : OpenClaim := { program := "ytblclghbabhdlaa", sum := "f0c35748f079b2052879ae1a9b440895895cf10ae6b2f08261a26db8bc990450", func := "loop.example/g00878/laws.FnExactProveSum", spec := "fnExactProveSum", unfollowed := true, recurses := true, apart := false }
def FnExactProveSumSaid : Prop := fnExactProveSumRow.holds Try.pinned (OpenSpec.ofChange fnExactProveSumSpec)

/-- ITS FALSE NEIGHBOUR: 'it returns false'. Refute it at one input. -/
def fnExactProveSumWrong : ChangeSpec := { name := "fnExactProveSum", fn := fun _ => fun
  | [d1, d2, d3, d4, d5] => { results := [.lit (.bool false)], args := [d1, d2, d3, d4, d5] }
  | _ => none }
def FnExactProveSumWrongFalsely : Prop := fnExactProveSumRow.holds Try.pinned (OpenSpec.ofChange fnExactProveSumWrong)

/-- 'laws.FnExactVerifySum': WHATEVER THE INPUT: true; the input reads as it did. -/
def fnExactVerifySumSpec : ChangeSpec := { name := "fnExactVerifySum", fn := fun _ => fun
  | [d1, d2, d3, d4, d5] => { results := [.lit (.bool true)], args := [d1, d2, d3, d4, d5] }
  | _ => none }
def fnExactVerifySumRow : OpenClaim := { program := "ytblclghbabhdlaa", sum := "f0c35748f079b2052879ae1a9b440895895cf10ae6b2f08261a26db8bc990450", func := "loop.example/g00878/laws.FnExactVerifySum", spec := "fnExactVerifySum", unfollowed := true, recurses := true, apart := false }
def FnExactVerifySumSaid : Prop := fnExactVerifySumRow.holds Try.pinned (OpenSpec.ofChange fnExactVerifySumSpec)

/-- ITS FALSE NEIGHBOUR: 'it returns false'. Refute it at one input. -/
def fnExactVerifySumWrong : ChangeSpec := { name := "fnExactVerifySum", fn := fun _ => fun
  | [d1, d2, d3, d4, d5] => { results := [.lit (.bool false)], args := [d1, d2, d3, d4, d5] }
  | _ => none }
def FnExactVerifySumWrongFalsely : Prop := fnExactVerifySumRow.holds Try.pinned (OpenSpec.ofChange fnExactVerifySumWrong)

/-- 'laws.FnExactVerifyInterval': WHATEVER THE INPUT: true; the input reads as it did. -/
def fnExactVerifyIntervalSpec : ChangeSpec := { name := "fnExactVerifyInterval", fn := fun _ => fun
  | [d1, d2, d3, d4, d5, d6, d7, d8] => { results := [.lit (.bool true)], args := [d1, d2, d3, d4, d5, d6, d7, d8] }
  | _ => none }
def fnExactVerifyIntervalRow : OpenClaim := { program := "ytblclghbabhdlaa", sum := "f0c35748f079b2052879ae1a9b440895895cf10ae6b2f08261a26db8bc990450", func := "loop.example/g00878/laws.FnExactVerifyInterval", spec := "fnExactVerifyInterval", unfollowed := true, recurses := true, apart := false }
def FnExactVerifyIntervalSaid : Prop := fnExactVerifyIntervalRow.holds Try.pinned (OpenSpec.ofChange fnExactVerifyIntervalSpec)

/-- ITS FALSE NEIGHBOUR: 'it returns false'. Refute it at one input. -/
def fnExactVerifyIntervalWrong : ChangeSpec := { name := "fnExactVerifyInterval", fn := fun _ => fun
  | [d1, d2, d3, d4, d5, d6, d7, d8] => { results := [.lit (.bool false)], args := [d1, d2, d3, d4, d5, d6, d7, d8] }
  | _ => none }
def FnExactVerifyIntervalWrongFalsely : Prop := fnExactVerifyIntervalRow.holds Try.pinned (OpenSpec.ofChange fnExactVerifyIntervalWrong)

/- THE SECOND FORM. 'bulk': how many values and letters a reading holds, each counted each time it is reached (what is shared counts as often as it is met; a slice's spare places count too). A statement '..UptoSaid' is the law's where the arguments, and the package variables that the reading takes, are together of bulk at most 1048576: NARROWER than '..Said'. Prove '..Said' where nothing that the law and all that it calls make is longer than what came in: it says more and counts as full. Else prove '..UptoSaid'. A law counts once. -/
mutual
def uptoBulk {H : Type} : DataW H → Nat
  | .lit (.string bytes) => bytes.length + 1
  | .lit _ => 1
  | .nil => 1
  | .ptr d => uptoBulk d + 1
  | .slice elems spare => uptoBulkAll elems + uptoBulkAll spare + 1
  | .agg parts => uptoBulkAll parts + 1
  | .iface _ d => uptoBulk d + 1
  | .map entries => uptoBulkEntries entries + 1
  | .held _ => 1
def uptoBulkAll {H : Type} : List (DataW H) → Nat
  | [] => 0
  | d :: r => uptoBulk d + uptoBulkAll r
def uptoBulkEntries {H : Type} : List (Lit × DataW H) → Nat
  | [] => 0
  | x :: r => uptoBulkEntry x + uptoBulkEntries r
def uptoBulkEntry {H : Type} : Lit × DataW H → Nat
  | (.string bytes, d) => bytes.length + uptoBulk d + 1
  | (_, d) => uptoBulk d + 1
 end
def uptoSmall : (H : Type) → List (DataW H) → Bool := fun _ ds => decide (uptoBulkAll ds ≤ 1048576)
def OpenSpec.upto (s : _root_.Go.ChangeSpec) : _root_.Go.OpenSpec := { _root_.Go.OpenSpec.ofChange s with cond := some uptoSmall }

/-- 'laws.FnExactProveBit', WHERE WHAT IT READS IS OF BULK AT MOST 1048576: true; the input reads as it did. -/
def fnExactProveBitUptoRow : OpenClaim := { program := "ytblclghbabhdlaa", sum := "f0c35748f079b2052879ae1a9b440895895cf10ae6b2f08261a26db8bc990450", func := "loop.example/g00878/laws.FnExactProveBit", spec := "fnExactProveBit", unfollowed := true, recurses := true, apart := false, narrowed := true }
def FnExactProveBitUptoSaid : Prop := fnExactProveBitUptoRow.holds Try.pinned (OpenSpec.upto fnExactProveBitSpec)

/-- 'laws.FnExactVerifyBit', WHERE WHAT IT READS IS OF BULK AT MOST 1048576: true; the input reads as it did. -/
def fnExactVerifyBitUptoRow : OpenClaim := { program := "ytblclghbabhdlaa", sum := "f0c35748f079b2052879ae1a9b440895895cf10ae6b2f08261a26db8bc990450", func := "loop.example/g00878/laws.FnExactVerifyBit", spec := "fnExactVerifyBit", unfollowed := true, recurses := true, apart := false, narrowed := true }
def FnExactVerifyBitUptoSaid : Prop := fnExactVerifyBitUptoRow.holds Try.pinned (OpenSpec.upto fnExactVerifyBitSpec)

/-- 'laws.FnExactCoinsForRange', WHERE WHAT IT READS IS OF BULK AT MOST 1048576: true; the input reads as it did. -/
def fnExactCoinsForRangeUptoRow : OpenClaim := { program := "ytblclghbabhdlaa", sum := "f0c35748f079b2052879ae1a9b440895895cf10ae6b2f08261a26db8bc990450", func := "loop.example/g00878/laws.FnExactCoinsForRange", spec := "fnExactCoinsForRange", apart := false, narrowed := true }
def FnExactCoinsForRangeUptoSaid : Prop := fnExactCoinsForRangeUptoRow.holds Try.pinned (OpenSpec.upto fnExactCoinsForRangeSpec)

/-- 'laws.FnExactVerifyRange', WHERE WHAT IT READS IS OF BULK AT MOST 1048576: true; the input reads as it did. -/
def fnExactVerifyRangeUptoRow : OpenClaim := { program := "ytblclghbabhdlaa", sum := "f0c35748f079b2052879ae1a9b440895895cf10ae6b2f08261a26db8bc990450", func := "loop.example/g00878/laws.FnExactVerifyRange", spec := "fnExactVerifyRange", unfollowed := true, recurses := true, apart := false, narrowed := true }
def FnExactVerifyRangeUptoSaid : Prop := fnExactVerifyRangeUptoRow.holds Try.pinned (OpenSpec.upto fnExactVerifyRangeSpec)

/-- 'laws.FnExactProveSum', WHERE WHAT IT READS IS OF BULK AT MOST 1048576: true; the input reads as it did. -/
def fnExactProveSumUptoRow : OpenClaim := { program := "ytblclghbabhdlaa", sum := "f0c35748f079b2052879ae1a9b440895895cf10ae6b2f08261a26db8bc990450", func := "loop.example/g00878/laws.FnExactProveSum", spec := "fnExactProveSum", unfollowed := true, recurses := true, apart := false, narrowed := true }
def FnExactProveSumUptoSaid : Prop := fnExactProveSumUptoRow.holds Try.pinned (OpenSpec.upto fnExactProveSumSpec)

/-- 'laws.FnExactVerifySum', WHERE WHAT IT READS IS OF BULK AT MOST 1048576: true; the input reads as it did. -/
def fnExactVerifySumUptoRow : OpenClaim := { program := "ytblclghbabhdlaa", sum := "f0c35748f079b2052879ae1a9b440895895cf10ae6b2f08261a26db8bc990450", func := "loop.example/g00878/laws.FnExactVerifySum", spec := "fnExactVerifySum", unfollowed := true, recurses := true, apart := false, narrowed := true }
def FnExactVerifySumUptoSaid : Prop := fnExactVerifySumUptoRow.holds Try.pinned (OpenSpec.upto fnExactVerifySumSpec)

/-- 'laws.FnExactVerifyInterval', WHERE WHAT IT READS IS OF BULK AT MOST 1048576: true; the input reads as it did. -/
def fnExactVerifyIntervalUptoRow : OpenClaim := { program := "ytblclghbabhdlaa", sum := "f0c35748f079b2052879ae1a9b440895895cf10ae6b2f08261a26db8bc990450", func := "loop.example/g00878/laws.FnExactVerifyInterval", spec := "fnExactVerifyInterval", unfollowed := true, recurses := true, apart := false, narrowed := true }
def FnExactVerifyIntervalUptoSaid : Prop := fnExactVerifyIntervalUptoRow.holds Try.pinned (OpenSpec.upto fnExactVerifyIntervalSpec)

end Rows
end Go.Proofs.Ytblclghbabhdlaa
