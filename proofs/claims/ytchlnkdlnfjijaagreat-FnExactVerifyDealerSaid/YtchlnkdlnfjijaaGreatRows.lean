/-
  No cell of these rows narrows 'for every input' (looked for: loops, veiled, ifaces, maps, wideKeys, modest, calm, conditions, laid).
  DERIVED. THE GIVEN ROWS OF THIS SEAT. 2 by the template 'for every input the law returns true; each argument reads behind the call as it read before'; 0 by the template 'total and deterministic' (their statements: YtchlnkdlnfjijaaGreatTotals.lean).
  GIVEN WITH THE SEED: the statements are not yours to turn. If you find one false, say at which input.
  Laid BY PROGRAM, IN A SANDBOX (cutbox-rows.mjs): the forced cells as the released guide's own fill.sh prints them over the translation ae524eac7abb4e2b… (all of the seat's roots in one cut). By AI agents, Wed Nov 11 2026. No macro, syntax, notation, axiom, sorry.
-/
import Derived.Test.YtchlnkdlnfjijaaGreatChecked
import GoSem.Claim
import GoSem.ClaimJoined
import GoSem.ClaimMapViews
import Derived.JoinedTies
import Derived.KernelRfl
namespace Go.Proofs.YtchlnkdlnfjijaaGreat
/- THE CELL 'sum', in the pinned program and in every row, IS THE sha256 OF THE DUMP (.gsa) THAT YtchlnkdlnfjijaaGreatProg.lean LOADS. Nothing in Lean hashes anything: it is a label: what it is worth is what the hold of that sum in a sandbox is worth. -/
noncomputable def Tryz.pinned : Pinned := { name := "ytchlnkdlnfjijaagreat", sum := "ae524eac7abb4e2bcbe500831434db1c2ea1d0b10e4a1071b160c1296e6f2b4c", checked := Tryz.checked }
namespace Rows
def none {H : Type} : Left H := { results := [], args := [] }

/-- 'laws.FnDealers': WHATEVER THE INPUT: true; the input reads as it did. -/
def fnDealersSpec : ChangeSpec := { name := "fnDealers", fn := fun _ => fun
  | [d1, d2] => { results := [.lit (.bool true)], args := [d1, d2] }
  | _ => none }
def fnDealersRow : OpenClaim := { program := "ytchlnkdlnfjijaagreat", sum := "ae524eac7abb4e2bcbe500831434db1c2ea1d0b10e4a1071b160c1296e6f2b4c", func := "loop.example/g00878/laws.FnDealers", spec := "fnDealers", unfollowed := true, recurses := true, apart := false }
def FnDealersSaid : Prop := fnDealersRow.holds Tryz.pinned (OpenSpec.ofChange fnDealersSpec)

/-- ITS FALSE NEIGHBOUR: 'it returns false'. Refute it at one input. -/
def fnDealersWrong : ChangeSpec := { name := "fnDealers", fn := fun _ => fun
  | [d1, d2] => { results := [.lit (.bool false)], args := [d1, d2] }
  | _ => none }
def FnDealersWrongFalsely : Prop := fnDealersRow.holds Tryz.pinned (OpenSpec.ofChange fnDealersWrong)

/-- 'laws.FnExactVerifyDealer': WHATEVER THE INPUT: true; the input reads as it did. -/
def fnExactVerifyDealerSpec : ChangeSpec := { name := "fnExactVerifyDealer", fn := fun _ => fun
  | [d1, d2, d3] => { results := [.lit (.bool true)], args := [d1, d2, d3] }
  | _ => none }
def fnExactVerifyDealerRow : OpenClaim := { program := "ytchlnkdlnfjijaagreat", sum := "ae524eac7abb4e2bcbe500831434db1c2ea1d0b10e4a1071b160c1296e6f2b4c", func := "loop.example/g00878/laws.FnExactVerifyDealer", spec := "fnExactVerifyDealer", unfollowed := true, recurses := true, apart := false }
def FnExactVerifyDealerSaid : Prop := fnExactVerifyDealerRow.holds Tryz.pinned (OpenSpec.ofChange fnExactVerifyDealerSpec)

/-- ITS FALSE NEIGHBOUR: 'it returns false'. Refute it at one input. -/
def fnExactVerifyDealerWrong : ChangeSpec := { name := "fnExactVerifyDealer", fn := fun _ => fun
  | [d1, d2, d3] => { results := [.lit (.bool false)], args := [d1, d2, d3] }
  | _ => none }
def FnExactVerifyDealerWrongFalsely : Prop := fnExactVerifyDealerRow.holds Tryz.pinned (OpenSpec.ofChange fnExactVerifyDealerWrong)

/- THE SECOND FORM. 'bulk': how many values and letters a reading holds, each counted each time it is reached (what is shared counts as often as it is met; a slice's spare places count too). A statement '..UptoSaid' is the law's where the arguments, and the package variables that the reading takes, are together of bulk at most 1048576: NARROWER than '..Said'. Prove '..Said' where nothing that the law and all that it calls make is longer than what came in: it says more and counts as full. Else prove '..UptoSaid'. A law counts once. -/
mutual
def uptoBulk {H : Type} : DataW H → Nat
  | .lit (.string bytes) => bytes.length + 1
  | .lit _ => 1
  | .nil => 1
  | .ptr d => uptoBulk d + 1
  | .slice elems spare => uptoBulkAll elems + uptoBulkAll spare + 1
  | .agg parts => uptoBulkAll parts + 1
  | .iface _ d => uptoBulk d + 1
  | .map entries => uptoBulkEntries entries + 1
  | .held _ => 1
def uptoBulkAll {H : Type} : List (DataW H) → Nat
  | [] => 0
  | d :: r => uptoBulk d + uptoBulkAll r
def uptoBulkEntries {H : Type} : List (Lit × DataW H) → Nat
  | [] => 0
  | x :: r => uptoBulkEntry x + uptoBulkEntries r
def uptoBulkEntry {H : Type} : Lit × DataW H → Nat
  | (.string bytes, d) => bytes.length + uptoBulk d + 1
  | (_, d) => uptoBulk d + 1
 end
def uptoSmall : (H : Type) → List (DataW H) → Bool := fun _ ds => decide (uptoBulkAll ds ≤ 1048576)
def OpenSpec.upto (s : _root_.Go.ChangeSpec) : _root_.Go.OpenSpec := { _root_.Go.OpenSpec.ofChange s with cond := some uptoSmall }

/-- 'laws.FnDealers', WHERE WHAT IT READS IS OF BULK AT MOST 1048576: true; the input reads as it did. -/
def fnDealersUptoRow : OpenClaim := { program := "ytchlnkdlnfjijaagreat", sum := "ae524eac7abb4e2bcbe500831434db1c2ea1d0b10e4a1071b160c1296e6f2b4c", func := "loop.example/g00878/laws.FnDealers", spec := "fnDealers", unfollowed := true, recurses := true, apart := false, narrowed := true }
def FnDealersUptoSaid : Prop := fnDealersUptoRow.holds Tryz.pinned (OpenSpec.upto fnDealersSpec)

/-- 'laws.FnExactVerifyDealer', WHERE WHAT IT READS IS OF BULK AT MOST 1048576: true; the input reads as it did. -/
def fnExactVerifyDealerUptoRow : OpenClaim := { program := "ytchlnkdlnfjijaagreat", sum := "ae524eac7abb4e2bcbe500831434db1c2ea1d0b10e4a1071b160c1296e6f2b4c", func := "loop.example/g00878/laws.FnExactVerifyDealer", spec := "fnExactVerifyDealer", unfollowed := true, recurses := true, apart := false, narrowed := true }
def FnExactVerifyDealerUptoSaid : Prop := fnExactVerifyDealerUptoRow.holds Tryz.pinned (OpenSpec.upto fnExactVerifyDealerSpec)

end Rows
end Go.Proofs.YtchlnkdlnfjijaaGreat
