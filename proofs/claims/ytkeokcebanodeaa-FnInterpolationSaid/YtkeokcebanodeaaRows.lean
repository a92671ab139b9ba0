/-
  No cell of these rows narrows 'for every input' (looked for: loops, veiled, ifaces, maps, wideKeys, modest, calm, conditions, laid).
  DERIVED. THE GIVEN ROWS OF THIS SEAT. 11 by the template 'for every input the law returns true; each argument reads behind the call as it read before'; 0 by the template 'total and deterministic' (their statements: YtkeokcebanodeaaTotals.lean).
  GIVEN WITH THE SEED: the statements are not yours to turn. If you find one false, say at which input.
  Laid BY PROGRAM, IN A SANDBOX (cutbox-rows.mjs): the forced cells as the released guide's own fill.sh prints them over the translation 3d4c3350a6b5dc63… (all of the seat's roots in one cut). By AI agents, Wed Nov 11 2026. No macro, syntax, notation, axiom, sorry.
-/
import Derived.Test.YtkeokcebanodeaaChecked
import GoSem.Claim
import GoSem.ClaimJoined
import GoSem.ClaimMapViews
import Derived.JoinedTies
import Derived.KernelRfl
namespace Go.Proofs.Ytkeokcebanodeaa
/- THE CELL 'sum', in the pinned program and in every row, IS THE sha256 OF THE DUMP (.gsa) THAT YtkeokcebanodeaaProg.lean LOADS. Nothing in Lean hashes anything: it is a label: what it is worth is what the hold of that sum in a sandbox is worth. -/
noncomputable def Try.pinned : Pinned := { name := "ytkeokcebanodeaa", sum := "3d4c3350a6b5dc631bcf2337f09695d2a0b80c35ff43894238ccc3ddbc549303", checked := Try.checked }
namespace Rows
def none {H : Type} : Left H := { results := [], args := [] }

/-- 'laws.FnPolynomials': WHATEVER THE INPUT: true; the input reads as it did. -/
def fnPolynomialsSpec : ChangeSpec := { name := "fnPolynomials", fn := fun _ => fun
  | [d1, d2] => { results := [.lit (.bool true)], args := [d1, d2] }
  | _ => none }
def fnPolynomialsRow : OpenClaim := { program := "ytkeokcebanodeaa", sum := "3d4c3350a6b5dc631bcf2337f09695d2a0b80c35ff43894238ccc3ddbc549303", func := "loop.example/g00878/laws.FnPolynomials", spec := "fnPolynomials", unfollowed := true, recurses := true, apart := false }
def FnPolynomialsSaid : Prop := fnPolynomialsRow.holds Try.pinned (OpenSpec.ofChange fnPolynomialsSpec)

/-- ITS FALSE NEIGHBOUR: 'it returns false'. Refute it at one input. -/
def fnPolynomialsWrong : ChangeSpec := { name := "fnPolynomials", fn := fun _ => fun
  | [d1, d2] => { results := [.lit (.bool false)], args := [d1, d2] }
  | _ => none }
def FnPolynomialsWrongFalsely : Prop := fnPolynomialsRow.holds Try.pinned (OpenSpec.ofChange fnPolynomialsWrong)

/-- 'laws.FnInterpolation': WHATEVER THE INPUT: true; the input reads as it did. -/
def fnInterpolationSpec : ChangeSpec := { name := "fnInterpolation", fn := fun _ => fun
  | [d1, d2] => { results := [.lit (.bool true)], args := [d1, d2] }
  | _ => none }
def fnInterpolationRow : OpenClaim := { program := "ytkeokcebanodeaa", sum := "3d4c3350a6b5dc631bcf2337f09695d2a0b80c35ff43894238ccc3ddbc549303", func := "loop.example/g00878/laws.FnInterpolation", spec := "fnInterpolation", unfollowed := true, recurses := true, apart := false }
def FnInterpolationSaid : Prop := fnInterpolationRow.holds Try.pinned (OpenSpec.ofChange fnInterpolationSpec)

/-- ITS FALSE NEIGHBOUR: 'it returns false'. Refute it at one input. -/
def fnInterpolationWrong : ChangeSpec := { name := "fnInterpolation", fn := fun _ => fun
  | [d1, d2] => { results := [.lit (.bool false)], args := [d1, d2] }
  | _ => none }
def FnInterpolationWrongFalsely : Prop := fnInterpolationRow.holds Try.pinned (OpenSpec.ofChange fnInterpolationWrong)

/-- 'laws.FnExactEvalPoly': WHATEVER THE INPUT: true; the input reads as it did. -/
def fnExactEvalPolySpec : ChangeSpec := { name := "fnExactEvalPoly", fn := fun _ => fun
  | [d1, d2, d3] => { results := [.lit (.bool true)], args := [d1, d2, d3] }
  | _ => none }
def fnExactEvalPolyRow : OpenClaim := { program := "ytkeokcebanodeaa", sum := "3d4c3350a6b5dc631bcf2337f09695d2a0b80c35ff43894238ccc3ddbc549303", func := "loop.example/g00878/laws.FnExactEvalPoly", spec := "fnExactEvalPoly", unfollowed := true, recurses := true, apart := false }
def FnExactEvalPolySaid : Prop := fnExactEvalPolyRow.holds Try.pinned (OpenSpec.ofChange fnExactEvalPolySpec)

/-- ITS FALSE NEIGHBOUR: 'it returns false'. Refute it at one input. -/
def fnExactEvalPolyWrong : ChangeSpec := { name := "fnExactEvalPoly", fn := fun _ => fun
  | [d1, d2, d3] => { results := [.lit (.bool false)], args := [d1, d2, d3] }
  | _ => none }
def FnExactEvalPolyWrongFalsely : Prop := fnExactEvalPolyRow.holds Try.pinned (OpenSpec.ofChange fnExactEvalPolyWrong)

/-- 'laws.FnExactEvalAll': WHATEVER THE INPUT: true; the input reads as it did. -/
def fnExactEvalAllSpec : ChangeSpec := { name := "fnExactEvalAll", fn := fun _ => fun
  | [d1, d2, d3] => { results := [.lit (.bool true)], args := [d1, d2, d3] }
  | _ => none }
def fnExactEvalAllRow : OpenClaim := { program := "ytkeokcebanodeaa", sum := "3d4c3350a6b5dc631bcf2337f09695d2a0b80c35ff43894238ccc3ddbc549303", func := "loop.example/g00878/laws.FnExactEvalAll", spec := "fnExactEvalAll", unfollowed := true, recurses := true, apart := false }
def FnExactEvalAllSaid : Prop := fnExactEvalAllRow.holds Try.pinned (OpenSpec.ofChange fnExactEvalAllSpec)

/-- ITS FALSE NEIGHBOUR: 'it returns false'. Refute it at one input. -/
def fnExactEvalAllWrong : ChangeSpec := { name := "fnExactEvalAll", fn := fun _ => fun
  | [d1, d2, d3] => { results := [.lit (.bool false)], args := [d1, d2, d3] }
  | _ => none }
def FnExactEvalAllWrongFalsely : Prop := fnExactEvalAllRow.holds Try.pinned (OpenSpec.ofChange fnExactEvalAllWrong)

/-- 'laws.FnExactDegreeOf': WHATEVER THE INPUT: true; the input reads as it did. -/
def fnExactDegreeOfSpec : ChangeSpec := { name := "fnExactDegreeOf", fn := fun _ => fun
  | [d1, d2] => { results := [.lit (.bool true)], args := [d1, d2] }
  | _ => none }
def fnExactDegreeOfRow : OpenClaim := { program := "ytkeokcebanodeaa", sum := "3d4c3350a6b5dc631bcf2337f09695d2a0b80c35ff43894238ccc3ddbc549303", func := "loop.example/g00878/laws.FnExactDegreeOf", spec := "fnExactDegreeOf", unfollowed := true, recurses := true, apart := false }
def FnExactDegreeOfSaid : Prop := fnExactDegreeOfRow.holds Try.pinned (OpenSpec.ofChange fnExactDegreeOfSpec)

/-- ITS FALSE NEIGHBOUR: 'it returns false'. Refute it at one input. -/
def fnExactDegreeOfWrong : ChangeSpec := { name := "fnExactDegreeOf", fn := fun _ => fun
  | [d1, d2] => { results := [.lit (.bool false)], args := [d1, d2] }
  | _ => none }
def FnExactDegreeOfWrongFalsely : Prop := fnExactDegreeOfRow.holds Try.pinned (OpenSpec.ofChange fnExactDegreeOfWrong)

/-- 'laws.FnExactAddPolys': WHATEVER THE INPUT: true; the input reads as it did. -/
def fnExactAddPolysSpec : ChangeSpec := { name := "fnExactAddPolys", fn := fun _ => fun
  | [d1, d2, d3] => { results := [.lit (.bool true)], args := [d1, d2, d3] }
  | _ => none }
def fnExactAddPolysRow : OpenClaim := { program := "ytkeokcebanodeaa", sum := "3d4c3350a6b5dc631bcf2337f09695d2a0b80c35ff43894238ccc3ddbc549303", func := "loop.example/g00878/laws.FnExactAddPolys", spec := "fnExactAddPolys", apart := false }
def FnExactAddPolysSaid : Prop := fnExactAddPolysRow.holds Try.pinned (OpenSpec.ofChange fnExactAddPolysSpec)

/-- ITS FALSE NEIGHBOUR: 'it returns false'. Refute it at one input. -/
def fnExactAddPolysWrong : ChangeSpec := { name := "fnExactAddPolys", fn := fun _ => fun
  | [d1, d2, d3] => { results := [.lit (.bool false)], args := [d1, d2, d3] }
  | _ => none }
def FnExactAddPolysWrongFalsely : Prop := fnExactAddPolysRow.holds Try.pinned (OpenSpec.ofChange fnExactAddPolysWrong)

/-- 'laws.FnExactMulPolys': WHATEVER THE INPUT: true; the input reads as it did. -/
def fnExactMulPolysSpec : ChangeSpec := { name := "fnExactMulPolys", fn := fun _ => fun
  | [d1, d2, d3] => { results := [.lit (.bool true)], args := [d1, d2, d3] }
  | _ => none }
def fnExactMulPolysRow : OpenClaim := { program := "ytkeokcebanodeaa", sum := "3d4c3350a6b5dc631bcf2337f09695d2a0b80c35ff43894238ccc3ddbc549303", func := "loop.example/g00878/laws.FnExactMulPolys", spec := "fnExactMulPolys", apart := false }
def FnExactMulPolysSaid : Prop := fnExactMulPolysRow.holds Try.pinned (OpenSpec.ofChange fnExactMulPolysSpec)

/-- ITS FALSE NEIGHBOUR: 'it returns false'. Refute it at one input. -/
def fnExactMulPolysWrong : ChangeSpec := { name := "fnExactMulPolys", fn := fun _ => fun
  | [d1, d2, d3] => { results := [.lit (.bool false)], args := [d1, d2, d3] }
  | _ => none }
def FnExactMulPolysWrongFalsely : Prop := fnExactMulPolysRow.holds Try.pinned (OpenSpec.ofChange fnExactMulPolysWrong)

/-- 'laws.FnExactPolyFromRoots': WHATEVER THE INPUT: true; the input reads as it did. -/
def fnExactPolyFromRootsSpec : ChangeSpec := { name := "fnExactPolyFromRoots", fn := fun _ => fun
  | [d1, d2] => { results := [.lit (.bool true)], args := [d1, d2] }
  | _ => none }
def fnExactPolyFromRootsRow : OpenClaim := { program := "ytkeokcebanodeaa", sum := "3d4c3350a6b5dc631bcf2337f09695d2a0b80c35ff43894238ccc3ddbc549303", func := "loop.example/g00878/laws.FnExactPolyFromRoots", spec := "fnExactPolyFromRoots", apart := false }
def FnExactPolyFromRootsSaid : Prop := fnExactPolyFromRootsRow.holds Try.pinned (OpenSpec.ofChange fnExactPolyFromRootsSpec)

/-- ITS FALSE NEIGHBOUR: 'it returns false'. Refute it at one input. -/
def fnExactPolyFromRootsWrong : ChangeSpec := { name := "fnExactPolyFromRoots", fn := fun _ => fun
  | [d1, d2] => { results := [.lit (.bool false)], args := [d1, d2] }
  | _ => none }
def FnExactPolyFromRootsWrongFalsely : Prop := fnExactPolyFromRootsRow.holds Try.pinned (OpenSpec.ofChange fnExactPolyFromRootsWrong)

/-- 'laws.FnExactLagrangeCoefs': WHATEVER THE INPUT: true; the input reads as it did. -/
def fnExactLagrangeCoefsSpec : ChangeSpec := { name := "fnExactLagrangeCoefs", fn := fun _ => fun
  | [d1, d2, d3] => { results := [.lit (.bool true)], args := [d1, d2, d3] }
  | _ => none }
def fnExactLagrangeCoefsRow : OpenClaim := { program := "ytkeokcebanodeaa", sum := "3d4c3350a6b5dc631bcf2337f09695d2a0b80c35ff43894238ccc3ddbc549303", func := "loop.example/g00878/laws.FnExactLagrangeCoefs", spec := "fnExactLagrangeCoefs", unfollowed := true, recurses := true, apart := false }
def FnExactLagrangeCoefsSaid : Prop := fnExactLagrangeCoefsRow.holds Try.pinned (OpenSpec.ofChange fnExactLagrangeCoefsSpec)

/-- ITS FALSE NEIGHBOUR: 'it returns false'. Refute it at one input. -/
def fnExactLagrangeCoefsWrong : ChangeSpec := { name := "fnExactLagrangeCoefs", fn := fun _ => fun
  | [d1, d2, d3] => { results := [.lit (.bool false)], args := [d1, d2, d3] }
  | _ => none }
def FnExactLagrangeCoefsWrongFalsely : Prop := fnExactLagrangeCoefsRow.holds Try.pinned (OpenSpec.ofChange fnExactLagrangeCoefsWrong)

/-- 'laws.FnExactValueFrom': WHATEVER THE INPUT: true; the input reads as it did. -/
def fnExactValueFromSpec : ChangeSpec := { name := "fnExactValueFrom", fn := fun _ => fun
  | [d1, d2, d3, d4] => { results := [.lit (.bool true)], args := [d1, d2, d3, d4] }
  | _ => none }
def fnExactValueFromRow : OpenClaim := { program := "ytkeokcebanodeaa", sum := "3d4c3350a6b5dc631bcf2337f09695d2a0b80c35ff43894238ccc3ddbc549303", func := "loop.example/g00878/laws.FnExactValueFrom", spec := "fnExactValueFrom", unfollowed := true, recurses := true, apart := false }
def FnExactValueFromSaid : Prop := fnExactValueFromRow.holds Try.pinned (OpenSpec.ofChange fnExactValueFromSpec)

/-- ITS FALSE NEIGHBOUR: 'it returns false'. Refute it at one input. -/
def fnExactValueFromWrong : ChangeSpec := { name := "fnExactValueFrom", fn := fun _ => fun
  | [d1, d2, d3, d4] => { results := [.lit (.bool false)], args := [d1, d2, d3, d4] }
  | _ => none }
def FnExactValueFromWrongFalsely : Prop := fnExactValueFromRow.holds Try.pinned (OpenSpec.ofChange fnExactValueFromWrong)

/-- 'laws.FnExactInterpolate': WHATEVER THE INPUT: true; the input reads as it did. -/
def fnExactInterpolateSpec : ChangeSpec := { name := "fnExactInterpolate", fn := fun _ => fun
  | [d1, d2, d3] => { results := [.lit (.bool true)], args := [d1, d2, d3] }
  | _ => none }
def fnExactInterpolateRow : OpenClaim := { program := "ytkeokcebanodeaa", sum := "3d4c3350a6b5dc631bcf2337f09695d2a0b80c35ff43894238ccc3ddbc549303", func := "loop.example/g00878/laws.FnExactInterpolate", spec := "fnExactInterpolate", unfollowed := true, recurses := true, apart := false }
def FnExactInterpolateSaid : Prop := fnExactInterpolateRow.holds Try.pinned (OpenSpec.ofChange fnExactInterpolateSpec)

/-- ITS FALSE NEIGHBOUR: 'it returns false'. Refute it at one input. -/
def fnExactInterpolateWrong : ChangeSpec := { name := "fnExactInterpolate", fn := fun _ => fun
  | [d1, d2, d3] => { results := [.lit (.bool false)], args := [d1, d2, d3] }
  | _ => none }
def FnExactInterpolateWrongFalsely : Prop := fnExactInterpolateRow.holds Try.pinned (OpenSpec.ofChange fnExactInterpolateWrong)

/- THE SECOND FORM. 'bulk': how many values and letters a reading holds, each counted each time it is reached (what is shared counts as often as it is met; a slice's spare places count too). A statement '..UptoSaid' is the law's where the arguments, and the package variables that the reading takes, are together of bulk at most 1048576: NARROWER than '..Said'. Prove '..Said' where nothing that the law and all that it calls make is longer than what came in: it says more and counts as full. Else prove '..UptoSaid'. A law counts once. -/
mutual
def uptoBulk {H : Type} : DataW H → Nat
  | .lit (.string bytes) => bytes.length + 1
  | .lit _ => 1
  | .nil => 1
  | .ptr d => uptoBulk d + 1
  | .slice elems spare => uptoBulkAll elems + uptoBulkAll spare + 1
  | .agg parts => uptoBulkAll parts + 1
  | .iface _ d => uptoBulk d + 1
  | .map entries => uptoBulkEntries entries + 1
  | .held _ => 1
def uptoBulkAll {H : Type} : List (DataW H) → Nat
  | [] => 0
  | d :: r => uptoBulk d + uptoBulkAll r
def uptoBulkEntries {H : Type} : List (Lit × DataW H) → Nat
  | [] => 0
  | x :: r => uptoBulkEntry x + uptoBulkEntries r
def uptoBulkEntry {H : Type} : Lit × DataW H → Nat
  | (.string bytes, d) => bytes.length + uptoBulk d + 1
  | (_, d) => uptoBulk d + 1
 end
def uptoSmall : (H : Type) → List (DataW H) → Bool := fun _ ds => decide (uptoBulkAll ds ≤ 1048576)
def OpenSpec.upto (s : _root_.Go.ChangeSpec) : _root_.Go.OpenSpec := { _root_.Go.OpenSpec.ofChange s with cond := some uptoSmall }

/-- 'laws.FnPolynomials', WHERE WHAT IT READS IS OF BULK AT MOST 1048576: true; the input reads as it did. -/
def fnPolynomialsUptoRow : OpenClaim := { program := "ytkeokcebanodeaa", sum := "3d4c3350a6b5dc631bcf2337f09695d2a0b80c35ff43894238ccc3ddbc549303", func := "loop.example/g00878/laws.FnPolynomials", spec := "fnPolynomials", unfollowed := true, recurses := true, apart := false, narrowed := true }
def FnPolynomialsUptoSaid : Prop := fnPolynomialsUptoRow.holds Try.pinned (OpenSpec.upto fnPolynomialsSpec)

/-- 'laws.FnInterpolation', WHERE WHAT IT READS IS OF BULK AT MOST 1048576: true; the input reads as it did. -/
def fnInterpolationUptoRow : OpenClaim := { program := "ytkeokcebanodeaa", sum := "3d4c3350a6b5dc631bcf2337f09695d2a0b80c35ff43894238ccc3ddbc549303", func := "loop.example/g00878/laws.FnInterpolation", spec := "fnInterpolation", unfollowed := true, recurses := true, apart := false, narrowed := true }
def FnInterpolationUptoSaid : Prop := fnInterpolationUptoRow.holds Try.pinned (OpenSpec.upto fnInterpolationSpec)

/-- 'laws.FnExactEvalPoly', WHERE WHAT IT READS IS OF BULK AT MOST 1048576: true; the input reads as it did. -/
def fnExactEvalPolyUptoRow : OpenClaim := { program := "ytkeokcebanodeaa", sum := "3d4c3350a6b5dc631bcf2337f09695d2a0b80c35ff43894238ccc3ddbc549303", func := "loop.example/g00878/laws.FnExactEvalPoly", spec := "fnExactEvalPoly", unfollowed := true, recurses := true, apart := false, narrowed := true }
def FnExactEvalPolyUptoSaid : Prop := fnExactEvalPolyUptoRow.holds Try.pinned (OpenSpec.upto fnExactEvalPolySpec)

/-- 'laws.FnExactEvalAll', WHERE WHAT IT READS IS OF BULK AT MOST 1048576: true; the input reads as it did. -/
def fnExactEvalAllUptoRow : OpenClaim := { program := "ytkeokcebanodeaa", sum := "3d4c3350a6b5dc631bcf2337f09695d2a0b80c35ff43894238ccc3ddbc549303", func := "loop.example/g00878/laws.FnExactEvalAll", spec := "fnExactEvalAll", unfollowed := true, recurses := true, apart := false, narrowed := true }
def FnExactEvalAllUptoSaid : Prop := fnExactEvalAllUptoRow.holds Try.pinned (OpenSpec.upto fnExactEvalAllSpec)

/-- 'laws.FnExactDegreeOf', WHERE WHAT IT READS IS OF BULK AT MOST 1048576: true; the input reads as it did. -/
def fnExactDegreeOfUptoRow : OpenClaim := { program := "ytkeokcebanodeaa", sum := "3d4c3350a6b5dc631bcf2337f09695d2a0b80c35ff43894238ccc3ddbc549303", func := "loop.example/g00878/laws.FnExactDegreeOf", spec := "fnExactDegreeOf", unfollowed := true, recurses := true, apart := false, narrowed := true }
def FnExactDegreeOfUptoSaid : Prop := fnExactDegreeOfUptoRow.holds Try.pinned (OpenSpec.upto fnExactDegreeOfSpec)

/-- 'laws.FnExactAddPolys', WHERE WHAT IT READS IS OF BULK AT MOST 1048576: true; the input reads as it did. -/
def fnExactAddPolysUptoRow : OpenClaim := { program := "ytkeokcebanodeaa", sum := "3d4c3350a6b5dc631bcf2337f09695d2a0b80c35ff43894238ccc3ddbc549303", func := "loop.example/g00878/laws.FnExactAddPolys", spec := "fnExactAddPolys", apart := false, narrowed := true }
def FnExactAddPolysUptoSaid : Prop := fnExactAddPolysUptoRow.holds Try.pinned (OpenSpec.upto fnExactAddPolysSpec)

/-- 'laws.FnExactMulPolys', WHERE WHAT IT READS IS OF BULK AT MOST 1048576: true; the input reads as it did. -/
def fnExactMulPolysUptoRow : OpenClaim := { program := "ytkeokcebanodeaa", sum := "3d4c3350a6b5dc631bcf2337f09695d2a0b80c35ff43894238ccc3ddbc549303", func := "loop.example/g00878/laws.FnExactMulPolys", spec := "fnExactMulPolys", apart := false, narrowed := true }
def FnExactMulPolysUptoSaid : Prop := fnExactMulPolysUptoRow.holds Try.pinned (OpenSpec.upto fnExactMulPolysSpec)

/-- 'laws.FnExactPolyFromRoots', WHERE WHAT IT READS IS OF BULK AT MOST 1048576: true; the input reads as it did. -/
def fnExactPolyFromRootsUptoRow : OpenClaim := { program := "ytkeokcebanodeaa", sum := "3d4c3350a6b5dc631bcf2337f09695d2a0b80c35ff43894238ccc3ddbc549303", func := "loop.example/g00878/laws.FnExactPolyFromRoots", spec := "fnExactPolyFromRoots", apart := false, narrowed := true }
def FnExactPolyFromRootsUptoSaid : Prop := fnExactPolyFromRootsUptoRow.holds Try.pinned (OpenSpec.upto fnExactPolyFromRootsSpec)

/-- 'laws.FnExactLagrangeCoefs', WHERE WHAT IT READS IS OF BULK AT MOST 1048576: true; the input reads as it did. -/
def fnExactLagrangeCoefsUptoRow : OpenClaim := { program := "ytkeokcebanodeaa", sum := "3d4c3350a6b5dc631bcf2337f09695d2a0b80c35ff43894238ccc3ddbc549303", func := "loop.example/g00878/laws.FnExactLagrangeCoefs", spec := "fnExactLagrangeCoefs", unfollowed := true, recurses := true, apart := false, narrowed := true }
def FnExactLagrangeCoefsUptoSaid : Prop := fnExactLagrangeCoefsUptoRow.holds Try.pinned (OpenSpec.upto fnExactLagrangeCoefsSpec)

/-- 'laws.FnExactValueFrom', WHERE WHAT IT READS IS OF BULK AT MOST 1048576: true; the input reads as it did. -/
def fnExactValueFromUptoRow : OpenClaim := { program := "ytkeokcebanodeaa", sum := "3d4c3350a6b5dc631bcf2337f09695d2a0b80c35ff43894238ccc3ddbc549303", func := "loop.example/g00878/laws.FnExactValueFrom", spec := "fnExactValueFrom", unfollowed := true, recurses := true, apart := false, narrowed := true }
def FnExactValueFromUptoSaid : Prop := fnExactValueFromUptoRow.holds Try.pinned (OpenSpec.upto fnExactValueFromSpec)

/-- 'laws.FnExactInterpolate', WHERE WHAT IT READS IS OF BULK AT MOST 1048576: true; the input reads as it did. -/
def fnExactInterpolateUptoRow : OpenClaim := { program := "ytkeokcebanodeaa", sum := "3d4c3350a6b5dc631bcf2337f09695d2a0b80c35ff43894238ccc3ddbc549303", func := "loop.example/g00878/laws.FnExactInterpolate", spec := "fnExactInterpolate", unfollowed := true, recurses := true, apart := false, narrowed := true }
def FnExactInterpolateUptoSaid : Prop := fnExactInterpolateUptoRow.holds Try.pinned (OpenSpec.upto fnExactInterpolateSpec)

end Rows
end Go.Proofs.Ytkeokcebanodeaa
