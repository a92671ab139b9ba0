/- What the law FnPrimes draws. -/
import Derived.Test.YtdnofcpobpoehaaDraw
namespace Go.Proofs.Ytdnofcpobpoehaa
open Go.RowKit

def DrawOne (w : World) (e : Ending) (w' : World) : Prop :=
  ∃ x : Int, e = .returned (.int .i64 x) ∧ (-1 ≤ x ∧ x ≤ 2000000011) ∧ Below w.heap.size w w'

def primesDrawn : List Int := [2, 3, 5, 7, 11, 13, 23, 47, 101, 2039, 65537, 1000000007, 1999999973, 1, 9, 0, 2000000011]

def factorsDrawn : List Int := [0, -1, 2000000000, 2000000001, 1999999973, 1073741824]

end Go.Proofs.Ytdnofcpobpoehaa

