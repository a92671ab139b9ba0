/- Slices of pairs that a law compares and marks. -/
import Derived.Test.YtblclghbabhdlaaFac
import Derived.Deep.RegionHeld3
namespace Go.Proofs.Ytblclghbabhdlaa
open Go.RowKit

end Go.Proofs.Ytblclghbabhdlaa

