/- Slices of pairs that a law compares and marks. -/
import Derived.Test.YtinmpookknpmlaaFac
import Derived.Deep.RegionHeld3
namespace Go.Proofs.Ytinmpookknpmlaa
open Go.RowKit

end Go.Proofs.Ytinmpookknpmlaa

