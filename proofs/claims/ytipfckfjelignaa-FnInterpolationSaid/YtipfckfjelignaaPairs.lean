/- Slices of pairs that a law compares and marks. -/
import Derived.Test.YtipfckfjelignaaFac
import Derived.Deep.RegionHeld3
namespace Go.Proofs.Ytipfckfjelignaa
open Go.RowKit

end Go.Proofs.Ytipfckfjelignaa

