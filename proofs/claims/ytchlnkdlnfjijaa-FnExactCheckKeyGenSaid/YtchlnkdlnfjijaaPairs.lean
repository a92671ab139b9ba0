/- Slices of pairs that a law compares and marks. -/
import Derived.Test.YtchlnkdlnfjijaaFac
import Derived.Deep.RegionHeld3
namespace Go.Proofs.Ytchlnkdlnfjijaa
open Go.RowKit

end Go.Proofs.Ytchlnkdlnfjijaa

