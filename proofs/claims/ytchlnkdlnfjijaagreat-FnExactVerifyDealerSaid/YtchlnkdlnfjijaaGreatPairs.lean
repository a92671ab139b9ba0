/- Slices of pairs that a law compares and marks. -/
import Derived.Test.YtchlnkdlnfjijaaGreatFac
import Derived.Deep.RegionHeld3
namespace Go.Proofs.YtchlnkdlnfjijaaGreat
open Go.RowKit

end Go.Proofs.YtchlnkdlnfjijaaGreat

