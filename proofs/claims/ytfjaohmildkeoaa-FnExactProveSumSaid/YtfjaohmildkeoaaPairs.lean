/- Slices of pairs that a law compares and marks. -/
import Derived.Test.YtfjaohmildkeoaaFac
import Derived.Deep.RegionHeld3
namespace Go.Proofs.Ytfjaohmildkeoaa
open Go.RowKit

end Go.Proofs.Ytfjaohmildkeoaa

