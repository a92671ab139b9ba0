/- Slices of pairs that a law compares and marks. -/
import Derived.Test.YtmiohdibbpckaaaDoorFac
import Derived.Deep.RegionHeld3
namespace Go.Proofs.YtmiohdibbpckaaaDoor
open Go.RowKit

end Go.Proofs.YtmiohdibbpckaaaDoor

