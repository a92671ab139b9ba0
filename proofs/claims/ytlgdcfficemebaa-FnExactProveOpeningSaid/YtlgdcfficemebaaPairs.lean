/- Slices of pairs that a law compares and marks. -/
import Derived.Test.YtlgdcfficemebaaFac
import Derived.Deep.RegionHeld3
namespace Go.Proofs.Ytlgdcfficemebaa
open Go.RowKit

end Go.Proofs.Ytlgdcfficemebaa

