/- Slices of pairs that a law compares and marks. -/
import Derived.Test.YtafoenoilcgjdaaFac
import Derived.Deep.RegionHeld3
namespace Go.Proofs.Ytafoenoilcgjdaa
open Go.RowKit

end Go.Proofs.Ytafoenoilcgjdaa

