/- Slices of pairs that a law compares and marks. -/
import Derived.Test.YtikiahpakbljoaaFac
import Derived.Deep.RegionHeld3
namespace Go.Proofs.Ytikiahpakbljoaa
open Go.RowKit

end Go.Proofs.Ytikiahpakbljoaa

