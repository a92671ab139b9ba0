/- Slices of pairs that a law compares and marks. -/
import Derived.Test.YtglfbhkdmkneoaaFac
import Derived.Deep.RegionHeld3
namespace Go.Proofs.Ytglfbhkdmkneoaa
open Go.RowKit

end Go.Proofs.Ytglfbhkdmkneoaa

