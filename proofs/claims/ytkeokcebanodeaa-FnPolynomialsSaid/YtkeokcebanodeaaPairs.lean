/- Slices of pairs that a law compares and marks. -/
import Derived.Test.YtkeokcebanodeaaFac
import Derived.Deep.RegionHeld3
namespace Go.Proofs.Ytkeokcebanodeaa
open Go.RowKit

end Go.Proofs.Ytkeokcebanodeaa

