/- Slices of pairs that a law compares and marks. -/
import Derived.Test.YtdnofcpobpoehaaFac
import Derived.Deep.RegionHeld3
namespace Go.Proofs.Ytdnofcpobpoehaa
open Go.RowKit

end Go.Proofs.Ytdnofcpobpoehaa

