/- Slices of pairs that a law compares and marks. -/
import Derived.Test.YtdaekpfngphefaaFac
import Derived.Deep.RegionHeld3
namespace Go.Proofs.Ytdaekpfngphefaa
open Go.RowKit

end Go.Proofs.Ytdaekpfngphefaa

