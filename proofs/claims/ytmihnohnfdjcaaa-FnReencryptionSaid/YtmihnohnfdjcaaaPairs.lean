/- Slices of pairs that a law compares and marks. -/
import Derived.Test.YtmihnohnfdjcaaaFac
import Derived.Deep.RegionHeld3
namespace Go.Proofs.Ytmihnohnfdjcaaa
open Go.RowKit

end Go.Proofs.Ytmihnohnfdjcaaa

