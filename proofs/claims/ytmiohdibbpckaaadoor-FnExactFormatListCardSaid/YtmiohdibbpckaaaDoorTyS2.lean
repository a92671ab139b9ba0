/- Lists of lists of integers: compared, marked, held, weighed. -/
import Derived.Test.YtmiohdibbpckaaaDoorTyS
namespace Go.Proofs.YtmiohdibbpckaaaDoor
open Go.RowKit

end Go.Proofs.YtmiohdibbpckaaaDoor

