import Derived.Test.YtcjihaafohnbeaaDoorLaw2
import Derived.Test.YtcjihaafohnbeaaDoorScript
namespace Go.Proofs.YtcjihaafohnbeaaDoor
open Go.RowKit

end Go.Proofs.YtcjihaafohnbeaaDoor
