import Derived.Test.YtfhpebnmhchdaaaDoorLaw2
import Derived.Test.YtfhpebnmhchdaaaDoorScript
namespace Go.Proofs.YtfhpebnmhchdaaaDoor
open Go.RowKit

end Go.Proofs.YtfhpebnmhchdaaaDoor
