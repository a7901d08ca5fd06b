/- The reference's AreaTo. -/
import Derived.Test.YtlfminpccpecfaaJ3
namespace Go.Proofs.Ytlfminpccpecfaa
open Go.RowKit

end Go.Proofs.Ytlfminpccpecfaa
