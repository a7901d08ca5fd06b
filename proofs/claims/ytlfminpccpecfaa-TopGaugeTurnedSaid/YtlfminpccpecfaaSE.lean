/- The examples with which the laws of chapter 4 begin hold (by the reckoner with symbols). -/
import Derived.Test.YtlfminpccpecfaaProg
import Derived.Test.YtlfminpccpecfaaSZ
namespace Go.Proofs.Ytlfminpccpecfaa
open Go.RowKit
namespace Sy

end Sy
end Go.Proofs.Ytlfminpccpecfaa
