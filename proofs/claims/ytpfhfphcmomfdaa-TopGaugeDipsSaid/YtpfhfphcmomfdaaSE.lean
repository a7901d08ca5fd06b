/- The examples with which the laws of chapter 4 begin hold (by the reckoner with symbols). -/
import Derived.Test.YtpfhfphcmomfdaaProg
import Derived.Test.YtpfhfphcmomfdaaSZ
namespace Go.Proofs.Ytpfhfphcmomfdaa
open Go.RowKit
namespace Sy

end Sy
end Go.Proofs.Ytpfhfphcmomfdaa
