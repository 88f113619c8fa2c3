/- The almanac in memory. The contract of mark. The contracts of the almanac's holiday and open. The contracts of the almanac's walk, nearest, nearestOfMonth and count. The contracts of nearest, isSameMonth, nearestOfMonth and count. The contracts of almanacOf, Open and Holiday. The contracts of Adjust, Add and Count. -/
import Derived.Test.YtcmbfflemoccmaaGreatHaj
import Derived.Deep.OwnRows
namespace Go.Proofs.YtcmbfflemoccmaaGreat
open Go.RowKit

end Go.Proofs.YtcmbfflemoccmaaGreat
namespace Go.Proofs.YtcmbfflemoccmaaGreat
open Go.RowKit

end Go.Proofs.YtcmbfflemoccmaaGreat
namespace Go.Proofs.YtcmbfflemoccmaaGreat
open Go.RowKit

end Go.Proofs.YtcmbfflemoccmaaGreat
namespace Go.Proofs.YtcmbfflemoccmaaGreat
open Go.RowKit

end Go.Proofs.YtcmbfflemoccmaaGreat
namespace Go.Proofs.YtcmbfflemoccmaaGreat
open Go.RowKit

end Go.Proofs.YtcmbfflemoccmaaGreat
namespace Go.Proofs.YtcmbfflemoccmaaGreat
open Go.RowKit

end Go.Proofs.YtcmbfflemoccmaaGreat
namespace Go.Proofs.YtcmbfflemoccmaaGreat
open Go.RowKit

end Go.Proofs.YtcmbfflemoccmaaGreat
