/- The contract of package flow's Shift. -/
import Derived.Test.YtpcgbcdldkmibaaGreatHba
import Derived.Test.YtpcgbcdldkmibaaGreatHak
namespace Go.Proofs.YtpcgbcdldkmibaaGreat
open Go.RowKit

end Go.Proofs.YtpcgbcdldkmibaaGreat
