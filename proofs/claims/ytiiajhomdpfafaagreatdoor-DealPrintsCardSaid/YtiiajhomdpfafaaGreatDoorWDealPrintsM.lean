/- The joined facts of DealPrints, put together. -/
import Derived.Test.YtiiajhomdpfafaaGreatDoorWDealPrintsL
import Derived.Test.YtiiajhomdpfafaaGreatDoorWDealPrintsJ
namespace Go.Proofs.YtiiajhomdpfafaaGreatDoor
open Go.ChangeShapes Go.WideShapes Go.ChangeAt Go.RowKit Go.ChangeMaps

set_option maxRecDepth 100000 in
theorem dealPrints_closed : joinedFacts Tryz.pinned.checked.prog 4 Tryz.f4 Rows.dealPrintsSpec Rows.dealPrintsRow = true := by
  unfold joinedFacts
  exact (and2 (and2 (and2 (and2 (and2 (and2 (and2 (and2 (and2 (and2 (and2 (and2 (and2 (and2 (and2 (and2 (and2 (and2 (and2 (and2 (and2 (and2 (and2 (and2 (and2 (and2 (and2 (and2 (and2 (and2 (and2 dealPrints_j0 dealPrints_j1) dealPrints_j2) dealPrints_j3) dealPrints_j4) dealPrints_j5) dealPrints_j6) dealPrints_j7) dealPrints_j8) dealPrints_j9) dealPrints_j10) dealPrints_j11) dealPrints_j12) dealPrints_j13) dealPrints_j14) dealPrints_j15) dealPrints_j16) dealPrints_j17) dealPrints_j18) dealPrints_j19) dealPrints_j20) dealPrints_j21) dealPrints_j22) dealPrints_j23) dealPrints_j24) dealPrints_j25) dealPrints_j26) dealPrints_j27) dealPrints_j28) dealPrints_j29) dealPrints_j30) dealPrints_j31)
end Go.Proofs.YtiiajhomdpfafaaGreatDoor
