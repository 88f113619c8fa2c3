/- The joined facts of DealChecks, put together. -/
import Derived.Test.YtiiajhomdpfafaaGreatDoorWDealChecksL
import Derived.Test.YtiiajhomdpfafaaGreatDoorWDealChecksJ
namespace Go.Proofs.YtiiajhomdpfafaaGreatDoor
open Go.ChangeShapes Go.WideShapes Go.ChangeAt Go.RowKit Go.ChangeMaps

set_option maxRecDepth 100000 in
theorem dealChecks_closed : joinedFacts Tryz.pinned.checked.prog 3 Tryz.f3 Rows.dealChecksSpec Rows.dealChecksRow = true := by
  unfold joinedFacts
  exact (and2 (and2 (and2 (and2 (and2 (and2 (and2 (and2 (and2 (and2 (and2 (and2 (and2 (and2 (and2 (and2 (and2 (and2 (and2 (and2 (and2 (and2 (and2 (and2 (and2 (and2 (and2 (and2 (and2 (and2 (and2 dealChecks_j0 dealChecks_j1) dealChecks_j2) dealChecks_j3) dealChecks_j4) dealChecks_j5) dealChecks_j6) dealChecks_j7) dealChecks_j8) dealChecks_j9) dealChecks_j10) dealChecks_j11) dealChecks_j12) dealChecks_j13) dealChecks_j14) dealChecks_j15) dealChecks_j16) dealChecks_j17) dealChecks_j18) dealChecks_j19) dealChecks_j20) dealChecks_j21) dealChecks_j22) dealChecks_j23) dealChecks_j24) dealChecks_j25) dealChecks_j26) dealChecks_j27) dealChecks_j28) dealChecks_j29) dealChecks_j30) dealChecks_j31)
end Go.Proofs.YtiiajhomdpfafaaGreatDoor
