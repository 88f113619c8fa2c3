/- The joined facts of CodeBacks, put together. -/
import Derived.Test.YtienedhaogjahaaGreatDoorWCodeBacksL
import Derived.Test.YtienedhaogjahaaGreatDoorWCodeBacksJ
namespace Go.Proofs.YtienedhaogjahaaGreatDoor
open Go.ChangeShapes Go.WideShapes Go.ChangeAt Go.RowKit Go.ChangeMaps

set_option maxRecDepth 100000 in
theorem codeBacks_closed : joinedFacts Tryz.pinned.checked.prog 4 Tryz.f4 Rows.codeBacksSpec Rows.codeBacksRow = true := by
  unfold joinedFacts
  exact (and2 (and2 (and2 (and2 (and2 (and2 (and2 (and2 (and2 (and2 (and2 (and2 (and2 (and2 (and2 (and2 (and2 (and2 (and2 (and2 (and2 (and2 (and2 (and2 (and2 (and2 (and2 (and2 (and2 (and2 (and2 codeBacks_j0 codeBacks_j1) codeBacks_j2) codeBacks_j3) codeBacks_j4) codeBacks_j5) codeBacks_j6) codeBacks_j7) codeBacks_j8) codeBacks_j9) codeBacks_j10) codeBacks_j11) codeBacks_j12) codeBacks_j13) codeBacks_j14) codeBacks_j15) codeBacks_j16) codeBacks_j17) codeBacks_j18) codeBacks_j19) codeBacks_j20) codeBacks_j21) codeBacks_j22) codeBacks_j23) codeBacks_j24) codeBacks_j25) codeBacks_j26) codeBacks_j27) codeBacks_j28) codeBacks_j29) codeBacks_j30) codeBacks_j31)
end Go.Proofs.YtienedhaogjahaaGreatDoor
