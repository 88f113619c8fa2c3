/- The joined facts of CodeLent, put together. -/
import Derived.Test.YtienedhaogjahaaGreatDoorWCodeLentL
import Derived.Test.YtienedhaogjahaaGreatDoorWCodeLentJ
namespace Go.Proofs.YtienedhaogjahaaGreatDoor
open Go.ChangeShapes Go.WideShapes Go.ChangeAt Go.RowKit Go.ChangeMaps

set_option maxRecDepth 100000 in
theorem codeLent_closed : joinedFacts Tryz.pinned.checked.prog 6 Tryz.f6 Rows.codeLentSpec Rows.codeLentRow = true := by
  unfold joinedFacts
  exact (and2 (and2 (and2 (and2 (and2 (and2 (and2 (and2 (and2 (and2 (and2 (and2 (and2 (and2 (and2 (and2 (and2 (and2 (and2 (and2 (and2 (and2 (and2 (and2 (and2 (and2 (and2 (and2 (and2 (and2 (and2 codeLent_j0 codeLent_j1) codeLent_j2) codeLent_j3) codeLent_j4) codeLent_j5) codeLent_j6) codeLent_j7) codeLent_j8) codeLent_j9) codeLent_j10) codeLent_j11) codeLent_j12) codeLent_j13) codeLent_j14) codeLent_j15) codeLent_j16) codeLent_j17) codeLent_j18) codeLent_j19) codeLent_j20) codeLent_j21) codeLent_j22) codeLent_j23) codeLent_j24) codeLent_j25) codeLent_j26) codeLent_j27) codeLent_j28) codeLent_j29) codeLent_j30) codeLent_j31)
end Go.Proofs.YtienedhaogjahaaGreatDoor
