/- The joined facts of CodeCompiles, put together. -/
import Derived.Test.YtienedhaogjahaaGreatDoorWCodeCompilesL
import Derived.Test.YtienedhaogjahaaGreatDoorWCodeCompilesJ
namespace Go.Proofs.YtienedhaogjahaaGreatDoor
open Go.ChangeShapes Go.WideShapes Go.ChangeAt Go.RowKit Go.ChangeMaps

set_option maxRecDepth 100000 in
theorem codeCompiles_closed : joinedFacts Tryz.pinned.checked.prog 3 Tryz.f3 Rows.codeCompilesSpec Rows.codeCompilesRow = true := by
  unfold joinedFacts
  exact (and2 (and2 (and2 (and2 (and2 (and2 (and2 (and2 (and2 (and2 (and2 (and2 (and2 (and2 (and2 (and2 (and2 (and2 (and2 (and2 (and2 (and2 (and2 (and2 (and2 (and2 (and2 (and2 (and2 (and2 (and2 codeCompiles_j0 codeCompiles_j1) codeCompiles_j2) codeCompiles_j3) codeCompiles_j4) codeCompiles_j5) codeCompiles_j6) codeCompiles_j7) codeCompiles_j8) codeCompiles_j9) codeCompiles_j10) codeCompiles_j11) codeCompiles_j12) codeCompiles_j13) codeCompiles_j14) codeCompiles_j15) codeCompiles_j16) codeCompiles_j17) codeCompiles_j18) codeCompiles_j19) codeCompiles_j20) codeCompiles_j21) codeCompiles_j22) codeCompiles_j23) codeCompiles_j24) codeCompiles_j25) codeCompiles_j26) codeCompiles_j27) codeCompiles_j28) codeCompiles_j29) codeCompiles_j30) codeCompiles_j31)
end Go.Proofs.YtienedhaogjahaaGreatDoor
