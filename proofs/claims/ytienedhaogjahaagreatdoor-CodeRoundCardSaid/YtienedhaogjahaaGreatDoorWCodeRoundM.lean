/- The joined facts of CodeRound, put together. -/
import Derived.Test.YtienedhaogjahaaGreatDoorWCodeRoundJ
namespace Go.Proofs.YtienedhaogjahaaGreatDoor
open Go.ChangeShapes Go.WideShapes Go.ChangeAt Go.RowKit Go.ChangeMaps

set_option maxRecDepth 100000 in
theorem codeRound_closed : joinedFacts Tryz.pinned.checked.prog 5 Tryz.f5 Rows.codeRoundSpec Rows.codeRoundRow = true := by
  unfold joinedFacts
  exact (and2 (and2 (and2 (and2 (and2 (and2 (and2 (and2 (and2 (and2 (and2 (and2 (and2 (and2 (and2 (and2 (and2 (and2 (and2 (and2 (and2 (and2 (and2 (and2 (and2 (and2 (and2 (and2 (and2 (and2 (and2 codeRound_j0 codeRound_j1) codeRound_j2) codeRound_j3) codeRound_j4) codeRound_j5) codeRound_j6) codeRound_j7) codeRound_j8) codeRound_j9) codeRound_j10) codeRound_j11) codeRound_j12) codeRound_j13) codeRound_j14) codeRound_j15) codeRound_j16) codeRound_j17) codeRound_j18) codeRound_j19) codeRound_j20) codeRound_j21) codeRound_j22) codeRound_j23) codeRound_j24) codeRound_j25) codeRound_j26) codeRound_j27) codeRound_j28) codeRound_j29) codeRound_j30) codeRound_j31)
end Go.Proofs.YtienedhaogjahaaGreatDoor
