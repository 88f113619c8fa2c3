/- The joined facts of CodeTrims. -/
import Derived.Test.YtonojdapfnlckaaGreatDoorWCodeTrimsL
namespace Go.Proofs.YtonojdapfnlckaaGreatDoor
open Go.ChangeShapes Go.WideShapes Go.ChangeAt Go.RowKit Go.ChangeMaps

theorem codeTrims_closed : joinedFacts Tryz.pinned.checked.prog 3 Tryz.f3 Rows.codeTrimsSpec Rows.codeTrimsRow = true := by kernel_rfl
end Go.Proofs.YtonojdapfnlckaaGreatDoor
