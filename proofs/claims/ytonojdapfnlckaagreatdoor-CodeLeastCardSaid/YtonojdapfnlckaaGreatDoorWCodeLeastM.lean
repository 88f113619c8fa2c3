/- The joined facts of CodeLeast. -/
import Derived.Test.YtonojdapfnlckaaGreatDoorWCodeLeastL
namespace Go.Proofs.YtonojdapfnlckaaGreatDoor
open Go.ChangeShapes Go.WideShapes Go.ChangeAt Go.RowKit Go.ChangeMaps

theorem codeLeast_closed : joinedFacts Tryz.pinned.checked.prog 4 Tryz.f4 Rows.codeLeastSpec Rows.codeLeastRow = true := by kernel_rfl
end Go.Proofs.YtonojdapfnlckaaGreatDoor
