/- The closed look of every statement of this layer: the document's fixed answers. -/
import Derived.Test.YtonojdapfnlckaaGreatDoorHal
import Derived.Test.YtonojdapfnlckaaGreatDoorShelf
import Derived.BigQuiet
namespace Go.Proofs.YtonojdapfnlckaaGreatDoor
open Go.RowKit

end Go.Proofs.YtonojdapfnlckaaGreatDoor
