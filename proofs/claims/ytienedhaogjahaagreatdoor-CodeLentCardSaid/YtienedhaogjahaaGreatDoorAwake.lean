/- The closed look of every statement of this layer: the document's fixed answers. -/
import Derived.Test.YtienedhaogjahaaGreatDoorHal
import Derived.Test.YtienedhaogjahaaGreatDoorShelf
import Derived.BigQuiet
namespace Go.Proofs.YtienedhaogjahaaGreatDoor
open Go.RowKit

end Go.Proofs.YtienedhaogjahaaGreatDoor
