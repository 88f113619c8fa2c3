/- The closed look of every statement of this layer: the document's fixed answers. -/
import Derived.Test.YtkmekiiabcgioaaGreatDoorHal
import Derived.Test.YtkmekiiabcgioaaGreatDoorShelf
import Derived.BigQuiet
namespace Go.Proofs.YtkmekiiabcgioaaGreatDoor
open Go.RowKit

end Go.Proofs.YtkmekiiabcgioaaGreatDoor
