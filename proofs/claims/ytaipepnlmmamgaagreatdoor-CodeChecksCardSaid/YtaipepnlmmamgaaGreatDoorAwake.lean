/- The closed look of every statement of this layer: the document's fixed answers. -/
import Derived.Test.YtaipepnlmmamgaaGreatDoorHal
import Derived.Test.YtaipepnlmmamgaaGreatDoorShelf
import Derived.BigQuiet
namespace Go.Proofs.YtaipepnlmmamgaaGreatDoor
open Go.RowKit

end Go.Proofs.YtaipepnlmmamgaaGreatDoor
