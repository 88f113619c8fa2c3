/- The closed look of every statement of this layer: the document's fixed answers. -/
import Derived.Test.YtddakophlgindaaGreatDoorHah
import Derived.Test.YtddakophlgindaaGreatDoorShelf
import Derived.BigQuiet
namespace Go.Proofs.YtddakophlgindaaGreatDoor
open Go.RowKit

end Go.Proofs.YtddakophlgindaaGreatDoor
