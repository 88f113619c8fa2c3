/- text.Unhex at any text. A number's text is read as that number. The walk of TextBack. -/
import Derived.Test.YtiiajhomdpfafaaGreatDoorHbm
import Derived.Test.YtiiajhomdpfafaaGreatDoorHak
import Derived.Test.YtiiajhomdpfafaaGreatDoorHau
namespace Go.Proofs.YtiiajhomdpfafaaGreatDoor
open Go.RowKit

end Go.Proofs.YtiiajhomdpfafaaGreatDoor
namespace Go.Proofs.YtiiajhomdpfafaaGreatDoor
open Go.RowKit

end Go.Proofs.YtiiajhomdpfafaaGreatDoor
namespace Go.Proofs.YtiiajhomdpfafaaGreatDoor
open Go.RowKit

end Go.Proofs.YtiiajhomdpfafaaGreatDoor
