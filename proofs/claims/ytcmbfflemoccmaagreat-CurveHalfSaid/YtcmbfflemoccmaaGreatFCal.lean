/- A calendar that came in: its weekend, and its rules as a list. -/
import Derived.Test.YtcmbfflemoccmaaGreatHaj
import Derived.Test.YtcmbfflemoccmaaGreatRows
import Derived.ProofKit
import Derived.OpenShut
import Derived.Carry
import Derived.Deep.Slices
namespace Go.Proofs.YtcmbfflemoccmaaGreat
open Go.ChangeShapes Go.WideShapes Go.ChangeAt Go.RowKit

end Go.Proofs.YtcmbfflemoccmaaGreat
