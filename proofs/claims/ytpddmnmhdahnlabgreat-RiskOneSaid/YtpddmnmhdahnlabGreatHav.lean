/-  -/
import Derived.Test.YtpddmnmhdahnlabGreatHas
import Derived.Test.YtpddmnmhdahnlabGreatRows
import Derived.ProofKit
import Derived.OpenShut
import Derived.Carry
import Derived.Deep.Slices
import Derived.SizedLaws
namespace Go.Proofs.YtpddmnmhdahnlabGreat
open Go.ChangeShapes Go.WideShapes Go.ChangeAt Go.RowKit

end Go.Proofs.YtpddmnmhdahnlabGreat
namespace Go.Proofs.YtpddmnmhdahnlabGreat
open Go.ChangeShapes Go.WideShapes Go.ChangeAt Go.RowKit

end Go.Proofs.YtpddmnmhdahnlabGreat
