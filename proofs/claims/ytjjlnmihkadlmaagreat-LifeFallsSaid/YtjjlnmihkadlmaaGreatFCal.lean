/-  -/
import Derived.Test.YtjjlnmihkadlmaaGreatHal
import Derived.Test.YtjjlnmihkadlmaaGreatRows
import Derived.ProofKit
import Derived.OpenShut
import Derived.Carry
import Derived.Deep.Slices
namespace Go.Proofs.YtjjlnmihkadlmaaGreat
open Go.ChangeShapes Go.WideShapes Go.ChangeAt Go.RowKit

end Go.Proofs.YtjjlnmihkadlmaaGreat
