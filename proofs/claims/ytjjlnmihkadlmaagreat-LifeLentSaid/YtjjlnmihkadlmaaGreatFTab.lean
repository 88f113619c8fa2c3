/-  -/
import Derived.Test.YtjjlnmihkadlmaaGreatHam
import Derived.Test.YtjjlnmihkadlmaaGreatRows
import Derived.ProofKit
import Derived.OpenShut
import Derived.Carry
import Derived.Deep.Slices
import Derived.SizedLaws
namespace Go.Proofs.YtjjlnmihkadlmaaGreat
open Go.ChangeShapes Go.WideShapes Go.ChangeAt Go.RowKit

end Go.Proofs.YtjjlnmihkadlmaaGreat
