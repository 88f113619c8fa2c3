/-  -/
import Derived.Test.YtjjlnmihkadlmaaGreatHal
import Derived.Lib.MinMax
namespace Go.Proofs.YtjjlnmihkadlmaaGreat
open Go.RowKit

end Go.Proofs.YtjjlnmihkadlmaaGreat
