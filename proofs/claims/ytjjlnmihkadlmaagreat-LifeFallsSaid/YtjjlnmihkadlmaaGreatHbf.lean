/-  -/
import Derived.Test.YtjjlnmihkadlmaaGreatHbc
import Derived.Laws.EntriesVeiled
import Derived.Test.YtjjlnmihkadlmaaGreatHar
import Derived.Test.YtjjlnmihkadlmaaGreatHbb
namespace Go.Proofs.YtjjlnmihkadlmaaGreat
open Go.RowKit

end Go.Proofs.YtjjlnmihkadlmaaGreat
namespace Go.Proofs.YtjjlnmihkadlmaaGreat
open Go.RowKit

end Go.Proofs.YtjjlnmihkadlmaaGreat
namespace Go.Proofs.YtjjlnmihkadlmaaGreat
open Go.RowKit

end Go.Proofs.YtjjlnmihkadlmaaGreat
