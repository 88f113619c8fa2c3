/-  -/
import Derived.Test.YtjjlnmihkadlmaaGreatHbd
import Derived.Laws.EntriesVeiled
import Derived.Test.YtjjlnmihkadlmaaGreatHaq
import Derived.Test.YtjjlnmihkadlmaaGreatHbb
namespace Go.Proofs.YtjjlnmihkadlmaaGreat
open Go.RowKit

end Go.Proofs.YtjjlnmihkadlmaaGreat
namespace Go.Proofs.YtjjlnmihkadlmaaGreat
open Go.RowKit

end Go.Proofs.YtjjlnmihkadlmaaGreat
namespace Go.Proofs.YtjjlnmihkadlmaaGreat
open Go.RowKit

end Go.Proofs.YtjjlnmihkadlmaaGreat
