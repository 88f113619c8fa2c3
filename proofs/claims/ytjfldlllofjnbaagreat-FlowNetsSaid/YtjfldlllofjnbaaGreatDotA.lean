/- The contracts of package acc's Prod and Dot at any floats. -/
import Derived.Test.YtjfldlllofjnbaaGreatAccN
import Derived.Test.YtjfldlllofjnbaaGreatHak
import Derived.Test.YtjfldlllofjnbaaGreatHap
namespace Go.Proofs.YtjfldlllofjnbaaGreat.A
open Go.RowKit

end Go.Proofs.YtjfldlllofjnbaaGreat.A
