/- The contract of the document's Prod of sums. -/
import Derived.Test.YtjfldlllofjnbaaGreatRefAcc2
import Derived.Test.YtjfldlllofjnbaaGreatDotA
namespace Go.Proofs.YtjfldlllofjnbaaGreat
open Go.RowKit

end Go.Proofs.YtjfldlllofjnbaaGreat
