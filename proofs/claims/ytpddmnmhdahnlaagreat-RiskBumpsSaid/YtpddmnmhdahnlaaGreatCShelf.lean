/-  -/
import Derived.Shelf.SlicesE.Clone
import Derived.Shelf.SlGeneric
import Derived.Test.YtpddmnmhdahnlaaGreatProg
namespace Go.Proofs
open Go.Shelf
end Go.Proofs
