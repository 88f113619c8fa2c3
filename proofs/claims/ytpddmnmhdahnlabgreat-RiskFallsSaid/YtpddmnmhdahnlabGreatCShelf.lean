/-  -/
import Derived.Shelf.SlicesE.Clone
import Derived.Shelf.SlGeneric
import Derived.Test.YtpddmnmhdahnlabGreatProg
namespace Go.Proofs
open Go.Shelf
end Go.Proofs
