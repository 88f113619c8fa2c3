/-  -/
import Derived.Shelf.SlicesE.Clone
import Derived.Shelf.SlGeneric
import Derived.Test.YtkcnkhdbojdhgaaGreatProg
namespace Go.Proofs
open Go.Shelf
end Go.Proofs
