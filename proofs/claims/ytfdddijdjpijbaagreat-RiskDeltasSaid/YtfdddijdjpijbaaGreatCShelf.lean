/-  -/
import Derived.Shelf.SlicesE.Clone
import Derived.Shelf.SlGeneric
import Derived.Test.YtfdddijdjpijbaaGreatProg
namespace Go.Proofs
open Go.Shelf
end Go.Proofs
