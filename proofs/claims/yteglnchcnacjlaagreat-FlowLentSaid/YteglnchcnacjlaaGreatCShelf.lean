/- Contracts of the library at this program, laid in plain words by the kit's tool. -/
import Derived.Shelf.SlicesE.Clone
import Derived.Shelf.SlGeneric
import Derived.Test.YteglnchcnacjlaaGreatProg
namespace Go.Proofs
open Go.Shelf
end Go.Proofs
