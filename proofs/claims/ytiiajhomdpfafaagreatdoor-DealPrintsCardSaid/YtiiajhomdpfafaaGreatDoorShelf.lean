/- The library's contract of bits.LeadingZeros64 at this program, laid in plain words by the kit's tool. -/
import Derived.Shelf.Small.Bits
import Derived.Shelf.Strconv.Itoa0
import Derived.Test.YtiiajhomdpfafaaGreatDoorProg
namespace Go.Proofs
open Go.Shelf
end Go.Proofs
