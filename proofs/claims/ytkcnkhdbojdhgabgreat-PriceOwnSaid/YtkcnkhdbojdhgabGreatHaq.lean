/- The contract of ShiftDown. The contract of the document's 'rounded' at 53 bits. Contracts of the document's Near: made, Zero, far, NearMore, Near. Contracts of the document's Whole, Join, Of and Split. The contracts of AddDigits, SubDigits, CmpDigits. The contracts of both, low and Plus of the document. The contract of the document's Plus. The contract of the document's Plus, of two signs. -/
import Derived.Test.YtkcnkhdbojdhgabGreatHal
import Derived.Deep.RegionHeld3
import Derived.Test.YtkcnkhdbojdhgabGreatHac
import Derived.Deep.RegionWith
import Derived.Lib.MinMax
import Derived.Test.YtkcnkhdbojdhgabGreatHaj
namespace Go.Proofs.YtkcnkhdbojdhgabGreat
open Go.RowKit

def Half (w : World) (b n M j : Nat) : Prop := w.rowIs b 33 n (fun i => .int .u64 ((if i < j then dgt M i else 0 : Nat) : Int))
end Go.Proofs.YtkcnkhdbojdhgabGreat
namespace Go.Proofs.YtkcnkhdbojdhgabGreat
open Go.RowKit

end Go.Proofs.YtkcnkhdbojdhgabGreat
namespace Go.Proofs.YtkcnkhdbojdhgabGreat
open Go.RowKit

end Go.Proofs.YtkcnkhdbojdhgabGreat
namespace Go.Proofs.YtkcnkhdbojdhgabGreat
open Go.RowKit

end Go.Proofs.YtkcnkhdbojdhgabGreat
namespace Go.Proofs.YtkcnkhdbojdhgabGreat
open Go.RowKit

end Go.Proofs.YtkcnkhdbojdhgabGreat
namespace Go.Proofs.YtkcnkhdbojdhgabGreat
open Go.RowKit

def sg (neg : Bool) (N : Nat) : Int := if neg then -(N : Int) else (N : Int)

end Go.Proofs.YtkcnkhdbojdhgabGreat
namespace Go.Proofs.YtkcnkhdbojdhgabGreat
open Go.RowKit

end Go.Proofs.YtkcnkhdbojdhgabGreat
namespace Go.Proofs.YtkcnkhdbojdhgabGreat
open Go.RowKit

end Go.Proofs.YtkcnkhdbojdhgabGreat
