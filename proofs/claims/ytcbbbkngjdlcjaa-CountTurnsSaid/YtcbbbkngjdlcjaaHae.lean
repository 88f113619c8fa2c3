/- The contracts of Mid, Gap, Up, Down, of the program and of the document's answer. -/
import Derived.Test.YtcbbbkngjdlcjaaHad
namespace Go.Proofs.Ytcbbbkngjdlcjaa
open Go.RowKit

def midOk (u v : Int) : Bool := !nanB u && !nanB v && atOk (midI (rankI u) (rankI v))
def midA (u v : Int) : Int := if !nanB u && !nanB v then atI (midI (rankI u) (rankI v)) else 0

theorem ret_midu {n m : Int} {c d : Bool} (h : n = m) (h' : c = d) : Ending.returned (.tuple #[.int .u64 n, .bool c]) = .returned (.tuple #[.int .u64 m, .bool d]) := by rw [h, h']

def gapI (u v : Int) : Int := if !nanB u && !nanB v then (if rankI u < rankI v then IntKind.u64.wrap (IntKind.u64.wrap (rankI v) - IntKind.u64.wrap (rankI u)) else IntKind.u64.wrap (IntKind.u64.wrap (rankI u) - IntKind.u64.wrap (rankI v))) else 0
def bothB (u v : Int) : Bool := !nanB u && !nanB v

end Go.Proofs.Ytcbbbkngjdlcjaa

