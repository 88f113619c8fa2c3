/- The contracts of Mid, Gap, Up, Down, of the program and of the document's answer. The library's contract of bits.LeadingZeros64 at this program, laid in plain words by the kit's tool. -/
import Derived.Test.YtbkmbdbjeiffpaaHad
import Derived.Shelf.Small.Bits
import Derived.Shelf.Strconv.Itoa0
import Derived.Test.YtbkmbdbjeiffpaaProg
namespace Go.Proofs.Ytbkmbdbjeiffpaa
open Go.RowKit

def midOk (u v : Int) : Bool := !nanB u && !nanB v && atOk (midI (rankI u) (rankI v))
def midA (u v : Int) : Int := if !nanB u && !nanB v then atI (midI (rankI u) (rankI v)) else 0

theorem ret_midu {n m : Int} {c d : Bool} (h : n = m) (h' : c = d) : Ending.returned (.tuple #[.int .u64 n, .bool c]) = .returned (.tuple #[.int .u64 m, .bool d]) := by rw [h, h']

def gapI (u v : Int) : Int := if !nanB u && !nanB v then (if rankI u < rankI v then IntKind.u64.wrap (IntKind.u64.wrap (rankI v) - IntKind.u64.wrap (rankI u)) else IntKind.u64.wrap (IntKind.u64.wrap (rankI u) - IntKind.u64.wrap (rankI v))) else 0
def bothB (u v : Int) : Bool := !nanB u && !nanB v

end Go.Proofs.Ytbkmbdbjeiffpaa
namespace Go.Proofs
open Go.Shelf
def Try.lays134_ren : Go.Shelf.Ren := ⟨fun | 134 => 100 | 129 => 103 | n => n, fun | 53 => 26 | 3 => 3 | 4 => 4 | 46 => 73 | 5 => 5 | 9 => 9 | n => n, fun | n => n⟩
theorem Try.lays134 : Go.Proofs.Lays.n134 Try.prog Try.lays134_ren := {
  mixed := by kernel_rfl
  f129 := Try.func103.trans (congrArg some (by kernel_rfl))
  f134 := Try.func100.trans (congrArg some (by kernel_rfl))
  t3 := Try.underlying3
  a3 := Try.isAgg3
  z3 := Try.sizeOf3
  v3 := Try.zeroValue3
  t4 := Try.underlying4
  a4 := Try.isAgg4
  z4 := Try.sizeOf4
  v4 := Try.zeroValue4
  t5 := Try.underlying5
  a5 := Try.isAgg5
  z5 := Try.sizeOf5
  v5 := Try.zeroValue5
  t9 := Try.underlying9
  a9 := Try.isAgg9
  z9 := Try.sizeOf9
  v9 := Try.zeroValue9
  t46 := Try.underlying73
  a46 := Try.isAgg73
  z46 := Try.sizeOf73
  v46 := Try.zeroValue73
  t53 := Try.underlying26
  a53 := Try.isAgg26
  z53 := Try.sizeOf26
  v53 := Try.zeroValue26 }
theorem Try.bits_LeadingZeros64 (x : Int) (w : World) (h0 : 0 ≤ x) (h1 : x ≤ 18446744073709551615) :
    Calls Try.prog 100 #[.int .u64 x] w fun e w' => e = .returned (.int .i64 (64 - (Lib.bitLen x.toNat : Int))) ∧ w' = w := Any.bits_LeadingZeros64 Try.lays134 x w h0 h1
end Go.Proofs
