/- The contracts of Mid, Gap, Up, Down, of the program and of the document's answer. The library's contract of bits.LeadingZeros64 at this program, laid in plain words by the kit's tool. -/
import Derived.Test.YtbkmbdbjeiffpaaGreatHad
import Derived.Shelf.Small.Bits
import Derived.Shelf.Strconv.Itoa0
import Derived.Test.YtbkmbdbjeiffpaaGreatProg
namespace Go.Proofs.YtbkmbdbjeiffpaaGreat
open Go.RowKit

def midOk (u v : Int) : Bool := !nanB u && !nanB v && atOk (midI (rankI u) (rankI v))
def midA (u v : Int) : Int := if !nanB u && !nanB v then atI (midI (rankI u) (rankI v)) else 0

theorem ret_midu {n m : Int} {c d : Bool} (h : n = m) (h' : c = d) : Ending.returned (.tuple #[.int .u64 n, .bool c]) = .returned (.tuple #[.int .u64 m, .bool d]) := by rw [h, h']

def gapI (u v : Int) : Int := if !nanB u && !nanB v then (if rankI u < rankI v then IntKind.u64.wrap (IntKind.u64.wrap (rankI v) - IntKind.u64.wrap (rankI u)) else IntKind.u64.wrap (IntKind.u64.wrap (rankI u) - IntKind.u64.wrap (rankI v))) else 0
def bothB (u v : Int) : Bool := !nanB u && !nanB v

end Go.Proofs.YtbkmbdbjeiffpaaGreat
namespace Go.Proofs
open Go.Shelf
def Tryz.lays134_ren : Go.Shelf.Ren := ⟨fun | 134 => 99 | 129 => 102 | n => n, fun | 53 => 26 | 3 => 3 | 4 => 4 | 46 => 66 | 5 => 5 | 9 => 9 | n => n, fun | n => n⟩
theorem Tryz.lays134 : Go.Proofs.Lays.n134 Tryz.prog Tryz.lays134_ren := {
  mixed := by kernel_rfl
  f129 := Tryz.func102.trans (congrArg some (by kernel_rfl))
  f134 := Tryz.func99.trans (congrArg some (by kernel_rfl))
  t3 := Tryz.underlying3
  a3 := Tryz.isAgg3
  z3 := Tryz.sizeOf3
  v3 := Tryz.zeroValue3
  t4 := Tryz.underlying4
  a4 := Tryz.isAgg4
  z4 := Tryz.sizeOf4
  v4 := Tryz.zeroValue4
  t5 := Tryz.underlying5
  a5 := Tryz.isAgg5
  z5 := Tryz.sizeOf5
  v5 := Tryz.zeroValue5
  t9 := Tryz.underlying9
  a9 := Tryz.isAgg9
  z9 := Tryz.sizeOf9
  v9 := Tryz.zeroValue9
  t46 := Tryz.underlying66
  a46 := Tryz.isAgg66
  z46 := Tryz.sizeOf66
  v46 := Tryz.zeroValue66
  t53 := Tryz.underlying26
  a53 := Tryz.isAgg26
  z53 := Tryz.sizeOf26
  v53 := Tryz.zeroValue26 }
theorem Tryz.bits_LeadingZeros64 (x : Int) (w : World) (h0 : 0 ≤ x) (h1 : x ≤ 18446744073709551615) :
    Calls Tryz.prog 99 #[.int .u64 x] w fun e w' => e = .returned (.int .i64 (64 - (Lib.bitLen x.toNat : Int))) ∧ w' = w := Any.bits_LeadingZeros64 Tryz.lays134 x w h0 h1
end Go.Proofs
