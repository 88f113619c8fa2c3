/- Contracts of the library at this program, laid in plain words by the kit's tool. -/
import Derived.Shelf.Slices.SearchI
import Derived.Test.YtphnainibdepbaaGreatProg
namespace Go.Proofs
open Go.Shelf
def Tryz.bsL_ren : Go.Shelf.Ren := ⟨fun | 25 => 98 | 31 => 118 | 32 => 119 | 37 => 140 | n => n, fun | 22 => 31 | 3 => 3 | 4 => 4 | 40 => 132 | 0 => 0 | n => n, fun | n => n⟩
theorem Tryz.bsL : Go.Proofs.Lays2.n25 Tryz.prog Tryz.bsL_ren := {
  mixed := by kernel_rfl
  f25 := Tryz.func98.trans (congrArg some (by kernel_rfl))
  f31 := Tryz.func118.trans (congrArg some (by kernel_rfl))
  f32 := Tryz.func119.trans (congrArg some (by kernel_rfl))
  f37 := Tryz.func140.trans (congrArg some (by kernel_rfl))
  t0 := Tryz.underlying0
  a0 := Tryz.isAgg0
  z0 := Tryz.sizeOf0
  v0 := Tryz.zeroValue0
  t3 := Tryz.underlying3
  a3 := Tryz.isAgg3
  z3 := Tryz.sizeOf3
  v3 := Tryz.zeroValue3
  t4 := Tryz.underlying4
  a4 := Tryz.isAgg4
  z4 := Tryz.sizeOf4
  v4 := Tryz.zeroValue4
  t22 := Tryz.underlying31
  a22 := Tryz.isAgg31
  z22 := Tryz.sizeOf31
  v22 := Tryz.zeroValue31
  t40 := Tryz.underlying132
  a40 := Tryz.isAgg132
  z40 := Tryz.sizeOf132
  v40 := Tryz.zeroValue132 }
end Go.Proofs
