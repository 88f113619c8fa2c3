/- Contracts of the library at this program, laid in plain words by the kit's tool. -/
import Derived.Shelf.Slices.SearchI
import Derived.Test.YtnmjljijgmmakaaProg
namespace Go.Proofs
open Go.Shelf
def Try.bsL_ren : Go.Shelf.Ren := ⟨fun | 25 => 30 | 31 => 40 | 32 => 41 | 37 => 49 | n => n, fun | 22 => 22 | 3 => 3 | 4 => 4 | 40 => 69 | 0 => 0 | n => n, fun | n => n⟩
theorem Try.bsL : Go.Proofs.Lays2.n25 Try.prog Try.bsL_ren := {
  mixed := by kernel_rfl
  f25 := Try.func30.trans (congrArg some (by kernel_rfl))
  f31 := Try.func40.trans (congrArg some (by kernel_rfl))
  f32 := Try.func41.trans (congrArg some (by kernel_rfl))
  f37 := Try.func49.trans (congrArg some (by kernel_rfl))
  t0 := Try.underlying0
  a0 := Try.isAgg0
  z0 := Try.sizeOf0
  v0 := Try.zeroValue0
  t3 := Try.underlying3
  a3 := Try.isAgg3
  z3 := Try.sizeOf3
  v3 := Try.zeroValue3
  t4 := Try.underlying4
  a4 := Try.isAgg4
  z4 := Try.sizeOf4
  v4 := Try.zeroValue4
  t22 := Try.underlying22
  a22 := Try.isAgg22
  z22 := Try.sizeOf22
  v22 := Try.zeroValue22
  t40 := Try.underlying69
  a40 := Try.isAgg69
  z40 := Try.sizeOf69
  v40 := Try.zeroValue69 }
end Go.Proofs
