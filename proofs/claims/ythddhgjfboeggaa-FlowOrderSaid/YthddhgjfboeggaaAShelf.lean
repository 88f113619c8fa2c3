/- Contracts of the library at this program, laid in plain words by the kit's tool. -/
import Derived.Shelf.Spec.BitsCarry
import Derived.Shelf.Spec.SlicesGrow
import Derived.Shelf.Bits.Mul64
import Derived.Shelf.SlGeneric
import Derived.Test.YthddhgjfboeggaaProg
namespace Go.Proofs
open Go.Shelf
def Try.addL_ren : Go.Shelf.Ren := ⟨fun | 25 => 85 | n => n, fun | 22 => 32 | n => n, fun | n => n⟩
theorem Try.addL : Go.Proofs.Lays7.n25 Try.prog Try.addL_ren := {
  mixed := by kernel_rfl
  f25 := Try.func85.trans (congrArg some (by kernel_rfl))
  t22 := Try.underlying32
  a22 := Try.isAgg32
  z22 := Try.sizeOf32
  v22 := Try.zeroValue32
  i22 := by kernel_rfl }
def Try.subL_ren : Go.Shelf.Ren := ⟨fun | 26 => 74 | n => n, fun | 22 => 32 | n => n, fun | n => n⟩
theorem Try.subL : Go.Proofs.Lays7.n26 Try.prog Try.subL_ren := {
  mixed := by kernel_rfl
  f26 := Try.func74.trans (congrArg some (by kernel_rfl))
  t22 := Try.underlying32
  a22 := Try.isAgg32
  z22 := Try.sizeOf32
  v22 := Try.zeroValue32
  i22 := by kernel_rfl }
def Try.growL_ren : Go.Shelf.Ren := ⟨fun | 4 => 84 | n => n, fun | 22 => 67 | 25 => 32 | 3 => 3 | 4 => 4 | 9 => 9 | 20 => 20 | 0 => 0 | n => n, fun | n => n⟩
theorem Try.growL : Go.Proofs.Lays8.n4 Try.prog Try.growL_ren := {
  mixed := by kernel_rfl
  f4 := ⟨Try.f84.name, by decide, Try.func84.trans (congrArg some (by kernel_rfl))⟩
  t0 := Try.underlying0
  a0 := Try.isAgg0
  z0 := Try.sizeOf0
  v0 := Try.zeroValue0
  t3 := Try.underlying3
  a3 := Try.isAgg3
  z3 := Try.sizeOf3
  v3 := Try.zeroValue3
  t4 := Try.underlying4
  a4 := Try.isAgg4
  z4 := Try.sizeOf4
  v4 := Try.zeroValue4
  t9 := Try.underlying9
  a9 := Try.isAgg9
  z9 := Try.sizeOf9
  v9 := Try.zeroValue9
  t20 := Try.underlying20
  a20 := Try.isAgg20
  z20 := Try.sizeOf20
  v20 := Try.zeroValue20
  t22 := Try.underlying67
  a22 := Try.isAgg67
  z22 := Try.sizeOf67
  v22 := Try.zeroValue67 }
end Go.Proofs
