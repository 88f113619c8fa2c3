/- Contracts of the library at this program, laid in plain words by the kit's tool. -/
import Derived.Shelf.Spec.BitsCarry
import Derived.Shelf.Spec.SlicesGrow
import Derived.Shelf.Bits.Mul64
import Derived.Shelf.SlGeneric
import Derived.Test.YteglnchcnacjlaaGreatProg
namespace Go.Proofs
open Go.Shelf
def Tryz.addL_ren : Go.Shelf.Ren := ⟨fun | 25 => 144 | n => n, fun | 22 => 40 | n => n, fun | n => n⟩
theorem Tryz.addL : Go.Proofs.Lays7.n25 Tryz.prog Tryz.addL_ren := {
  mixed := by kernel_rfl
  f25 := Tryz.func144.trans (congrArg some (by kernel_rfl))
  t22 := Tryz.underlying40
  a22 := Tryz.isAgg40
  z22 := Tryz.sizeOf40
  v22 := Tryz.zeroValue40
  i22 := by kernel_rfl }
def Tryz.subL_ren : Go.Shelf.Ren := ⟨fun | 26 => 124 | n => n, fun | 22 => 40 | n => n, fun | n => n⟩
theorem Tryz.subL : Go.Proofs.Lays7.n26 Tryz.prog Tryz.subL_ren := {
  mixed := by kernel_rfl
  f26 := Tryz.func124.trans (congrArg some (by kernel_rfl))
  t22 := Tryz.underlying40
  a22 := Tryz.isAgg40
  z22 := Tryz.sizeOf40
  v22 := Tryz.zeroValue40
  i22 := by kernel_rfl }
def Tryz.growL_ren : Go.Shelf.Ren := ⟨fun | 4 => 143 | n => n, fun | 22 => 93 | 25 => 40 | 3 => 3 | 4 => 4 | 9 => 9 | 20 => 20 | 0 => 0 | n => n, fun | n => n⟩
theorem Tryz.growL : Go.Proofs.Lays8.n4 Tryz.prog Tryz.growL_ren := {
  mixed := by kernel_rfl
  f4 := ⟨Tryz.f143.name, by decide, Tryz.func143.trans (congrArg some (by kernel_rfl))⟩
  t0 := Tryz.underlying0
  a0 := Tryz.isAgg0
  z0 := Tryz.sizeOf0
  v0 := Tryz.zeroValue0
  t3 := Tryz.underlying3
  a3 := Tryz.isAgg3
  z3 := Tryz.sizeOf3
  v3 := Tryz.zeroValue3
  t4 := Tryz.underlying4
  a4 := Tryz.isAgg4
  z4 := Tryz.sizeOf4
  v4 := Tryz.zeroValue4
  t9 := Tryz.underlying9
  a9 := Tryz.isAgg9
  z9 := Tryz.sizeOf9
  v9 := Tryz.zeroValue9
  t20 := Tryz.underlying20
  a20 := Tryz.isAgg20
  z20 := Tryz.sizeOf20
  v20 := Tryz.zeroValue20
  t22 := Tryz.underlying93
  a22 := Tryz.isAgg93
  z22 := Tryz.sizeOf93
  v22 := Tryz.zeroValue93 }
end Go.Proofs
