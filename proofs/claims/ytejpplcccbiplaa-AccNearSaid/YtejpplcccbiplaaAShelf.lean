/- Contracts of the library at this program, laid in plain words by the kit's tool. -/
import Derived.Shelf.Spec.BitsCarry
import Derived.Shelf.Spec.SlicesGrow
import Derived.Shelf.SlicesE.Clone
import Derived.Shelf.Bits.Mul64
import Derived.Shelf.SlGeneric
import Derived.Test.YtejpplcccbiplaaProg
namespace Go.Proofs
open Go.Shelf
def Try.addL_ren : Go.Shelf.Ren := ⟨fun | 25 => 57 | n => n, fun | 22 => 38 | n => n, fun | n => n⟩
theorem Try.addL : Go.Proofs.Lays7.n25 Try.prog Try.addL_ren := {
  mixed := by kernel_rfl
  f25 := Try.func57.trans (congrArg some (by kernel_rfl))
  t22 := Try.underlying38
  a22 := Try.isAgg38
  z22 := Try.sizeOf38
  v22 := Try.zeroValue38
  i22 := by kernel_rfl }
def Try.subL_ren : Go.Shelf.Ren := ⟨fun | 26 => 72 | n => n, fun | 22 => 38 | n => n, fun | n => n⟩
theorem Try.subL : Go.Proofs.Lays7.n26 Try.prog Try.subL_ren := {
  mixed := by kernel_rfl
  f26 := Try.func72.trans (congrArg some (by kernel_rfl))
  t22 := Try.underlying38
  a22 := Try.isAgg38
  z22 := Try.sizeOf38
  v22 := Try.zeroValue38
  i22 := by kernel_rfl }
def Try.growL_ren : Go.Shelf.Ren := ⟨fun | 4 => 71 | n => n, fun | 22 => 54 | 25 => 38 | 3 => 3 | 4 => 4 | 9 => 9 | 20 => 20 | 0 => 0 | n => n, fun | n => n⟩
theorem Try.growL : Go.Proofs.Lays8.n4 Try.prog Try.growL_ren := {
  mixed := by kernel_rfl
  f4 := ⟨Try.f71.name, by decide, Try.func71.trans (congrArg some (by kernel_rfl))⟩
  t0 := Try.underlying0
  a0 := Try.isAgg0
  z0 := Try.sizeOf0
  v0 := Try.zeroValue0
  t3 := Try.underlying3
  a3 := Try.isAgg3
  z3 := Try.sizeOf3
  v3 := Try.zeroValue3
  t4 := Try.underlying4
  a4 := Try.isAgg4
  z4 := Try.sizeOf4
  v4 := Try.zeroValue4
  t9 := Try.underlying9
  a9 := Try.isAgg9
  z9 := Try.sizeOf9
  v9 := Try.zeroValue9
  t20 := Try.underlying20
  a20 := Try.isAgg20
  z20 := Try.sizeOf20
  v20 := Try.zeroValue20
  t22 := Try.underlying54
  a22 := Try.isAgg54
  z22 := Try.sizeOf54
  v22 := Try.zeroValue54 }
def Try.cloneL_ren : Go.Shelf.Ren := ⟨fun | 41 => 42 | n => n, fun | 22 => 54 | 23 => 38 | 4 => 4 | n => n, fun | n => n⟩
theorem Try.cloneL : Go.Proofs.SlLaysE0.n41 Try.prog Try.cloneL_ren := {
  mixed := by kernel_rfl
  f41 := ⟨Try.f42.name, by decide, Try.func42.trans (congrArg some (by kernel_rfl))⟩
  t4 := Try.underlying4
  a4 := Try.isAgg4
  z4 := Try.sizeOf4
  v4 := Try.zeroValue4
  t22 := Try.underlying54
  a22 := Try.isAgg54
  z22 := Try.sizeOf54
  v22 := Try.zeroValue54 }
def Try.mulL_ren : Go.Shelf.Ren := ⟨fun | 264 => 41 | n => n, fun | 53 => 38 | 46 => 77 | n => n, fun | n => n⟩
theorem Try.mulL : Go.Proofs.Lays.n264 Try.prog Try.mulL_ren := {
  mixed := by kernel_rfl
  f264 := Try.func41.trans (congrArg some (by kernel_rfl))
  t46 := Try.underlying77
  a46 := Try.isAgg77
  z46 := Try.sizeOf77
  v46 := Try.zeroValue77
  t53 := Try.underlying38
  a53 := Try.isAgg38
  z53 := Try.sizeOf38
  v53 := Try.zeroValue38 }
end Go.Proofs
