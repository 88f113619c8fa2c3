/-  -/
import Derived.Shelf.Spec.BitsCarry
import Derived.Shelf.Spec.SlicesGrow
import Derived.Shelf.Bits.Mul64
import Derived.Shelf.SlGeneric
import Derived.Test.YtfdddijdjpijbaaGreatProg
namespace Go.Proofs
open Go.Shelf
def Tryz.addL_ren:Go.Shelf.Ren:=⟨fun | 25=>204 | n=>n,fun | 22=>41 | n=>n,fun | n=>n⟩
theorem Tryz.addL:Go.Proofs.Lays7.n25 Tryz.prog Tryz.addL_ren:={
 mixed:=by kernel_rfl
 f25:=Tryz.func204.trans (congrArg some (by kernel_rfl))
 t22:=Tryz.underlying41
 a22:=Tryz.isAgg41
 z22:=Tryz.sizeOf41
 v22:=Tryz.zeroValue41
 i22:=by kernel_rfl }
def Tryz.subL_ren:Go.Shelf.Ren:=⟨fun | 26=>165 | n=>n,fun | 22=>41 | n=>n,fun | n=>n⟩
theorem Tryz.subL:Go.Proofs.Lays7.n26 Tryz.prog Tryz.subL_ren:={
 mixed:=by kernel_rfl
 f26:=Tryz.func165.trans (congrArg some (by kernel_rfl))
 t22:=Tryz.underlying41
 a22:=Tryz.isAgg41
 z22:=Tryz.sizeOf41
 v22:=Tryz.zeroValue41
 i22:=by kernel_rfl }
def Tryz.growL_ren:Go.Shelf.Ren:=⟨fun | 4=>203 | n=>n,fun | 22=>133 | 25=>41 | 3=>3 | 4=>4 | 9=>9 | 20=>20 | 0=>0 | n=>n,fun | n=>n⟩
theorem Tryz.growL:Go.Proofs.Lays8.n4 Tryz.prog Tryz.growL_ren:={
 mixed:=by kernel_rfl
 f4:=⟨Tryz.f203.name,by decide,Tryz.func203.trans (congrArg some (by kernel_rfl))⟩
 t0:=Tryz.underlying0
 a0:=Tryz.isAgg0
 z0:=Tryz.sizeOf0
 v0:=Tryz.zeroValue0
 t3:=Tryz.underlying3
 a3:=Tryz.isAgg3
 z3:=Tryz.sizeOf3
 v3:=Tryz.zeroValue3
 t4:=Tryz.underlying4
 a4:=Tryz.isAgg4
 z4:=Tryz.sizeOf4
 v4:=Tryz.zeroValue4
 t9:=Tryz.underlying9
 a9:=Tryz.isAgg9
 z9:=Tryz.sizeOf9
 v9:=Tryz.zeroValue9
 t20:=Tryz.underlying20
 a20:=Tryz.isAgg20
 z20:=Tryz.sizeOf20
 v20:=Tryz.zeroValue20
 t22:=Tryz.underlying133
 a22:=Tryz.isAgg133
 z22:=Tryz.sizeOf133
 v22:=Tryz.zeroValue133 }
def Tryz.mulL_ren:Go.Shelf.Ren:=⟨fun | 264=>129 | n=>n,fun | 53=>41 | 46=>164 | n=>n,fun | n=>n⟩
theorem Tryz.mulL:Go.Proofs.Lays.n264 Tryz.prog Tryz.mulL_ren:={
 mixed:=by kernel_rfl
 f264:=Tryz.func129.trans (congrArg some (by kernel_rfl))
 t46:=Tryz.underlying164
 a46:=Tryz.isAgg164
 z46:=Tryz.sizeOf164
 v46:=Tryz.zeroValue164
 t53:=Tryz.underlying41
 a53:=Tryz.isAgg41
 z53:=Tryz.sizeOf41
 v53:=Tryz.zeroValue41 }
end Go.Proofs
