/-  -/
import Derived.Shelf.Spec.BitsCarry
import Derived.Shelf.Spec.SlicesGrow
import Derived.Shelf.Bits.Mul64
import Derived.Shelf.SlGeneric
import Derived.Test.YtjjlnmihkadlmaaGreatProg
namespace Go.Proofs
open Go.Shelf
def Tryz.addL_ren:Go.Shelf.Ren:=⟨fun | 25=>166 | n=>n,fun | 22=>57 | n=>n,fun | n=>n⟩
theorem Tryz.addL:Go.Proofs.Lays7.n25 Tryz.prog Tryz.addL_ren:={
 mixed:=by kernel_rfl
 f25:=Tryz.func166.trans (congrArg some (by kernel_rfl))
 t22:=Tryz.underlying57
 a22:=Tryz.isAgg57
 z22:=Tryz.sizeOf57
 v22:=Tryz.zeroValue57
 i22:=by kernel_rfl }
def Tryz.subL_ren:Go.Shelf.Ren:=⟨fun | 26=>153 | n=>n,fun | 22=>57 | n=>n,fun | n=>n⟩
theorem Tryz.subL:Go.Proofs.Lays7.n26 Tryz.prog Tryz.subL_ren:={
 mixed:=by kernel_rfl
 f26:=Tryz.func153.trans (congrArg some (by kernel_rfl))
 t22:=Tryz.underlying57
 a22:=Tryz.isAgg57
 z22:=Tryz.sizeOf57
 v22:=Tryz.zeroValue57
 i22:=by kernel_rfl }
def Tryz.growL_ren:Go.Shelf.Ren:=⟨fun | 4=>180 | n=>n,fun | 22=>132 | 25=>57 | 3=>3 | 4=>4 | 9=>9 | 20=>20 | 0=>0 | n=>n,fun | n=>n⟩
theorem Tryz.growL:Go.Proofs.Lays8.n4 Tryz.prog Tryz.growL_ren:={
 mixed:=by kernel_rfl
 f4:=⟨Tryz.f180.name,by decide,Tryz.func180.trans (congrArg some (by kernel_rfl))⟩
 t0:=Tryz.underlying0
 a0:=Tryz.isAgg0
 z0:=Tryz.sizeOf0
 v0:=Tryz.zeroValue0
 t3:=Tryz.underlying3
 a3:=Tryz.isAgg3
 z3:=Tryz.sizeOf3
 v3:=Tryz.zeroValue3
 t4:=Tryz.underlying4
 a4:=Tryz.isAgg4
 z4:=Tryz.sizeOf4
 v4:=Tryz.zeroValue4
 t9:=Tryz.underlying9
 a9:=Tryz.isAgg9
 z9:=Tryz.sizeOf9
 v9:=Tryz.zeroValue9
 t20:=Tryz.underlying20
 a20:=Tryz.isAgg20
 z20:=Tryz.sizeOf20
 v20:=Tryz.zeroValue20
 t22:=Tryz.underlying132
 a22:=Tryz.isAgg132
 z22:=Tryz.sizeOf132
 v22:=Tryz.zeroValue132 }
def Tryz.mulL_ren:Go.Shelf.Ren:=⟨fun | 264=>131 | n=>n,fun | 53=>57 | 46=>172 | n=>n,fun | n=>n⟩
theorem Tryz.mulL:Go.Proofs.Lays.n264 Tryz.prog Tryz.mulL_ren:={
 mixed:=by kernel_rfl
 f264:=Tryz.func131.trans (congrArg some (by kernel_rfl))
 t46:=Tryz.underlying172
 a46:=Tryz.isAgg172
 z46:=Tryz.sizeOf172
 v46:=Tryz.zeroValue172
 t53:=Tryz.underlying57
 a53:=Tryz.isAgg57
 z53:=Tryz.sizeOf57
 v53:=Tryz.zeroValue57 }
end Go.Proofs
