/-  -/
import Derived.Shelf.SlicesE.Clone
import Derived.Shelf.SlGeneric
import Derived.Test.YtkooknagalgfpaaGreatProg
namespace Go.Proofs
open Go.Shelf
def Tryz.cloneL_ren:Go.Shelf.Ren:=⟨fun | 41=>96 | n=>n,fun | 22=>109 | 23=>49 | 4=>4 | n=>n,fun | n=>n⟩
theorem Tryz.cloneL:Go.Proofs.SlLaysE0.n41 Tryz.prog Tryz.cloneL_ren:={
 mixed:=by kernel_rfl
 f41:=⟨Tryz.f96.name,by decide,Tryz.func96.trans (congrArg some (by kernel_rfl))⟩
 t4:=Tryz.underlying4
 a4:=Tryz.isAgg4
 z4:=Tryz.sizeOf4
 v4:=Tryz.zeroValue4
 t22:=Tryz.underlying109
 a22:=Tryz.isAgg109
 z22:=Tryz.sizeOf109
 v22:=Tryz.zeroValue109 }
end Go.Proofs
