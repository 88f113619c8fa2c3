/-  -/
import Derived.Shelf.SlicesE.Clone
import Derived.Shelf.SlGeneric
import Derived.Test.YtjjlnmihkadlmaaGreatProg
namespace Go.Proofs
open Go.Shelf
def Tryz.cloneL_ren:Go.Shelf.Ren:=⟨fun | 41=>132 | n=>n,fun | 22=>132 | 23=>57 | 4=>4 | n=>n,fun | n=>n⟩
theorem Tryz.cloneL:Go.Proofs.SlLaysE0.n41 Tryz.prog Tryz.cloneL_ren:={
 mixed:=by kernel_rfl
 f41:=⟨Tryz.f132.name,by decide,Tryz.func132.trans (congrArg some (by kernel_rfl))⟩
 t4:=Tryz.underlying4
 a4:=Tryz.isAgg4
 z4:=Tryz.sizeOf4
 v4:=Tryz.zeroValue4
 t22:=Tryz.underlying132
 a22:=Tryz.isAgg132
 z22:=Tryz.sizeOf132
 v22:=Tryz.zeroValue132 }
end Go.Proofs
