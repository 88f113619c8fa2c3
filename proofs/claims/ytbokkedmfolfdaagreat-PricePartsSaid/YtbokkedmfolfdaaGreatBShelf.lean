/-  -/
import Derived.Shelf.Slices.SearchI
import Derived.Test.YtbokkedmfolfdaaGreatProg
namespace Go.Proofs
open Go.Shelf
def Tryz.bsL_ren:Go.Shelf.Ren:=⟨fun | 25=>91 | 31=>97 | 32=>98 | 37=>105 | n=>n,fun | 22=>23 | 3=>3 | 4=>4 | 40=>85 | 0=>0 | n=>n,fun | n=>n⟩
theorem Tryz.bsL:Go.Proofs.Lays2.n25 Tryz.prog Tryz.bsL_ren:={
 mixed:=by kernel_rfl
 f25:=Tryz.func91.trans (congrArg some (by kernel_rfl))
 f31:=Tryz.func97.trans (congrArg some (by kernel_rfl))
 f32:=Tryz.func98.trans (congrArg some (by kernel_rfl))
 f37:=Tryz.func105.trans (congrArg some (by kernel_rfl))
 t0:=Tryz.underlying0
 a0:=Tryz.isAgg0
 z0:=Tryz.sizeOf0
 v0:=Tryz.zeroValue0
 t3:=Tryz.underlying3
 a3:=Tryz.isAgg3
 z3:=Tryz.sizeOf3
 v3:=Tryz.zeroValue3
 t4:=Tryz.underlying4
 a4:=Tryz.isAgg4
 z4:=Tryz.sizeOf4
 v4:=Tryz.zeroValue4
 t22:=Tryz.underlying23
 a22:=Tryz.isAgg23
 z22:=Tryz.sizeOf23
 v22:=Tryz.zeroValue23
 t40:=Tryz.underlying85
 a40:=Tryz.isAgg85
 z40:=Tryz.sizeOf85
 v40:=Tryz.zeroValue85 }
end Go.Proofs
