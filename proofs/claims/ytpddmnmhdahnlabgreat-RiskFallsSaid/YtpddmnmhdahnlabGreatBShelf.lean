/-  -/
import Derived.Shelf.Slices.SearchI
import Derived.Test.YtpddmnmhdahnlabGreatProg
namespace Go.Proofs
open Go.Shelf
def Tryz.bsL_ren:Go.Shelf.Ren:=⟨fun | 25=>199 | 31=>214 | 32=>215 | 37=>223 | n=>n,fun | 22=>24 | 3=>3 | 4=>4 | 40=>95 | 0=>0 | n=>n,fun | n=>n⟩
theorem Tryz.bsL:Go.Proofs.Lays2.n25 Tryz.prog Tryz.bsL_ren:={
 mixed:=by kernel_rfl
 f25:=Tryz.func199.trans (congrArg some (by kernel_rfl))
 f31:=Tryz.func214.trans (congrArg some (by kernel_rfl))
 f32:=Tryz.func215.trans (congrArg some (by kernel_rfl))
 f37:=Tryz.func223.trans (congrArg some (by kernel_rfl))
 t0:=Tryz.underlying0
 a0:=Tryz.isAgg0
 z0:=Tryz.sizeOf0
 v0:=Tryz.zeroValue0
 t3:=Tryz.underlying3
 a3:=Tryz.isAgg3
 z3:=Tryz.sizeOf3
 v3:=Tryz.zeroValue3
 t4:=Tryz.underlying4
 a4:=Tryz.isAgg4
 z4:=Tryz.sizeOf4
 v4:=Tryz.zeroValue4
 t22:=Tryz.underlying24
 a22:=Tryz.isAgg24
 z22:=Tryz.sizeOf24
 v22:=Tryz.zeroValue24
 t40:=Tryz.underlying95
 a40:=Tryz.isAgg95
 z40:=Tryz.sizeOf95
 v40:=Tryz.zeroValue95 }
end Go.Proofs
