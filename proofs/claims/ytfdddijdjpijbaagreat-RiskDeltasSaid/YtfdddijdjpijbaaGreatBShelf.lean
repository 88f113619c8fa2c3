/-  -/
import Derived.Shelf.Slices.SearchI
import Derived.Test.YtfdddijdjpijbaaGreatProg
namespace Go.Proofs
open Go.Shelf
def Tryz.bsL_ren:Go.Shelf.Ren:=⟨fun | 25=>201 | 31=>216 | 32=>217 | 37=>225 | n=>n,fun | 22=>23 | 3=>3 | 4=>4 | 40=>164 | 0=>0 | n=>n,fun | n=>n⟩
theorem Tryz.bsL:Go.Proofs.Lays2.n25 Tryz.prog Tryz.bsL_ren:={
 mixed:=by kernel_rfl
 f25:=Tryz.func201.trans (congrArg some (by kernel_rfl))
 f31:=Tryz.func216.trans (congrArg some (by kernel_rfl))
 f32:=Tryz.func217.trans (congrArg some (by kernel_rfl))
 f37:=Tryz.func225.trans (congrArg some (by kernel_rfl))
 t0:=Tryz.underlying0
 a0:=Tryz.isAgg0
 z0:=Tryz.sizeOf0
 v0:=Tryz.zeroValue0
 t3:=Tryz.underlying3
 a3:=Tryz.isAgg3
 z3:=Tryz.sizeOf3
 v3:=Tryz.zeroValue3
 t4:=Tryz.underlying4
 a4:=Tryz.isAgg4
 z4:=Tryz.sizeOf4
 v4:=Tryz.zeroValue4
 t22:=Tryz.underlying23
 a22:=Tryz.isAgg23
 z22:=Tryz.sizeOf23
 v22:=Tryz.zeroValue23
 t40:=Tryz.underlying164
 a40:=Tryz.isAgg164
 z40:=Tryz.sizeOf164
 v40:=Tryz.zeroValue164 }
end Go.Proofs
