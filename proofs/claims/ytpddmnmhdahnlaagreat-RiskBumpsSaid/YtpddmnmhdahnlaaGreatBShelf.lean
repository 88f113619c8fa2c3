/-  -/
import Derived.Shelf.Slices.SearchI
import Derived.Test.YtpddmnmhdahnlaaGreatProg
namespace Go.Proofs
open Go.Shelf
def Tryz.bsL_ren:Go.Shelf.Ren:=⟨fun | 25=>172 | 31=>214 | 32=>215 | 37=>258 | n=>n,fun | 22=>22 | 3=>3 | 4=>4 | 40=>149 | 0=>0 | n=>n,fun | n=>n⟩
theorem Tryz.bsL:Go.Proofs.Lays2.n25 Tryz.prog Tryz.bsL_ren:={
 mixed:=by kernel_rfl
 f25:=Tryz.func172.trans (congrArg some (by kernel_rfl))
 f31:=Tryz.func214.trans (congrArg some (by kernel_rfl))
 f32:=Tryz.func215.trans (congrArg some (by kernel_rfl))
 f37:=Tryz.func258.trans (congrArg some (by kernel_rfl))
 t0:=Tryz.underlying0
 a0:=Tryz.isAgg0
 z0:=Tryz.sizeOf0
 v0:=Tryz.zeroValue0
 t3:=Tryz.underlying3
 a3:=Tryz.isAgg3
 z3:=Tryz.sizeOf3
 v3:=Tryz.zeroValue3
 t4:=Tryz.underlying4
 a4:=Tryz.isAgg4
 z4:=Tryz.sizeOf4
 v4:=Tryz.zeroValue4
 t22:=Tryz.underlying22
 a22:=Tryz.isAgg22
 z22:=Tryz.sizeOf22
 v22:=Tryz.zeroValue22
 t40:=Tryz.underlying149
 a40:=Tryz.isAgg149
 z40:=Tryz.sizeOf149
 v40:=Tryz.zeroValue149 }
end Go.Proofs
