/-  -/
import Derived.Shelf.Slices.SearchI
import Derived.Test.YtjjlnmihkadlmaaGreatProg
namespace Go.Proofs
open Go.Shelf
def Tryz.bsL_ren:Go.Shelf.Ren:=⟨fun | 25=>160 | 31=>187 | 32=>188 | 37=>197 | n=>n,fun | 22=>40 | 3=>3 | 4=>4 | 40=>172 | 0=>0 | n=>n,fun | n=>n⟩
theorem Tryz.bsL:Go.Proofs.Lays2.n25 Tryz.prog Tryz.bsL_ren:={
 mixed:=by kernel_rfl
 f25:=Tryz.func160.trans (congrArg some (by kernel_rfl))
 f31:=Tryz.func187.trans (congrArg some (by kernel_rfl))
 f32:=Tryz.func188.trans (congrArg some (by kernel_rfl))
 f37:=Tryz.func197.trans (congrArg some (by kernel_rfl))
 t0:=Tryz.underlying0
 a0:=Tryz.isAgg0
 z0:=Tryz.sizeOf0
 v0:=Tryz.zeroValue0
 t3:=Tryz.underlying3
 a3:=Tryz.isAgg3
 z3:=Tryz.sizeOf3
 v3:=Tryz.zeroValue3
 t4:=Tryz.underlying4
 a4:=Tryz.isAgg4
 z4:=Tryz.sizeOf4
 v4:=Tryz.zeroValue4
 t22:=Tryz.underlying40
 a22:=Tryz.isAgg40
 z22:=Tryz.sizeOf40
 v22:=Tryz.zeroValue40
 t40:=Tryz.underlying172
 a40:=Tryz.isAgg172
 z40:=Tryz.sizeOf172
 v40:=Tryz.zeroValue172 }
end Go.Proofs
