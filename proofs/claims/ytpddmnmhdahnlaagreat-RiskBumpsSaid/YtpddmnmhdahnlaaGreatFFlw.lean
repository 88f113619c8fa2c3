/-  -/
import Derived.Test.YtpddmnmhdahnlaaGreatJfB
import Derived.Test.YtpddmnmhdahnlaaGreatRows
import Derived.ProofKit
import Derived.OpenShut
import Derived.Carry
import Derived.Deep.Slices
import Derived.SizedLaws
namespace Go.Proofs.YtpddmnmhdahnlaaGreat
open Go.ChangeShapes Go.WideShapes Go.ChangeAt Go.RowKit

theorem Hv:laidOutB Tryz.prog=true:=by kernel_rfl
def Hw (n:Int):Prop:=-9223372036854775808≤n∧n≤9223372036854775807
theorem zG {n:Int} (h:(Lit.int .i64 n).wf=true):Hw n:=by
 simp only [Lit.wf,IntKind.min,IntKind.max,IntKind.signed,IntKind.bits] at h
 simp at h
 unfold Hw;omega
structure FlwI (f:Flw):Prop where
 (day:Hw f.day) (cur:Hw f.cur) (am:f.am<18446744073709551616)
theorem FlwI.fit {l:List Flw} (h:∀ f ∈ l,FlwI f):gI l:=fun i=>by
 by_cases hi:i<l.length
 ·rw [List.getD_eq_getElem?_getD,List.getElem?_eq_getElem hi]
  exact (h _ (List.getElem_mem hi)).am
 ·rw [List.getD_eq_getElem?_getD,List.getElem?_eq_none (by omega)]
  decide
end Go.Proofs.YtpddmnmhdahnlaaGreat
