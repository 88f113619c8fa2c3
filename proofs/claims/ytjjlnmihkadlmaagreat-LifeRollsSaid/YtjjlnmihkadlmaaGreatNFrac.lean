/-  -/
import Derived.Test.YtjjlnmihkadlmaaGreatHam
import Derived.Test.YtjjlnmihkadlmaaGreatHal
import Derived.Test.YtjjlnmihkadlmaaGreatHan
namespace Go.Proofs.YtjjlnmihkadlmaaGreat
open Go.RowKit

inductive FracR (kind W a b:Int) (rs:List Rul):Int→Int→Int→Prop
 | fine (hk:1≤kind) (hk':kind≤6) (ha:fg a) (hb:fg b) (h6:kind=6→OkC W rs):FracR kind W a b rs (zY (opB W rs) kind a b) (zX kind) 0
 | kind (h:¬ (1≤kind∧kind≤6)):FracR kind W a b rs 0 0 70
 | cal (A B:Int) (h6:kind=6) (h:ChkR W rs A B) (hA:A≠0):FracR kind W a b rs 0 0 A
 | day (hk:1≤kind) (hk':kind≤6) (h:Lq a b) (h6:kind=6→OkC W rs):FracR kind W a b rs 0 0 51
end Go.Proofs.YtjjlnmihkadlmaaGreat
