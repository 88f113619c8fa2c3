/-  -/
import Derived.Test.YtjjlnmihkadlmaaGreatNDays
import Derived.Test.YtjjlnmihkadlmaaGreatHal
import Derived.Test.YtjjlnmihkadlmaaGreatHao
namespace Go.Proofs.YtjjlnmihkadlmaaGreat
open Go.RowKit

inductive FracR (kind W a b:Int) (rs:List Rul):Int→Int→Int→Prop
 | fine (hk:1≤kind) (hk':kind≤6) (ha:eo a) (hb:eo b) (h6:kind=6→OkC W rs):FracR kind W a b rs (xT (opB W rs) kind a b) (xS kind) 0
 | kind (h:¬ (1≤kind∧kind≤6)):FracR kind W a b rs 0 0 70
 | cal (A B:Int) (h6:kind=6) (h:ChkR W rs A B) (hA:A≠0):FracR kind W a b rs 0 0 A
 | day (hk:1≤kind) (hk':kind≤6) (h:IE a b) (h6:kind=6→OkC W rs):FracR kind W a b rs 0 0 51
end Go.Proofs.YtjjlnmihkadlmaaGreat
