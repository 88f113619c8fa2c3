/-  -/
import Derived.Test.YtjjlnmihkadlmaaGreatProg
import Derived.Handy
import Derived.WalkMore
import Derived.Below
import Derived.BigFrame
import Derived.BigQuiet
import Derived.WalkSpells
import Derived.WalkLawsBesides
import Derived.Laws.Rows
import Derived.Laws.EntriesVeiled
namespace Go.Proofs.YtjjlnmihkadlmaaGreat
open Go.RowKit

theorem Ab {w:World} {b:Nat} {o:Obj} (h:w.heap[b]? =some o):b<w.heap.size:=(Array.getElem?_eq_some_iff.1 h).1
end Go.Proofs.YtjjlnmihkadlmaaGreat
