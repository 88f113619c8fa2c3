/-  -/
import Derived.Test.YtjjlnmihkadlmaaGreatHad
import Derived.Test.YtjjlnmihkadlmaaGreatRows
import Derived.WalkKit
import Derived.WalkSpells
import Derived.WalkLawsBesides
import Derived.Handy
import Derived.LoopTactic
import Derived.BigQuiet
namespace Go.Proofs.YtjjlnmihkadlmaaGreat
open Go.RowKit

theorem hideS {p:Prop} (h:p):Hid p:=h

end Go.Proofs.YtjjlnmihkadlmaaGreat
