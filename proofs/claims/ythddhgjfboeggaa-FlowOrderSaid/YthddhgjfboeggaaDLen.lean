/- The contracts of Leap, length, Length, leaps and newYear, of the program and of the document's answer. -/
import Derived.Test.YthddhgjfboeggaaDPlain
import Derived.Test.YthddhgjfboeggaaRows
import Derived.WalkKit
import Derived.WalkSpells
import Derived.WalkLawsBesides
import Derived.Handy
import Derived.LoopTactic
import Derived.BigQuiet
namespace Go.Proofs.Ythddhgjfboeggaa
open Go.RowKit

theorem hideS {p : Prop} (h : p) : Hid p := h

end Go.Proofs.Ythddhgjfboeggaa
