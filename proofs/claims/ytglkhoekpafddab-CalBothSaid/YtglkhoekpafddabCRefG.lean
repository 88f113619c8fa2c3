/- The contracts of the document's isDay, asked, open, Holiday, Open and search. -/
import Derived.Test.YtglkhoekpafddabCRefF
import Derived.Test.YtglkhoekpafddabCOpen
namespace Go.Proofs.Ytglkhoekpafddab
open Go.RowKit
