/- The contracts of the document's Check, asked, open, Holiday and Open. -/
import Derived.Test.YtglkhoekpafddabCRefE
import Derived.Test.YtglkhoekpafddabCOpen
namespace Go.Proofs.Ytglkhoekpafddab
open Go.RowKit
