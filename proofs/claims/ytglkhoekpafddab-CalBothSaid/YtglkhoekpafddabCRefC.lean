/- The contract of the document's holiday. -/
import Derived.Test.YtglkhoekpafddabCSrc
import Derived.Test.YtglkhoekpafddabCRefB
namespace Go.Proofs.Ytglkhoekpafddab
open Go.RowKit
