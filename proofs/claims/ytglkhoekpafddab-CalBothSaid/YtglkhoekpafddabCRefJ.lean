/- The contracts of the document's Add and Count. -/
import Derived.Test.YtglkhoekpafddabCRefI
namespace Go.Proofs.Ytglkhoekpafddab
open Go.RowKit
