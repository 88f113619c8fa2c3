/- The contracts of the document's Count turned round or refused, and of moves. -/
import Derived.Test.YtglkhoekpafddabCRefJ
namespace Go.Proofs.Ytglkhoekpafddab
open Go.RowKit
