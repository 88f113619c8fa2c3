/- The contracts of the document's month and Adjust. -/
import Derived.Test.YtglkhoekpafddabCRefG
namespace Go.Proofs.Ytglkhoekpafddab
open Go.RowKit
