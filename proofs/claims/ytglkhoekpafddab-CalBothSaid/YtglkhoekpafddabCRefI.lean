/- The contract of the document's Adjust at any calendar that may be. -/
import Derived.Test.YtglkhoekpafddabCRefH
namespace Go.Proofs.Ytglkhoekpafddab
open Go.RowKit
