/- The contracts of the document's month and Adjust. The contract of the document's Adjust at any calendar that may be. -/
import Derived.Test.YtcbbbkngjdlcjaaHbk
namespace Go.Proofs.Ytcbbbkngjdlcjaa
open Go.RowKit
end Go.Proofs.Ytcbbbkngjdlcjaa
namespace Go.Proofs.Ytcbbbkngjdlcjaa
open Go.RowKit
end Go.Proofs.Ytcbbbkngjdlcjaa
