/- The contracts of the document's Count turned round or refused, and of moves. -/
import Derived.Test.YtelghkhcplmnmaaHar
namespace Go.Proofs.Ytelghkhcplmnmaa
open Go.RowKit
