/- Days and dates as whole numbers: no word of the program. -/
import Derived.Below
namespace Go.Proofs.Ythddhgjfboeggaa
open Go.RowKit

end Go.Proofs.Ythddhgjfboeggaa
