/- The contract of package flow's Shift. -/
import Derived.Test.YthddhgjfboeggaaHao
import Derived.Test.YthddhgjfboeggaaHaj
namespace Go.Proofs.Ythddhgjfboeggaa
open Go.RowKit

end Go.Proofs.Ythddhgjfboeggaa
