/- The contracts of Length and Of, of the program and of the document's answer. The contracts of Civil and Weekday. The contract of the document's Of: years and months added up. The contracts of the document's Civil and Weekday. The contracts of Months, of the program and of the document's answer. The contract of the document's Months. Months on: the program and the document. -/
import Derived.Test.YthddhgjfboeggaaDLen
import Derived.Deep.RegionWith
namespace Go.Proofs.Ythddhgjfboeggaa
open Go.RowKit

end Go.Proofs.Ythddhgjfboeggaa
namespace Go.Proofs.Ythddhgjfboeggaa
open Go.RowKit

end Go.Proofs.Ythddhgjfboeggaa
namespace Go.Proofs.Ythddhgjfboeggaa
open Go.RowKit

end Go.Proofs.Ythddhgjfboeggaa
namespace Go.Proofs.Ythddhgjfboeggaa
open Go.RowKit

end Go.Proofs.Ythddhgjfboeggaa
namespace Go.Proofs.Ythddhgjfboeggaa
open Go.RowKit

end Go.Proofs.Ythddhgjfboeggaa
namespace Go.Proofs.Ythddhgjfboeggaa
open Go.RowKit

end Go.Proofs.Ythddhgjfboeggaa
namespace Go.Proofs.Ythddhgjfboeggaa
open Go.RowKit

end Go.Proofs.Ythddhgjfboeggaa
