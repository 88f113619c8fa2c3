/- A region whose operations write a row of slots one behind another and read only older ones: its order in the text is a lexical one. Looked up once an operation. -/
import Derived.BigQuiet
namespace Go.Proofs.YteglnchcnacjlaaGreat
open Go.RowKit

end Go.Proofs.YteglnchcnacjlaaGreat
