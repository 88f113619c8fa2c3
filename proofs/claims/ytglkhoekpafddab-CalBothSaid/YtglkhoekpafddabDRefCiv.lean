/- The contracts of the document's Civil and Weekday. -/
import Derived.Test.YtglkhoekpafddabDRefOf
namespace Go.Proofs.Ytglkhoekpafddab
open Go.RowKit

def dateV (y m d : Int) : Value := .agg #[.int .i64 y, .int .i64 m, .int .i64 d]
