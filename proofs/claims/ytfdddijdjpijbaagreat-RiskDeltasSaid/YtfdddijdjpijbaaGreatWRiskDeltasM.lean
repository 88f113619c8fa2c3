/-  -/
import Derived.Test.YtfdddijdjpijbaaGreatWRiskDeltasL
namespace Go.Proofs.YtfdddijdjpijbaaGreat
open Go.ChangeShapes Go.WideShapes Go.ChangeAt Go.RowKit
theorem mG:joinedFacts Tryz.pinned.checked.prog 4 Tryz.f4 Rows.riskDeltasSpec Rows.riskDeltasRow=true:=by kernel_rfl
end Go.Proofs.YtfdddijdjpijbaaGreat
