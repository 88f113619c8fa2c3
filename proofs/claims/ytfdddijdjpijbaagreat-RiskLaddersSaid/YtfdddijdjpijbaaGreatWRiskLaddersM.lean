/-  -/
import Derived.Test.YtfdddijdjpijbaaGreatWRiskLaddersL
namespace Go.Proofs.YtfdddijdjpijbaaGreat
open Go.ChangeShapes Go.WideShapes Go.ChangeAt Go.RowKit
theorem kW:joinedFacts Tryz.pinned.checked.prog 3 Tryz.f3 Rows.riskLaddersSpec Rows.riskLaddersRow=true:=by kernel_rfl
end Go.Proofs.YtfdddijdjpijbaaGreat
