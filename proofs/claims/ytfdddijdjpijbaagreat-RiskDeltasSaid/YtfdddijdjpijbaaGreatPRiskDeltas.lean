/- The statement of RiskDeltas: for every input the law answers true, and what it was handed reads as before. -/
import Derived.Test.YtfdddijdjpijbaaGreatWRiskDeltasM
namespace Go.Proofs.YtfdddijdjpijbaaGreat
open Go.ChangeShapes Go.WideShapes Go.ChangeAt Go.RowKit
theorem riskDeltas_holds:Rows.RiskDeltasSaid:=
 OpenClaim.holds_of_wide 4 Tryz.f4 rfl rfl rfl rfl rfl rfl rfl ⟨rfl,rfl,rfl,rfl,rfl⟩ rfl rfl rfl rfl rfl (by kernel_rfl) Tryz.func4 mG
  (of_decide_eq_true (by kernel_rfl)) (by unfold Func.isWrapper;rw [if_neg (by decide+kernel)];exact⟨rfl,rfl⟩)
  (fun c a H b _=>mF c a H b)
#print axioms riskDeltas_holds
end Go.Proofs.YtfdddijdjpijbaaGreat
