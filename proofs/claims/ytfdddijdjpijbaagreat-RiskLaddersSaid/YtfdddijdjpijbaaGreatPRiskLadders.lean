/- The statement of RiskLadders: for every input the law answers true, and what it was handed reads as before. -/
import Derived.Test.YtfdddijdjpijbaaGreatWRiskLaddersM
namespace Go.Proofs.YtfdddijdjpijbaaGreat
open Go.ChangeShapes Go.WideShapes Go.ChangeAt Go.RowKit
theorem riskLadders_holds:Rows.RiskLaddersSaid:=
 OpenClaim.holds_of_wide 3 Tryz.f3 rfl rfl rfl rfl rfl rfl rfl ⟨rfl,rfl,rfl,rfl,rfl⟩ rfl rfl rfl rfl rfl (by kernel_rfl) Tryz.func3 kW
  (of_decide_eq_true (by kernel_rfl)) (by unfold Func.isWrapper;rw [if_neg (by decide+kernel)];exact⟨rfl,rfl⟩)
  (fun c a H b _=>kU c a H b)
#print axioms riskLadders_holds
end Go.Proofs.YtfdddijdjpijbaaGreat
