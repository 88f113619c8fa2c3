/- The statement of CodeCompiles: for every input the law answers true, and what it was handed reads as before; the package variables of the library that its road names start as their own text lays them (the card ties them). -/
import Derived.Test.YtienedhaogjahaaGreatDoorWCodeCompilesM
import Derived.Test.YtienedhaogjahaaGreatDoorTie
import Derived.Test.YtienedhaogjahaaGreatDoorCards
namespace Go.Proofs.YtienedhaogjahaaGreatDoor
open Go.ChangeShapes Go.WideShapes Go.ChangeAt Go.RowKit Go.ChangeMaps

theorem codeCompiles_holds : Rows.CodeCompilesSaid :=
  OpenClaim.holds_of_wide 3 Tryz.f3 rfl rfl rfl rfl rfl rfl rfl ⟨rfl, rfl, rfl, rfl, rfl⟩ rfl rfl rfl rfl rfl (by kernel_rfl) Tryz.func3 codeCompiles_closed
    (of_decide_eq_true (by kernel_rfl)) (by unfold Func.isWrapper; rw [if_neg (by decide +kernel)]; exact ⟨rfl, rfl⟩)
    (fun os started H enc _ => codeCompiles_lifted os started H enc)

theorem codeCompiles_card : Rows.CodeCompilesCardSaid :=
  Claim7.holds_tied_plain_at .later [] [.data, .data, .widerDeep, .widerDeep, .data, .data, .data, .data, .data, .data, .sentinel, .sentinel, .pinned, .pinned, .pinned] true (true, "861087ab6c4fca8481e97efd7b778a8a1438ab10ed3b134f7f3666fe5c26584b") true
    codeCompiles_holds (fun _ h => by cases h) (by kernel_rfl) (fun _ h => by cases h) codeCompiles_row_tie rfl ⟨rfl, rfl⟩ (by kernel_rfl) rfl
    (fun f fn hf hfn => by
      obtain rfl : f = 3 := Option.some.inj ((show Tryz.prog.funcNamed "tenor/tenorlaw18.CodeCompiles" = some 3 by kernel_rfl).symm.trans hf) |>.symm
      obtain rfl : fn = Tryz.f3 := (Option.some.inj (Tryz.func3.symm.trans hfn)).symm
      exact ⟨by kernel_rfl, fun j t ht => by
        rw [Tryz.params3] at ht
        have hm : t ∈ [22] := by simpa using Array.mem_of_getElem? ht
        have hall : ([22].all fun u => !Tryz.prog.wantsStandIn u) = true := by kernel_rfl
        exact (show Tryz.prog.wantsStandIn t = false by simpa using List.all_eq_true.1 hall t hm)⟩)
    (by kernel_rfl)
#print axioms codeCompiles_card
end Go.Proofs.YtienedhaogjahaaGreatDoor
