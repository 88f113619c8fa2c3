/- The statement of CodeLent: for every input the law answers true, and what it was handed reads as before; the package variables of the library that its road names start as their own text lays them (the card ties them). -/
import Derived.Test.YtienedhaogjahaaGreatDoorWCodeLentM
import Derived.Test.YtienedhaogjahaaGreatDoorTie
import Derived.Test.YtienedhaogjahaaGreatDoorCards
namespace Go.Proofs.YtienedhaogjahaaGreatDoor
open Go.ChangeShapes Go.WideShapes Go.ChangeAt Go.RowKit Go.ChangeMaps

theorem codeLent_holds : Rows.CodeLentSaid :=
  OpenClaim.holds_of_wide 6 Tryz.f6 rfl rfl rfl rfl rfl rfl rfl ⟨rfl, rfl, rfl, rfl, rfl⟩ rfl rfl rfl rfl rfl (by kernel_rfl) Tryz.func6 codeLent_closed
    (of_decide_eq_true (by kernel_rfl)) (by unfold Func.isWrapper; rw [if_neg (by decide +kernel)]; exact ⟨rfl, rfl⟩)
    (fun os started H enc _ => codeLent_lifted os started H enc)

theorem codeLent_card : Rows.CodeLentCardSaid :=
  Claim7.holds_tied_plain_at .later [] [.data, .data, .widerDeep, .widerDeep, .data, .data, .data, .data, .data, .data, .sentinel, .sentinel, .pinned, .pinned, .pinned] true (true, "861087ab6c4fca8481e97efd7b778a8a1438ab10ed3b134f7f3666fe5c26584b") true
    codeLent_holds (fun _ h => by cases h) (by kernel_rfl) (fun _ h => by cases h) codeLent_row_tie rfl ⟨rfl, rfl⟩ (by kernel_rfl) rfl
    (fun f fn hf hfn => by
      obtain rfl : f = 6 := Option.some.inj ((show Tryz.prog.funcNamed "tenor/tenorlaw18.CodeLent" = some 6 by kernel_rfl).symm.trans hf) |>.symm
      obtain rfl : fn = Tryz.f6 := (Option.some.inj (Tryz.func6.symm.trans hfn)).symm
      exact ⟨by kernel_rfl, fun j t ht => by
        rw [Tryz.params6] at ht
        have hm : t ∈ [24, 22] := by simpa using Array.mem_of_getElem? ht
        have hall : ([24, 22].all fun u => !Tryz.prog.wantsStandIn u) = true := by kernel_rfl
        exact (show Tryz.prog.wantsStandIn t = false by simpa using List.all_eq_true.1 hall t hm)⟩)
    (by kernel_rfl)
#print axioms codeLent_card
end Go.Proofs.YtienedhaogjahaaGreatDoor
