/- The statement of DealPrints: for every input the law answers true, and what it was handed reads as before; the package variables of the library that its road names start as their own text lays them (the card ties them). -/
import Derived.Test.YtiiajhomdpfafaaGreatDoorWDealPrintsM
import Derived.Test.YtiiajhomdpfafaaGreatDoorTie
import Derived.Test.YtiiajhomdpfafaaGreatDoorCards
namespace Go.Proofs.YtiiajhomdpfafaaGreatDoor
open Go.ChangeShapes Go.WideShapes Go.ChangeAt Go.RowKit Go.ChangeMaps

theorem dealPrints_holds : Rows.DealPrintsSaid :=
  OpenClaim.holds_of_wide 4 Tryz.f4 rfl rfl rfl rfl rfl rfl rfl ⟨rfl, rfl, rfl, rfl, rfl⟩ rfl rfl rfl rfl rfl (by kernel_rfl) Tryz.func4 dealPrints_closed
    (of_decide_eq_true (by kernel_rfl)) (by unfold Func.isWrapper; rw [if_neg (by decide +kernel)]; exact ⟨rfl, rfl⟩)
    (fun os started H enc _ => dealPrints_lifted os started H enc)

theorem dealPrints_card : Rows.DealPrintsCardSaid :=
  Claim7.holds_tied_plain_at .later [] [.data, .data, .widerDeep, .widerDeep, .data, .data, .data, .data, .data, .data, .sentinel, .sentinel, .pinned, .pinned, .pinned] true (true, "2620ee27e935efb6675557e12ae42f99adfbb7446c19a2a1886cd83f9249f2bc") true
    dealPrints_holds (fun _ h => by cases h) (by kernel_rfl) (fun _ h => by cases h) dealPrints_row_tie rfl ⟨rfl, rfl⟩ (by kernel_rfl) rfl
    (fun f fn hf hfn => by
      obtain rfl : f = 4 := Option.some.inj ((show Tryz.prog.funcNamed "tenor/tenorlaw17.DealPrints" = some 4 by kernel_rfl).symm.trans hf) |>.symm
      obtain rfl : fn = Tryz.f4 := (Option.some.inj (Tryz.func4.symm.trans hfn)).symm
      exact ⟨by kernel_rfl, fun j t ht => by
        rw [Tryz.params4] at ht
        have hm : t ∈ [22] := by simpa using Array.mem_of_getElem? ht
        have hall : ([22].all fun u => !Tryz.prog.wantsStandIn u) = true := by kernel_rfl
        exact (show Tryz.prog.wantsStandIn t = false by simpa using List.all_eq_true.1 hall t hm)⟩)
    (by kernel_rfl)
#print axioms dealPrints_card
end Go.Proofs.YtiiajhomdpfafaaGreatDoor
