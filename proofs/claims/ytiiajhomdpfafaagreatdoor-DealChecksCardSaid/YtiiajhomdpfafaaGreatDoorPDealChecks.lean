/- The statement of DealChecks: for every input the law answers true, and what it was handed reads as before; the package variables of the library that its road names start as their own text lays them (the card ties them). -/
import Derived.Test.YtiiajhomdpfafaaGreatDoorWDealChecksM
import Derived.Test.YtiiajhomdpfafaaGreatDoorTie
import Derived.Test.YtiiajhomdpfafaaGreatDoorCards
namespace Go.Proofs.YtiiajhomdpfafaaGreatDoor
open Go.ChangeShapes Go.WideShapes Go.ChangeAt Go.RowKit Go.ChangeMaps

theorem dealChecks_holds : Rows.DealChecksSaid :=
  OpenClaim.holds_of_wide 3 Tryz.f3 rfl rfl rfl rfl rfl rfl rfl ⟨rfl, rfl, rfl, rfl, rfl⟩ rfl rfl rfl rfl rfl (by kernel_rfl) Tryz.func3 dealChecks_closed
    (of_decide_eq_true (by kernel_rfl)) (by unfold Func.isWrapper; rw [if_neg (by decide +kernel)]; exact ⟨rfl, rfl⟩)
    (fun os started H enc _ => dealChecks_lifted os started H enc)

theorem dealChecks_card : Rows.DealChecksCardSaid :=
  Claim7.holds_tied_plain_at .later [] [.data, .data, .widerDeep, .widerDeep, .data, .data, .data, .data, .data, .data, .sentinel, .sentinel, .pinned, .pinned, .pinned] true (true, "2620ee27e935efb6675557e12ae42f99adfbb7446c19a2a1886cd83f9249f2bc") true
    dealChecks_holds (fun _ h => by cases h) (by kernel_rfl) (fun _ h => by cases h) dealChecks_row_tie rfl ⟨rfl, rfl⟩ (by kernel_rfl) rfl
    (fun f fn hf hfn => by
      obtain rfl : f = 3 := Option.some.inj ((show Tryz.prog.funcNamed "tenor/tenorlaw17.DealChecks" = some 3 by kernel_rfl).symm.trans hf) |>.symm
      obtain rfl : fn = Tryz.f3 := (Option.some.inj (Tryz.func3.symm.trans hfn)).symm
      exact ⟨by kernel_rfl, fun j t ht => by
        rw [Tryz.params3] at ht
        have hm : t ∈ [22] := by simpa using Array.mem_of_getElem? ht
        have hall : ([22].all fun u => !Tryz.prog.wantsStandIn u) = true := by kernel_rfl
        exact (show Tryz.prog.wantsStandIn t = false by simpa using List.all_eq_true.1 hall t hm)⟩)
    (by kernel_rfl)
#print axioms dealChecks_card
end Go.Proofs.YtiiajhomdpfafaaGreatDoor
