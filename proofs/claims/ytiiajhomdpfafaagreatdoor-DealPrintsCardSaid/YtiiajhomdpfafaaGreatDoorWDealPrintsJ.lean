/- The joined facts of DealPrints, one by one. -/
import Derived.Test.YtiiajhomdpfafaaGreatDoorFOps
import Derived.Test.YtiiajhomdpfafaaGreatDoorFTrm
import Derived.Test.YtiiajhomdpfafaaGreatDoorDsL
import Derived.ProofKit
import Derived.OpenShut
import Derived.ChangeMaps5
import Derived.LaidMore
import Derived.Lay
import Derived.SevenTiedAt
import Derived.Stop.Joined
import Derived.Lib.LaidTab
namespace Go.Proofs.YtiiajhomdpfafaaGreatDoor
open Go.ChangeShapes Go.WideShapes Go.ChangeAt Go.RowKit Go.ChangeMaps

theorem and2 {a b : Bool} (ha : a = true) (hb : b = true) : (a && b) = true := by rw [ha, hb]; rfl
theorem dealPrints_j0 : (Rows.dealPrintsRow.wf (OpenSpec.ofChange Rows.dealPrintsSpec)) = true := by kernel_rfl
theorem dealPrints_j1 : (laidOutB Tryz.pinned.checked.prog) = true := by kernel_rfl
theorem dealPrints_j2 : (mapsRowed Tryz.pinned.checked.prog) = true := by kernel_rfl
theorem dealPrints_j3 : (Tryz.f4.params.all (Tryz.pinned.checked.prog.readableRec ·)) = true := by kernel_rfl
theorem dealPrints_j4 : (namedTie Tryz.pinned.checked.prog Rows.dealPrintsRow.named Rows.dealPrintsSpec.vars) = true := by kernel_rfl
theorem dealPrints_j5 : ((Rows.dealPrintsRow.stops == [])) = true := by kernel_rfl
theorem dealPrints_j6 : ((Tryz.pinned.checked.prog.stops == [])) = true := by kernel_rfl
theorem dealPrints_j7 : ((Rows.dealPrintsRow.knobs == [])) = true := by kernel_rfl
theorem dealPrints_j8 : ((Tryz.pinned.checked.prog.stopKnobs == [])) = true := by kernel_rfl
theorem dealPrints_j9 : ((Rows.dealPrintsRow.inPlace == Tryz.pinned.checked.prog.inPlace 4)) = true := by kernel_rfl
theorem dealPrints_j10 : ((Rows.dealPrintsRow.unfollowed == Tryz.pinned.checked.prog.unfollowed 4)) = true := by kernel_rfl
theorem dealPrints_j11 : ((Rows.dealPrintsRow.recurses == Tryz.pinned.checked.prog.recurses 4)) = true := by kernel_rfl
theorem dealPrints_j12 : ((Rows.dealPrintsRow.named == Tryz.pinned.checked.prog.varsNamed 4)) = true := by kernel_rfl
theorem dealPrints_j13 : ((Rows.dealPrintsRow.maps == (Tryz.f4.params.toList ++ Rows.dealPrintsSpec.plain.varTypes Tryz.pinned.checked.prog).any (Tryz.pinned.checked.prog.mapsRec ·))) = true := by kernel_rfl
theorem dealPrints_j14 : ((Rows.dealPrintsRow.ifaces == (Tryz.f4.params.toList ++ Rows.dealPrintsSpec.plain.varTypes Tryz.pinned.checked.prog).any (Tryz.pinned.checked.prog.ifacesRec ·))) = true := by kernel_rfl
theorem dealPrints_j15 : ((Rows.dealPrintsRow.mapsOut == Tryz.pinned.checked.prog.mapsAmong Tryz.f4.resultTypes.toList)) = true := by kernel_rfl
theorem dealPrints_j16 : ((Rows.dealPrintsRow.loops == (Tryz.f4.params.toList ++ Rows.dealPrintsSpec.plain.varTypes Tryz.pinned.checked.prog).any (Tryz.pinned.checked.prog.loopsFrom ·))) = true := by kernel_rfl
theorem dealPrints_j17 : ((Rows.dealPrintsRow.wideKeys == (Tryz.f4.params.toList ++ Rows.dealPrintsSpec.plain.varTypes Tryz.pinned.checked.prog ++ Tryz.f4.resultTypes.toList).any (Tryz.pinned.checked.prog.wideKeysFrom ·))) = true := by kernel_rfl
theorem dealPrints_j18 : (Rows.dealPrintsSpec.vars.all (Tryz.pinned.checked.prog.varReadable ·)) = true := by kernel_rfl
theorem dealPrints_j19 : (Tryz.f4.resultTypes.all (fun t => Tryz.pinned.checked.prog.readableRec t && decide (t < Tryz.pinned.checked.prog.types.size))) = true := by kernel_rfl
theorem dealPrints_j20 : ((Rows.dealPrintsRow.ifacesOut == Tryz.f4.resultTypes.toList.any (Tryz.pinned.checked.prog.ifacesRec ·))) = true := by kernel_rfl
theorem dealPrints_j21 : ((Rows.dealPrintsRow.loopsOut == Tryz.f4.resultTypes.toList.any (Tryz.pinned.checked.prog.loopsFrom ·))) = true := by kernel_rfl
theorem dealPrints_j22 : ((Rows.dealPrintsRow.plainKeys == Tryz.pinned.checked.prog.plainKeys)) = true := by kernel_rfl
theorem dealPrints_j23 : (Rows.dealPrintsRow.shortTexts.isNone) = true := by kernel_rfl
theorem dealPrints_j24 : (Tryz.pinned.checked.prog.stopsHeard) = true := by kernel_rfl
theorem dealPrints_j25 : (Tryz.pinned.checked.prog.mayEnter) = true := by kernel_rfl
theorem dealPrints_j26 : ((Rows.dealPrintsRow.lifted == Tryz.pinned.checked.prog.liftsFinal)) = true := by kernel_rfl
theorem dealPrints_j27 : ((Tryz.pinned.checked.prog.make == some Rows.dealPrintsRow.make)) = true := by kernel_rfl
theorem dealPrints_j28 : ((Rows.dealPrintsRow.kinds == (if Rows.dealPrintsRow.domain.isEmpty then [] else Tryz.f4.params.toList.map fun t => match Tryz.pinned.checked.prog.underlying t with | some (.int k) => some k | _ => none))) = true := by kernel_rfl
theorem dealPrints_j29 : ((Rows.dealPrintsRow.pinned == Rows.dealPrintsRow.pinnedBy)) = true := by kernel_rfl
theorem dealPrints_j30 : ((Rows.dealPrintsRow.veiled == (Tryz.f4.params.toList ++ Rows.dealPrintsSpec.plain.varTypes Tryz.pinned.checked.prog ++ Tryz.f4.resultTypes.toList).any (Tryz.pinned.checked.prog.veiledRec ·))) = true := by kernel_rfl
theorem dealPrints_j31 : (Rows.dealPrintsRow.veiledFits Tryz.pinned.checked.prog Tryz.f4.params.toList (Tryz.f4.params.toList ++ Rows.dealPrintsSpec.plain.varTypes Tryz.pinned.checked.prog ++ Tryz.f4.resultTypes.toList)) = true := by kernel_rfl
end Go.Proofs.YtiiajhomdpfafaaGreatDoor
