/- The joined facts of DealChecks, one by one. -/
import Derived.Test.YtiiajhomdpfafaaGreatDoorFOps
import Derived.Test.YtiiajhomdpfafaaGreatDoorFTrm
import Derived.Test.YtiiajhomdpfafaaGreatDoorDsL
import Derived.ProofKit
import Derived.OpenShut
import Derived.ChangeMaps5
import Derived.LaidMore
import Derived.Lay
import Derived.SevenTiedAt
import Derived.Stop.Joined
import Derived.Lib.LaidTab
namespace Go.Proofs.YtiiajhomdpfafaaGreatDoor
open Go.ChangeShapes Go.WideShapes Go.ChangeAt Go.RowKit Go.ChangeMaps

theorem and2 {a b : Bool} (ha : a = true) (hb : b = true) : (a && b) = true := by rw [ha, hb]; rfl
theorem dealChecks_j0 : (Rows.dealChecksRow.wf (OpenSpec.ofChange Rows.dealChecksSpec)) = true := by kernel_rfl
theorem dealChecks_j1 : (laidOutB Tryz.pinned.checked.prog) = true := by kernel_rfl
theorem dealChecks_j2 : (mapsRowed Tryz.pinned.checked.prog) = true := by kernel_rfl
theorem dealChecks_j3 : (Tryz.f3.params.all (Tryz.pinned.checked.prog.readableRec ·)) = true := by kernel_rfl
theorem dealChecks_j4 : (namedTie Tryz.pinned.checked.prog Rows.dealChecksRow.named Rows.dealChecksSpec.vars) = true := by kernel_rfl
theorem dealChecks_j5 : ((Rows.dealChecksRow.stops == [])) = true := by kernel_rfl
theorem dealChecks_j6 : ((Tryz.pinned.checked.prog.stops == [])) = true := by kernel_rfl
theorem dealChecks_j7 : ((Rows.dealChecksRow.knobs == [])) = true := by kernel_rfl
theorem dealChecks_j8 : ((Tryz.pinned.checked.prog.stopKnobs == [])) = true := by kernel_rfl
theorem dealChecks_j9 : ((Rows.dealChecksRow.inPlace == Tryz.pinned.checked.prog.inPlace 3)) = true := by kernel_rfl
theorem dealChecks_j10 : ((Rows.dealChecksRow.unfollowed == Tryz.pinned.checked.prog.unfollowed 3)) = true := by kernel_rfl
theorem dealChecks_j11 : ((Rows.dealChecksRow.recurses == Tryz.pinned.checked.prog.recurses 3)) = true := by kernel_rfl
theorem dealChecks_j12 : ((Rows.dealChecksRow.named == Tryz.pinned.checked.prog.varsNamed 3)) = true := by kernel_rfl
theorem dealChecks_j13 : ((Rows.dealChecksRow.maps == (Tryz.f3.params.toList ++ Rows.dealChecksSpec.plain.varTypes Tryz.pinned.checked.prog).any (Tryz.pinned.checked.prog.mapsRec ·))) = true := by kernel_rfl
theorem dealChecks_j14 : ((Rows.dealChecksRow.ifaces == (Tryz.f3.params.toList ++ Rows.dealChecksSpec.plain.varTypes Tryz.pinned.checked.prog).any (Tryz.pinned.checked.prog.ifacesRec ·))) = true := by kernel_rfl
theorem dealChecks_j15 : ((Rows.dealChecksRow.mapsOut == Tryz.pinned.checked.prog.mapsAmong Tryz.f3.resultTypes.toList)) = true := by kernel_rfl
theorem dealChecks_j16 : ((Rows.dealChecksRow.loops == (Tryz.f3.params.toList ++ Rows.dealChecksSpec.plain.varTypes Tryz.pinned.checked.prog).any (Tryz.pinned.checked.prog.loopsFrom ·))) = true := by kernel_rfl
theorem dealChecks_j17 : ((Rows.dealChecksRow.wideKeys == (Tryz.f3.params.toList ++ Rows.dealChecksSpec.plain.varTypes Tryz.pinned.checked.prog ++ Tryz.f3.resultTypes.toList).any (Tryz.pinned.checked.prog.wideKeysFrom ·))) = true := by kernel_rfl
theorem dealChecks_j18 : (Rows.dealChecksSpec.vars.all (Tryz.pinned.checked.prog.varReadable ·)) = true := by kernel_rfl
theorem dealChecks_j19 : (Tryz.f3.resultTypes.all (fun t => Tryz.pinned.checked.prog.readableRec t && decide (t < Tryz.pinned.checked.prog.types.size))) = true := by kernel_rfl
theorem dealChecks_j20 : ((Rows.dealChecksRow.ifacesOut == Tryz.f3.resultTypes.toList.any (Tryz.pinned.checked.prog.ifacesRec ·))) = true := by kernel_rfl
theorem dealChecks_j21 : ((Rows.dealChecksRow.loopsOut == Tryz.f3.resultTypes.toList.any (Tryz.pinned.checked.prog.loopsFrom ·))) = true := by kernel_rfl
theorem dealChecks_j22 : ((Rows.dealChecksRow.plainKeys == Tryz.pinned.checked.prog.plainKeys)) = true := by kernel_rfl
theorem dealChecks_j23 : (Rows.dealChecksRow.shortTexts.isNone) = true := by kernel_rfl
theorem dealChecks_j24 : (Tryz.pinned.checked.prog.stopsHeard) = true := by kernel_rfl
theorem dealChecks_j25 : (Tryz.pinned.checked.prog.mayEnter) = true := by kernel_rfl
theorem dealChecks_j26 : ((Rows.dealChecksRow.lifted == Tryz.pinned.checked.prog.liftsFinal)) = true := by kernel_rfl
theorem dealChecks_j27 : ((Tryz.pinned.checked.prog.make == some Rows.dealChecksRow.make)) = true := by kernel_rfl
theorem dealChecks_j28 : ((Rows.dealChecksRow.kinds == (if Rows.dealChecksRow.domain.isEmpty then [] else Tryz.f3.params.toList.map fun t => match Tryz.pinned.checked.prog.underlying t with | some (.int k) => some k | _ => none))) = true := by kernel_rfl
theorem dealChecks_j29 : ((Rows.dealChecksRow.pinned == Rows.dealChecksRow.pinnedBy)) = true := by kernel_rfl
theorem dealChecks_j30 : ((Rows.dealChecksRow.veiled == (Tryz.f3.params.toList ++ Rows.dealChecksSpec.plain.varTypes Tryz.pinned.checked.prog ++ Tryz.f3.resultTypes.toList).any (Tryz.pinned.checked.prog.veiledRec ·))) = true := by kernel_rfl
theorem dealChecks_j31 : (Rows.dealChecksRow.veiledFits Tryz.pinned.checked.prog Tryz.f3.params.toList (Tryz.f3.params.toList ++ Rows.dealChecksSpec.plain.varTypes Tryz.pinned.checked.prog ++ Tryz.f3.resultTypes.toList)) = true := by kernel_rfl
end Go.Proofs.YtiiajhomdpfafaaGreatDoor
