/- The joined facts of CodeLent, one by one. -/
import Derived.Test.YtienedhaogjahaaGreatDoorHaz
import Derived.Test.YtienedhaogjahaaGreatDoorFTrm
import Derived.Test.YtienedhaogjahaaGreatDoorPfL
import Derived.ProofKit
import Derived.OpenShut
import Derived.ChangeMaps5
import Derived.LaidMore
import Derived.Lay
import Derived.SevenTiedAt
import Derived.Stop.Joined
import Derived.Lib.LaidTab
namespace Go.Proofs.YtienedhaogjahaaGreatDoor
open Go.ChangeShapes Go.WideShapes Go.ChangeAt Go.RowKit Go.ChangeMaps

theorem and2 {a b : Bool} (ha : a = true) (hb : b = true) : (a && b) = true := by rw [ha, hb]; rfl
theorem codeLent_j0 : (Rows.codeLentRow.wf (OpenSpec.ofChange Rows.codeLentSpec)) = true := by kernel_rfl
theorem codeLent_j1 : (laidOutB Tryz.pinned.checked.prog) = true := by kernel_rfl
theorem codeLent_j2 : (mapsRowed Tryz.pinned.checked.prog) = true := by kernel_rfl
theorem codeLent_j3 : (Tryz.f6.params.all (Tryz.pinned.checked.prog.readableRec ·)) = true := by kernel_rfl
theorem codeLent_j4 : (namedTie Tryz.pinned.checked.prog Rows.codeLentRow.named Rows.codeLentSpec.vars) = true := by kernel_rfl
theorem codeLent_j5 : ((Rows.codeLentRow.stops == [])) = true := by kernel_rfl
theorem codeLent_j6 : ((Tryz.pinned.checked.prog.stops == [])) = true := by kernel_rfl
theorem codeLent_j7 : ((Rows.codeLentRow.knobs == [])) = true := by kernel_rfl
theorem codeLent_j8 : ((Tryz.pinned.checked.prog.stopKnobs == [])) = true := by kernel_rfl
theorem codeLent_j9 : ((Rows.codeLentRow.inPlace == Tryz.pinned.checked.prog.inPlace 6)) = true := by kernel_rfl
theorem codeLent_j10 : ((Rows.codeLentRow.unfollowed == Tryz.pinned.checked.prog.unfollowed 6)) = true := by kernel_rfl
theorem codeLent_j11 : ((Rows.codeLentRow.recurses == Tryz.pinned.checked.prog.recurses 6)) = true := by kernel_rfl
theorem codeLent_j12 : ((Rows.codeLentRow.named == Tryz.pinned.checked.prog.varsNamed 6)) = true := by kernel_rfl
theorem codeLent_j13 : ((Rows.codeLentRow.maps == (Tryz.f6.params.toList ++ Rows.codeLentSpec.plain.varTypes Tryz.pinned.checked.prog).any (Tryz.pinned.checked.prog.mapsRec ·))) = true := by kernel_rfl
theorem codeLent_j14 : ((Rows.codeLentRow.ifaces == (Tryz.f6.params.toList ++ Rows.codeLentSpec.plain.varTypes Tryz.pinned.checked.prog).any (Tryz.pinned.checked.prog.ifacesRec ·))) = true := by kernel_rfl
theorem codeLent_j15 : ((Rows.codeLentRow.mapsOut == Tryz.pinned.checked.prog.mapsAmong Tryz.f6.resultTypes.toList)) = true := by kernel_rfl
theorem codeLent_j16 : ((Rows.codeLentRow.loops == (Tryz.f6.params.toList ++ Rows.codeLentSpec.plain.varTypes Tryz.pinned.checked.prog).any (Tryz.pinned.checked.prog.loopsFrom ·))) = true := by kernel_rfl
theorem codeLent_j17 : ((Rows.codeLentRow.wideKeys == (Tryz.f6.params.toList ++ Rows.codeLentSpec.plain.varTypes Tryz.pinned.checked.prog ++ Tryz.f6.resultTypes.toList).any (Tryz.pinned.checked.prog.wideKeysFrom ·))) = true := by kernel_rfl
theorem codeLent_j18 : (Rows.codeLentSpec.vars.all (Tryz.pinned.checked.prog.varReadable ·)) = true := by kernel_rfl
theorem codeLent_j19 : (Tryz.f6.resultTypes.all (fun t => Tryz.pinned.checked.prog.readableRec t && decide (t < Tryz.pinned.checked.prog.types.size))) = true := by kernel_rfl
theorem codeLent_j20 : ((Rows.codeLentRow.ifacesOut == Tryz.f6.resultTypes.toList.any (Tryz.pinned.checked.prog.ifacesRec ·))) = true := by kernel_rfl
theorem codeLent_j21 : ((Rows.codeLentRow.loopsOut == Tryz.f6.resultTypes.toList.any (Tryz.pinned.checked.prog.loopsFrom ·))) = true := by kernel_rfl
theorem codeLent_j22 : ((Rows.codeLentRow.plainKeys == Tryz.pinned.checked.prog.plainKeys)) = true := by kernel_rfl
theorem codeLent_j23 : (Rows.codeLentRow.shortTexts.isNone) = true := by kernel_rfl
theorem codeLent_j24 : (Tryz.pinned.checked.prog.stopsHeard) = true := by kernel_rfl
theorem codeLent_j25 : (Tryz.pinned.checked.prog.mayEnter) = true := by kernel_rfl
theorem codeLent_j26 : ((Rows.codeLentRow.lifted == Tryz.pinned.checked.prog.liftsFinal)) = true := by kernel_rfl
theorem codeLent_j27 : ((Tryz.pinned.checked.prog.make == some Rows.codeLentRow.make)) = true := by kernel_rfl
theorem codeLent_j28 : ((Rows.codeLentRow.kinds == (if Rows.codeLentRow.domain.isEmpty then [] else Tryz.f6.params.toList.map fun t => match Tryz.pinned.checked.prog.underlying t with | some (.int k) => some k | _ => none))) = true := by kernel_rfl
theorem codeLent_j29 : ((Rows.codeLentRow.pinned == Rows.codeLentRow.pinnedBy)) = true := by kernel_rfl
theorem codeLent_j30 : ((Rows.codeLentRow.veiled == (Tryz.f6.params.toList ++ Rows.codeLentSpec.plain.varTypes Tryz.pinned.checked.prog ++ Tryz.f6.resultTypes.toList).any (Tryz.pinned.checked.prog.veiledRec ·))) = true := by kernel_rfl
theorem codeLent_j31 : (Rows.codeLentRow.veiledFits Tryz.pinned.checked.prog Tryz.f6.params.toList (Tryz.f6.params.toList ++ Rows.codeLentSpec.plain.varTypes Tryz.pinned.checked.prog ++ Tryz.f6.resultTypes.toList)) = true := by kernel_rfl
end Go.Proofs.YtienedhaogjahaaGreatDoor
