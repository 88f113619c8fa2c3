/- The joined facts of CodeBacks, one by one. -/
import Derived.Test.YtienedhaogjahaaGreatDoorFOps
import Derived.Test.YtienedhaogjahaaGreatDoorPfL
import Derived.ProofKit
import Derived.OpenShut
import Derived.ChangeMaps5
import Derived.LaidMore
import Derived.Lay
import Derived.SevenTiedAt
import Derived.Stop.Joined
import Derived.Lib.LaidTab
namespace Go.Proofs.YtienedhaogjahaaGreatDoor
open Go.ChangeShapes Go.WideShapes Go.ChangeAt Go.RowKit Go.ChangeMaps

theorem and2 {a b : Bool} (ha : a = true) (hb : b = true) : (a && b) = true := by rw [ha, hb]; rfl
theorem codeBacks_j0 : (Rows.codeBacksRow.wf (OpenSpec.ofChange Rows.codeBacksSpec)) = true := by kernel_rfl
theorem codeBacks_j1 : (laidOutB Tryz.pinned.checked.prog) = true := by kernel_rfl
theorem codeBacks_j2 : (mapsRowed Tryz.pinned.checked.prog) = true := by kernel_rfl
theorem codeBacks_j3 : (Tryz.f4.params.all (Tryz.pinned.checked.prog.readableRec ·)) = true := by kernel_rfl
theorem codeBacks_j4 : (namedTie Tryz.pinned.checked.prog Rows.codeBacksRow.named Rows.codeBacksSpec.vars) = true := by kernel_rfl
theorem codeBacks_j5 : ((Rows.codeBacksRow.stops == [])) = true := by kernel_rfl
theorem codeBacks_j6 : ((Tryz.pinned.checked.prog.stops == [])) = true := by kernel_rfl
theorem codeBacks_j7 : ((Rows.codeBacksRow.knobs == [])) = true := by kernel_rfl
theorem codeBacks_j8 : ((Tryz.pinned.checked.prog.stopKnobs == [])) = true := by kernel_rfl
theorem codeBacks_j9 : ((Rows.codeBacksRow.inPlace == Tryz.pinned.checked.prog.inPlace 4)) = true := by kernel_rfl
theorem codeBacks_j10 : ((Rows.codeBacksRow.unfollowed == Tryz.pinned.checked.prog.unfollowed 4)) = true := by kernel_rfl
theorem codeBacks_j11 : ((Rows.codeBacksRow.recurses == Tryz.pinned.checked.prog.recurses 4)) = true := by kernel_rfl
theorem codeBacks_j12 : ((Rows.codeBacksRow.named == Tryz.pinned.checked.prog.varsNamed 4)) = true := by kernel_rfl
theorem codeBacks_j13 : ((Rows.codeBacksRow.maps == (Tryz.f4.params.toList ++ Rows.codeBacksSpec.plain.varTypes Tryz.pinned.checked.prog).any (Tryz.pinned.checked.prog.mapsRec ·))) = true := by kernel_rfl
theorem codeBacks_j14 : ((Rows.codeBacksRow.ifaces == (Tryz.f4.params.toList ++ Rows.codeBacksSpec.plain.varTypes Tryz.pinned.checked.prog).any (Tryz.pinned.checked.prog.ifacesRec ·))) = true := by kernel_rfl
theorem codeBacks_j15 : ((Rows.codeBacksRow.mapsOut == Tryz.pinned.checked.prog.mapsAmong Tryz.f4.resultTypes.toList)) = true := by kernel_rfl
theorem codeBacks_j16 : ((Rows.codeBacksRow.loops == (Tryz.f4.params.toList ++ Rows.codeBacksSpec.plain.varTypes Tryz.pinned.checked.prog).any (Tryz.pinned.checked.prog.loopsFrom ·))) = true := by kernel_rfl
theorem codeBacks_j17 : ((Rows.codeBacksRow.wideKeys == (Tryz.f4.params.toList ++ Rows.codeBacksSpec.plain.varTypes Tryz.pinned.checked.prog ++ Tryz.f4.resultTypes.toList).any (Tryz.pinned.checked.prog.wideKeysFrom ·))) = true := by kernel_rfl
theorem codeBacks_j18 : (Rows.codeBacksSpec.vars.all (Tryz.pinned.checked.prog.varReadable ·)) = true := by kernel_rfl
theorem codeBacks_j19 : (Tryz.f4.resultTypes.all (fun t => Tryz.pinned.checked.prog.readableRec t && decide (t < Tryz.pinned.checked.prog.types.size))) = true := by kernel_rfl
theorem codeBacks_j20 : ((Rows.codeBacksRow.ifacesOut == Tryz.f4.resultTypes.toList.any (Tryz.pinned.checked.prog.ifacesRec ·))) = true := by kernel_rfl
theorem codeBacks_j21 : ((Rows.codeBacksRow.loopsOut == Tryz.f4.resultTypes.toList.any (Tryz.pinned.checked.prog.loopsFrom ·))) = true := by kernel_rfl
theorem codeBacks_j22 : ((Rows.codeBacksRow.plainKeys == Tryz.pinned.checked.prog.plainKeys)) = true := by kernel_rfl
theorem codeBacks_j23 : (Rows.codeBacksRow.shortTexts.isNone) = true := by kernel_rfl
theorem codeBacks_j24 : (Tryz.pinned.checked.prog.stopsHeard) = true := by kernel_rfl
theorem codeBacks_j25 : (Tryz.pinned.checked.prog.mayEnter) = true := by kernel_rfl
theorem codeBacks_j26 : ((Rows.codeBacksRow.lifted == Tryz.pinned.checked.prog.liftsFinal)) = true := by kernel_rfl
theorem codeBacks_j27 : ((Tryz.pinned.checked.prog.make == some Rows.codeBacksRow.make)) = true := by kernel_rfl
theorem codeBacks_j28 : ((Rows.codeBacksRow.kinds == (if Rows.codeBacksRow.domain.isEmpty then [] else Tryz.f4.params.toList.map fun t => match Tryz.pinned.checked.prog.underlying t with | some (.int k) => some k | _ => none))) = true := by kernel_rfl
theorem codeBacks_j29 : ((Rows.codeBacksRow.pinned == Rows.codeBacksRow.pinnedBy)) = true := by kernel_rfl
theorem codeBacks_j30 : ((Rows.codeBacksRow.veiled == (Tryz.f4.params.toList ++ Rows.codeBacksSpec.plain.varTypes Tryz.pinned.checked.prog ++ Tryz.f4.resultTypes.toList).any (Tryz.pinned.checked.prog.veiledRec ·))) = true := by kernel_rfl
theorem codeBacks_j31 : (Rows.codeBacksRow.veiledFits Tryz.pinned.checked.prog Tryz.f4.params.toList (Tryz.f4.params.toList ++ Rows.codeBacksSpec.plain.varTypes Tryz.pinned.checked.prog ++ Tryz.f4.resultTypes.toList)) = true := by kernel_rfl
end Go.Proofs.YtienedhaogjahaaGreatDoor
