/- The joined facts of CodeCompiles, one by one. -/
import Derived.Test.YtienedhaogjahaaGreatDoorFOps
import Derived.Test.YtienedhaogjahaaGreatDoorFTrm
import Derived.Test.YtienedhaogjahaaGreatDoorPfL
import Derived.ProofKit
import Derived.OpenShut
import Derived.ChangeMaps5
import Derived.LaidMore
import Derived.Lay
import Derived.SevenTiedAt
import Derived.Stop.Joined
import Derived.Lib.LaidTab
namespace Go.Proofs.YtienedhaogjahaaGreatDoor
open Go.ChangeShapes Go.WideShapes Go.ChangeAt Go.RowKit Go.ChangeMaps

theorem and2 {a b : Bool} (ha : a = true) (hb : b = true) : (a && b) = true := by rw [ha, hb]; rfl
theorem codeCompiles_j0 : (Rows.codeCompilesRow.wf (OpenSpec.ofChange Rows.codeCompilesSpec)) = true := by kernel_rfl
theorem codeCompiles_j1 : (laidOutB Tryz.pinned.checked.prog) = true := by kernel_rfl
theorem codeCompiles_j2 : (mapsRowed Tryz.pinned.checked.prog) = true := by kernel_rfl
theorem codeCompiles_j3 : (Tryz.f3.params.all (Tryz.pinned.checked.prog.readableRec ·)) = true := by kernel_rfl
theorem codeCompiles_j4 : (namedTie Tryz.pinned.checked.prog Rows.codeCompilesRow.named Rows.codeCompilesSpec.vars) = true := by kernel_rfl
theorem codeCompiles_j5 : ((Rows.codeCompilesRow.stops == [])) = true := by kernel_rfl
theorem codeCompiles_j6 : ((Tryz.pinned.checked.prog.stops == [])) = true := by kernel_rfl
theorem codeCompiles_j7 : ((Rows.codeCompilesRow.knobs == [])) = true := by kernel_rfl
theorem codeCompiles_j8 : ((Tryz.pinned.checked.prog.stopKnobs == [])) = true := by kernel_rfl
theorem codeCompiles_j9 : ((Rows.codeCompilesRow.inPlace == Tryz.pinned.checked.prog.inPlace 3)) = true := by kernel_rfl
theorem codeCompiles_j10 : ((Rows.codeCompilesRow.unfollowed == Tryz.pinned.checked.prog.unfollowed 3)) = true := by kernel_rfl
theorem codeCompiles_j11 : ((Rows.codeCompilesRow.recurses == Tryz.pinned.checked.prog.recurses 3)) = true := by kernel_rfl
theorem codeCompiles_j12 : ((Rows.codeCompilesRow.named == Tryz.pinned.checked.prog.varsNamed 3)) = true := by kernel_rfl
theorem codeCompiles_j13 : ((Rows.codeCompilesRow.maps == (Tryz.f3.params.toList ++ Rows.codeCompilesSpec.plain.varTypes Tryz.pinned.checked.prog).any (Tryz.pinned.checked.prog.mapsRec ·))) = true := by kernel_rfl
theorem codeCompiles_j14 : ((Rows.codeCompilesRow.ifaces == (Tryz.f3.params.toList ++ Rows.codeCompilesSpec.plain.varTypes Tryz.pinned.checked.prog).any (Tryz.pinned.checked.prog.ifacesRec ·))) = true := by kernel_rfl
theorem codeCompiles_j15 : ((Rows.codeCompilesRow.mapsOut == Tryz.pinned.checked.prog.mapsAmong Tryz.f3.resultTypes.toList)) = true := by kernel_rfl
theorem codeCompiles_j16 : ((Rows.codeCompilesRow.loops == (Tryz.f3.params.toList ++ Rows.codeCompilesSpec.plain.varTypes Tryz.pinned.checked.prog).any (Tryz.pinned.checked.prog.loopsFrom ·))) = true := by kernel_rfl
theorem codeCompiles_j17 : ((Rows.codeCompilesRow.wideKeys == (Tryz.f3.params.toList ++ Rows.codeCompilesSpec.plain.varTypes Tryz.pinned.checked.prog ++ Tryz.f3.resultTypes.toList).any (Tryz.pinned.checked.prog.wideKeysFrom ·))) = true := by kernel_rfl
theorem codeCompiles_j18 : (Rows.codeCompilesSpec.vars.all (Tryz.pinned.checked.prog.varReadable ·)) = true := by kernel_rfl
theorem codeCompiles_j19 : (Tryz.f3.resultTypes.all (fun t => Tryz.pinned.checked.prog.readableRec t && decide (t < Tryz.pinned.checked.prog.types.size))) = true := by kernel_rfl
theorem codeCompiles_j20 : ((Rows.codeCompilesRow.ifacesOut == Tryz.f3.resultTypes.toList.any (Tryz.pinned.checked.prog.ifacesRec ·))) = true := by kernel_rfl
theorem codeCompiles_j21 : ((Rows.codeCompilesRow.loopsOut == Tryz.f3.resultTypes.toList.any (Tryz.pinned.checked.prog.loopsFrom ·))) = true := by kernel_rfl
theorem codeCompiles_j22 : ((Rows.codeCompilesRow.plainKeys == Tryz.pinned.checked.prog.plainKeys)) = true := by kernel_rfl
theorem codeCompiles_j23 : (Rows.codeCompilesRow.shortTexts.isNone) = true := by kernel_rfl
theorem codeCompiles_j24 : (Tryz.pinned.checked.prog.stopsHeard) = true := by kernel_rfl
theorem codeCompiles_j25 : (Tryz.pinned.checked.prog.mayEnter) = true := by kernel_rfl
theorem codeCompiles_j26 : ((Rows.codeCompilesRow.lifted == Tryz.pinned.checked.prog.liftsFinal)) = true := by kernel_rfl
theorem codeCompiles_j27 : ((Tryz.pinned.checked.prog.make == some Rows.codeCompilesRow.make)) = true := by kernel_rfl
theorem codeCompiles_j28 : ((Rows.codeCompilesRow.kinds == (if Rows.codeCompilesRow.domain.isEmpty then [] else Tryz.f3.params.toList.map fun t => match Tryz.pinned.checked.prog.underlying t with | some (.int k) => some k | _ => none))) = true := by kernel_rfl
theorem codeCompiles_j29 : ((Rows.codeCompilesRow.pinned == Rows.codeCompilesRow.pinnedBy)) = true := by kernel_rfl
theorem codeCompiles_j30 : ((Rows.codeCompilesRow.veiled == (Tryz.f3.params.toList ++ Rows.codeCompilesSpec.plain.varTypes Tryz.pinned.checked.prog ++ Tryz.f3.resultTypes.toList).any (Tryz.pinned.checked.prog.veiledRec ·))) = true := by kernel_rfl
theorem codeCompiles_j31 : (Rows.codeCompilesRow.veiledFits Tryz.pinned.checked.prog Tryz.f3.params.toList (Tryz.f3.params.toList ++ Rows.codeCompilesSpec.plain.varTypes Tryz.pinned.checked.prog ++ Tryz.f3.resultTypes.toList)) = true := by kernel_rfl
end Go.Proofs.YtienedhaogjahaaGreatDoor
