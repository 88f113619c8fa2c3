/- The joined facts of CodeRound, one by one. -/
import Derived.Test.YtienedhaogjahaaGreatDoorWCodeRoundL
namespace Go.Proofs.YtienedhaogjahaaGreatDoor
open Go.ChangeShapes Go.WideShapes Go.ChangeAt Go.RowKit Go.ChangeMaps

theorem and2 {a b : Bool} (ha : a = true) (hb : b = true) : (a && b) = true := by rw [ha, hb]; rfl
theorem codeRound_j0 : (Rows.codeRoundRow.wf (OpenSpec.ofChange Rows.codeRoundSpec)) = true := by kernel_rfl
theorem codeRound_j1 : (laidOutB Tryz.pinned.checked.prog) = true := by kernel_rfl
theorem codeRound_j2 : (mapsRowed Tryz.pinned.checked.prog) = true := by kernel_rfl
theorem codeRound_j3 : (Tryz.f5.params.all (Tryz.pinned.checked.prog.readableRec ·)) = true := by kernel_rfl
theorem codeRound_j4 : (namedTie Tryz.pinned.checked.prog Rows.codeRoundRow.named Rows.codeRoundSpec.vars) = true := by kernel_rfl
theorem codeRound_j5 : ((Rows.codeRoundRow.stops == [])) = true := by kernel_rfl
theorem codeRound_j6 : ((Tryz.pinned.checked.prog.stops == [])) = true := by kernel_rfl
theorem codeRound_j7 : ((Rows.codeRoundRow.knobs == [])) = true := by kernel_rfl
theorem codeRound_j8 : ((Tryz.pinned.checked.prog.stopKnobs == [])) = true := by kernel_rfl
theorem codeRound_j9 : ((Rows.codeRoundRow.inPlace == Tryz.pinned.checked.prog.inPlace 5)) = true := by kernel_rfl
theorem codeRound_j10 : ((Rows.codeRoundRow.unfollowed == Tryz.pinned.checked.prog.unfollowed 5)) = true := by kernel_rfl
theorem codeRound_j11 : ((Rows.codeRoundRow.recurses == Tryz.pinned.checked.prog.recurses 5)) = true := by kernel_rfl
theorem codeRound_j12 : ((Rows.codeRoundRow.named == Tryz.pinned.checked.prog.varsNamed 5)) = true := by kernel_rfl
theorem codeRound_j13 : ((Rows.codeRoundRow.maps == (Tryz.f5.params.toList ++ Rows.codeRoundSpec.plain.varTypes Tryz.pinned.checked.prog).any (Tryz.pinned.checked.prog.mapsRec ·))) = true := by kernel_rfl
theorem codeRound_j14 : ((Rows.codeRoundRow.ifaces == (Tryz.f5.params.toList ++ Rows.codeRoundSpec.plain.varTypes Tryz.pinned.checked.prog).any (Tryz.pinned.checked.prog.ifacesRec ·))) = true := by kernel_rfl
theorem codeRound_j15 : ((Rows.codeRoundRow.mapsOut == Tryz.pinned.checked.prog.mapsAmong Tryz.f5.resultTypes.toList)) = true := by kernel_rfl
theorem codeRound_j16 : ((Rows.codeRoundRow.loops == (Tryz.f5.params.toList ++ Rows.codeRoundSpec.plain.varTypes Tryz.pinned.checked.prog).any (Tryz.pinned.checked.prog.loopsFrom ·))) = true := by kernel_rfl
theorem codeRound_j17 : ((Rows.codeRoundRow.wideKeys == (Tryz.f5.params.toList ++ Rows.codeRoundSpec.plain.varTypes Tryz.pinned.checked.prog ++ Tryz.f5.resultTypes.toList).any (Tryz.pinned.checked.prog.wideKeysFrom ·))) = true := by kernel_rfl
theorem codeRound_j18 : (Rows.codeRoundSpec.vars.all (Tryz.pinned.checked.prog.varReadable ·)) = true := by kernel_rfl
theorem codeRound_j19 : (Tryz.f5.resultTypes.all (fun t => Tryz.pinned.checked.prog.readableRec t && decide (t < Tryz.pinned.checked.prog.types.size))) = true := by kernel_rfl
theorem codeRound_j20 : ((Rows.codeRoundRow.ifacesOut == Tryz.f5.resultTypes.toList.any (Tryz.pinned.checked.prog.ifacesRec ·))) = true := by kernel_rfl
theorem codeRound_j21 : ((Rows.codeRoundRow.loopsOut == Tryz.f5.resultTypes.toList.any (Tryz.pinned.checked.prog.loopsFrom ·))) = true := by kernel_rfl
theorem codeRound_j22 : ((Rows.codeRoundRow.plainKeys == Tryz.pinned.checked.prog.plainKeys)) = true := by kernel_rfl
theorem codeRound_j23 : (Rows.codeRoundRow.shortTexts.isNone) = true := by kernel_rfl
theorem codeRound_j24 : (Tryz.pinned.checked.prog.stopsHeard) = true := by kernel_rfl
theorem codeRound_j25 : (Tryz.pinned.checked.prog.mayEnter) = true := by kernel_rfl
theorem codeRound_j26 : ((Rows.codeRoundRow.lifted == Tryz.pinned.checked.prog.liftsFinal)) = true := by kernel_rfl
theorem codeRound_j27 : ((Tryz.pinned.checked.prog.make == some Rows.codeRoundRow.make)) = true := by kernel_rfl
theorem codeRound_j28 : ((Rows.codeRoundRow.kinds == (if Rows.codeRoundRow.domain.isEmpty then [] else Tryz.f5.params.toList.map fun t => match Tryz.pinned.checked.prog.underlying t with | some (.int k) => some k | _ => none))) = true := by kernel_rfl
theorem codeRound_j29 : ((Rows.codeRoundRow.pinned == Rows.codeRoundRow.pinnedBy)) = true := by kernel_rfl
theorem codeRound_j30 : ((Rows.codeRoundRow.veiled == (Tryz.f5.params.toList ++ Rows.codeRoundSpec.plain.varTypes Tryz.pinned.checked.prog ++ Tryz.f5.resultTypes.toList).any (Tryz.pinned.checked.prog.veiledRec ·))) = true := by kernel_rfl
theorem codeRound_j31 : (Rows.codeRoundRow.veiledFits Tryz.pinned.checked.prog Tryz.f5.params.toList (Tryz.f5.params.toList ++ Rows.codeRoundSpec.plain.varTypes Tryz.pinned.checked.prog ++ Tryz.f5.resultTypes.toList)) = true := by kernel_rfl
end Go.Proofs.YtienedhaogjahaaGreatDoor
