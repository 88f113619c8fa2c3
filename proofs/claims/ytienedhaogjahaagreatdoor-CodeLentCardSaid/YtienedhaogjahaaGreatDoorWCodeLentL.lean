/- The frame of CodeLent: for every input the law answers true, and what it was handed reads as before; the package variables of the library that its road names start as their own text lays them (the card ties them). -/
import Derived.Test.YtienedhaogjahaaGreatDoorWCodeLent
import Derived.Test.YtienedhaogjahaaGreatDoorHaz
import Derived.Test.YtienedhaogjahaaGreatDoorFTrm
import Derived.Test.YtienedhaogjahaaGreatDoorPfL
import Derived.ProofKit
import Derived.OpenShut
import Derived.ChangeMaps5
import Derived.LaidMore
import Derived.Lay
import Derived.SevenTiedAt
import Derived.Stop.Joined
import Derived.Lib.LaidTab
namespace Go.Proofs.YtienedhaogjahaaGreatDoor
open Go.ChangeShapes Go.WideShapes Go.ChangeAt Go.RowKit Go.ChangeMaps

theorem codeLent_own : ownKnob Tryz.prog.godebug = none := by kernel_rfl

theorem codeLent_pft {W : World} (h : laidMetH Tryz.prog Rows.codeLentRow.laid W) : ∃ b o c, PfT 6 5 9 b o c W := by
  rw [MakeChecks.laidMetH_plain _ _ _ (by kernel_rfl)] at h
  obtain ⟨ps, h, _⟩ := h
  exact pft_of_laid h (List.mem_of_getElem? (i := 3) rfl) (List.mem_of_getElem? (i := 4) rfl) (List.mem_of_getElem? (i := 6) rfl)

set_option maxRecDepth 100000 in
theorem codeLent_lifted (os : Os) (started : os.Started) (H : Type) (enc : TypeId × Value → H) :
    ReturnsInHanded {} Tryz.checked os 6 .any (fun w args => (Rows.codeLentSpec.pre enc Tryz.prog Tryz.f6 Rows.codeLentRow.domain false w args ∧ laidMetH Tryz.prog Rows.codeLentRow.laid w) ∧ sizedMet enc Tryz.prog Tryz.f6 (OpenSpec.ofChange Rows.codeLentSpec) false w args)
      (Rows.codeLentSpec.post enc Tryz.prog Tryz.f6 false true false false) := by
  refine returnsInHanded_of_change_and (C := Tryz.checked) (X := fun w _ => laidMetH Tryz.prog Rows.codeLentRow.laid w) (fun _ _ _ hh h => h.of_heap hh) codeLent_own started (by kernel_rfl) Tryz.func6
    (ChangeSpec.witness_shaped (enc := enc) (C := Tryz.checked) (os := os) (X := fun w _ => laidMetH Tryz.prog Rows.codeLentRow.laid w) false (World.laidAll Tryz.prog os Rows.codeLentRow.laid) #[.slice none 0 0, .slice none 0 0] 8 (World.laidAll_os _ _ _)
      (World.shaped_of_ZipB (by kernel_rfl) (by kernel_rfl)) (by kernel_rfl) (by kernel_rfl) (by kernel_rfl)
      (by rw [MakeChecks.laidMetH_plain _ _ _ (by kernel_rfl)]; exact laidMet_laidAll _ (by kernel_rfl) (by kernel_rfl))) ?_
  intro W base args ds gs before hval0 hW hc hsz0 hL _
  have hval : ∀ (j : Nat) t v, Tryz.f6.params[j]? = some t → args[j]? = some v → Value.okWide Tryz.prog W .any base t v := hval0
  have hsz : (DataW.weightsEach Tryz.prog (Tryz.f6.params.toList ++ Rows.codeLentSpec.plain.varTypes Tryz.prog) (ds ++ gs)).all (· ≤ reachBytes) = true := hsz0
  have hW' := hW
  obtain ⟨p, q, hA0, hV, rfl, _, _⟩ := hW
  have hA : DataW.TrodAll enc Tryz.prog W 0 (fun _ => true) true Tryz.f6.params.toList args.toList ds p := hA0
  rw [Tryz.params6] at hA hval hsz
  obtain ⟨v0, vs0, d0, ds0, p0, q0, hargs, rfl, rfl, h0, r0⟩ := trodAll_cons hA
  obtain ⟨v1, vs1, d1, ds1, p1, q1, rfl, rfl, rfl, h1, r1⟩ := trodAll_cons r0
  obtain ⟨rfl, rfl, rfl⟩ := trodAll_nil r1
  obtain rfl : args = #[v0, v1] := by cases args; simp_all
  obtain ⟨rfl, rfl⟩ := trodVars_none hV
  obtain ⟨pf0, lf0, cf0, rfl⟩ := okWide_slice Tryz.underlying24 (hval 0 24 v0 rfl rfl)
  have hq0 := h0
  obtain ⟨fu0, hf0⟩ := h0
  obtain ⟨_, _, _, hv0, hlf0, hmf0, wf0, bf0, of0, l0, hll0, hls0, hlI0⟩ := ops_source (v := .slice pf0 lf0 cf0) hf0
  injection hv0 with e1q0 e2q0 e3q0
  subst e1q0 e2q0 e3q0
  have rf0 := ops_reach hsz (j := 0) rfl rfl wf0
  obtain ⟨pf1, lf1, cf1, rfl⟩ := okWide_slice Tryz.underlying22 (hval 1 22 v1 rfl rfl)
  have hq1 := h1
  obtain ⟨fu1, hf1⟩ := h1
  obtain ⟨_, _, _, hv1, hlf1, hmf1, wf1, bf1, of1, l1, hll1, hls1, hlI1⟩ := trs_source (v := .slice pf1 lf1 cf1) hf1
  injection hv1 with e1q1 e2q1 e3q1
  subst e1q1 e2q1 e3q1
  have rf1 := trs_reach hsz (j := 1) rfl rfl wf1
  obtain ⟨bp, op, cp, hpf⟩ := codeLent_pft hL
  clear hA0 hval0 hsz0
  simp only [List.append_nil] at hW'
  have hlt0 : ∀ x ∈ p0, x.block < W.heap.size := fun x hx => by simpa using hW'.lt x (by simp [hx])
  have hlt1 : ∀ x ∈ p1, x.block < W.heap.size := fun x hx => by simpa using hW'.lt x (by simp [hx])
  subst hll0
  subst hll1
  have hwalk := codeLent_walk pf0 bf0 of0 cf0 l0 pf1 bf1 of1 cf1 l1 W hls0 hlI0 (by omega) (fun h => ops_nil hf0 h) hls1 hlI1 (by omega) hpf
  refine hwalk.mono fun e W' ⟨he, hg⟩ => ?_
  subst he
  exact ⟨_, rfl, _, _, _, [], _, [], hW', (trodAll_cons_mk (shut_bool Tryz.underlying4 _) trodAll_mk0), (trodAll_cons_mk (Below.trod ops_laid (by kernel_rfl) (of_decide_eq_true (by kernel_rfl)) hq0 hg hlt0) (trodAll_cons_mk (Below.trod ops_laid (by kernel_rfl) (of_decide_eq_true (by kernel_rfl)) hq1 hg hlt1) trodAll_mk0)), rfl, hg.frame _, fun h => by cases h⟩

end Go.Proofs.YtienedhaogjahaaGreatDoor
