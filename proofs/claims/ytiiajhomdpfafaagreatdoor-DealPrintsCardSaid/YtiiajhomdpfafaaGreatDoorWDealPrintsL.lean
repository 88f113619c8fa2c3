/- The frame of DealPrints: for every input the law answers true, and what it was handed reads as before; the package variables of the library that its road names start as their own text lays them (the card ties them). -/
import Derived.Test.YtiiajhomdpfafaaGreatDoorWDealPrints
import Derived.Test.YtiiajhomdpfafaaGreatDoorFOps
import Derived.Test.YtiiajhomdpfafaaGreatDoorFTrm
import Derived.Test.YtiiajhomdpfafaaGreatDoorDsL
import Derived.ProofKit
import Derived.OpenShut
import Derived.ChangeMaps5
import Derived.LaidMore
import Derived.Lay
import Derived.SevenTiedAt
import Derived.Stop.Joined
import Derived.Lib.LaidTab
namespace Go.Proofs.YtiiajhomdpfafaaGreatDoor
open Go.ChangeShapes Go.WideShapes Go.ChangeAt Go.RowKit Go.ChangeMaps

theorem dealPrints_own : ownKnob Tryz.prog.godebug = none := by kernel_rfl

theorem dealPrints_pft {W : World} (h : laidMetH Tryz.prog Rows.dealPrintsRow.laid W) : Aw17 W := by
  rw [MakeChecks.laidMetH_plain _ _ _ (by kernel_rfl)] at h
  obtain ⟨ps, h, _⟩ := h
  exact aw17_of_laid h (List.mem_of_getElem? (i := 1) rfl) (List.mem_of_getElem? (i := 3) rfl) (List.mem_of_getElem? (i := 4) rfl) (List.mem_of_getElem? (i := 6) rfl) (List.mem_of_getElem? (i := 8) rfl)

set_option maxRecDepth 100000 in
theorem dealPrints_lifted (os : Os) (started : os.Started) (H : Type) (enc : TypeId × Value → H) :
    ReturnsInHanded {} Tryz.checked os 4 .any (fun w args => (Rows.dealPrintsSpec.pre enc Tryz.prog Tryz.f4 Rows.dealPrintsRow.domain false w args ∧ laidMetH Tryz.prog Rows.dealPrintsRow.laid w) ∧ sizedMet enc Tryz.prog Tryz.f4 (OpenSpec.ofChange Rows.dealPrintsSpec) false w args)
      (Rows.dealPrintsSpec.post enc Tryz.prog Tryz.f4 false true false false) := by
  refine returnsInHanded_of_change_and (C := Tryz.checked) (X := fun w _ => laidMetH Tryz.prog Rows.dealPrintsRow.laid w) (fun _ _ _ hh h => h.of_heap hh) dealPrints_own started (by kernel_rfl) Tryz.func4
    (ChangeSpec.witness_shaped (enc := enc) (C := Tryz.checked) (os := os) (X := fun w _ => laidMetH Tryz.prog Rows.dealPrintsRow.laid w) false (World.laidAll Tryz.prog os Rows.dealPrintsRow.laid) #[.slice none 0 0] 8 (World.laidAll_os _ _ _)
      (World.shaped_of_ZipB (by kernel_rfl) (by kernel_rfl)) (by kernel_rfl) (by kernel_rfl) (by kernel_rfl)
      (by rw [MakeChecks.laidMetH_plain _ _ _ (by kernel_rfl)]; exact laidMet_laidAll _ (by kernel_rfl) (by kernel_rfl))) ?_
  intro W base args ds gs before hval0 hW hc hsz0 hL _
  have hval : ∀ (j : Nat) t v, Tryz.f4.params[j]? = some t → args[j]? = some v → Value.okWide Tryz.prog W .any base t v := hval0
  have hsz : (DataW.weightsEach Tryz.prog (Tryz.f4.params.toList ++ Rows.dealPrintsSpec.plain.varTypes Tryz.prog) (ds ++ gs)).all (· ≤ reachBytes) = true := hsz0
  have hW' := hW
  obtain ⟨p, q, hA0, hV, rfl, _, _⟩ := hW
  have hA : DataW.TrodAll enc Tryz.prog W 0 (fun _ => true) true Tryz.f4.params.toList args.toList ds p := hA0
  rw [Tryz.params4] at hA hval hsz
  obtain ⟨v0, vs0, d0, ds0, p0, q0, hargs, rfl, rfl, h0, r0⟩ := trodAll_cons hA
  obtain ⟨rfl, rfl, rfl⟩ := trodAll_nil r0
  obtain rfl : args = #[v0] := by cases args; simp_all
  obtain ⟨rfl, rfl⟩ := trodVars_none hV
  obtain ⟨pf0, lf0, cf0, rfl⟩ := okWide_slice Tryz.underlying22 (hval 0 22 v0 rfl rfl)
  have hq0 := h0
  obtain ⟨fu0, hf0⟩ := h0
  obtain ⟨_, _, _, hv0, hlf0, hmf0, wf0, bf0, of0, l0, hll0, hls0, hlI0⟩ := trs_source (v := .slice pf0 lf0 cf0) hf0
  injection hv0 with e1q0 e2q0 e3q0
  subst e1q0 e2q0 e3q0
  have rf0 := trs_reach hsz (j := 0) rfl rfl wf0
  have hpf := dealPrints_pft hL
  clear hA0 hval0 hsz0
  simp only [List.append_nil] at hW'
  have hlt0 : ∀ x ∈ p0, x.block < W.heap.size := fun x hx => by simpa using hW'.lt x (by simp [hx])
  subst hll0
  have hwalk := dealPrints_walk pf0 bf0 of0 cf0 l0 W hls0 hlI0 (by omega) hpf
  refine hwalk.mono fun e W' ⟨he, hg⟩ => ?_
  subst he
  exact ⟨_, rfl, _, _, _, [], _, [], hW', (trodAll_cons_mk (shut_bool Tryz.underlying4 _) trodAll_mk0), (trodAll_cons_mk (Below.trod ops_laid (by kernel_rfl) (of_decide_eq_true (by kernel_rfl)) hq0 hg hlt0) trodAll_mk0), rfl, hg.frame _, fun h => by cases h⟩

end Go.Proofs.YtiiajhomdpfafaaGreatDoor
