/- The statement of FlowOrder: for every input the law answers true, and what it was handed reads as before. -/
import Derived.Test.YthddhgjfboeggaaWFlowOrderL
import Derived.Test.YthddhgjfboeggaaFFlw
import Derived.Test.YthddhgjfboeggaaFTab
namespace Go.Proofs.Ythddhgjfboeggaa
open Go.ChangeShapes Go.WideShapes Go.ChangeAt Go.RowKit

theorem flowOrder_own : ownKnob Try.prog.godebug = none := by kernel_rfl

set_option maxRecDepth 100000 in
theorem flowOrder_lifted (os : Os) (started : os.Started) (H : Type) (enc : TypeId × Value → H) :
    ReturnsInHanded {} Try.checked os 3 .any (Rows.flowOrderSpec.pre6 enc Try.prog Try.f3 Rows.flowOrderRow.domain false) (Rows.flowOrderSpec.post enc Try.prog Try.f3 false true false false) := by
  refine returnsInHanded_of_change_sized (C := Try.checked) flowOrder_own started (by kernel_rfl) Try.func3
    (ChangeSpec.witness6 (enc := enc) (C := Try.checked) false ⟨#[], #[.slice none 0 0, .slice none 0 0], []⟩ 8 (by kernel_rfl) (by kernel_rfl) (by kernel_rfl) (by kernel_rfl)) ?_
  intro W base args ds gs before hval0 hW hcnd hsz0 _
  have hval : ∀ (j : Nat) t v, Try.f3.params[j]? = some t → args[j]? = some v → Value.okWide Try.prog W .any base t v := hval0
  have hsz : (DataW.weightsEach Try.prog (Try.f3.params.toList ++ Rows.flowOrderSpec.plain.varTypes Try.prog) (ds ++ gs)).all (· ≤ reachBytes) = true := hsz0
  have hW' := hW
  obtain ⟨p, q, hA0, hV, rfl, hfz, hnd⟩ := hW
  have hA : DataW.TrodAll enc Try.prog W 0 (fun _ => true) true Try.f3.params.toList args.toList ds p := hA0
  rw [Try.params3] at hA hval hsz
  obtain ⟨v0, vs0, d0, ds0, p0, q0, hargs, rfl, rfl, h0, r0⟩ := trodAll_cons hA
  obtain ⟨v1, vs1, d1, ds1, p1, q1, rfl, rfl, rfl, h1, r1⟩ := trodAll_cons r0
  obtain ⟨rfl, rfl, rfl⟩ := trodAll_nil r1
  obtain rfl : args = #[v0, v1] := by cases args; simp_all
  obtain ⟨rfl, rfl⟩ := trodVars_none hV
  obtain ⟨pf0, lf0, cf0, rfl⟩ := okWide_slice Try.underlying22 (hval 0 22 v0 rfl rfl)
  have hq0 := h0
  obtain ⟨fu0, hf0⟩ := h0
  obtain ⟨_, _, _, hv0, hlf0, hmf0, wf0, bf0, of0, l0, hll0, hls0, hlI0⟩ := flows_source (v := .slice pf0 lf0 cf0) hf0
  injection hv0 with e1q0 e2q0 e3q0
  subst e1q0 e2q0 e3q0
  have rf0 := flow_reach hsz (j := 0) rfl rfl wf0
  obtain ⟨pp1, lp1, cp1, rfl⟩ := okWide_slice Try.underlying23 (hval 1 23 v1 rfl rfl)
  have hq1 := h1
  obtain ⟨fu1, hf1⟩ := h1
  obtain ⟨_, _, _, hv1, hlp1, hmp1, _, bp1, op1, xp1, hpl1, hps1, hpI1⟩ := places_source (v := .slice pp1 lp1 cp1) hf1
  injection hv1 with e1q1 e2q1 e3q1
  subst e1q1 e2q1 e3q1
  clear hA0 hval0 hsz0
  simp only [List.append_nil] at hW'
  have hlt0 : ∀ x ∈ p0, x.block < W.heap.size := fun x hx => by simpa using hW'.lt x (by simp [hx])
  have hlt1 : ∀ x ∈ p1, x.block < W.heap.size := fun x hx => by simpa using hW'.lt x (by simp [hx])
  subst hll0
  subst hpl1
  have hwalk := flowOrder_walk pf0 bf0 of0 cf0 l0 pp1 bp1 op1 cp1 xp1 W hls0 (FlwI.fit hlI0) (by omega) hps1 (by unfold maxLen at hmp1; omega) (fun e => flw_nilJ hf0 e)
  refine hwalk.mono fun e W' ⟨he, hg⟩ => ?_
  subst he
  exact ⟨_, rfl, _, _, _, [], _, [], hW', (trodAll_cons_mk (shut_bool Try.underlying4 _) trodAll_mk0), (trodAll_cons_mk (Below.trod flw_laid (by kernel_rfl) (of_decide_eq_true (by kernel_rfl)) hq0 hg hlt0) (trodAll_cons_mk (Below.trod flw_laid (by kernel_rfl) (of_decide_eq_true (by kernel_rfl)) hq1 hg hlt1) trodAll_mk0)), rfl, hg.frame _, fun h => by cases h⟩

theorem flowOrder_holds : Rows.FlowOrderSaid :=
  OpenClaim.holds_of_wide 3 Try.f3 rfl rfl rfl rfl rfl rfl rfl ⟨rfl, rfl, rfl, rfl, rfl⟩ rfl rfl rfl rfl rfl (by kernel_rfl) Try.func3 (by kernel_rfl)
    (of_decide_eq_true (by kernel_rfl)) (by unfold Func.isWrapper; rw [if_neg (by decide +kernel)]; exact ⟨rfl, rfl⟩)
    (fun os started H enc _ => flowOrder_lifted os started H enc)
#print axioms flowOrder_holds
end Go.Proofs.Ythddhgjfboeggaa
