/- The statement of InterpNodes: for every input the law answers true, and what it was handed reads as before. -/
import Derived.Test.YtnmjljijgmmakaaWInterpNodes
import Derived.Test.YtnmjljijgmmakaaFTab
namespace Go.Proofs.Ytnmjljijgmmakaa
open Go.ChangeShapes Go.WideShapes Go.ChangeAt Go.RowKit

theorem interpNodes_own : ownKnob Try.prog.godebug = none := by kernel_rfl

set_option maxRecDepth 100000 in
theorem interpNodes_lifted (os : Os) (started : os.Started) (H : Type) (enc : TypeId × Value → H) :
    ReturnsInHanded {} Try.checked os 4 .any (Rows.interpNodesSpec.pre6 enc Try.prog Try.f4 Rows.interpNodesRow.domain false) (Rows.interpNodesSpec.post enc Try.prog Try.f4 false true false false) := by
  refine returnsInHanded_of_change_sized (C := Try.checked) interpNodes_own started (by kernel_rfl) Try.func4
    (ChangeSpec.witness6 (enc := enc) (C := Try.checked) false ⟨#[], #[.agg #[.int .i64 0, .slice none 0 0, .slice none 0 0]], []⟩ 8 (by kernel_rfl) (by kernel_rfl) (by kernel_rfl) (by kernel_rfl)) ?_
  intro W base args ds gs before hval0 hW hcnd hsz0 _
  have hval : ∀ (j : Nat) t v, Try.f4.params[j]? = some t → args[j]? = some v → Value.okWide Try.prog W .any base t v := hval0
  have hsz : (DataW.weightsEach Try.prog (Try.f4.params.toList ++ Rows.interpNodesSpec.plain.varTypes Try.prog) (ds ++ gs)).all (· ≤ reachBytes) = true := hsz0
  have hW' := hW
  obtain ⟨p, q, hA0, hV, rfl, hfz, hnd⟩ := hW
  have hA : DataW.TrodAll enc Try.prog W 0 (fun _ => true) true Try.f4.params.toList args.toList ds p := hA0
  rw [Try.params4] at hA hval hsz
  obtain ⟨v0, vs0, d0, ds0, p0, q0, hargs, rfl, rfl, h0, r0⟩ := trodAll_cons hA
  obtain ⟨rfl, rfl, rfl⟩ := trodAll_nil r0
  obtain rfl : args = #[v0] := by cases args; simp_all
  obtain ⟨rfl, rfl⟩ := trodVars_none hV
  obtain ⟨kind, px, py, lx, cx, ly, cy, rfl, hk, hlx, hcx, hly, hcy, wx, wy, ⟨bx, ox, xs, hxl, hxs, hxI⟩, ⟨b2, oy, ys, hyl, hys, hyI⟩⟩ := tab_source (hval 0 25 v0 rfl rfl) h0
  have rx := tab_reach hsz (j := 0) rfl rfl wx
  have ry := tab_reach hsz (j := 0) rfl rfl wy
  clear hA0 hval0 hsz0
  simp only [List.append_nil] at hW'
  have hlt0 : ∀ x ∈ p0, x.block < W.heap.size := fun x hx => by simpa using hW'.lt x (by simp [hx])
  subst hxl hyl
  have hwalk := interpNodes_walk kind px py bx ox cx b2 oy cy xs ys W ⟨hxs, hys, hyI⟩ hxI (by omega) (by omega) hlx hly
  refine hwalk.mono fun e W' ⟨he, hg⟩ => ?_
  subst he
  exact ⟨_, rfl, _, _, _, [], _, [], hW', (trodAll_cons_mk (shut_bool Try.underlying4 _) trodAll_mk0), (trodAll_cons_mk (Below.trod tab_laid (by kernel_rfl) (of_decide_eq_true (by kernel_rfl)) h0 hg hlt0) trodAll_mk0), rfl, hg.frame _, fun h => by cases h⟩

theorem interpNodes_holds : Rows.InterpNodesSaid :=
  OpenClaim.holds_of_wide 4 Try.f4 rfl rfl rfl rfl rfl rfl rfl ⟨rfl, rfl, rfl, rfl, rfl⟩ rfl rfl rfl rfl rfl (by kernel_rfl) Try.func4 (by kernel_rfl)
    (of_decide_eq_true (by kernel_rfl)) (by unfold Func.isWrapper; rw [if_neg (by decide +kernel)]; exact ⟨rfl, rfl⟩)
    (fun os started H enc _ => interpNodes_lifted os started H enc)
#print axioms interpNodes_holds
end Go.Proofs.Ytnmjljijgmmakaa
