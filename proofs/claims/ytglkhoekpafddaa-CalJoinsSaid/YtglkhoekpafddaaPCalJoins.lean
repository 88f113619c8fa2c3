/- The statement of CalJoins: for every input the law answers true, and what it was handed reads as before. -/
import Derived.Test.YtglkhoekpafddaaWCalJoins
import Derived.Test.YtglkhoekpafddaaFCal2
namespace Go.Proofs.Ytglkhoekpafddaa
open Go.ChangeShapes Go.WideShapes Go.ChangeAt Go.RowKit

theorem calJoins_own : ownKnob Try.prog.godebug = none := by kernel_rfl

set_option maxRecDepth 100000 in
theorem calJoins_lifted (os : Os) (started : os.Started) (H : Type) (enc : TypeId × Value → H) :
    ReturnsInHanded {} Try.checked os 8 .any (Rows.calJoinsSpec.pre6 enc Try.prog Try.f8 Rows.calJoinsRow.domain false) (Rows.calJoinsSpec.post enc Try.prog Try.f8 false true false false) := by
  refine returnsInHanded_of_change (C := Try.checked) calJoins_own started (by kernel_rfl) Try.func8
    (ChangeSpec.witness6 (enc := enc) (C := Try.checked) false ⟨#[], #[.agg #[.int .i64 0, .slice none 0 0], .agg #[.int .i64 0, .slice none 0 0]], []⟩ 8 (by kernel_rfl) (by kernel_rfl) (by kernel_rfl) (by kernel_rfl)) ?_
  intro W base args ds gs before hval0 hW hcnd _
  have hval : ∀ (j : Nat) t v, Try.f8.params[j]? = some t → args[j]? = some v → Value.okWide Try.prog W .any base t v := hval0
  have hW' := hW
  obtain ⟨p, q, hA0, hV, rfl, hfz, hnd⟩ := hW
  have hA : DataW.TrodAll enc Try.prog W 0 (fun _ => true) true Try.f8.params.toList args.toList ds p := hA0
  rw [Try.params8] at hA hval
  obtain ⟨v0, vs0, d0, ds0, p0, q0, hargs, rfl, rfl, h0, r0⟩ := trodAll_cons hA
  obtain ⟨v1, vs1, d1, ds1, p1, q1, rfl, rfl, rfl, h1, r1⟩ := trodAll_cons r0
  obtain ⟨rfl, rfl, rfl⟩ := trodAll_nil r1
  obtain rfl : args = #[v0, v1] := by cases args; simp_all
  obtain ⟨rfl, rfl⟩ := trodVars_none hV
  obtain ⟨wk0, ao0, len0, cap0, rfl, wkI0, hl0, hm0, b0, off0, rs0, hlen0, hsrc0, hI0⟩ := cal_source (hval 0 24 v0 rfl rfl) h0
  obtain ⟨wk1, ao1, len1, cap1, rfl, wkI1, hl1, hm1, b1, off1, rs1, hlen1, hsrc1, hI1⟩ := cal_source (hval 1 24 v1 rfl rfl) h1
  clear hA0 hval0
  simp only [List.append_nil] at hW'
  have hlt0 : ∀ x ∈ p0, x.block < W.heap.size := fun x hx => by simpa using hW'.lt x (by simp [hx])
  subst hlen0
  have hM0 : rs0.length ≤ 9223372036854775807 := by have : cap0 ≤ 9223372036854775807 := by simpa [maxLen] using hm0
                                                    omega
  have hlt1 : ∀ x ∈ p1, x.block < W.heap.size := fun x hx => by simpa using hW'.lt x (by simp [hx])
  subst hlen1
  have hM1 : rs1.length ≤ 9223372036854775807 := by have : cap1 ≤ 9223372036854775807 := by simpa [maxLen] using hm1
                                                    omega
  have hnil0 : ao0 = none → rs0.length = 0 ∧ cap0 = 0 := fun e => cal_nil h0 e
  have hnil1 : ao1 = none → rs1.length = 0 ∧ cap1 = 0 := fun e => cal_nil h1 e
  have hwalk := calJoins_walk wk0 wk1 ao0 b0 off0 cap0 rs0 ao1 b1 off1 cap1 rs1 W hsrc0 hM0 hsrc1 hM1 wkI0 hI0 wkI1 hI1 hnil0 hnil1
  refine hwalk.mono fun e W' ⟨he, hg⟩ => ?_
  subst he
  exact ⟨_, rfl, _, _, _, [], _, [], hW', (trodAll_cons_mk (shut_bool Try.underlying4 _) trodAll_mk0), (trodAll_cons_mk (Below.trod cal_laid (by kernel_rfl) (of_decide_eq_true (by kernel_rfl)) h0 hg hlt0) (trodAll_cons_mk (Below.trod cal_laid (by kernel_rfl) (of_decide_eq_true (by kernel_rfl)) h1 hg hlt1) trodAll_mk0)), rfl, hg.frame _, fun h => by cases h⟩

theorem calJoins_holds : Rows.CalJoinsSaid :=
  OpenClaim.holds_of_wide 8 Try.f8 rfl rfl rfl rfl rfl rfl rfl ⟨rfl, rfl, rfl, rfl, rfl⟩ rfl rfl rfl rfl rfl (by kernel_rfl) Try.func8 (by kernel_rfl)
    (of_decide_eq_true (by kernel_rfl)) (by unfold Func.isWrapper; rw [if_neg (by decide +kernel)]; exact ⟨rfl, rfl⟩)
    (fun os started H enc _ => calJoins_lifted os started H enc)
#print axioms calJoins_holds
end Go.Proofs.Ytglkhoekpafddaa
