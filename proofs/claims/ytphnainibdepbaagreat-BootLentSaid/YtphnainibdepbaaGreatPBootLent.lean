/- The statement of BootLent: for every input the law answers true, and what it was handed reads as before. -/
import Derived.Test.YtphnainibdepbaaGreatWBootLentW
import Derived.Test.YtphnainibdepbaaGreatHaz
import Derived.Test.YtphnainibdepbaaGreatHap
namespace Go.Proofs.YtphnainibdepbaaGreat
open Go.ChangeShapes Go.WideShapes Go.ChangeAt Go.RowKit

theorem bootLent_own : ownKnob Tryz.prog.godebug = none := by kernel_rfl

set_option maxRecDepth 100000 in
theorem bootLent_lifted (os : Os) (started : os.Started) (H : Type) (enc : TypeId × Value → H) :
    ReturnsInHanded {} Tryz.checked os 3 .any (Rows.bootLentSpec.pre6 enc Tryz.prog Tryz.f3 Rows.bootLentRow.domain false) (Rows.bootLentSpec.post enc Tryz.prog Tryz.f3 false true false false) := by
  refine returnsInHanded_of_change_sized (C := Tryz.checked) bootLent_own started (by kernel_rfl) Tryz.func3
    (ChangeSpec.witness6 (enc := enc) (C := Tryz.checked) false ⟨#[], #[.int .i64 0, .int .i64 0, .agg #[.int .i64 0, .slice none 0 0], .slice none 0 0], []⟩ 8 (by kernel_rfl) (by kernel_rfl) (by kernel_rfl) (by kernel_rfl)) ?_
  intro W base args ds gs before hval0 hW hcnd hsz0 _
  have hval : ∀ (j : Nat) t v, Tryz.f3.params[j]? = some t → args[j]? = some v → Value.okWide Tryz.prog W .any base t v := hval0
  have hW' := hW
  obtain ⟨p, q, hA0, hV, rfl, hfz, hnd⟩ := hW
  have hA : DataW.TrodAll enc Tryz.prog W 0 (fun _ => true) true Tryz.f3.params.toList args.toList ds p := hA0
  rw [Tryz.params3] at hA hval
  obtain ⟨v0, vs0, d0, ds0, p0, q0, hargs, rfl, rfl, h0, r0⟩ := trodAll_cons hA
  obtain ⟨v1, vs1, d1, ds1, p1, q1, rfl, rfl, rfl, h1, r1⟩ := trodAll_cons r0
  obtain ⟨v2, vs2, d2, ds2, p2, q2, rfl, rfl, rfl, h2, r2⟩ := trodAll_cons r1
  obtain ⟨v3, vs3, d3, ds3, p3, q3, rfl, rfl, rfl, h3, r3⟩ := trodAll_cons r2
  obtain ⟨rfl, rfl, rfl⟩ := trodAll_nil r3
  obtain rfl : args = #[v0, v1, v2, v3] := by cases args; simp_all
  obtain ⟨rfl, rfl⟩ := trodVars_none hV
  obtain ⟨a0, rfl, rfl, rfl, w0⟩ := open_int Tryz.underlying3 (hval 0 3 v0 rfl rfl) h0
  obtain ⟨a1, rfl, rfl, rfl, w1⟩ := open_int Tryz.underlying3 (hval 1 3 v1 rfl rfl) h1
  obtain ⟨wk2, ao2, len2, cap2, rfl, wkI2, hl2, hm2, b2, off2, rs2, hlen2, hsrc2, hI2⟩ := cal_source (hval 2 24 v2 rfl rfl) h2
  obtain ⟨pq3, lq3, cq3, rfl⟩ := okWide_slice Tryz.underlying25 (hval 3 25 v3 rfl rfl)
  have hq3 := h3
  obtain ⟨fu3, hf3⟩ := h3
  obtain ⟨_, _, _, hvq3, hlq3, hmq3, bq3, oq3, qs3, hql3, hqs3, hqI3⟩ := quotes_source (v := .slice pq3 lq3 cq3) hf3
  injection hvq3 with e1q3 e2q3 e3q3
  subst e1q3 e2q3 e3q3
  clear hA0 hval0 hsz0
  simp only [List.append_nil] at hW'
  have hlt2 : ∀ x ∈ p2, x.block < W.heap.size := fun x hx => by simpa using hW'.lt x (by simp [hx])
  have hlt3 : ∀ x ∈ p3, x.block < W.heap.size := fun x hx => by simpa using hW'.lt x (by simp [hx])
  subst hlen2
  have hM2 : rs2.length ≤ 9223372036854775807 := by
    have : cap2 ≤ 9223372036854775807 := by simpa [maxLen] using hm2
    omega
  subst hql3
  have hMq3 : cq3 ≤ 9223372036854775807 := by simpa [maxLen] using hmq3
  have hwalk := bootLent_walk a0 a1 wk2 ao2 b2 off2 cap2 rs2 pq3 bq3 oq3 cq3 qs3 W hsrc2 hM2 hqs3 hqI3 hlq3 hMq3 (ti64_of_wf w0) (ti64_of_wf w1) (quo_nil hf3)
  refine hwalk.mono fun e W' ⟨he, hg⟩ => ?_
  subst he
  exact ⟨_, rfl, _, _, _, [], _, [], hW', (trodAll_cons_mk (shut_bool Tryz.underlying4 _) trodAll_mk0), (trodAll_cons_mk (shut_int Tryz.underlying3 w0) (trodAll_cons_mk (shut_int Tryz.underlying3 w1) (trodAll_cons_mk (Below.trod cal_laid (by kernel_rfl) (of_decide_eq_true (by kernel_rfl)) h2 hg hlt2) (trodAll_cons_mk (Below.trod cal_laid (by kernel_rfl) (of_decide_eq_true (by kernel_rfl)) hq3 hg hlt3) trodAll_mk0)))), rfl, hg.frame _, fun h => by cases h⟩

theorem bootLent_holds : Rows.BootLentSaid :=
  OpenClaim.holds_of_wide 3 Tryz.f3 rfl rfl rfl rfl rfl rfl rfl ⟨rfl, rfl, rfl, rfl, rfl⟩ rfl rfl rfl rfl rfl (by kernel_rfl) Tryz.func3 (by kernel_rfl)
    (of_decide_eq_true (by kernel_rfl)) (by unfold Func.isWrapper; rw [if_neg (by decide +kernel)]; exact ⟨rfl, rfl⟩)
    (fun os started H enc _ => bootLent_lifted os started H enc)
#print axioms bootLent_holds
end Go.Proofs.YtphnainibdepbaaGreat
