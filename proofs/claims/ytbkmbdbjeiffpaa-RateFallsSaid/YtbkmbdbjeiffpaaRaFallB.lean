/- Factors under the simple kind and forwards, where their arguments rise: plain words. -/
import Derived.Test.YtbkmbdbjeiffpaaRaN
import Derived.Test.YtbkmbdbjeiffpaaHbc
namespace Go.Proofs.Ytbkmbdbjeiffpaa
open Go.RowKit

/-- A word of rank from 0 on that is no number is the infinity. -/
theorem inf_of_rank {m : Nat} {k : Int} (h : RkW m k) (h0 : 0 ≤ k) (hn : ¬ NumB m) : m = 9218868437227405312 := by
  have hl := nan_false h.2.2
  unfold NumB at hn
  have h64 := h.2.1
  rcases (show m = 9218868437227405312 ∨ m = 18442240474082181120 by omega) with e | e
  · exact e
  · subst e
    have := h.1
    rw [show rankI ((18442240474082181120 : Nat) : Int) = -9218868437227405312 by decide] at this
    omega
theorem inf_either {m : Nat} {k : Int} (h : RkW m k) (hn : ¬ NumB m) : m = 9218868437227405312 ∨ m = 18442240474082181120 := by
  have hl := nan_false h.2.2
  unfold NumB at hn
  have h64 := h.2.1
  omega
theorem sim_parts {r t z : Nat} (hz : Ag (simO r t) z) (h : endE (z : Int) = 0) : ∃ m b, floatBits .mul .f64 r t = some m ∧ floatBits .add .f64 4607182418800017408 m = some b ∧ floatBits .quo .f64 4607182418800017408 b = some z ∧ finB (z : Int) = true ∧ szI (z : Int) ≠ 0 := by
  rcases end_cases (z : Int) with ⟨_, _, e⟩ | ⟨_, _, _, e⟩ | ⟨e1, e2, _, _⟩
  · omega
  · omega
  · cases hs : simO r t with
    | none => rw [hs] at hz; rw [fin_nan (ag_none hz).1] at e1; cases e1
    | some q =>
      rw [hs] at hz
      obtain rfl := ag_some hz
      unfold simO at hs
      cases hl : leB (simB r t) with
      | true =>
        rw [hl, if_pos rfl] at hs
        obtain rfl := Option.some.inj hs
        exact absurd rfl e2
      | false =>
        rw [hl, if_neg (by decide)] at hs
        cases hb : simB r t with
        | none => rw [hb] at hs; cases hs
        | some b =>
          rw [hb] at hs
          unfold simB at hb
          cases hm : opO .mul (some r) (some t) with
          | none => rw [hm] at hb; cases hb
          | some m =>
            rw [hm] at hb
            exact ⟨m, b, hm, hb, hs, e1, e2⟩
/-- The greater product has the lesser factor. -/
theorem fall2 {r t r' t' z z' : Nat} (hr : NumB r) (ht : NumB t) (hr' : NumB r') (ht' : NumB t') (r0 : 0 ≤ vI r) (t0 : 0 ≤ vI t) (hrr : vI r ≤ vI r') (htt : vI t ≤ vI t') (hz : Ag (simO r t) z) (hz' : Ag (simO r' t') z') (h : endE (z : Int) = 0) (h' : endE (z' : Int) = 0) : rankI (z' : Int) ≤ rankI (z : Int) := by
  obtain ⟨m, b, e1, e2, e3, _, _⟩ := sim_parts hz h
  obtain ⟨m', b', d1, d2, d3, d4, d5⟩ := sim_parts hz' h'
  have km' := step_fit (mul_rank hr' ht') d1
  have m0 := (mul_up hr hr' ht ht' r0 t0 hrr htt e1 d1)
  have nm' : NumB m' := Decidable.byContradiction fun hn => by
    have := inf_of_rank km' (by rw [← km'.1]; omega) hn
    subst this
    rw [show floatBits .add .f64 4607182418800017408 9218868437227405312 = some 9218868437227405312 by decide +kernel] at d2
    obtain rfl := Option.some.inj d2
    rw [show floatBits .quo .f64 4607182418800017408 9218868437227405312 = some 0 by decide +kernel] at d3
    obtain rfl := Option.some.inj d3
    exact d5 rfl
  have kb' := step_fit (add_rank one_num nm') d2
  have nb' : NumB b' := Decidable.byContradiction fun hn => by
    rcases inf_either kb' hn with e | e
    · subst e
      rw [show floatBits .quo .f64 4607182418800017408 9218868437227405312 = some 0 by decide +kernel] at d3
      obtain rfl := Option.some.inj d3
      exact d5 rfl
    · subst e
      rw [show floatBits .quo .f64 4607182418800017408 18442240474082181120 = some 9223372036854775808 by decide +kernel] at d3
      obtain rfl := Option.some.inj d3
      exact d5 rfl
  exact simple_falls hr ht hr' ht' r0 t0 hrr htt e1 d1 nm' e2 d2 nb' e3 d3
theorem eny_zero {z : Nat} (h : enyE (z : Int) = 0) : finB (z : Int) = true ∧ enyN z = z := by
  rcases eny_cases (z : Int) with ⟨_, _, e⟩ | ⟨e, _, _⟩
  · omega
  · exact ⟨e, by unfold enyN; rw [if_pos e]⟩
theorem fwd_parts {a b c z : Nat} (ha : NumB a) (hb : NumB b) (hc : NumB c) (hb0 : b % 9223372036854775808 ≠ 0) (hz : Ag (fwdO a b c) z) (h : enyE (z : Int) = 0) : ∃ q d, floatBits .quo .f64 a b = some q ∧ floatBits .sub .f64 q 4607182418800017408 = some d ∧ floatBits .quo .f64 d c = some z ∧ NumB q ∧ NumB d ∧ q < 18446744073709551616 ∧ d < 18446744073709551616 := by
  obtain ⟨hf, _⟩ := eny_zero h
  have nz := num_fin hf
  obtain ⟨q, e1, k1⟩ := quo_rank ha hb hb0
  have infz : ∀ d : Nat, d % 9223372036854775808 = 9218868437227405312 → floatBits .quo .f64 d c = some z → False := fun d hd e => by
    rw [quo_inf hd hc] at e
    have := Option.some.inj e
    rw [← this] at nz
    generalize (sB d ^^ sB c) = x at nz
    cases x
    · exact absurd nz (by unfold NumB wrd; decide)
    · exact absurd nz (by unfold NumB wrd; decide)
  unfold fwdO at hz
  rw [show opO .quo (some a) (some b) = _ from e1] at hz
  have zs : ∀ d, floatBits .sub .f64 q 4607182418800017408 = some d → floatBits .quo .f64 d c = some z := fun d hd => by
    rw [show opO .sub (some q) (some one64) = _ from hd] at hz
    have hz2 : Ag (floatBits .quo .f64 d c) z := hz
    cases e : floatBits .quo .f64 d c with
    | none => rw [e] at hz2; rw [fin_nan (ag_none hz2).1] at hf; cases hf
    | some y => rw [e] at hz2; rw [ag_some hz2]
  have nq : NumB q := Decidable.byContradiction fun hn => by
    rcases inf_either k1 hn with e | e
    · subst e
      exact infz 9218868437227405312 rfl (zs _ (by decide +kernel))
    · subst e
      exact infz 18442240474082181120 rfl (zs _ (by decide +kernel))
  obtain ⟨d, e2, k2⟩ := sub_rank nq one_num
  have nd : NumB d := Decidable.byContradiction fun hn => by
    rcases inf_either k2 hn with e | e
    · subst e
      exact infz 9218868437227405312 rfl (zs _ e2)
    · subst e
      exact infz 18442240474082181120 rfl (zs _ e2)
  exact ⟨q, d, e1, e2, zs d e2, nq, nd, k1.2.1, k2.2.1⟩
/-- The rest of Forward goes with its first quotient. -/
theorem fwd_rest {q q' d d' c z z' : Nat} (nq : NumB q) (nq' : NumB q') (nd : NumB d) (nd' : NumB d') (q2 : q < 18446744073709551616) (q2' : q' < 18446744073709551616) (d2 : d < 18446744073709551616) (d2' : d' < 18446744073709551616) (hc : NumB c) (c0 : 0 < vI c) (h : rankI (q : Int) ≤ rankI (q' : Int)) (e1 : floatBits .sub .f64 q 4607182418800017408 = some d) (e1' : floatBits .sub .f64 q' 4607182418800017408 = some d') (e2 : floatBits .quo .f64 d c = some z) (e2' : floatBits .quo .f64 d' c = some z') : rankI (z : Int) ≤ rankI (z' : Int) := by
  have v1 := (rank_le_iff nq nq' q2 q2').1 h
  have k1 := sub_up nq nq' one_num v1 e1 e1'
  have v2 := (rank_le_iff nd nd' d2 d2').1 k1
  exact quo_up nd nd' hc c0 v2 e2 e2'
theorem near_up {r s t z z' : Nat} (hr : NumB r) (hs : NumB s) (ht : NumB t) (t0 : 0 < vI t) (h : vI r ≤ vI s) (hz : Ag (fwdO r 4607182418800017408 t) z) (hz' : Ag (fwdO s 4607182418800017408 t) z') (e : enyE (z : Int) = 0) (e' : enyE (z' : Int) = 0) : rankI (z : Int) ≤ rankI (z' : Int) := by
  obtain ⟨q, d, a1, a2, a3, a4, a5, a6, a7⟩ := fwd_parts hr one_num ht (by decide) hz e
  obtain ⟨q', d', b1, b2, b3, b4, b5, b6, b7⟩ := fwd_parts hs one_num ht (by decide) hz' e'
  exact fwd_rest a4 b4 a5 b5 a6 b6 a7 b7 ht t0 (quo_up hr hs one_num one_pos h a1 b1) a2 b2 a3 b3
theorem far_down {r s t z z' : Nat} (hr : NumB r) (hs : NumB s) (ht : NumB t) (r0 : 0 < vI r) (t0 : 0 < vI t) (h : vI r ≤ vI s) (hz : Ag (fwdO 4607182418800017408 r t) z) (hz' : Ag (fwdO 4607182418800017408 s t) z') (e : enyE (z : Int) = 0) (e' : enyE (z' : Int) = 0) : rankI (z' : Int) ≤ rankI (z : Int) := by
  obtain ⟨q, d, a1, a2, a3, a4, a5, a6, a7⟩ := fwd_parts one_num hr ht (sB_pos r0).2.2 hz e
  obtain ⟨q', d', b1, b2, b3, b4, b5, b6, b7⟩ := fwd_parts one_num hs ht (sB_pos (b := s) (by omega)).2.2 hz' e'
  exact fwd_rest b4 a4 b5 a5 b6 a6 b7 a7 ht t0 (quo_down one_num hr hs one_pos r0 h a1 b1) b2 a2 b3 a3
end Go.Proofs.Ytbkmbdbjeiffpaa
