/- The document's Factor, Yield and Forward over plain values. -/
import Derived.Test.YtbkmbdbjeiffpaaRaC
namespace Go.Proofs.Ytbkmbdbjeiffpaa
open Go.RowKit

/-- A kind's m as a float. -/
def mW (k : Int) : Nat := if k = 2 then 4607182418800017408 else if k = 3 then 4611686018427387904 else if k = 4 then 4616189618054758400 else 4622945017495814144
noncomputable def facO (k : Int) (r t : Nat) : Option Nat := if k = 1 then simO r t else if k = 6 then conO r t else timO (mW k) r t
noncomputable def yieO (k : Int) (f t : Nat) : Option Nat := if k = 1 then simY f t else if k = 6 then conY f t else timY (mW k) f t
theorem mW_lt (k : Int) : mW k < 18446744073709551616 := by unfold mW; split <;> (try split) <;> (try split) <;> decide
theorem int_doc (n : Int) (u : Nat) (h : fi n = u) (h0 : -9223372036854775808 ≤ n) (h1 : n ≤ 9223372036854775807) : StpI 23 n (u : Int) := fun w => by
  have := refInt_any n w h0 h1
  rw [h] at this; exact this
theorem int_max : StpI 23 1048576 4697254411347427328 := int_doc 1048576 4697254411347427328 (by decide +kernel) (by decide) (by decide)
theorem int_zero : StpI 23 0 ((0 : Nat) : Int) := int_doc 0 0 (by decide +kernel) (by decide) (by decide)
theorem int_times {k : Int} (h : 2 ≤ k ∧ k ≤ 5) : StpI 23 (timesI k) (mW k : Int) := by
  rcases (show k = 2 ∨ k = 3 ∨ k = 4 ∨ k = 5 by omega) with rfl | rfl | rfl | rfl
  · exact int_doc 1 4607182418800017408 (by decide +kernel) (by decide) (by decide)
  · exact int_doc 2 4611686018427387904 (by decide +kernel) (by decide) (by decide)
  · exact int_doc 4 4616189618054758400 (by decide +kernel) (by decide) (by decide)
  · exact int_doc 12 4622945017495814144 (by decide +kernel) (by decide) (by decide)
theorem agU_one : AgU (some one64) 4607182418800017408 := agU_some (by decide)
theorem lt_le {o : Option Nat} {b : Nat} (h : AgU o b) (hl : ltB 0 (b : Int) = true) : leB o = false := by
  unfold ltB at hl
  rw [show nanB 0 = false by decide, show rankI 0 = 0 by decide] at hl
  simp at hl
  cases o with
  | none => rfl
  | some r =>
    have e := ag_some h.1
    rw [← e, leB_some, hl.1]
    simp; omega
theorem lt_no {o : Option Nat} {b : Nat} (h : AgU o b) (hl : ltB 0 (b : Int) = false) : leB o = true ∨ (leB o = false ∧ nanB (b : Int) = true) := by
  cases hn : nanB (b : Int) with
  | true =>
    refine Or.inr ⟨?_, rfl⟩
    cases o with
    | none => rfl
    | some r =>
      have e := ag_some h.1
      rw [← e, leB_some, hn]; rfl
  | false =>
    refine Or.inl ?_
    unfold ltB at hl
    rw [show nanB 0 = false by decide, show rankI 0 = 0 by decide, hn] at hl
    simp at hl
    cases o with
    | none => rw [(ag_none h.1).1] at hn; cases hn
    | some r =>
      have e := ag_some h.1
      rw [← e, leB_some, hn]
      simp; omega
theorem nanW : AgU none 9221120237041090561 := ⟨⟨by decide, by decide⟩, by decide⟩
theorem end_none {z : Nat} (h : Ag none z) : endU (z : Int) = 0 ∧ endE (z : Int) = 91 := by
  unfold endU endE
  rw [fin_nan (ag_none h).1]
  exact ⟨rfl, rfl⟩
theorem end_zero : endU ((0 : Nat) : Int) = 0 ∧ endE ((0 : Nat) : Int) = 91 := by decide

/-- What the document's Factor tells. -/
def DocF (k : Int) (r t z : Nat) : Prop := ∀ w, Calls Try.prog 8 #[.int .i64 k, .int .u64 r, .int .u64 t] w fun e w' => e = .returned (.tuple #[.int .u64 (endU (z : Int)), .int .i64 (endE (z : Int))]) ∧ Below w.heap.size w w'
theorem docF_no {k : Int} {r t z : Nat} (h : endU (z : Int) = 0 ∧ endE (z : Int) = 91) (H : ∀ w, Calls Try.prog 8 #[.int .i64 k, .int .u64 r, .int .u64 t] w fun e w' => e = .returned (.tuple #[.int .u64 0, .int .i64 91]) ∧ Below w.heap.size w w') : DocF k r t z := by
  unfold DocF
  rw [h.1, h.2]; exact H
theorem docFactor {k : Int} {r t : Nat} (hk : 1 ≤ k ∧ k ≤ 6) (hr : r < 18446744073709551616) (ht : t < 18446744073709551616) (ask : askB (r : Int) (t : Int) = true) : ∃ z : Nat, AgU (facO k r t) z ∧ DocF k r t z := by
  have ur := u64_of_nat hr
  have ut := u64_of_nat ht
  unfold facO
  by_cases k1 : k = 1
  · subst k1
    rw [if_pos rfl]
    obtain ⟨m, s1, g1⟩ := mul_doc (agU_some hr) (agU_some ht)
    obtain ⟨b, s2, g2⟩ := add_doc agU_one g1
    cases hA : ltB 0 (b : Int) with
    | true =>
      obtain ⟨f, s3, g3⟩ := div_doc agU_one g2
      refine ⟨f, ?_, fun w => refFactor_simple r t _ m b f w ur ut ask int_max int_zero s1 s2 g2.u hA s3 g3.u⟩
      unfold simO
      rw [lt_le (o := simB r t) g2 hA, if_neg (by decide)]; exact g3
    | false =>
      have H := fun w => refFactor_simple_no r t _ m b w ur ut ask int_max int_zero s1 s2 g2.u hA
      unfold simO
      rcases lt_no (o := simB r t) g2 hA with h1 | ⟨h1, h2⟩
      · rw [h1, if_pos rfl]
        exact ⟨0, agU_some (by decide), docF_no end_zero H⟩
      · rw [h1, if_neg (by decide), opO_ag (o' := simB r t) agU_one.1 g2.1, nan_right h2]
        exact ⟨_, nanW, docF_no (end_none nanW.1) H⟩
  rw [if_neg k1]
  by_cases k6 : k = 6
  · subst k6
    rw [if_pos rfl]
    obtain ⟨m, s1, g1⟩ := mul_doc (agU_some hr) (agU_some ht)
    obtain ⟨n, s2, g2⟩ := flip_doc g1
    obtain ⟨f, s3, g3⟩ := exp_doc g2
    exact ⟨f, g3, fun w => refFactor_cont r t _ m n f w ur ut ask int_max int_zero s1 s2 s3 g3.u⟩
  rw [if_neg k6]
  have hk2 : 2 ≤ k ∧ k ≤ 5 := by omega
  have HM := int_times hk2
  have hm := mW_lt k
  generalize mW k = mm at *
  obtain ⟨q, s1, g1⟩ := div_doc (agU_some hr) (agU_some hm)
  obtain ⟨b, s2, g2⟩ := add_doc agU_one g1
  cases hA : ltB 0 (b : Int) with
  | true =>
    obtain ⟨p1, s3, g3⟩ := mul_doc (agU_some hm) (agU_some ht)
    obtain ⟨l, s4, g4⟩ := ln_doc g2
    obtain ⟨p2, s5, g5⟩ := mul_doc g3 g4
    obtain ⟨n, s6, g6⟩ := flip_doc g5
    obtain ⟨f, s7, g7⟩ := exp_doc g6
    refine ⟨f, ?_, fun w => refFactor_times k r t mm q b l p1 p2 n f w ur ut ask int_max hk2 HM s1 s2 g2.u hA s3 s4 s5 s6 s7 g7.u⟩
    unfold timO
    rw [lt_le (o := timB mm r) g2 hA, if_neg (by decide)]; exact g7
  | false =>
    have H := fun w => refFactor_times_no k r t mm q b w ur ut ask int_max hk2 HM s1 s2 g2.u hA
    unfold timO
    rcases lt_no (o := timB mm r) g2 hA with h1 | ⟨h1, h2⟩
    · rw [h1, if_pos rfl]
      exact ⟨0, agU_some (by decide), docF_no end_zero H⟩
    · rw [h1, if_neg (by decide), lnO1_ag (o := timB mm r) g2.1 g2.2, (lnF_says g2.2).nan h2]
      rw [show opO .mul (opO .mul (some mm) (some t)) none = none by unfold opO; cases (some mm).bind fun a => (some t).bind fun b => floatBits .mul .f64 a b <;> rfl]
      exact ⟨_, nanW, docF_no (end_none nanW.1) H⟩

/-- What the document's Yield tells. -/
def DocY (k : Int) (f t z : Nat) : Prop := ∀ w, Calls Try.prog 13 #[.int .i64 k, .int .u64 f, .int .u64 t] w fun e w' => e = .returned (.tuple #[.int .u64 (enyU (z : Int)), .int .i64 (enyE (z : Int))]) ∧ Below w.heap.size w w'
theorem docYield {k : Int} {f t : Nat} (hk : 1 ≤ k ∧ k ≤ 6) (hf : f < 18446744073709551616) (ht : t < 18446744073709551616) (ask : asyB (f : Int) (t : Int) = true) : ∃ z : Nat, AgU (yieO k f t) z ∧ DocY k f t z := by
  have uf := u64_of_nat hf
  have ut := u64_of_nat ht
  obtain ⟨l, s1, g1⟩ := ln_doc (agU_some hf)
  obtain ⟨n, s2, g2⟩ := flip_doc g1
  unfold yieO
  by_cases k1 : k = 1
  · subst k1
    rw [if_pos rfl]
    obtain ⟨q, s3, g3⟩ := div_doc agU_one (agU_some hf)
    obtain ⟨d, s4, g4⟩ := sub_doc g3 agU_one
    obtain ⟨r, s5, g5⟩ := div_doc g4 (agU_some ht)
    exact ⟨r, g5, fun w => refYield_simple f t _ l n q d r w uf ut ask int_max s1 s2 int_zero s3 s4 s5 g5.u⟩
  rw [if_neg k1]
  by_cases k6 : k = 6
  · subst k6
    rw [if_pos rfl]
    obtain ⟨r, s3, g3⟩ := div_doc g2 (agU_some ht)
    exact ⟨r, g3, fun w => refYield_cont f t _ l n r w uf ut ask int_max s1 s2 int_zero s3 g3.u⟩
  rw [if_neg k6]
  have hk2 : 2 ≤ k ∧ k ≤ 5 := by omega
  have HM := int_times hk2
  have hm := mW_lt k
  generalize mW k = mm at *
  obtain ⟨p, s3, g3⟩ := mul_doc (agU_some hm) (agU_some ht)
  obtain ⟨q, s4, g4⟩ := div_doc g2 g3
  obtain ⟨x, s5, g5⟩ := exp_doc g4
  obtain ⟨d, s6, g6⟩ := sub_doc g5 agU_one
  obtain ⟨r, s7, g7⟩ := mul_doc (agU_some hm) g6
  exact ⟨r, g7, fun w => refYield_times k f t mm l n p q x d r w uf ut ask int_max s1 s2 hk2 HM s3 s4 s5 s6 s7 g7.u⟩

def fwdO (a b c : Nat) : Option Nat := opO .quo (opO .sub (opO .quo (some a) (some b)) (some one64)) (some c)
