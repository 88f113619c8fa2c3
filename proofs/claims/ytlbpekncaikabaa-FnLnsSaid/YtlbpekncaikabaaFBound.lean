/- How far a sum and a product lie from what they are rounded from; Exp's rest is small. -/
import Derived.Test.YtlbpekncaikabaaFFloor
namespace Go.Proofs.Ytlbpekncaikabaa

theorem vI_wrd {s : Bool} {r : Nat} (h : r < 9218868437227405312) : vI (wrd s r) = sgZ s (V r) ∧ NumB (wrd s r) ∧ wrd s r < 18446744073709551616 ∧ sB (wrd s r) = s := by
  cases s
  · have e : wrd false r = r := rfl
    rw [e]
    refine ⟨?_, ?_, by omega, ?_⟩
    · rw [vI_sgZ]
      unfold sB aV
      rw [show r / 9223372036854775808 % 2 = 0 by omega, show r % 9223372036854775808 = r by omega]; rfl
    · unfold NumB; omega
    · unfold sB; rw [show r / 9223372036854775808 % 2 = 0 by omega]; rfl
  · have e : wrd true r = 9223372036854775808 + r := rfl
    rw [e]
    refine ⟨?_, ?_, by omega, ?_⟩
    · rw [vI_sgZ]
      unfold sB aV
      rw [show (9223372036854775808 + r) / 9223372036854775808 % 2 = 1 by omega, show (9223372036854775808 + r) % 9223372036854775808 = r by omega]; rfl
    · unfold NumB; omega
    · unfold sB; rw [show (9223372036854775808 + r) / 9223372036854775808 % 2 = 1 by omega]; rfl
theorem joinN_wrd {T e : Int} (h : T ≠ 0) : joinN T e = wrd (decide (T < 0)) (nearR T.natAbs e) := by
  unfold joinN wrd
  rw [if_neg h]
  by_cases hn : T < 0
  · rw [if_pos hn, if_pos (by simpa using hn)]
  · rw [if_neg hn, if_neg (by simpa using hn)]
theorem sgZ_rI {k : Nat} {T : Int} : sgZ (decide (T < 0)) (V (nearR T.natAbs (-1074 - (k : Int)))) = rI k T := by
  unfold sgZ rI
  by_cases hn : T < 0
  · rw [if_pos (by simpa using hn), if_pos hn]
  · rw [if_neg (by simpa using hn), if_neg hn]
theorem rI_zero (k : Nat) : rI k 0 = 0 := by
  unfold rI
  rw [if_neg (by decide), Int.natAbs_zero, nearR_zero (by omega), V_zero]; rfl
/-- A sum's worth. -/
theorem add_worth {x y : Nat} (hx : NumB x) (hy : NumB y) (hf : FinR 0 (vI x + vI y)) : ∃ z, floatBits .add .f64 x y = some z ∧ NumB z ∧ z < 18446744073709551616 ∧ vI z = rI 0 (vI x + vI y) := by
  refine ⟨_, add_num hx hy, ?_⟩
  unfold addR
  generalize vI x + vI y = T at *
  by_cases h0 : T = 0
  · rw [if_pos h0, h0, rI_zero]
    split
    · exact ⟨by unfold NumB; decide, by decide, by decide⟩
    · exact ⟨by unfold NumB; decide, by decide, by decide⟩
  · rw [if_neg h0, joinN_wrd h0]
    have hf' : nearR T.natAbs (-1074) < 9218868437227405312 := hf
    obtain ⟨a, b, c, _⟩ := vI_wrd (s := decide (T < 0)) hf'
    refine ⟨b, c, ?_⟩
    rw [a]
    exact sgZ_rI (k := 0)
theorem sub_worth {x y : Nat} (hx : NumB x) (hy : NumB y) (hf : FinR 0 (vI x - vI y)) : ∃ z, floatBits .sub .f64 x y = some z ∧ NumB z ∧ z < 18446744073709551616 ∧ vI z = rI 0 (vI x - vI y) := by
  refine ⟨_, sub_num hx hy, ?_⟩
  unfold addR
  generalize vI x - vI y = T at *
  by_cases h0 : T = 0
  · rw [if_pos h0, h0, rI_zero]
    split
    · exact ⟨by unfold NumB; decide, by decide, by decide⟩
    · exact ⟨by unfold NumB; decide, by decide, by decide⟩
  · rw [if_neg h0, joinN_wrd h0]
    have hf' : nearR T.natAbs (-1074) < 9218868437227405312 := hf
    obtain ⟨a, b, c, _⟩ := vI_wrd (s := decide (T < 0)) hf'
    refine ⟨b, c, ?_⟩
    rw [a]
    exact sgZ_rI (k := 0)
theorem natAbs_vI (x : Nat) : (vI x).natAbs = aV x := by rw [vI_sgZ]; unfold sgZ; cases sB x <;> simp
theorem vI_neg_iff {x : Nat} (h : vI x ≠ 0) : decide (vI x < 0) = sB x := by
  rw [vI_sgZ] at h ⊢
  unfold sgZ at *
  cases sB x
  · simp
  · simp only [if_true] at *; simp; omega
theorem sign_mul {a b : Int} (ha : a ≠ 0) (hb : b ≠ 0) : (decide (a < 0) ^^ decide (b < 0)) = decide (a * b < 0) := by
  rcases Int.lt_or_lt_of_ne ha with pa | pa <;> rcases Int.lt_or_lt_of_ne hb with pb | pb
  · have := Int.mul_pos_of_neg_of_neg pa pb; simp [pa, pb]; omega
  · have := Int.mul_neg_of_neg_of_pos pa pb; simp [pa, this]; omega
  · have := Int.mul_neg_of_pos_of_neg pa pb; simp [pb, this]; omega
  · have := Int.mul_pos pa pb
    rw [decide_eq_false (show ¬ a < 0 by omega), decide_eq_false (show ¬ b < 0 by omega), decide_eq_false (show ¬ a * b < 0 by omega)]; rfl
theorem mul_worth {x y K : Nat} (hK : K = 1074) (hx : NumB x) (hy : NumB y) (hf : FinR K (vI x * vI y)) : ∃ z, floatBits .mul .f64 x y = some z ∧ NumB z ∧ z < 18446744073709551616 ∧ vI z = rI K (vI x * vI y) := by
  refine ⟨_, mul_num hx hy, ?_⟩
  unfold mulR
  rw [← natAbs_vI, ← natAbs_vI, ← Int.natAbs_mul]
  by_cases h0 : vI x * vI y = 0
  · rw [h0, Int.natAbs_zero, if_pos rfl, rI_zero]
    obtain ⟨a, b, c, _⟩ := vI_wrd (s := sB x ^^ sB y) (r := 0) (by decide)
    refine ⟨b, c, ?_⟩
    rw [a, V_zero]; unfold sgZ; split <;> rfl
  · have hx0 : vI x ≠ 0 := fun h => h0 (by rw [h, Int.zero_mul])
    have hy0 : vI y ≠ 0 := fun h => h0 (by rw [h, Int.mul_zero])
    rw [if_neg (by omega), ← vI_neg_iff hx0, ← vI_neg_iff hy0, sign_mul hx0 hy0]
    unfold FinR at hf
    rw [show (-1074 - (K : Int)) = -2148 by omega] at hf
    obtain ⟨a, b, c, _⟩ := vI_wrd (s := decide (vI x * vI y < 0)) hf
    refine ⟨b, c, ?_⟩
    rw [a]
    have := sgZ_rI (k := K) (T := vI x * vI y)
    rw [show (-1074 - (K : Int)) = -2148 by omega] at this
    exact this
end Go.Proofs.Ytlbpekncaikabaa
