/- Plain arithmetic on the bits of a binary64, as whole numbers: no word of the program. -/
import Derived.Laws.BitsAllLaws
import Derived.Laws.Bits64b
namespace Go.Proofs.YtgpcebjcleljkaaGreatDoor

def szI (u : Int) : Int := u % 9223372036854775808
def sgB (u : Int) : Bool := decide (9223372036854775808 ≤ u)
def nanB (u : Int) : Bool := decide (9218868437227405312 < szI u)
def clsI (u : Int) : Int := if szI u = 0 then 1 else if szI u < 4503599627370496 then 2 else if szI u < 9218868437227405312 then 3 else if szI u = 9218868437227405312 then 4 else 5
def U64 (u : Int) : Prop := 0 ≤ u ∧ u < 18446744073709551616

theorem szI_lo (u : Int) : 0 ≤ szI u := by unfold szI; omega
theorem szI_hi (u : Int) : szI u ≤ 9223372036854775807 := by unfold szI; omega
theorem and_mask63 (b : Nat) : b &&& 9223372036854775807 = b % 9223372036854775808 := by
  have := Nat.and_two_pow_sub_one_eq_mod b 63
  simpa using this

theorem andNot_sz {u : Int} (h : U64 u) : bits .andNot .u64 u 9223372036854775808 = szI u := by
  obtain ⟨b, rfl⟩ := Int.eq_ofNat_of_zero_le h.1
  have := u64_andNot_nat b 9223372036854775808 (by have := h.2; omega) (by decide)
  rw [show ((9223372036854775808 : Nat) : Int) = 9223372036854775808 from rfl] at this
  rw [this, show (18446744073709551615 - 9223372036854775808 : Nat) = 9223372036854775807 from rfl, and_mask63]
  unfold szI; omega

theorem and_pow (b k : Nat) : b &&& 2 ^ k = if b.testBit k then 2 ^ k else 0 := by
  apply Nat.eq_of_testBit_eq
  intro i
  rw [Nat.testBit_and, Nat.testBit_two_pow]
  by_cases hi : k = i
  · subst hi; cases b.testBit k <;> simp
  · cases b.testBit k <;> simp [hi]

theorem and_sg {u : Int} (h : U64 u) : bits .and .u64 u 9223372036854775808 = if sgB u then 9223372036854775808 else 0 := by
  obtain ⟨b, rfl⟩ := Int.eq_ofNat_of_zero_le h.1
  have hb : b < 18446744073709551616 := by have := h.2; omega
  have := bits_and_u64_nat b 9223372036854775808 hb (by decide)
  rw [show ((9223372036854775808 : Nat) : Int) = 9223372036854775808 from rfl] at this
  rw [this]
  have e : b &&& 9223372036854775808 = if sgB b then 9223372036854775808 else 0 := by
    have h2 := and_pow b 63
    have h3 : b.testBit 63 = sgB b := by
      rw [Nat.testBit_eq_decide_div_mod_eq]
      unfold sgB
      apply decide_eq_decide.2
      omega
    rw [h3] at h2
    rw [show (2 : Nat) ^ 63 = 9223372036854775808 from rfl] at h2
    exact h2
  rw [e]; cases sgB b <;> rfl

theorem cls_cases (u : Int) : (szI u = 0 ∧ clsI u = 1) ∨ ((0 < szI u ∧ szI u < 4503599627370496) ∧ clsI u = 2) ∨ ((4503599627370496 ≤ szI u ∧ szI u < 9218868437227405312) ∧ clsI u = 3) ∨ (szI u = 9218868437227405312 ∧ clsI u = 4) ∨ (9218868437227405312 < szI u ∧ clsI u = 5) := by
  have hlo := szI_lo u
  unfold clsI
  by_cases h0 : szI u = 0
  · rw [if_pos h0]; exact Or.inl ⟨h0, rfl⟩
  rw [if_neg h0]
  by_cases h1 : szI u < 4503599627370496
  · rw [if_pos h1]; exact Or.inr (Or.inl ⟨⟨by omega, h1⟩, rfl⟩)
  rw [if_neg h1]
  by_cases h2 : szI u < 9218868437227405312
  · rw [if_pos h2]; exact Or.inr (Or.inr (Or.inl ⟨⟨by omega, h2⟩, rfl⟩))
  rw [if_neg h2]
  by_cases h3 : szI u = 9218868437227405312
  · rw [if_pos h3]; exact Or.inr (Or.inr (Or.inr (Or.inl ⟨h3, rfl⟩)))
  · rw [if_neg h3]; exact Or.inr (Or.inr (Or.inr (Or.inr ⟨by omega, rfl⟩)))
end Go.Proofs.YtgpcebjcleljkaaGreatDoor
