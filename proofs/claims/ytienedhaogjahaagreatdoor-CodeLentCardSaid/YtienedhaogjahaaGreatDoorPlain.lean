/- Plain arithmetic on the bits of a binary64, as whole numbers: no word of the program. -/
import Derived.Laws.BitsAllLaws
import Derived.Laws.Bits64b
namespace Go.Proofs.YtienedhaogjahaaGreatDoor

def szI (u : Int) : Int := u % 9223372036854775808
def sgB (u : Int) : Bool := decide (9223372036854775808 ≤ u)
def nanB (u : Int) : Bool := decide (9218868437227405312 < szI u)
def rankI (u : Int) : Int := if nanB u then 0 else if sgB u then -(szI u) else szI u
def U64 (u : Int) : Prop := 0 ≤ u ∧ u < 18446744073709551616

theorem and_mask63 (b : Nat) : b &&& 9223372036854775807 = b % 9223372036854775808 := by
  have := Nat.and_two_pow_sub_one_eq_mod b 63
  simpa using this

theorem andNot_sz {u : Int} (h : U64 u) : bits .andNot .u64 u 9223372036854775808 = szI u := by
  obtain ⟨b, rfl⟩ := Int.eq_ofNat_of_zero_le h.1
  have := u64_andNot_nat b 9223372036854775808 (by have := h.2; omega) (by decide)
  rw [show ((9223372036854775808 : Nat) : Int) = 9223372036854775808 from rfl] at this
  rw [this, show (18446744073709551615 - 9223372036854775808 : Nat) = 9223372036854775807 from rfl, and_mask63]
  unfold szI; omega

theorem u64_of_nat {b : Nat} (h : b < 18446744073709551616) : U64 (b : Int) := by unfold U64; omega
end Go.Proofs.YtienedhaogjahaaGreatDoor
