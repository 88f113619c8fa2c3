/- The contracts of shiftNear, near and Join: the nearest number. The contract of Split. -/
import Derived.Test.YtcbbbkngjdlcjaaHaf
import Derived.Test.YtcbbbkngjdlcjaaHab
namespace Go.Proofs.Ytcbbbkngjdlcjaa
open Go.RowKit

theorem and1_u64 {E : Int} (h0 : 0 ≤ E) (h1 : E ≤ 18446744073709551615) : bits .and .u64 E 1 = E % 2 := and_one_u64 E h0 h1

/-- What shiftNear reckons, as the walk spells it. -/
def upOne (kept lost : Int) : Int := if 9223372036854775808 < lost ∨ (lost = 9223372036854775808 ∧ kept % 2 = 1) then kept + 1 else kept

theorem lost_eq {u d : Nat} (hd : d ≤ 64) : IntKind.u64.wrap ((u : Int) * 2 ^ (64 - (d : Int)).toNat) = ((u % 2 ^ d * 2 ^ (64 - d) : Nat) : Int) := by
  rw [IntKind.wrap_u64, show (64 - (d : Int)).toNat = 64 - d by omega]
  have e : ((u : Int) * 2 ^ (64 - d)) = ((u * 2 ^ (64 - d) : Nat) : Int) := by rw [Int.natCast_mul, Int.natCast_pow]; rfl
  rw [e]
  have h64 : (18446744073709551616 : Nat) = 2 ^ d * 2 ^ (64 - d) := by rw [← Nat.pow_add, show d + (64 - d) = 64 by omega]
  rw [show (18446744073709551616 : Int) = ((2 ^ d * 2 ^ (64 - d) : Nat) : Int) by rw [← h64]; rfl, ← Int.natCast_emod, Nat.mul_mod_mul_right]
theorem kept_eq {u d : Nat} : (u : Int) / 2 ^ ((d : Int)).toNat = ((u / 2 ^ d : Nat) : Int) := by
  rw [Int.toNat_natCast, Int.natCast_ediv, Int.natCast_pow]; rfl
theorem upOne_rne {u d : Nat} (hd : d ≤ 64) (hd0 : 1 ≤ d) : upOne ((u / 2 ^ d : Nat) : Int) ((u % 2 ^ d * 2 ^ (64 - d) : Nat) : Int) = (rne u d : Int) := by
  unfold upOne rne
  have hp : 0 < 2 ^ (64 - d) := Nat.two_pow_pos _
  have h63 : (9223372036854775808 : Nat) * 2 = 2 ^ d * 2 ^ (64 - d) := by rw [← Nat.pow_add, show d + (64 - d) = 64 by omega]
  have f1 : (9223372036854775808 : Int) < ((u % 2 ^ d * 2 ^ (64 - d) : Nat) : Int) ↔ 2 ^ d < 2 * (u % 2 ^ d) := by
    rw [← Nat.mul_lt_mul_right hp, Nat.mul_assoc]; omega
  have f2 : ((u % 2 ^ d * 2 ^ (64 - d) : Nat) : Int) = (9223372036854775808 : Int) ↔ 2 ^ d = 2 * (u % 2 ^ d) := by
    constructor
    · intro h; apply Nat.eq_of_mul_eq_mul_right hp; rw [Nat.mul_assoc]; omega
    · intro h
      have : 2 ^ d * 2 ^ (64 - d) = 2 * (u % 2 ^ d) * 2 ^ (64 - d) := congrArg (· * 2 ^ (64 - d)) h
      rw [Nat.mul_assoc] at this; omega
  have f3 : ((u / 2 ^ d : Nat) : Int) % 2 = 1 ↔ u / 2 ^ d % 2 = 1 := by omega
  simp only [f1, f2, f3]
  split <;> omega

/-- What Join tells, as bits. -/
def joinN (m e : Int) : Nat := if m = 0 then 0 else if m < 0 then 9223372036854775808 + nearR m.natAbs e else nearR m.natAbs e
end Go.Proofs.Ytcbbbkngjdlcjaa
namespace Go.Proofs.Ytcbbbkngjdlcjaa
open Go.RowKit

theorem and_mask52 {z : Int} (h0 : 0 ≤ z) (h : z < 18446744073709551616) : bits .and .u64 z 4503599627370495 = z % 4503599627370496 := by
  obtain ⟨b, rfl⟩ := Int.eq_ofNat_of_zero_le h0
  have := bits_and_u64_nat b 4503599627370495 (by omega) (by decide)
  rw [show ((4503599627370495 : Nat) : Int) = 4503599627370495 from rfl] at this
  rw [this]
  have e := Nat.and_two_pow_sub_one_eq_mod b 52
  rw [show (2 : Nat) ^ 52 - 1 = 4503599627370495 from rfl, show (2 : Nat) ^ 52 = 4503599627370496 from rfl] at e
  rw [e]; omega
theorem or_hidden {z : Int} (h0 : 0 ≤ z) (h : z < 4503599627370496) : bits .or .u64 z 4503599627370496 = 4503599627370496 + z := by
  obtain ⟨b, rfl⟩ := Int.eq_ofNat_of_zero_le h0
  have := bits_or_u64_nat b 4503599627370496 (by omega) (by decide)
  rw [show ((4503599627370496 : Nat) : Int) = 4503599627370496 from rfl] at this
  rw [this]
  have h2 := Nat.two_pow_add_eq_or_of_lt (i := 52) (b := b) (by omega) 1
  rw [Nat.or_comm, show (4503599627370496 : Nat) = 2 ^ 52 * 1 from rfl, ← h2]
  omega

/-- The parts, by the rung. -/
def magI (z : Int) : Int := if z < 4503599627370496 then z else 4503599627370496 + z % 4503599627370496
def plcI (z : Int) : Int := if z < 4503599627370496 then -1074 else z / 4503599627370496 - 1075
def splOk (u : Int) : Bool := decide (szI u < 9218868437227405312)
def splM (u : Int) : Int := if splOk u then (if sgB u then -magI (szI u) else magI (szI u)) else 0
def splE (u : Int) : Int := if splOk u && decide (szI u ≠ 0) then plcI (szI u) else 0

theorem ret3 {a b c d : Int} {x : Bool} (h : a = c) (h' : b = d) : Ending.returned (.tuple #[.int .i64 a, .int .i64 b, .bool x]) = .returned (.tuple #[.int .i64 c, .int .i64 d, .bool x]) := by rw [h, h']
end Go.Proofs.Ytcbbbkngjdlcjaa
