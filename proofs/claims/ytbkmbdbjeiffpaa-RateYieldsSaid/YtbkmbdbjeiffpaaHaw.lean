/- Plain arithmetic of ranks: there and back, and the middle. The contracts of whole and Pow where every product is exact; of Pow at 0 and 1. -/
import Derived.Test.YtbkmbdbjeiffpaaHae
import Derived.Test.YtbkmbdbjeiffpaaHav
namespace Go.Proofs.Ytbkmbdbjeiffpaa
open Go.RowKit

theorem i64_and1 (n : Int) : bits .and .i64 n 1 = n % 2 := by
  have h1 : (BitVec.ofInt 64 1).toNat = 2 ^ 1 - 1 := by decide
  have key : (BitVec.ofInt 64 n &&& BitVec.ofInt 64 1).toNat = (n % ((2 ^ 64 : Nat) : Int)).toNat % 2 ^ 1 := by
    rw [BitVec.toNat_and, BitVec.toNat_ofInt, h1, Nat.and_two_pow_sub_one_eq_mod]
  show IntKind.i64.wrap ((BitVec.ofInt 64 n &&& BitVec.ofInt 64 1).toNat : Nat) = n % 2
  rw [key, IntKind.wrap_i64]
  omega

theorem and_mod2 (x y : Nat) : (x &&& y) % 2 = (x % 2) * (y % 2) := by
  have h := Nat.and_mod_two_pow (a := x) (b := y) (n := 1)
  rw [show (2 : Nat) ^ 1 = 2 from rfl] at h
  rw [h]
  have hx : x % 2 = 0 ∨ x % 2 = 1 := by omega
  have hy : y % 2 = 0 ∨ y % 2 = 1 := by omega
  rcases hx with hx | hx <;> rcases hy with hy | hy <;> rw [hx, hy] <;> rfl

theorem wrap_mod2 (z : Nat) : IntKind.i64.wrap (z : Int) % 2 = ((z % 2 : Nat) : Int) := by rw [IntKind.wrap_i64]; omega
theorem ofInt_mod2 (a : Int) : (((BitVec.ofInt 64 a).toNat % 2 : Nat) : Int) = a % 2 := by rw [BitVec.toNat_ofInt]; omega
theorem i64_and_mod2 (a b : Int) : (bits .and .i64 a b) % 2 = (a % 2) * (b % 2) := by
  show (IntKind.i64.wrap ((BitVec.ofInt 64 a &&& BitVec.ofInt 64 b).toNat : Nat)) % 2 = _
  rw [wrap_mod2, BitVec.toNat_and, and_mod2, Int.natCast_mul, ofInt_mod2, ofInt_mod2]

/-- The middle is half the sum, rounded down. -/
theorem midI_eq {a b : Int} (ha : -9218868437227405312 ≤ a) (ha' : a ≤ 9218868437227405312) (hb : -9218868437227405312 ≤ b) (hb' : b ≤ 9218868437227405312) : midI a b = (a + b) / 2 := by
  unfold midI
  rw [i64_and1, i64_and_mod2]
  have hx : a % 2 = 0 ∨ a % 2 = 1 := by omega
  have hy : b % 2 = 0 ∨ b % 2 = 1 := by omega
  have e : a / 2 + b / 2 + a % 2 * (b % 2) = (a + b) / 2 := by
    rcases hx with hx | hx <;> rcases hy with hy | hy <;> rw [hx, hy] <;> omega
  rw [e]
  unfold wrap64
  omega

theorem nan_at {n : Int} (h : atOk n = true) : nanB (atI n) = false := by
  obtain ⟨h1, h2⟩ := (atOk_iff n).1 h
  unfold nanB szI
  rw [decide_eq_false_iff_not]
  by_cases h3 : n < 0
  · rw [atI_neg h h3]; omega
  · rw [atI_pos h (by omega)]; omega
theorem sg_at {n : Int} (h : atOk n = true) : sgB (atI n) = decide (n < 0) := by
  obtain ⟨h1, h2⟩ := (atOk_iff n).1 h
  unfold sgB
  apply decide_eq_decide.2
  by_cases h3 : n < 0
  · rw [atI_neg h h3]; omega
  · rw [atI_pos h (by omega)]; omega
theorem rank_at {n : Int} (h : atOk n = true) : rankI (atI n) = n := by
  obtain ⟨h1, h2⟩ := (atOk_iff n).1 h
  unfold rankI
  rw [nan_at h, sg_at h]
  by_cases h3 : n < 0
  · simp only [h3, decide_true, if_true, Bool.false_eq_true, if_false]; rw [atI_neg h h3]; unfold szI; omega
  · simp only [h3, decide_false, Bool.false_eq_true, if_false]; rw [atI_pos h (by omega)]; unfold szI; omega

theorem mid_facts {u v : Int} (h : nanB u = false) (h' : nanB v = false) :
    midOk u v = true ∧ nanB (midA u v) = false ∧ rankI (midA u v) = (rankI u + rankI v) / 2 ∧ U64 (midA u v) := by
  have b1 := rank_lo u
  have b2 := rank_hi u
  have b3 := rank_lo v
  have b4 := rank_hi v
  have hm := midI_eq b1 b2 b3 b4
  have ho : atOk (midI (rankI u) (rankI v)) = true := by rw [hm, atOk_iff]; omega
  have e1 : midOk u v = true := by simp [midOk, h, h', ho]
  have e2 : midA u v = atI (midI (rankI u) (rankI v)) := by simp [midA, h, h']
  rw [e1, e2, nan_at ho, rank_at ho, hm]
  exact ⟨rfl, rfl, rfl, atI_u64 _⟩
end Go.Proofs.Ytbkmbdbjeiffpaa
namespace Go.Proofs.Ytbkmbdbjeiffpaa
open Go.RowKit

theorem i64_and_one (n : Nat) : bits .and .i64 (n : Int) 1 = (n % 2 : Nat) := by
  rw [i64_and1]; omega
end Go.Proofs.Ytbkmbdbjeiffpaa
