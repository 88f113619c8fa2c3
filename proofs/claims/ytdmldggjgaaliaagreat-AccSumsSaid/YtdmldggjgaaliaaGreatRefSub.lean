/- The contracts of the document's Flip, Sub, Int, Lt and Floor. -/
import Derived.Test.YtdmldggjgaaliaaGreatRefHorner
namespace Go.Proofs.YtdmldggjgaaliaaGreat
open Go.RowKit

theorem xor_top {c : Nat} (h : c < 9223372036854775808) : c ^^^ 9223372036854775808 = 9223372036854775808 + c := by
  rw [show (9223372036854775808 : Nat) = 2 ^ 63 from rfl] at *
  apply Nat.eq_of_testBit_eq
  intro i
  rw [Nat.testBit_xor, Nat.testBit_two_pow]
  by_cases h1 : i = 63
  · subst h1
    rw [Nat.testBit_two_pow_add_eq]
    simp
  · by_cases h2 : i < 63
    · have e : decide (63 = i) = false := by rw [decide_eq_false_iff_not]; omega
      rw [Nat.testBit_two_pow_add_gt h2, e, Bool.xor_false]
    · have h3 : c.testBit i = false := Nat.testBit_lt_two_pow (Nat.lt_of_lt_of_le h (Nat.pow_le_pow_right (by decide) (by omega)))
      have h4 : (2 ^ 63 + c).testBit i = false := Nat.testBit_lt_two_pow (Nat.lt_of_lt_of_le (show 2 ^ 63 + c < 2 ^ 64 by omega) (Nat.pow_le_pow_right (by decide) (by omega)))
      have e : decide (63 = i) = false := by rw [decide_eq_false_iff_not]; omega
      rw [h3, h4, e]; rfl
/-- The other sign. -/
def flipN (x : Nat) : Nat := if x < 9223372036854775808 then 9223372036854775808 + x else x - 9223372036854775808
theorem flip_bits {b : Nat} (h : b < 18446744073709551616) : b ^^^ 9223372036854775808 = flipN b := by
  unfold flipN
  by_cases h1 : b < 9223372036854775808
  · rw [if_pos h1, xor_top h1]
  · rw [if_neg h1]
    obtain ⟨c, rfl⟩ : ∃ c, b = 9223372036854775808 + c := ⟨b - 9223372036854775808, by omega⟩
    rw [← xor_top (c := c) (by omega), Nat.xor_assoc, Nat.xor_self, Nat.xor_zero]
    have := xor_top (c := c) (by omega)
    omega
theorem flip_parts {x : Nat} (h : x < 18446744073709551616) : flipN x < 18446744073709551616 ∧ flipN x % 9223372036854775808 = x % 9223372036854775808 ∧ (flipN x / 9223372036854775808 % 2 == 1) = !(x / 9223372036854775808 % 2 == 1) := by
  unfold flipN
  by_cases h1 : x < 9223372036854775808
  · rw [if_pos h1]
    refine ⟨by omega, by omega, ?_⟩
    rw [show (9223372036854775808 + x) / 9223372036854775808 = 1 by omega, show x / 9223372036854775808 = 0 by omega]; rfl
  · rw [if_neg h1]
    refine ⟨by omega, by omega, ?_⟩
    rw [show (x - 9223372036854775808) / 9223372036854775808 = 0 by omega, show x / 9223372036854775808 = 1 by omega]; rfl
theorem sub_flip {x y : Nat} (h : y < 18446744073709551616) (hn : nanB (y : Int) = false) : floatBits .add .f64 x (flipN y) = floatBits .sub .f64 x y := by
  obtain ⟨_, h2, h3⟩ := flip_parts h
  have hl := nan_false hn
  have e : Ieee.double.read (flipN y) = (Ieee.double.read y).opposite := by
    by_cases hy : y % 9223372036854775808 < 9218868437227405312
    · rw [read_num (b := flipN y) (by rw [h2]; exact hy), read_num hy, h2, h3]; rfl
    · rw [read_inf (b := flipN y) (by rw [h2]; omega), read_inf (b := y) (by omega), h3]; rfl
  show ((Ieee.double.read x).sum (Ieee.double.read (flipN y))).map Ieee.double.write = ((Ieee.double.read x).sum (Ieee.double.read y).opposite).map Ieee.double.write
  rw [e]

set_option maxHeartbeats 400000 in
theorem refFlip_at (y : Nat) (v z : Int) (w : World) (hv : Hid (v = (y : Int))) (h : U64 v) (hz : Hid (z = (flipN y : Int))) :
    Calls Tryz.prog 58 #[.int .u64 v] w fun e w' => e = .returned (.int .u64 z) ∧ w = w' := by
  have hb : bits .xor .u64 v 9223372036854775808 = z := by
    have hy : y < 18446744073709551616 := by have := h.2; rw [hv.out] at this; omega
    have := bits_xor_u64_nat y 9223372036854775808 hy (by decide)
    rw [show ((9223372036854775808 : Nat) : Int) = 9223372036854775808 from rfl, flip_bits hy] at this
    rw [hv.out, hz.out]; exact this
  go_enter Tryz.func58, Tryz.ntmps58
  go_wp2
  go_ret
  exact ⟨rfl, rfl⟩

set_option maxHeartbeats 400000 in
/-- The document's Sub is the model's. -/
theorem refSub_any (x y : Nat) (u v : Int) (w : World) (hu : Hid (u = (x : Int))) (hv : Hid (v = (y : Int))) (h : U64 u) (h' : U64 v) :
    Calls Tryz.prog 33 #[.int .u64 u, .int .u64 v] w fun e w' => e = .returned (.int .u64 (cn (floatBits .sub .f64 x y) : Int)) ∧ Below w.heap.size w w' := by
  have hy64 : y < 18446744073709551616 := by have := h'.2; rw [hv.out] at this; omega
  obtain ⟨res, hres⟩ : ∃ res : Int, (cn (floatBits .sub .f64 x y) : Int) = res := ⟨_, rfl⟩
  rw [hres]
  have HN := hideS (refNaN_any v · h')
  cases hn : nanB v with
  | true =>
    rw [hn] at HN
    have HE : Hid ((9221120237041090561 : Int) = res) := by show _ = _; rw [← hres, nan_right (by rw [← hv.out]; exact hn)]; rfl
    clear h h' hn hres
    go_enter Tryz.func33, Tryz.ntmps33
    go_wp2_with fail
    refine (turned (HN.out _)).mono ?_
    rintro e w' ⟨rfl, rfl⟩
    go_wp2_with fail
    go_ret
    exact ⟨ret_int HE.out, Below.refl _ _⟩
  | false =>
    rw [hn] at HN
    obtain ⟨z, hz⟩ : ∃ z : Int, z = (flipN y : Int) := ⟨_, rfl⟩
    have HF := hideS fun w => refFlip_at y v z w hv h' hz
    have HA : Hid (∀ w, Calls Tryz.prog 28 #[.int .u64 u, .int .u64 z] w fun e w' => e = .returned (.int .u64 res) ∧ Below w.heap.size w w') := fun w => by
      have := refAdd_any x (flipN y) u z w hu hz h (by rw [hz]; exact u64_of_nat (flip_parts hy64).1)
      rw [sub_flip hy64 (by rw [← hv.out]; exact hn), hres] at this; exact this
    clear h h' hn hres hz
    go_enter Tryz.func33, Tryz.ntmps33
    go_wp2_with fail
    refine (turned (HN.out _)).mono ?_
    rintro e w' ⟨rfl, rfl⟩
    go_wp2_with fail
    refine (HF.out _).mono ?_
    rintro e w' ⟨rfl, rfl⟩
    go_wp2_with fail
    refine (HA.out _).mono ?_
    rintro e w1 ⟨rfl, hb⟩
    have HB := hideS hb
    clear hb
    go_wp2_with fail
    go_ret
    exact ⟨rfl, HB.out⟩

theorem nearM_fi (n : Int) : nearM (decide (n < 0)) n.natAbs 0 false = (fi n : Int) := by
  unfold fi joinN
  by_cases hz : n = 0
  · subst hz; rw [if_pos rfl]; rfl
  · rw [if_neg hz, nearM_eq _ _ (by omega)]
    by_cases hn : n < 0
    · rw [if_pos hn, decide_eq_true hn]; simp only [if_true]; omega
    · rw [if_neg hn, decide_eq_false hn]; simp

set_option maxHeartbeats 400000 in
theorem refLt_at (u v : Int) (b : Bool) (w : World) (h : U64 u) (h' : U64 v) (hn : nanB u = false) (hn' : nanB v = false) (hb : decide (rankI u < rankI v) = b) :
    Calls Tryz.prog 31 #[.int .u64 u, .int .u64 v] w fun e w' => e = .returned (.bool b) ∧ w = w' := by
  have H1 := hideS fun w => turned (refRank_any u w h)
  have H2 := hideS fun w => turned (refRank_any v w h')
  rw [hn] at H1
  rw [hn'] at H2
  generalize rankI u = a at *
  generalize rankI v = c at *
  clear hn hn' h h'
  go_enter Tryz.func31, Tryz.ntmps31
  go_wp2_with fail
  refine (H1.out _).mono ?_
  rintro e w' ⟨rfl, rfl⟩
  go_wp2_with fail
  refine (H2.out _).mono ?_
  rintro e w' ⟨rfl, rfl⟩
  go_wp2_with fail
  go_ret
  exact ⟨rfl, rfl⟩

/-- The whole number below. -/
theorem floor_unique {S k F E : Int} (hE : 0 < E) (h1 : k * E ≤ S) (h2 : S < (k + 1) * E) (h3 : F * E ≤ S) (h4 : S < (F + 1) * E) : k = F := by
  have a : k < F + 1 := by
    by_cases c : k < F + 1
    · exact c
    · have := Int.mul_le_mul_of_nonneg_right (show F + 1 ≤ k by omega) (show 0 ≤ E by omega); omega
  have b : F < k + 1 := by
    by_cases c : F < k + 1
    · exact c
    · have := Int.mul_le_mul_of_nonneg_right (show k + 1 ≤ F by omega) (show 0 ≤ E by omega); omega
  omega
def floorI (neg : Bool) (q : Nat) (lost : Bool) : Int := if neg then (if lost then -(q : Int) - 1 else -(q : Int)) else (q : Int)
theorem floor_bounds {neg : Bool} {N P : Nat} (hP : 0 < P) : floorI neg (N / P) (decide (N % P ≠ 0)) * (P : Int) ≤ sg neg N ∧ sg neg N < (floorI neg (N / P) (decide (N % P ≠ 0)) + 1) * (P : Int) := by
  have h1 := Nat.div_add_mod N P
  have h2 : N % P < P := Nat.mod_lt _ hP
  have h3 : ((P * (N / P) : Nat) : Int) = (N / P : Nat) * (P : Int) := by rw [Int.natCast_mul, Int.mul_comm]
  generalize N / P = q at *
  generalize N % P = r at *
  generalize P * q = t at *
  unfold floorI sg
  cases neg
  · simp only [Bool.false_eq_true, if_false]
    rw [Int.add_mul, Int.one_mul]; omega
  · simp only [if_true]
    by_cases hr : r = 0
    · rw [show decide (r ≠ 0) = false by simpa using hr]
      simp only [Bool.false_eq_true, if_false]
      rw [Int.add_mul, Int.one_mul, Int.neg_mul]; omega
    · rw [show decide (r ≠ 0) = true by simpa using hr]
      simp only [if_true]
      rw [Int.add_mul, Int.one_mul, Int.sub_mul, Int.one_mul, Int.neg_mul]; omega
