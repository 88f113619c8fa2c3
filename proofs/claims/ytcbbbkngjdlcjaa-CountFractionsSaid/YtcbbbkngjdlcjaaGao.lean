/- The document's Year where it refuses. Plain arithmetic on the bits of a binary64, as whole numbers: no word of the program. -/
import Derived.Test.YtcbbbkngjdlcjaaGan
import Derived.Laws.BitsAllLaws
import Derived.Laws.Bits64b
namespace Go.Proofs.Ytcbbbkngjdlcjaa
open Go.RowKit

/-- The box of Year's fraction. -/
theorem year_box {w w1 : World} {P Q : Int} {t : TypeId} (h : Below w.heap.size w w1) :
    (w1.alloc (.cells #[.int .i64 P, .int .i64 Q] t)).cell? ⟨w1.heap.size, 0, none⟩ = some (.int .i64 P) ∧ (w1.alloc (.cells #[.int .i64 P, .int .i64 Q] t)).cell? ⟨w1.heap.size, 1, none⟩ = some (.int .i64 Q) ∧ Below w.heap.size w (w1.alloc (.cells #[.int .i64 P, .int .i64 Q] t)) :=
  ⟨by simp, by simp, h.alloc h.size _⟩

set_option maxHeartbeats 1600000 in
theorem refYear_bad (kind W a b A : Int) (v : Value) (w : World) (hA : 0 < A) (hA' : A ≤ 100)
    (HF : Hid (∀ wx, Below w.heap.size w wx → Calls Try.prog 11 #[.int .i64 kind, .agg #[.int .i64 W, v], .int .i64 a, .int .i64 b] wx fun e w' => e = .returned (.tuple #[.agg #[.int .i64 0, .int .i64 0], .int .i64 A]) ∧ Below wx.heap.size wx w')) :
    Calls Try.prog 13 #[.int .i64 kind, .agg #[.int .i64 W, v], .int .i64 a, .int .i64 b] w fun e w' => e = .returned (.tuple #[.int .u64 0, .int .i64 A]) ∧ Below w.heap.size w w' := by
  have HB0 : Hid (Below w.heap.size w (w.alloc (.cells #[.int .i64 W, v] 24))) := (Below.refl w.heap.size w).alloc (Nat.le_refl _) _
  go_enter Try.func13, Try.ntmps13
  go_wp2_with fail
  refine (HF.out _ HB0.out).mono ?_
  rintro e w1 ⟨rfl, hb1⟩
  have HB1 := hideS (HB0.out.trans (hb1.mono (by simp)))
  clear hb1
  have HX := hideS (year_box (P := 0) (Q := 0) (t := 31) HB1.out)
  go_wp2_with fail
  exact bodyPost_ret (v := .tuple #[.int .u64 0, .int .i64 A]) (by simp [results, Try.results13, go_sem]) rfl ⟨rfl, HX.out.2.2⟩
end Go.Proofs.Ytcbbbkngjdlcjaa
namespace Go.Proofs.Ytcbbbkngjdlcjaa

/-- The bits without the sign. -/
def szI (u : Int) : Int := u % 9223372036854775808
/-- The sign bit. -/
def sgB (u : Int) : Bool := decide (9223372036854775808 ≤ u)
def nanB (u : Int) : Bool := decide (9218868437227405312 < szI u)
def rankI (u : Int) : Int := if nanB u then 0 else if sgB u then -(szI u) else szI u
def atOk (n : Int) : Bool := decide (-9218868437227405312 ≤ n ∧ n ≤ 9218868437227405312)
def atI (n : Int) : Int := if atOk n then (if n < 0 then 9223372036854775808 - n else n) else 0
def sameB (a b : Int) : Bool := decide (a = b) || nanB a && nanB b
def clsI (u : Int) : Int := if szI u = 0 then 1 else if szI u < 4503599627370496 then 2 else if szI u < 9218868437227405312 then 3 else if szI u = 9218868437227405312 then 4 else 5
/-- What fits 64 bits. -/
def U64 (u : Int) : Prop := 0 ≤ u ∧ u < 18446744073709551616

theorem szI_lo (u : Int) : 0 ≤ szI u := by unfold szI; omega
theorem szI_hi (u : Int) : szI u ≤ 9223372036854775807 := by unfold szI; omega
theorem szI_of_neg {u : Int} (h : U64 u) (hs : sgB u = true) : szI u = u - 9223372036854775808 := by
  simp only [sgB, decide_eq_true_eq] at hs; unfold szI; unfold U64 at h; omega
theorem szI_of_pos {u : Int} (h : U64 u) (hs : sgB u = false) : szI u = u := by
  simp only [sgB, decide_eq_false_iff_not] at hs; unfold szI; unfold U64 at h; omega

theorem and_mask63 (b : Nat) : b &&& 9223372036854775807 = b % 9223372036854775808 := by
  have := Nat.and_two_pow_sub_one_eq_mod b 63
  simpa using this

theorem andNot_sz {u : Int} (h : U64 u) : bits .andNot .u64 u 9223372036854775808 = szI u := by
  obtain ⟨b, rfl⟩ := Int.eq_ofNat_of_zero_le h.1
  have := u64_andNot_nat b 9223372036854775808 (by have := h.2; omega) (by decide)
  rw [show ((9223372036854775808 : Nat) : Int) = 9223372036854775808 from rfl] at this
  rw [this, show (18446744073709551615 - 9223372036854775808 : Nat) = 9223372036854775807 from rfl, and_mask63]
  unfold szI; omega

theorem and_pow (b k : Nat) : b &&& 2 ^ k = if b.testBit k then 2 ^ k else 0 := by
  apply Nat.eq_of_testBit_eq
  intro i
  rw [Nat.testBit_and, Nat.testBit_two_pow]
  by_cases hi : k = i
  · subst hi; cases b.testBit k <;> simp
  · cases b.testBit k <;> simp [hi]

theorem and_sg {u : Int} (h : U64 u) : bits .and .u64 u 9223372036854775808 = if sgB u then 9223372036854775808 else 0 := by
  obtain ⟨b, rfl⟩ := Int.eq_ofNat_of_zero_le h.1
  have hb : b < 18446744073709551616 := by have := h.2; omega
  have := bits_and_u64_nat b 9223372036854775808 hb (by decide)
  rw [show ((9223372036854775808 : Nat) : Int) = 9223372036854775808 from rfl] at this
  rw [this]
  have e : b &&& 9223372036854775808 = if sgB b then 9223372036854775808 else 0 := by
    have h2 := and_pow b 63
    have h3 : b.testBit 63 = sgB b := by
      rw [Nat.testBit_eq_decide_div_mod_eq]
      unfold sgB
      apply decide_eq_decide.2
      omega
    rw [h3] at h2
    rw [show (2 : Nat) ^ 63 = 9223372036854775808 from rfl] at h2
    exact h2
  rw [e]; cases sgB b <;> rfl

theorem or_sg {u : Int} (h0 : 0 ≤ u) (h : u < 9223372036854775808) : bits .or .u64 u 9223372036854775808 = 9223372036854775808 + u := by
  obtain ⟨b, rfl⟩ := Int.eq_ofNat_of_zero_le h0
  have := bits_or_u64_nat b 9223372036854775808 (by omega) (by decide)
  rw [show ((9223372036854775808 : Nat) : Int) = 9223372036854775808 from rfl] at this
  rw [this]
  have h2 := Nat.two_pow_add_eq_or_of_lt (i := 63) (b := b) (by omega) 1
  rw [Nat.or_comm, show (9223372036854775808 : Nat) = 2 ^ 63 * 1 from rfl, ← h2]
  omega

theorem atI_u64 (n : Int) : U64 (atI n) := by
  unfold atI atOk U64
  split
  · rename_i h; simp only [decide_eq_true_eq] at h; split <;> omega
  · omega

theorem u64_of_nat {b : Nat} (h : b < 18446744073709551616) : U64 (b : Int) := by unfold U64; omega
theorem sameB_refl (a : Int) : sameB a a = true := by simp [sameB]
theorem sameB_nan {a b : Int} (h : nanB a = true) (h' : nanB b = true) : sameB a b = true := by simp [sameB, h, h']

theorem cls_cases (u : Int) : (szI u = 0 ∧ clsI u = 1) ∨ ((0 < szI u ∧ szI u < 4503599627370496) ∧ clsI u = 2) ∨ ((4503599627370496 ≤ szI u ∧ szI u < 9218868437227405312) ∧ clsI u = 3) ∨ (szI u = 9218868437227405312 ∧ clsI u = 4) ∨ (9218868437227405312 < szI u ∧ clsI u = 5) := by
  have hlo := szI_lo u
  unfold clsI
  by_cases h0 : szI u = 0
  · rw [if_pos h0]; exact Or.inl ⟨h0, rfl⟩
  rw [if_neg h0]
  by_cases h1 : szI u < 4503599627370496
  · rw [if_pos h1]; exact Or.inr (Or.inl ⟨⟨by omega, h1⟩, rfl⟩)
  rw [if_neg h1]
  by_cases h2 : szI u < 9218868437227405312
  · rw [if_pos h2]; exact Or.inr (Or.inr (Or.inl ⟨⟨by omega, h2⟩, rfl⟩))
  rw [if_neg h2]
  by_cases h3 : szI u = 9218868437227405312
  · rw [if_pos h3]; exact Or.inr (Or.inr (Or.inr (Or.inl ⟨h3, rfl⟩)))
  · rw [if_neg h3]; exact Or.inr (Or.inr (Or.inr (Or.inr ⟨by omega, rfl⟩)))
end Go.Proofs.Ytcbbbkngjdlcjaa
