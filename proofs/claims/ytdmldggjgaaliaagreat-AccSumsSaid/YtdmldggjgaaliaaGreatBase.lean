/- Plain arithmetic on the bits of a binary64, as whole numbers: no word of the program. The contracts of the small functions of package ieee and of the document's answer: classes, ranks, At. The contracts of Class, Negative, Same, Rank, At, Mid, Gap, Up and Down, of the program and of the document's answer. The contracts of At, Up, Down, Mid, Gap, of the program and of the document's answer. The contracts of Mid, Gap, Up, Down, of the program and of the document's answer. The library's contract of bits.LeadingZeros64 at this program, laid in plain words by the kit's tool. The closed look of every statement of this layer: the document's fixed answers. -/
import Derived.Laws.BitsAllLaws
import Derived.Laws.Bits64b
import Derived.Test.YtdmldggjgaaliaaGreatRows
import Derived.WalkKit
import Derived.WalkSpells
import Derived.WalkLawsBesides
import Derived.Handy
import Derived.Shelf.Small.Bits
import Derived.Shelf.Strconv.Itoa0
import Derived.Test.YtdmldggjgaaliaaGreatProg
import Derived.BigQuiet
namespace Go.Proofs.YtdmldggjgaaliaaGreat

/-- The bits without the sign. -/
def szI (u : Int) : Int := u % 9223372036854775808
/-- The sign bit. -/
def sgB (u : Int) : Bool := decide (9223372036854775808 ≤ u)
def nanB (u : Int) : Bool := decide (9218868437227405312 < szI u)
def rankI (u : Int) : Int := if nanB u then 0 else if sgB u then -(szI u) else szI u
def atOk (n : Int) : Bool := decide (-9218868437227405312 ≤ n ∧ n ≤ 9218868437227405312)
def atI (n : Int) : Int := if atOk n then (if n < 0 then 9223372036854775808 - n else n) else 0
def sameB (a b : Int) : Bool := decide (a = b) || nanB a && nanB b
def clsI (u : Int) : Int := if szI u = 0 then 1 else if szI u < 4503599627370496 then 2 else if szI u < 9218868437227405312 then 3 else if szI u = 9218868437227405312 then 4 else 5
/-- What fits 64 bits. -/
def U64 (u : Int) : Prop := 0 ≤ u ∧ u < 18446744073709551616

theorem szI_lo (u : Int) : 0 ≤ szI u := by unfold szI; omega
theorem szI_hi (u : Int) : szI u ≤ 9223372036854775807 := by unfold szI; omega
theorem szI_of_neg {u : Int} (h : U64 u) (hs : sgB u = true) : szI u = u - 9223372036854775808 := by
  simp only [sgB, decide_eq_true_eq] at hs; unfold szI; unfold U64 at h; omega
theorem szI_of_pos {u : Int} (h : U64 u) (hs : sgB u = false) : szI u = u := by
  simp only [sgB, decide_eq_false_iff_not] at hs; unfold szI; unfold U64 at h; omega

theorem and_mask63 (b : Nat) : b &&& 9223372036854775807 = b % 9223372036854775808 := by
  have := Nat.and_two_pow_sub_one_eq_mod b 63
  simpa using this

theorem andNot_sz {u : Int} (h : U64 u) : bits .andNot .u64 u 9223372036854775808 = szI u := by
  obtain ⟨b, rfl⟩ := Int.eq_ofNat_of_zero_le h.1
  have := u64_andNot_nat b 9223372036854775808 (by have := h.2; omega) (by decide)
  rw [show ((9223372036854775808 : Nat) : Int) = 9223372036854775808 from rfl] at this
  rw [this, show (18446744073709551615 - 9223372036854775808 : Nat) = 9223372036854775807 from rfl, and_mask63]
  unfold szI; omega

theorem and_pow (b k : Nat) : b &&& 2 ^ k = if b.testBit k then 2 ^ k else 0 := by
  apply Nat.eq_of_testBit_eq
  intro i
  rw [Nat.testBit_and, Nat.testBit_two_pow]
  by_cases hi : k = i
  · subst hi; cases b.testBit k <;> simp
  · cases b.testBit k <;> simp [hi]

theorem and_sg {u : Int} (h : U64 u) : bits .and .u64 u 9223372036854775808 = if sgB u then 9223372036854775808 else 0 := by
  obtain ⟨b, rfl⟩ := Int.eq_ofNat_of_zero_le h.1
  have hb : b < 18446744073709551616 := by have := h.2; omega
  have := bits_and_u64_nat b 9223372036854775808 hb (by decide)
  rw [show ((9223372036854775808 : Nat) : Int) = 9223372036854775808 from rfl] at this
  rw [this]
  have e : b &&& 9223372036854775808 = if sgB b then 9223372036854775808 else 0 := by
    have h2 := and_pow b 63
    have h3 : b.testBit 63 = sgB b := by
      rw [Nat.testBit_eq_decide_div_mod_eq]
      unfold sgB
      apply decide_eq_decide.2
      omega
    rw [h3] at h2
    rw [show (2 : Nat) ^ 63 = 9223372036854775808 from rfl] at h2
    exact h2
  rw [e]; cases sgB b <;> rfl

theorem or_sg {u : Int} (h0 : 0 ≤ u) (h : u < 9223372036854775808) : bits .or .u64 u 9223372036854775808 = 9223372036854775808 + u := by
  obtain ⟨b, rfl⟩ := Int.eq_ofNat_of_zero_le h0
  have := bits_or_u64_nat b 9223372036854775808 (by omega) (by decide)
  rw [show ((9223372036854775808 : Nat) : Int) = 9223372036854775808 from rfl] at this
  rw [this]
  have h2 := Nat.two_pow_add_eq_or_of_lt (i := 63) (b := b) (by omega) 1
  rw [Nat.or_comm, show (9223372036854775808 : Nat) = 2 ^ 63 * 1 from rfl, ← h2]
  omega

theorem atI_u64 (n : Int) : U64 (atI n) := by
  unfold atI atOk U64
  split
  · rename_i h; simp only [decide_eq_true_eq] at h; split <;> omega
  · omega

theorem u64_of_nat {b : Nat} (h : b < 18446744073709551616) : U64 (b : Int) := by unfold U64; omega
theorem sameB_refl (a : Int) : sameB a a = true := by simp [sameB]
theorem sameB_nan {a b : Int} (h : nanB a = true) (h' : nanB b = true) : sameB a b = true := by simp [sameB, h, h']

theorem cls_cases (u : Int) : (szI u = 0 ∧ clsI u = 1) ∨ ((0 < szI u ∧ szI u < 4503599627370496) ∧ clsI u = 2) ∨ ((4503599627370496 ≤ szI u ∧ szI u < 9218868437227405312) ∧ clsI u = 3) ∨ (szI u = 9218868437227405312 ∧ clsI u = 4) ∨ (9218868437227405312 < szI u ∧ clsI u = 5) := by
  have hlo := szI_lo u
  unfold clsI
  by_cases h0 : szI u = 0
  · rw [if_pos h0]; exact Or.inl ⟨h0, rfl⟩
  rw [if_neg h0]
  by_cases h1 : szI u < 4503599627370496
  · rw [if_pos h1]; exact Or.inr (Or.inl ⟨⟨by omega, h1⟩, rfl⟩)
  rw [if_neg h1]
  by_cases h2 : szI u < 9218868437227405312
  · rw [if_pos h2]; exact Or.inr (Or.inr (Or.inl ⟨⟨by omega, h2⟩, rfl⟩))
  rw [if_neg h2]
  by_cases h3 : szI u = 9218868437227405312
  · rw [if_pos h3]; exact Or.inr (Or.inr (Or.inr (Or.inl ⟨h3, rfl⟩)))
  · rw [if_neg h3]; exact Or.inr (Or.inr (Or.inr (Or.inr ⟨by omega, rfl⟩)))
end Go.Proofs.YtdmldggjgaaliaaGreat
namespace Go.Proofs.YtdmldggjgaaliaaGreat
open Go.RowKit

theorem ret_int {k : IntKind} {a b : Int} (h : a = b) : Ending.returned (.int k a) = .returned (.int k b) := by rw [h]
theorem ret_bool {a b : Bool} (h : a = b) : Ending.returned (.bool a) = .returned (.bool b) := by rw [h]
theorem ret_f64 {a b : Nat} (h : a = b) : Ending.returned (.float .f64 a) = .returned (.float .f64 b) := by rw [h]

theorem call_bits (b : Nat) (w : World) : (callFunc 43 #[.float .f64 b]).run Tryz.prog w = .ok (.value (.int .u64 b)) w :=
  (run_callFunc_extern (e := Extern.MathFloatBits.float64bits) Tryz.func43 (by kernel_rfl) (by kernel_rfl) (by kernel_rfl) (by kernel_rfl) _ w).trans rfl
theorem call_frombits (n : Int) (w : World) : (callFunc 56 #[.int .u64 n]).run Tryz.prog w = .ok (.value (.float .f64 n.toNat)) w :=
  (run_callFunc_extern (e := Extern.MathFloatBits.float64frombits) Tryz.func56 (by kernel_rfl) (by kernel_rfl) (by kernel_rfl) (by kernel_rfl) _ w).trans rfl

set_option maxHeartbeats 400000 in
theorem bits_any (b : Nat) (w : World) :
    Calls Tryz.prog 21 #[.float .f64 b] w fun e w' => e = .returned (.int .u64 b) ∧ w' = w := by
  have hb := call_bits
  go_enter Tryz.func21, Tryz.ntmps21
  go_wp2
  go_ret
  exact ⟨rfl, rfl⟩

set_option maxHeartbeats 400000 in
theorem float_any (n : Int) (w : World) :
    Calls Tryz.prog 101 #[.int .u64 n] w fun e w' => e = .returned (.float .f64 n.toNat) ∧ w' = w := by
  have hb := call_frombits
  go_enter Tryz.func101, Tryz.ntmps101
  go_wp2
  go_ret
  exact ⟨rfl, rfl⟩

set_option maxHeartbeats 400000 in
theorem size_any (b : Nat) (w : World) (h : U64 b) :
    Calls Tryz.prog 59 #[.float .f64 b] w fun e w' => e = .returned (.int .u64 (szI b)) ∧ w' = w := by
  go_enter Tryz.func59, Tryz.ntmps59
  go_wp2_with (go_at_call 21; refine (bits_any _ _).mono ?_; rintro e w' ⟨rfl, rfl⟩)
  go_ret
  exact ⟨ret_int (andNot_sz h), rfl⟩

set_option maxHeartbeats 400000 in
theorem signed_any (b : Nat) (w : World) (h : U64 b) :
    Calls Tryz.prog 60 #[.float .f64 b] w fun e w' => e = .returned (.bool (sgB b)) ∧ w' = w := by
  go_enter Tryz.func60, Tryz.ntmps60
  go_wp2_with (go_at_call 21; refine (bits_any _ _).mono ?_; rintro e w' ⟨rfl, rfl⟩)
  go_ret
  refine ⟨ret_bool ?_, rfl⟩
  rw [and_sg h]
  cases sgB b <;> rfl

theorem nan_cast (u : Int) : decide ((9218868437227405312 : Int) < szI u) = nanB u := rfl

set_option maxHeartbeats 400000 in
theorem isNaN_any (b : Nat) (w : World) (h : U64 b) :
    Calls Tryz.prog 83 #[.float .f64 b] w fun e w' => e = .returned (.bool (nanB b)) ∧ w' = w := by
  go_enter Tryz.func83, Tryz.ntmps83
  go_wp2_with (go_at_call 59; refine (size_any _ _ h).mono ?_; rintro e w' ⟨rfl, rfl⟩)
  go_ret
  exact ⟨ret_bool (nan_cast b), rfl⟩

set_option maxHeartbeats 400000 in
theorem refNaN_any (b : Int) (w : World) (h : U64 b) :
    Calls Tryz.prog 30 #[.int .u64 b] w fun e w' => e = .returned (.bool (nanB b)) ∧ w' = w := by
  have hz := andNot_sz h
  have hn := nan_cast b
  go_enter Tryz.func30, Tryz.ntmps30
  go_wp2
  go_ret
  exact ⟨rfl, rfl⟩

set_option maxHeartbeats 400000 in
theorem refNegative_any (b : Int) (w : World) :
    Calls Tryz.prog 53 #[.int .u64 b] w fun e w' => e = .returned (.bool (sgB b)) ∧ w' = w := by
  go_enter Tryz.func53, Tryz.ntmps53
  go_wp2
  go_ret
  exact ⟨rfl, rfl⟩

set_option maxHeartbeats 400000 in
theorem refSize_any (b : Int) (w : World) (h : U64 b) :
    Calls Tryz.prog 32 #[.int .u64 b] w fun e w' => e = .returned (.int .u64 (szI b)) ∧ w' = w := by
  have hz := andNot_sz h
  go_enter Tryz.func32, Tryz.ntmps32
  go_wp2
  go_ret
  exact ⟨rfl, rfl⟩

end Go.Proofs.YtdmldggjgaaliaaGreat
namespace Go.Proofs.YtdmldggjgaaliaaGreat
open Go.RowKit

theorem size_as (b : Nat) (u : Int) (w : World) (hu : Hid (u = b)) (h : U64 u) :
    Calls Tryz.prog 59 #[.float .f64 b] w fun e w' => e = .returned (.int .u64 (szI u)) ∧ w' = w := by
  have e := hu.out; subst e; exact size_any b w h

set_option maxHeartbeats 400000 in
theorem class_as (b : Nat) (u : Int) (w : World) (hu : Hid (u = b)) (h : U64 u) :
    Calls Tryz.prog 62 #[.float .f64 b] w fun e w' => e = .returned (.int .i64 (clsI u)) ∧ w' = w := by
  rcases cls_cases u with ⟨hz, hc⟩ | ⟨⟨h1, h2⟩, hc⟩ | ⟨⟨h1, h2⟩, hc⟩ | ⟨hz, hc⟩ | ⟨h1, hc⟩
  all_goals
    rw [hc]; clear hc
    go_enter Tryz.func62, Tryz.ntmps62
    go_wp2_with (go_at_call 59; refine (size_as _ _ _ hu h).mono ?_; rintro e w' ⟨rfl, rfl⟩)
    go_ret
    exact ⟨rfl, rfl⟩
theorem class_any (b : Nat) (w : World) (h : U64 b) :
    Calls Tryz.prog 62 #[.float .f64 b] w fun e w' => e = .returned (.int .i64 (clsI b)) ∧ w' = w := class_as b b w rfl h

set_option maxHeartbeats 400000 in
theorem negative_any (b : Nat) (w : World) (h : U64 b) :
    Calls Tryz.prog 63 #[.float .f64 b] w fun e w' => e = .returned (.bool (sgB b && !nanB b)) ∧ w' = w := by
  cases h1 : sgB b <;> cases h2 : nanB b
  all_goals
    go_enter Tryz.func63, Tryz.ntmps63
    go_wp2_with (first | (go_at_call 60; refine (signed_any _ _ h).mono ?_; rintro e w' ⟨rfl, rfl⟩) | (go_at_call 83; refine (isNaN_any _ _ h).mono ?_; rintro e w' ⟨rfl, rfl⟩))
    go_ret
    exact ⟨rfl, rfl⟩

set_option maxHeartbeats 400000 in
theorem refSame_any (a b : Int) (w : World) (h : U64 a) (h' : U64 b) :
    Calls Tryz.prog 26 #[.int .u64 a, .int .u64 b] w fun e w' => e = .returned (.bool (sameB a b)) ∧ w' = w := by
  by_cases h0 : a = b
  · have hb : (a == b) = true := by simpa using h0
    clear h0
    have hs : Hid (sameB a b = true) := by
      have : a = b := by simpa using hb
      subst this; exact sameB_refl a
    rw [hs.out]
    go_enter Tryz.func26, Tryz.ntmps26
    go_wp2
    go_ret
    exact ⟨rfl, rfl⟩
  · have hb : (a == b) = false := by simpa using h0
    have hs : Hid (sameB a b = (nanB a && nanB b)) := by show sameB a b = _; simp [sameB, h0]
    clear h0
    rw [hs.out]
    cases h1 : nanB a <;> cases h2 : nanB b
    all_goals
      go_enter Tryz.func26, Tryz.ntmps26
      go_wp2_with fail
      refine (refNaN_any _ _ h).mono ?_
      rintro e w' ⟨rfl, rfl⟩
      go_wp2_with (go_at_call 30; refine (refNaN_any _ _ h').mono ?_; rintro e w' ⟨rfl, rfl⟩)
      go_ret
      exact ⟨rfl, rfl⟩

set_option maxHeartbeats 400000 in
theorem is_any (a : Nat) (b : Int) (w : World) (h : U64 a) (h' : U64 b) :
    Calls Tryz.prog 8 #[.float .f64 a, .int .u64 b] w fun e w' => e = .returned (.bool (sameB a b)) ∧ w' = w := by
  go_enter Tryz.func8, Tryz.ntmps8
  go_wp2_with (first | (go_at_call 21; refine (bits_any _ _).mono ?_; rintro e w' ⟨rfl, rfl⟩) | (go_at_call 26; refine (refSame_any _ _ _ h h').mono ?_; rintro e w' ⟨rfl, rfl⟩))
  go_ret
  exact ⟨rfl, rfl⟩

theorem rank_nan {u : Int} (h : nanB u = true) : rankI u = 0 := by simp [rankI, h]
theorem rank_neg {u : Int} (h : nanB u = false) (h' : sgB u = true) : rankI u = -szI u := by simp [rankI, h, h']
theorem rank_pos {u : Int} (h : nanB u = false) (h' : sgB u = false) : rankI u = szI u := by simp [rankI, h, h']

theorem isNaN_as (b : Nat) (u : Int) (w : World) (hu : Hid (u = b)) (h : U64 u) :
    Calls Tryz.prog 83 #[.float .f64 b] w fun e w' => e = .returned (.bool (nanB u)) ∧ w' = w := by
  have e := hu.out; subst e; exact isNaN_any b w h

theorem signed_as (b : Nat) (u : Int) (w : World) (hu : Hid (u = b)) (h : U64 u) :
    Calls Tryz.prog 60 #[.float .f64 b] w fun e w' => e = .returned (.bool (sgB u)) ∧ w' = w := by
  have e := hu.out; subst e; exact signed_any b w h

set_option maxHeartbeats 400000 in
theorem refRank_any (u : Int) (w : World) (h : U64 u) :
    Calls Tryz.prog 57 #[.int .u64 u] w fun e w' => e = .returned (.tuple #[.int .i64 (rankI u), .bool (!nanB u)]) ∧ w' = w := by
  cases h1 : nanB u
  · cases h2 : sgB u
    · have h3 : u < 9223372036854775808 := by simpa [sgB] using h2
      have h4 : 0 ≤ u := h.1
      rw [rank_pos h1 h2, szI_of_pos h h2]
      clear h2
      go_enter Tryz.func57, Tryz.ntmps57
      go_wp2_with (go_at_call 30; refine (refNaN_any _ _ h).mono ?_; rintro e w' ⟨rfl, rfl⟩)
      go_ret2
      exact ⟨rfl, rfl⟩
    · have h3 : 9223372036854775808 ≤ u := by simpa [sgB] using h2
      have h4 : u < 18446744073709551616 := h.2
      rw [rank_neg h1 h2, szI_of_neg h h2]
      clear h2
      go_enter Tryz.func57, Tryz.ntmps57
      go_wp2_with (go_at_call 30; refine (refNaN_any _ _ h).mono ?_; rintro e w' ⟨rfl, rfl⟩)
      go_ret2
      exact ⟨rfl, rfl⟩
  · rw [rank_nan h1]
    go_enter Tryz.func57, Tryz.ntmps57
    go_wp2_with (go_at_call 30; refine (refNaN_any _ _ h).mono ?_; rintro e w' ⟨rfl, rfl⟩)
    go_ret2
    exact ⟨rfl, rfl⟩

end Go.Proofs.YtdmldggjgaaliaaGreat
namespace Go.Proofs.YtdmldggjgaaliaaGreat
open Go.RowKit

theorem or_sg' {u : Int} (h0 : 0 ≤ u) (h : u < 9223372036854775808) : (bits .or .u64 u 9223372036854775808).toNat = (9223372036854775808 + u).toNat := by rw [or_sg h0 h]

set_option maxHeartbeats 400000 in
theorem withSign_pos (u : Int) (w : World) :
    Calls Tryz.prog 89 #[.int .u64 u, .bool false] w fun e w' => e = .returned (.float .f64 u.toNat) ∧ w' = w := by
  go_enter Tryz.func89, Tryz.ntmps89
  go_wp2_with (go_at_call 101; refine (float_any _ _).mono ?_; rintro e w' ⟨rfl, rfl⟩)
  go_ret
  exact ⟨rfl, rfl⟩

set_option maxHeartbeats 400000 in
theorem withSign_neg (u : Int) (w : World) (h0 : 0 ≤ u) (h : u < 9223372036854775808) :
    Calls Tryz.prog 89 #[.int .u64 u, .bool true] w fun e w' => e = .returned (.float .f64 (9223372036854775808 + u).toNat) ∧ w' = w := by
  go_enter Tryz.func89, Tryz.ntmps89
  go_wp2_with (go_at_call 101; refine (float_any _ _).mono ?_; rintro e w' ⟨rfl, rfl⟩)
  go_ret
  exact ⟨ret_f64 (or_sg' h0 h), rfl⟩

theorem atI_no {n : Int} (h : atOk n = false) : atI n = 0 := by simp [atI, h]
theorem atI_neg {n : Int} (h : atOk n = true) (h' : n < 0) : atI n = 9223372036854775808 - n := by simp [atI, h, h']
theorem atI_pos {n : Int} (h : atOk n = true) (h' : 0 ≤ n) : atI n = n := by simp [atI, h, Int.not_lt.2 h']
theorem atOk_iff (n : Int) : atOk n = true ↔ -9218868437227405312 ≤ n ∧ n ≤ 9218868437227405312 := by simp [atOk]
theorem atOk_not {n : Int} (h : atOk n = false) : n < -9218868437227405312 ∨ 9218868437227405312 < n := by
  simp only [atOk, decide_eq_false_iff_not] at h; omega
theorem ret_at {a b : Nat} {c : Bool} (h : a = b) : Ending.returned (.tuple #[.float .f64 a, .bool c]) = .returned (.tuple #[.float .f64 b, .bool c]) := by rw [h]
theorem ret_atu {a b : Int} {c : Bool} (h : a = b) : Ending.returned (.tuple #[.int .u64 a, .bool c]) = .returned (.tuple #[.int .u64 b, .bool c]) := by rw [h]

/-- The middle of two ranks, as both texts write it. -/
def midI (a b : Int) : Int := wrap64 (a / 2 + b / 2 + bits .and .i64 (bits .and .i64 a b) 1)
def upI (u d : Int) : Int := if nanB u then u else if atOk (wrap64 (rankI u + d)) then atI (wrap64 (rankI u + d)) else u

theorem rank_lo (u : Int) : -9218868437227405312 ≤ rankI u := by
  unfold rankI nanB; have := szI_lo u
  split
  · omega
  · rename_i h; simp only [decide_eq_true_eq] at h; split <;> omega
theorem rank_hi (u : Int) : rankI u ≤ 9218868437227405312 := by
  unfold rankI nanB; have := szI_lo u
  split
  · omega
  · rename_i h; simp only [decide_eq_true_eq] at h; split <;> omega

/-- What the document's answer tells there: of a NaN its own NaN. -/
def refUpI (u d : Int) : Int := if nanB u then 9221120237041090561 else upI u d

end Go.Proofs.YtdmldggjgaaliaaGreat
namespace Go.Proofs.YtdmldggjgaaliaaGreat
open Go.RowKit

def midOk (u v : Int) : Bool := !nanB u && !nanB v && atOk (midI (rankI u) (rankI v))
def midA (u v : Int) : Int := if !nanB u && !nanB v then atI (midI (rankI u) (rankI v)) else 0

theorem ret_midu {n m : Int} {c d : Bool} (h : n = m) (h' : c = d) : Ending.returned (.tuple #[.int .u64 n, .bool c]) = .returned (.tuple #[.int .u64 m, .bool d]) := by rw [h, h']

def gapI (u v : Int) : Int := if !nanB u && !nanB v then (if rankI u < rankI v then IntKind.u64.wrap (IntKind.u64.wrap (rankI v) - IntKind.u64.wrap (rankI u)) else IntKind.u64.wrap (IntKind.u64.wrap (rankI u) - IntKind.u64.wrap (rankI v))) else 0
def bothB (u v : Int) : Bool := !nanB u && !nanB v

end Go.Proofs.YtdmldggjgaaliaaGreat
namespace Go.Proofs
open Go.Shelf
def Tryz.lays134_ren : Go.Shelf.Ren := ⟨fun | 134 => 71 | 129 => 88 | n => n, fun | 53 => 29 | 3 => 3 | 4 => 4 | 46 => 83 | 5 => 5 | 9 => 9 | n => n, fun | n => n⟩
theorem Tryz.lays134 : Go.Proofs.Lays.n134 Tryz.prog Tryz.lays134_ren := {
  mixed := by kernel_rfl
  f129 := Tryz.func88.trans (congrArg some (by kernel_rfl))
  f134 := Tryz.func71.trans (congrArg some (by kernel_rfl))
  t3 := Tryz.underlying3
  a3 := Tryz.isAgg3
  z3 := Tryz.sizeOf3
  v3 := Tryz.zeroValue3
  t4 := Tryz.underlying4
  a4 := Tryz.isAgg4
  z4 := Tryz.sizeOf4
  v4 := Tryz.zeroValue4
  t5 := Tryz.underlying5
  a5 := Tryz.isAgg5
  z5 := Tryz.sizeOf5
  v5 := Tryz.zeroValue5
  t9 := Tryz.underlying9
  a9 := Tryz.isAgg9
  z9 := Tryz.sizeOf9
  v9 := Tryz.zeroValue9
  t46 := Tryz.underlying83
  a46 := Tryz.isAgg83
  z46 := Tryz.sizeOf83
  v46 := Tryz.zeroValue83
  t53 := Tryz.underlying29
  a53 := Tryz.isAgg29
  z53 := Tryz.sizeOf29
  v53 := Tryz.zeroValue29 }
theorem Tryz.bits_LeadingZeros64 (x : Int) (w : World) (h0 : 0 ≤ x) (h1 : x ≤ 18446744073709551615) :
    Calls Tryz.prog 71 #[.int .u64 x] w fun e w' => e = .returned (.int .i64 (64 - (Lib.bitLen x.toNat : Int))) ∧ w' = w := Any.bits_LeadingZeros64 Tryz.lays134 x w h0 h1
end Go.Proofs
namespace Go.Proofs.YtdmldggjgaaliaaGreat
open Go.RowKit

theorem lead_at (x : Int) (k : Int) (w : World) (h0 : 0 ≤ x) (h1 : x ≤ 18446744073709551615) (hk : Hid (64 - (Lib.bitLen x.toNat : Int) = k)) :
    Calls Tryz.prog 71 #[.int .u64 x] w fun e w' => e = .returned (.int .i64 k) ∧ w' = w := by
  rw [← hk.out]; exact Tryz.bits_LeadingZeros64 x w h0 h1

set_option maxHeartbeats 400000 in
theorem shiftNear3 (w : World) :
    Calls Tryz.prog 102 #[.int .u64 13835058055282163712, .int .i64 63] w fun e w' => e = .returned (.int .u64 2) ∧ ∃ n, w' = w.drewN n := by
  have hb : bits .and .u64 1 1 = 1 := by decide
  go_enter Tryz.func102, Tryz.ntmps102
  go_wp2
  go_quiet (fail)
  go_wp2
  go_ret
  exact ⟨rfl, _, rfl⟩

set_option maxRecDepth 100000 in
set_option maxHeartbeats 400000 in
theorem join3 (w : World) :
    Calls Tryz.prog 72 #[.int .i64 3, .int .i64 (-1075)] w fun e w' => e = .returned (.float .f64 2) ∧ ∃ n, w' = w.drewN n := by
  have hb := call_frombits
  go_enter Tryz.func72, Tryz.ntmps72
  go_wp2_with (first | (go_at_call 71; refine (lead_at _ 62 _ (by omega) (by omega) (by show _ = _; decide)).mono ?_; rintro e w' ⟨rfl, rfl⟩) | (go_at_call 90; go_in) | (go_at_call 102; refine (shiftNear3 _).mono ?_; rintro e w' ⟨rfl, nq, rfl⟩) | (go_at_call 89; refine (withSign_pos _ _).mono ?_; rintro e w' ⟨rfl, rfl⟩))
  go_ret
  exact ⟨rfl, _, rfl⟩

theorem u64_of_wf {b : Nat} (h : (Lit.float .f64 b).wf = true) : U64 b := by
  simp only [Lit.wf, decide_eq_true_eq] at h
  exact ⟨by omega, by omega⟩
theorem grown_drewN (w : World) (n : Nat) : Grown w (w.drewN n) := Grown.refl w
end Go.Proofs.YtdmldggjgaaliaaGreat
