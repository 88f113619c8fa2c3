/- What the document's 'rounded' reckons, by whole numbers; it is the nearest number. The contracts of the small functions of package ieee and of the document's answer: classes, ranks, At. -/
import Derived.Test.YtbkmbdbjeiffpaaHab
import Derived.Test.YtbkmbdbjeiffpaaRows
import Derived.Test.YtbkmbdbjeiffpaaHaa
import Derived.WalkKit
import Derived.WalkSpells
import Derived.WalkLawsBesides
import Derived.Handy
namespace Go.Proofs.Ytbkmbdbjeiffpaa

/-- The place of the last digit that is kept: a mantissa of 53 bits. -/
def lsb53 (N : Nat) (e : Int) : Int := max ((bl N : Int) - 53 + e) (-1074)
/-- The digits that are kept, rounded ('more': a little more than N). -/
def keptD (N d : Nat) (more : Bool) : Nat := N / 2 ^ d + (if N / 2 ^ (d - 1) % 2 = 1 ∧ (N % 2 ^ (d - 1) ≠ 0 ∨ more = true ∨ N / 2 ^ d % 2 = 1) then 1 else 0)
def kept53 (N : Nat) (e : Int) (more : Bool) : Nat := if lsb53 N e ≤ e then N * 2 ^ (e - lsb53 N e).toNat else keptD N (lsb53 N e - e).toNat more
def rnd53 (N : Nat) (e : Int) (more : Bool) : Nat := (lsb53 N e + 1074).toNat * 4503599627370496 + kept53 N e more

theorem bl_pos {N : Nat} (h : N ≠ 0) : bl N = N.log2 + 1 := by unfold bl; rw [if_neg h]
theorem lt_bl (N : Nat) : N < 2 ^ bl N := by
  unfold bl
  by_cases h : N = 0
  · subst h; decide
  · rw [if_neg h]; exact Nat.lt_log2_self
theorem bl_nd (N : Nat) : bl N ≤ 32 * nd N := by
  unfold bl nd
  by_cases h : N = 0
  · rw [if_pos h]; omega
  · rw [if_neg h, if_neg h]; omega

theorem lsb_ge (N : Nat) (e : Int) : -1074 ≤ lsb53 N e := by unfold lsb53; omega
theorem kept_up {N : Nat} {e : Int} (h : lsb53 N e ≤ e) : N * 2 ^ (e - lsb53 N e).toNat < 9007199254740992 := by
  have h1 : (bl N : Int) - 53 + e ≤ lsb53 N e := by unfold lsb53; omega
  have h2 := lt_bl N
  calc N * 2 ^ (e - lsb53 N e).toNat < 2 ^ bl N * 2 ^ (e - lsb53 N e).toNat := Nat.mul_lt_mul_of_pos_right h2 (Nat.two_pow_pos _)
    _ = 2 ^ (bl N + (e - lsb53 N e).toNat) := by rw [Nat.pow_add]
    _ ≤ 2 ^ 53 := Nat.pow_le_pow_right (by decide) (by omega)
theorem kept_down {N : Nat} {e : Int} (h : e < lsb53 N e) : N / 2 ^ (lsb53 N e - e).toNat < 9007199254740992 := by
  have h1 : (bl N : Int) - 53 + e ≤ lsb53 N e := by unfold lsb53; omega
  have h2 := lt_bl N
  rw [Nat.div_lt_iff_lt_mul (Nat.two_pow_pos _), show (9007199254740992 : Nat) = 2 ^ 53 from rfl, ← Nat.pow_add]
  exact Nat.lt_of_lt_of_le h2 (Nat.pow_le_pow_right (by decide) (by omega))
theorem keptD_le (N d : Nat) (more : Bool) : keptD N d more ≤ N / 2 ^ d + 1 := by unfold keptD; split <;> omega
theorem kept_le (N : Nat) (e : Int) (more : Bool) : kept53 N e more ≤ 9007199254740992 := by
  unfold kept53
  by_cases h : lsb53 N e ≤ e
  · rw [if_pos h]; exact Nat.le_of_lt (kept_up h)
  · rw [if_neg h]
    have h1 := kept_down (N := N) (e := e) (by omega)
    have h2 := keptD_le N (lsb53 N e - e).toNat more
    omega

theorem two_digits {K : Nat} (h : K < 18446744073709551616) : dgt K 0 + dgt K 1 * 4294967296 = K := by
  unfold dgt
  rw [Nat.mul_zero, Nat.pow_zero, Nat.div_one, show (2 : Nat) ^ (32 * 1) = 4294967296 from rfl]; omega

theorem keptD_rne {N d : Nat} (hd : 1 ≤ d) : keptD N d false = rne N d := by
  unfold keptD rne
  congr 1
  obtain ⟨k, rfl⟩ : ∃ k, d = k + 1 := ⟨d - 1, by omega⟩
  rw [Nat.add_sub_cancel]
  have e : N % 2 ^ (k + 1) = N % 2 ^ k + 2 ^ k * (N / 2 ^ k % 2) := by rw [Nat.pow_succ, Nat.mod_mul]
  have hp := Nat.two_pow_pos k
  have hlt : N % 2 ^ k < 2 ^ k := Nat.mod_lt _ hp
  rw [e, Nat.pow_succ]
  have hb : N / 2 ^ k % 2 = 0 ∨ N / 2 ^ k % 2 = 1 := by omega
  rcases hb with hb | hb
  · rw [hb, if_neg (by omega), if_neg (by omega)]
  · rw [hb, Nat.mul_one]
    by_cases h0 : N % 2 ^ k = 0
    · by_cases h1 : N / (2 ^ k * 2) % 2 = 1
      · rw [if_pos ⟨rfl, Or.inr (Or.inr h1)⟩, if_pos (Or.inr ⟨by omega, h1⟩)]
      · rw [if_neg (by simp; omega), if_neg (by omega)]
    · rw [if_pos ⟨rfl, Or.inl h0⟩, if_pos (Or.inl (by omega))]

/-- The document's rounding is the model's. -/
theorem rnd_near {N : Nat} (e : Int) (h : N ≠ 0) : min (rnd53 N e false) 9218868437227405312 = nearR N e := by
  have hl : lsb53 N e = lastP N e := by unfold lsb53 lastP; rw [bl_pos h]; omega
  unfold rnd53 kept53 nearR
  rw [hl]
  congr 2
  by_cases hc : lastP N e ≤ e
  · rw [if_pos hc, show (lastP N e - e).toNat = 0 by omega, rne_zero]
  · rw [if_neg hc, keptD_rne (by omega), show (e - lastP N e).toNat = 0 by omega, Nat.pow_zero, Nat.mul_one]
end Go.Proofs.Ytbkmbdbjeiffpaa
namespace Go.Proofs.Ytbkmbdbjeiffpaa
open Go.RowKit

theorem ret_int {k : IntKind} {a b : Int} (h : a = b) : Ending.returned (.int k a) = .returned (.int k b) := by rw [h]
theorem ret_bool {a b : Bool} (h : a = b) : Ending.returned (.bool a) = .returned (.bool b) := by rw [h]
theorem ret_f64 {a b : Nat} (h : a = b) : Ending.returned (.float .f64 a) = .returned (.float .f64 b) := by rw [h]

theorem call_bits (b : Nat) (w : World) : (callFunc 33 #[.float .f64 b]).run Try.prog w = .ok (.value (.int .u64 b)) w :=
  (run_callFunc_extern (e := Extern.MathFloatBits.float64bits) Try.func33 (by kernel_rfl) (by kernel_rfl) (by kernel_rfl) (by kernel_rfl) _ w).trans rfl

theorem call_frombits (n : Int) (w : World) : (callFunc 86 #[.int .u64 n]).run Try.prog w = .ok (.value (.float .f64 n.toNat)) w :=
  (run_callFunc_extern (e := Extern.MathFloatBits.float64frombits) Try.func86 (by kernel_rfl) (by kernel_rfl) (by kernel_rfl) (by kernel_rfl) _ w).trans rfl

set_option maxHeartbeats 400000 in
theorem bits_any (b : Nat) (w : World) :
    Calls Try.prog 9 #[.float .f64 b] w fun e w' => e = .returned (.int .u64 b) ∧ w' = w := by
  have hb := call_bits
  go_enter Try.func9, Try.ntmps9
  go_wp2
  go_ret
  exact ⟨rfl, rfl⟩

set_option maxHeartbeats 400000 in
theorem float_any (n : Int) (w : World) :
    Calls Try.prog 99 #[.int .u64 n] w fun e w' => e = .returned (.float .f64 n.toNat) ∧ w' = w := by
  have hb := call_frombits
  go_enter Try.func99, Try.ntmps99
  go_wp2
  go_ret
  exact ⟨rfl, rfl⟩

set_option maxHeartbeats 400000 in
theorem size_any (b : Nat) (w : World) (h : U64 b) :
    Calls Try.prog 93 #[.float .f64 b] w fun e w' => e = .returned (.int .u64 (szI b)) ∧ w' = w := by
  go_enter Try.func93, Try.ntmps93
  go_wp2_with (go_at_call 9; refine (bits_any _ _).mono ?_; rintro e w' ⟨rfl, rfl⟩)
  go_ret
  exact ⟨ret_int (andNot_sz h), rfl⟩

set_option maxHeartbeats 400000 in
theorem signed_any (b : Nat) (w : World) (h : U64 b) :
    Calls Try.prog 94 #[.float .f64 b] w fun e w' => e = .returned (.bool (sgB b)) ∧ w' = w := by
  go_enter Try.func94, Try.ntmps94
  go_wp2_with (go_at_call 9; refine (bits_any _ _).mono ?_; rintro e w' ⟨rfl, rfl⟩)
  go_ret
  refine ⟨ret_bool ?_, rfl⟩
  rw [and_sg h]
  cases sgB b <;> rfl

theorem nan_cast (u : Int) : decide ((9218868437227405312 : Int) < szI u) = nanB u := rfl

set_option maxHeartbeats 400000 in
theorem refNaN_any (b : Int) (w : World) (h : U64 b) :
    Calls Try.prog 47 #[.int .u64 b] w fun e w' => e = .returned (.bool (nanB b)) ∧ w' = w := by
  have hz := andNot_sz h
  have hn := nan_cast b
  go_enter Try.func47, Try.ntmps47
  go_wp2
  go_ret
  exact ⟨rfl, rfl⟩

set_option maxHeartbeats 400000 in
theorem refNegative_any (b : Int) (w : World) :
    Calls Try.prog 57 #[.int .u64 b] w fun e w' => e = .returned (.bool (sgB b)) ∧ w' = w := by
  go_enter Try.func57, Try.ntmps57
  go_wp2
  go_ret
  exact ⟨rfl, rfl⟩

set_option maxHeartbeats 400000 in
theorem refSize_any (b : Int) (w : World) (h : U64 b) :
    Calls Try.prog 32 #[.int .u64 b] w fun e w' => e = .returned (.int .u64 (szI b)) ∧ w' = w := by
  have hz := andNot_sz h
  go_enter Try.func32, Try.ntmps32
  go_wp2
  go_ret
  exact ⟨rfl, rfl⟩

end Go.Proofs.Ytbkmbdbjeiffpaa
