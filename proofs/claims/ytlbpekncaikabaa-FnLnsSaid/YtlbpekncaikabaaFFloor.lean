/- The contract of math.Floor, of numbers below 2^52. -/
import Derived.Test.YtlbpekncaikabaaFPow
namespace Go.Proofs.Ytlbpekncaikabaa
open Go.RowKit

set_option maxHeartbeats 400000 in
theorem abs_any (b : Nat) (w : World) (h : U64 b) :
    Calls Try.prog 69 #[.float .f64 b] w fun e w' => e = .returned (.float .f64 (szI b).toNat) ∧ w' = w := by
  have h1 := call_bits
  have h2 := call_frombits
  have h3 := andNot_sz h
  go_enter Try.func69, Try.ntmps69
  go_wp2
  go_ret
  exact ⟨rfl, rfl⟩

theorem rank_small {b : Nat} (h : b < 9218868437227405312) : U64 (b : Int) ∧ nanB (b : Int) = false ∧ rankI (b : Int) = b := by
  have h1 : szI (b : Int) = b := by unfold szI; omega
  have h2 : nanB (b : Int) = false := by unfold nanB; rw [h1]; simp; omega
  have h3 : sgB (b : Int) = false := by simp [sgB]; omega
  exact ⟨by unfold U64; omega, h2, by rw [rank_pos h2 h3, h1]⟩
theorem lt_small {a b : Nat} (ha : a < 9218868437227405312) (hb : b < 9218868437227405312) : (FloatKind.f64.format.order a b == some .lt) = decide (a < b) := by
  obtain ⟨a1, a2, a3⟩ := rank_small ha
  obtain ⟨b1, b2, b3⟩ := rank_small hb
  rw [lt_rank a1 b1 a2 b2, a3, b3]
  simp
theorem eq_small {a b : Nat} (ha : a < 9218868437227405312) (hb : b < 9218868437227405312) : (FloatKind.f64.format.order a b == some .eq) = decide (a = b) := by
  obtain ⟨a1, a2, a3⟩ := rank_small ha
  obtain ⟨b1, b2, b3⟩ := rank_small hb
  rw [eq_rank a1 b1 a2 b2, a3, b3]
  by_cases h : a = b
  · simp [h]
  · have : ¬ ((a : Int) = b) := by omega
    simp [h, this]

theorem cut_down (neg : Bool) (n drop : Nat) : Ieee.Toward.down.cut neg n drop = n / 2 ^ drop + (if neg = true ∧ n % 2 ^ drop ≠ 0 then 1 else 0) := by
  show n / (1 <<< min drop (n.log2 + 2)) + (neg && n % (1 <<< min drop (n.log2 + 2)) != 0).toNat = _
  rw [Nat.one_shiftLeft]
  have key : n / 2 ^ min drop (n.log2 + 2) = n / 2 ^ drop ∧ n % 2 ^ min drop (n.log2 + 2) = n % 2 ^ drop := by
    by_cases h : drop ≤ n.log2 + 2
    · rw [Nat.min_eq_left h]; exact ⟨rfl, rfl⟩
    · rw [Nat.min_eq_right (by omega)]
      have hl : n < 2 ^ (n.log2 + 1) := Nat.lt_log2_self
      have h1 : (2 : Nat) ^ (n.log2 + 1) ≤ 2 ^ (n.log2 + 2) := Nat.pow_le_pow_right (by decide) (by omega)
      have h2 : (2 : Nat) ^ (n.log2 + 2) ≤ 2 ^ drop := Nat.pow_le_pow_right (by decide) (by omega)
      rw [Nat.div_eq_of_lt (by omega), Nat.div_eq_of_lt (by omega), Nat.mod_eq_of_lt (by omega), Nat.mod_eq_of_lt (by omega)]
      exact ⟨rfl, rfl⟩
  rw [key.1, key.2]
  congr 1
  cases neg
  · rfl
  · by_cases h0 : n % 2 ^ drop = 0
    · rw [h0]; rfl
    · rw [if_pos ⟨rfl, h0⟩]; simp [h0]
theorem cut_scale (m p K : Nat) : (m <<< (-(K : Int) + (p : Int)).toNat) / 2 ^ (-(-(K : Int) + (p : Int))).toNat = m * 2 ^ p / 2 ^ K ∧ ((m <<< (-(K : Int) + (p : Int)).toNat) % 2 ^ (-(-(K : Int) + (p : Int))).toNat = 0 ↔ m * 2 ^ p % 2 ^ K = 0) := by
  rw [Nat.shiftLeft_eq]
  by_cases h : p ≤ K
  · have e1 : (-(K : Int) + (p : Int)).toNat = 0 := by omega
    have e2 : (-(-(K : Int) + (p : Int))).toNat = K - p := by omega
    have e3 : (2 : Nat) ^ K = 2 ^ (K - p) * 2 ^ p := by rw [← Nat.pow_add, show K - p + p = K by omega]
    have hp := Nat.two_pow_pos p
    rw [e1, e2, e3, Nat.pow_zero, Nat.mul_one, Nat.mul_div_mul_right _ _ hp, Nat.mul_mod_mul_right]
    refine ⟨rfl, ?_⟩
    constructor
    · intro h; rw [h, Nat.zero_mul]
    · intro h; rcases Nat.mul_eq_zero.1 h with h | h
      · exact h
      · omega
  · have e1 : (-(K : Int) + (p : Int)).toNat = p - K := by omega
    have e2 : (-(-(K : Int) + (p : Int))).toNat = 0 := by omega
    have e3 : (2 : Nat) ^ p = 2 ^ (p - K) * 2 ^ K := by rw [← Nat.pow_add, show p - K + K = p by omega]
    have hp := Nat.two_pow_pos K
    rw [e1, e2, e3, Nat.pow_zero, Nat.div_one, Nat.mod_one, ← Nat.mul_assoc, Nat.mul_div_cancel _ hp, Nat.mul_mod_left]
    exact ⟨rfl, Iff.rfl⟩
/-- The greatest whole number that is not above. -/
theorem floor_word {b K : Nat} (hK : K = 1074) (h : NumB b) (hz : b % 9223372036854775808 ≠ 0 ∨ sB b = false) :
    ∃ k : Int, Ieee.double.write ((Ieee.double.read b).integral .down) = fi k ∧ k * ((2 ^ K : Nat) : Int) ≤ vI b ∧ vI b < (k + 1) * ((2 ^ K : Nat) : Int) := by
  rw [read_num h]
  have hv := vI_eq b
  have hs : (b / 9223372036854775808 % 2 == 1) = sB b := rfl
  have hm0 : b % 9223372036854775808 ≠ 0 → mg (b % 9223372036854775808) ≠ 0 := fun h => by unfold mg; split <;> omega
  rw [hs] at hv ⊢
  generalize b % 9223372036854775808 = r at *
  generalize hm : mg r = m at *
  generalize pl r = p at *
  have hP := Nat.two_pow_pos K
  have hp2 := Nat.two_pow_pos p
  obtain ⟨c1, c2⟩ := cut_scale m p K
  have key : ∀ s, Ieee.double.write ((Ieee.Datum.number s m (-1074 + (p : Int))).integral .down) = Ieee.double.nearest s (m * 2 ^ p / 2 ^ K + (if s = true ∧ m * 2 ^ p % 2 ^ K ≠ 0 then 1 else 0)) 0 := fun s => by
    show Ieee.double.nearest s (Ieee.Toward.down.cut s (m <<< (-1074 + (p : Int)).toNat) (-(-1074 + (p : Int))).toNat) 0 = _
    have e : (-1074 + (p : Int)) = -(K : Int) + (p : Int) := by omega
    rw [cut_down, e, c1]
    congr 2
    simp only [ne_eq, c2]
  rw [key]
  obtain ⟨A, hA⟩ : ∃ A, m * 2 ^ p = A := ⟨_, rfl⟩
  obtain ⟨P, hPP⟩ : ∃ P, 2 ^ K = P := ⟨_, rfl⟩
  rw [hA] at hv ⊢
  rw [hPP] at hP ⊢
  have hd := Nat.div_add_mod A P
  have hlt := Nat.mod_lt A hP
  generalize A / P = q at *
  generalize A % P = t at *
  clear key c1 c2
  cases hsb : sB b with
  | false =>
    rw [hsb] at hv
    refine ⟨(q : Nat), ?_, ?_, ?_⟩
    · rw [if_neg (by simp), Nat.add_zero]
      unfold fi joinN
      by_cases h0 : q = 0
      · rw [h0, nearest_zero]; rfl
      · rw [nearest_eq _ h0, word_false, if_neg (by omega), if_neg (by omega), Int.natAbs_natCast]
    · rw [hv]; show ((q : Nat) : Int) * (P : Int) ≤ (A : Int)
      rw [← Int.natCast_mul, Nat.mul_comm]; omega
    · rw [hv]; show (A : Int) < (((q : Nat) : Int) + 1) * (P : Int)
      rw [Int.add_mul, ← Int.natCast_mul, Nat.mul_comm]; omega
  | true =>
    rw [hsb] at hv
    have hr0 : r ≠ 0 := by
      rcases hz with h | h
      · exact h
      · rw [hsb] at h; cases h
    have hA0 : A ≠ 0 := by rw [← hA]; exact Nat.mul_ne_zero (hm0 hr0) (by omega)
    by_cases hr : t = 0
    · refine ⟨-((q : Nat) : Int), ?_, ?_, ?_⟩
      · rw [if_neg (by simp [hr]), Nat.add_zero]
        have h0 : q ≠ 0 := by
          intro h0; rw [h0, Nat.mul_zero] at hd; omega
        unfold fi joinN
        rw [nearest_eq _ h0, word_true, if_neg (by omega), if_pos (by omega), Int.natAbs_neg, Int.natAbs_natCast]
      · rw [hv]; show -((q : Nat) : Int) * (P : Int) ≤ -(A : Int)
        rw [Int.neg_mul, ← Int.natCast_mul, Nat.mul_comm]; omega
      · rw [hv]; show -(A : Int) < (-((q : Nat) : Int) + 1) * (P : Int)
        rw [Int.add_mul, Int.neg_mul, ← Int.natCast_mul, Nat.mul_comm]; omega
    · refine ⟨-((q + 1 : Nat) : Int), ?_, ?_, ?_⟩
      · rw [if_pos ⟨rfl, hr⟩]
        unfold fi joinN
        rw [nearest_eq _ (by omega), word_true, if_neg (by omega), if_pos (by omega), Int.natAbs_neg, Int.natAbs_natCast]
      · rw [hv]; show -((q + 1 : Nat) : Int) * (P : Int) ≤ -(A : Int)
        rw [Int.neg_mul, ← Int.natCast_mul, Nat.add_mul, Nat.mul_comm (q)]; omega
      · rw [hv]; show -(A : Int) < (-((q + 1 : Nat) : Int) + 1) * (P : Int)
        rw [Int.add_mul, Int.neg_mul, ← Int.natCast_mul, Nat.add_mul, Nat.mul_comm (q)]; omega

theorem toIntegral_num (b : Nat) (s : Bool) (m : Nat) (i : Int) (hd : FloatKind.f64.decode b = .number s m i) : Extern.MathFloor.toIntegral "math.archFloor" .down #[.float .f64 b] = pure (.float .f64 (FloatKind.f64.encode ((Ieee.Datum.number s m i).integral .down))) := by
  conv => lhs; whnf
  rw [hd]
theorem call_archFloor (b : Nat) (h : NumB b) (w : World) : (callFunc 53 #[.float .f64 b]).run Try.prog w = .ok (.value (.float .f64 (Ieee.double.write ((Ieee.double.read b).integral .down)))) w := by
  refine (run_callFunc_extern (e := Extern.MathFloor.toIntegral "math.archFloor" .down) Try.func53 (by kernel_rfl) (by kernel_rfl) (by kernel_rfl) (by kernel_rfl) _ w).trans ?_
  have e : FloatKind.f64.decode b = _ := read_num h
  rw [toIntegral_num b _ _ _ e, read_num h]
  rfl

set_option maxHeartbeats 800000 in
theorem floor_at (b f : Nat) (w : World) (h : NumB b) (hf : Ieee.double.write ((Ieee.double.read b).integral .down) = f) :
    Calls Try.prog 25 #[.float .f64 b] w fun e w' => e = .returned (.float .f64 f) ∧ w' = w := by
  have h1 := call_archFloor b h
  rw [hf] at h1
  clear hf h
  go_enter Try.func25, Try.ntmps25
  go_wp2
  go_ret
  exact ⟨rfl, rfl⟩
end Go.Proofs.Ytlbpekncaikabaa
