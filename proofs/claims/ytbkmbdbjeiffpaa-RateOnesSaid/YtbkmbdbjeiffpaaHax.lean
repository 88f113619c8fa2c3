/- The contract of math.Floor, of numbers below 2^52. How far a sum and a product lie from what they are rounded from; Exp's rest is small. -/
import Derived.Test.YtbkmbdbjeiffpaaHaw
namespace Go.Proofs.Ytbkmbdbjeiffpaa
open Go.RowKit

set_option maxHeartbeats 400000 in
theorem abs_any (b : Nat) (w : World) (h : U64 b) :
    Calls Try.prog 63 #[.float .f64 b] w fun e w' => e = .returned (.float .f64 (szI b).toNat) ∧ w' = w := by
  have h1 := call_bits
  have h2 := call_frombits
  have h3 := andNot_sz h
  go_enter Try.func63, Try.ntmps63
  go_wp2
  go_ret
  exact ⟨rfl, rfl⟩

theorem rank_small {b : Nat} (h : b < 9218868437227405312) : U64 (b : Int) ∧ nanB (b : Int) = false ∧ rankI (b : Int) = b := by
  have h1 : szI (b : Int) = b := by unfold szI; omega
  have h2 : nanB (b : Int) = false := by unfold nanB; rw [h1]; simp; omega
  have h3 : sgB (b : Int) = false := by simp [sgB]; omega
  exact ⟨by unfold U64; omega, h2, by rw [rank_pos h2 h3, h1]⟩
theorem lt_small {a b : Nat} (ha : a < 9218868437227405312) (hb : b < 9218868437227405312) : (FloatKind.f64.format.order a b == some .lt) = decide (a < b) := by
  obtain ⟨a1, a2, a3⟩ := rank_small ha
  obtain ⟨b1, b2, b3⟩ := rank_small hb
  rw [lt_rank a1 b1 a2 b2, a3, b3]
  simp
theorem eq_small {a b : Nat} (ha : a < 9218868437227405312) (hb : b < 9218868437227405312) : (FloatKind.f64.format.order a b == some .eq) = decide (a = b) := by
  obtain ⟨a1, a2, a3⟩ := rank_small ha
  obtain ⟨b1, b2, b3⟩ := rank_small hb
  rw [eq_rank a1 b1 a2 b2, a3, b3]
  by_cases h : a = b
  · simp [h]
  · have : ¬ ((a : Int) = b) := by omega
    simp [h, this]

theorem cut_down (neg : Bool) (n drop : Nat) : Ieee.Toward.down.cut neg n drop = n / 2 ^ drop + (if neg = true ∧ n % 2 ^ drop ≠ 0 then 1 else 0) := by
  show n / (1 <<< min drop (n.log2 + 2)) + (neg && n % (1 <<< min drop (n.log2 + 2)) != 0).toNat = _
  rw [Nat.one_shiftLeft]
  have key : n / 2 ^ min drop (n.log2 + 2) = n / 2 ^ drop ∧ n % 2 ^ min drop (n.log2 + 2) = n % 2 ^ drop := by
    by_cases h : drop ≤ n.log2 + 2
    · rw [Nat.min_eq_left h]; exact ⟨rfl, rfl⟩
    · rw [Nat.min_eq_right (by omega)]
      have hl : n < 2 ^ (n.log2 + 1) := Nat.lt_log2_self
      have h1 : (2 : Nat) ^ (n.log2 + 1) ≤ 2 ^ (n.log2 + 2) := Nat.pow_le_pow_right (by decide) (by omega)
      have h2 : (2 : Nat) ^ (n.log2 + 2) ≤ 2 ^ drop := Nat.pow_le_pow_right (by decide) (by omega)
      rw [Nat.div_eq_of_lt (by omega), Nat.div_eq_of_lt (by omega), Nat.mod_eq_of_lt (by omega), Nat.mod_eq_of_lt (by omega)]
      exact ⟨rfl, rfl⟩
  rw [key.1, key.2]
  congr 1
  cases neg
  · rfl
  · by_cases h0 : n % 2 ^ drop = 0
    · rw [h0]; rfl
    · rw [if_pos ⟨rfl, h0⟩]; simp [h0]
theorem cut_scale (m p K : Nat) : (m <<< (-(K : Int) + (p : Int)).toNat) / 2 ^ (-(-(K : Int) + (p : Int))).toNat = m * 2 ^ p / 2 ^ K ∧ ((m <<< (-(K : Int) + (p : Int)).toNat) % 2 ^ (-(-(K : Int) + (p : Int))).toNat = 0 ↔ m * 2 ^ p % 2 ^ K = 0) := by
  rw [Nat.shiftLeft_eq]
  by_cases h : p ≤ K
  · have e1 : (-(K : Int) + (p : Int)).toNat = 0 := by omega
    have e2 : (-(-(K : Int) + (p : Int))).toNat = K - p := by omega
    have e3 : (2 : Nat) ^ K = 2 ^ (K - p) * 2 ^ p := by rw [← Nat.pow_add, show K - p + p = K by omega]
    have hp := Nat.two_pow_pos p
    rw [e1, e2, e3, Nat.pow_zero, Nat.mul_one, Nat.mul_div_mul_right _ _ hp, Nat.mul_mod_mul_right]
    refine ⟨rfl, ?_⟩
    constructor
    · intro h; rw [h, Nat.zero_mul]
    · intro h; rcases Nat.mul_eq_zero.1 h with h | h
      · exact h
      · omega
  · have e1 : (-(K : Int) + (p : Int)).toNat = p - K := by omega
    have e2 : (-(-(K : Int) + (p : Int))).toNat = 0 := by omega
    have e3 : (2 : Nat) ^ p = 2 ^ (p - K) * 2 ^ K := by rw [← Nat.pow_add, show p - K + K = p by omega]
    have hp := Nat.two_pow_pos K
    rw [e1, e2, e3, Nat.pow_zero, Nat.div_one, Nat.mod_one, ← Nat.mul_assoc, Nat.mul_div_cancel _ hp, Nat.mul_mod_left]
    exact ⟨rfl, Iff.rfl⟩
/-- The greatest whole number that is not above. -/
theorem floor_word {b K : Nat} (hK : K = 1074) (h : NumB b) (hz : b % 9223372036854775808 ≠ 0 ∨ sB b = false) :
    ∃ k : Int, Ieee.double.write ((Ieee.double.read b).integral .down) = fi k ∧ k * ((2 ^ K : Nat) : Int) ≤ vI b ∧ vI b < (k + 1) * ((2 ^ K : Nat) : Int) := by
  rw [read_num h]
  have hv := vI_eq b
  have hs : (b / 9223372036854775808 % 2 == 1) = sB b := rfl
  have hm0 : b % 9223372036854775808 ≠ 0 → mg (b % 9223372036854775808) ≠ 0 := fun h => by unfold mg; split <;> omega
  rw [hs] at hv ⊢
  generalize b % 9223372036854775808 = r at *
  generalize hm : mg r = m at *
  generalize pl r = p at *
  have hP := Nat.two_pow_pos K
  have hp2 := Nat.two_pow_pos p
  obtain ⟨c1, c2⟩ := cut_scale m p K
  have key : ∀ s, Ieee.double.write ((Ieee.Datum.number s m (-1074 + (p : Int))).integral .down) = Ieee.double.nearest s (m * 2 ^ p / 2 ^ K + (if s = true ∧ m * 2 ^ p % 2 ^ K ≠ 0 then 1 else 0)) 0 := fun s => by
    show Ieee.double.nearest s (Ieee.Toward.down.cut s (m <<< (-1074 + (p : Int)).toNat) (-(-1074 + (p : Int))).toNat) 0 = _
    have e : (-1074 + (p : Int)) = -(K : Int) + (p : Int) := by omega
    rw [cut_down, e, c1]
    congr 2
    simp only [ne_eq, c2]
  rw [key]
  obtain ⟨A, hA⟩ : ∃ A, m * 2 ^ p = A := ⟨_, rfl⟩
  obtain ⟨P, hPP⟩ : ∃ P, 2 ^ K = P := ⟨_, rfl⟩
  rw [hA] at hv ⊢
  rw [hPP] at hP ⊢
  have hd := Nat.div_add_mod A P
  have hlt := Nat.mod_lt A hP
  generalize A / P = q at *
  generalize A % P = t at *
  clear key c1 c2
  cases hsb : sB b with
  | false =>
    rw [hsb] at hv
    refine ⟨(q : Nat), ?_, ?_, ?_⟩
    · rw [if_neg (by simp), Nat.add_zero]
      unfold fi joinN
      by_cases h0 : q = 0
      · rw [h0, nearest_zero]; rfl
      · rw [nearest_eq _ h0, word_false, if_neg (by omega), if_neg (by omega), Int.natAbs_natCast]
    · rw [hv]; show ((q : Nat) : Int) * (P : Int) ≤ (A : Int)
      rw [← Int.natCast_mul, Nat.mul_comm]; omega
    · rw [hv]; show (A : Int) < (((q : Nat) : Int) + 1) * (P : Int)
      rw [Int.add_mul, ← Int.natCast_mul, Nat.mul_comm]; omega
  | true =>
    rw [hsb] at hv
    have hr0 : r ≠ 0 := by
      rcases hz with h | h
      · exact h
      · rw [hsb] at h; cases h
    have hA0 : A ≠ 0 := by rw [← hA]; exact Nat.mul_ne_zero (hm0 hr0) (by omega)
    by_cases hr : t = 0
    · refine ⟨-((q : Nat) : Int), ?_, ?_, ?_⟩
      · rw [if_neg (by simp [hr]), Nat.add_zero]
        have h0 : q ≠ 0 := by
          intro h0; rw [h0, Nat.mul_zero] at hd; omega
        unfold fi joinN
        rw [nearest_eq _ h0, word_true, if_neg (by omega), if_pos (by omega), Int.natAbs_neg, Int.natAbs_natCast]
      · rw [hv]; show -((q : Nat) : Int) * (P : Int) ≤ -(A : Int)
        rw [Int.neg_mul, ← Int.natCast_mul, Nat.mul_comm]; omega
      · rw [hv]; show -(A : Int) < (-((q : Nat) : Int) + 1) * (P : Int)
        rw [Int.add_mul, Int.neg_mul, ← Int.natCast_mul, Nat.mul_comm]; omega
    · refine ⟨-((q + 1 : Nat) : Int), ?_, ?_, ?_⟩
      · rw [if_pos ⟨rfl, hr⟩]
        unfold fi joinN
        rw [nearest_eq _ (by omega), word_true, if_neg (by omega), if_pos (by omega), Int.natAbs_neg, Int.natAbs_natCast]
      · rw [hv]; show -((q + 1 : Nat) : Int) * (P : Int) ≤ -(A : Int)
        rw [Int.neg_mul, ← Int.natCast_mul, Nat.add_mul, Nat.mul_comm (q)]; omega
      · rw [hv]; show -(A : Int) < (-((q + 1 : Nat) : Int) + 1) * (P : Int)
        rw [Int.add_mul, Int.neg_mul, ← Int.natCast_mul, Nat.add_mul, Nat.mul_comm (q)]; omega

theorem toIntegral_num (b : Nat) (s : Bool) (m : Nat) (i : Int) (hd : FloatKind.f64.decode b = .number s m i) : Extern.MathFloor.toIntegral "math.archFloor" .down #[.float .f64 b] = pure (.float .f64 (FloatKind.f64.encode ((Ieee.Datum.number s m i).integral .down))) := by
  conv => lhs; whnf
  rw [hd]
theorem call_archFloor (b : Nat) (h : NumB b) (w : World) : (callFunc 91 #[.float .f64 b]).run Try.prog w = .ok (.value (.float .f64 (Ieee.double.write ((Ieee.double.read b).integral .down)))) w := by
  refine (run_callFunc_extern (e := Extern.MathFloor.toIntegral "math.archFloor" .down) Try.func91 (by kernel_rfl) (by kernel_rfl) (by kernel_rfl) (by kernel_rfl) _ w).trans ?_
  have e : FloatKind.f64.decode b = _ := read_num h
  rw [toIntegral_num b _ _ _ e, read_num h]
  rfl

set_option maxHeartbeats 800000 in
theorem floor_at (b f : Nat) (w : World) (h : NumB b) (hf : Ieee.double.write ((Ieee.double.read b).integral .down) = f) :
    Calls Try.prog 77 #[.float .f64 b] w fun e w' => e = .returned (.float .f64 f) ∧ w' = w := by
  have h1 := call_archFloor b h
  rw [hf] at h1
  clear hf h
  go_enter Try.func77, Try.ntmps77
  go_wp2
  go_ret
  exact ⟨rfl, rfl⟩
end Go.Proofs.Ytbkmbdbjeiffpaa
namespace Go.Proofs.Ytbkmbdbjeiffpaa

theorem vI_wrd {s : Bool} {r : Nat} (h : r < 9218868437227405312) : vI (wrd s r) = sgZ s (V r) ∧ NumB (wrd s r) ∧ wrd s r < 18446744073709551616 ∧ sB (wrd s r) = s := by
  cases s
  · have e : wrd false r = r := rfl
    rw [e]
    refine ⟨?_, ?_, by omega, ?_⟩
    · rw [vI_sgZ]
      unfold sB aV
      rw [show r / 9223372036854775808 % 2 = 0 by omega, show r % 9223372036854775808 = r by omega]; rfl
    · unfold NumB; omega
    · unfold sB; rw [show r / 9223372036854775808 % 2 = 0 by omega]; rfl
  · have e : wrd true r = 9223372036854775808 + r := rfl
    rw [e]
    refine ⟨?_, ?_, by omega, ?_⟩
    · rw [vI_sgZ]
      unfold sB aV
      rw [show (9223372036854775808 + r) / 9223372036854775808 % 2 = 1 by omega, show (9223372036854775808 + r) % 9223372036854775808 = r by omega]; rfl
    · unfold NumB; omega
    · unfold sB; rw [show (9223372036854775808 + r) / 9223372036854775808 % 2 = 1 by omega]; rfl
theorem joinN_wrd {T e : Int} (h : T ≠ 0) : joinN T e = wrd (decide (T < 0)) (nearR T.natAbs e) := by
  unfold joinN wrd
  rw [if_neg h]
  by_cases hn : T < 0
  · rw [if_pos hn, if_pos (by simpa using hn)]
  · rw [if_neg hn, if_neg (by simpa using hn)]
theorem sgZ_rI {k : Nat} {T : Int} : sgZ (decide (T < 0)) (V (nearR T.natAbs (-1074 - (k : Int)))) = rI k T := by
  unfold sgZ rI
  by_cases hn : T < 0
  · rw [if_pos (by simpa using hn), if_pos hn]
  · rw [if_neg (by simpa using hn), if_neg hn]
theorem rI_zero (k : Nat) : rI k 0 = 0 := by
  unfold rI
  rw [if_neg (by decide), Int.natAbs_zero, nearR_zero (by omega), V_zero]; rfl
/-- A sum's worth. -/
theorem add_worth {x y : Nat} (hx : NumB x) (hy : NumB y) (hf : FinR 0 (vI x + vI y)) : ∃ z, floatBits .add .f64 x y = some z ∧ NumB z ∧ z < 18446744073709551616 ∧ vI z = rI 0 (vI x + vI y) := by
  refine ⟨_, add_num hx hy, ?_⟩
  unfold addR
  generalize vI x + vI y = T at *
  by_cases h0 : T = 0
  · rw [if_pos h0, h0, rI_zero]
    split
    · exact ⟨by unfold NumB; decide, by decide, by decide⟩
    · exact ⟨by unfold NumB; decide, by decide, by decide⟩
  · rw [if_neg h0, joinN_wrd h0]
    have hf' : nearR T.natAbs (-1074) < 9218868437227405312 := hf
    obtain ⟨a, b, c, _⟩ := vI_wrd (s := decide (T < 0)) hf'
    refine ⟨b, c, ?_⟩
    rw [a]
    exact sgZ_rI (k := 0)
theorem sub_worth {x y : Nat} (hx : NumB x) (hy : NumB y) (hf : FinR 0 (vI x - vI y)) : ∃ z, floatBits .sub .f64 x y = some z ∧ NumB z ∧ z < 18446744073709551616 ∧ vI z = rI 0 (vI x - vI y) := by
  refine ⟨_, sub_num hx hy, ?_⟩
  unfold addR
  generalize vI x - vI y = T at *
  by_cases h0 : T = 0
  · rw [if_pos h0, h0, rI_zero]
    split
    · exact ⟨by unfold NumB; decide, by decide, by decide⟩
    · exact ⟨by unfold NumB; decide, by decide, by decide⟩
  · rw [if_neg h0, joinN_wrd h0]
    have hf' : nearR T.natAbs (-1074) < 9218868437227405312 := hf
    obtain ⟨a, b, c, _⟩ := vI_wrd (s := decide (T < 0)) hf'
    refine ⟨b, c, ?_⟩
    rw [a]
    exact sgZ_rI (k := 0)
theorem natAbs_vI (x : Nat) : (vI x).natAbs = aV x := by rw [vI_sgZ]; unfold sgZ; cases sB x <;> simp
theorem vI_neg_iff {x : Nat} (h : vI x ≠ 0) : decide (vI x < 0) = sB x := by
  rw [vI_sgZ] at h ⊢
  unfold sgZ at *
  cases sB x
  · simp
  · simp only [if_true] at *; simp; omega
theorem sign_mul {a b : Int} (ha : a ≠ 0) (hb : b ≠ 0) : (decide (a < 0) ^^ decide (b < 0)) = decide (a * b < 0) := by
  rcases Int.lt_or_lt_of_ne ha with pa | pa <;> rcases Int.lt_or_lt_of_ne hb with pb | pb
  · have := Int.mul_pos_of_neg_of_neg pa pb; simp [pa, pb]; omega
  · have := Int.mul_neg_of_neg_of_pos pa pb; simp [pa, this]; omega
  · have := Int.mul_neg_of_pos_of_neg pa pb; simp [pb, this]; omega
  · have := Int.mul_pos pa pb
    rw [decide_eq_false (show ¬ a < 0 by omega), decide_eq_false (show ¬ b < 0 by omega), decide_eq_false (show ¬ a * b < 0 by omega)]; rfl
theorem mul_worth {x y K : Nat} (hK : K = 1074) (hx : NumB x) (hy : NumB y) (hf : FinR K (vI x * vI y)) : ∃ z, floatBits .mul .f64 x y = some z ∧ NumB z ∧ z < 18446744073709551616 ∧ vI z = rI K (vI x * vI y) := by
  refine ⟨_, mul_num hx hy, ?_⟩
  unfold mulR
  rw [← natAbs_vI, ← natAbs_vI, ← Int.natAbs_mul]
  by_cases h0 : vI x * vI y = 0
  · rw [h0, Int.natAbs_zero, if_pos rfl, rI_zero]
    obtain ⟨a, b, c, _⟩ := vI_wrd (s := sB x ^^ sB y) (r := 0) (by decide)
    refine ⟨b, c, ?_⟩
    rw [a, V_zero]; unfold sgZ; split <;> rfl
  · have hx0 : vI x ≠ 0 := fun h => h0 (by rw [h, Int.zero_mul])
    have hy0 : vI y ≠ 0 := fun h => h0 (by rw [h, Int.mul_zero])
    rw [if_neg (by omega), ← vI_neg_iff hx0, ← vI_neg_iff hy0, sign_mul hx0 hy0]
    unfold FinR at hf
    rw [show (-1074 - (K : Int)) = -2148 by omega] at hf
    obtain ⟨a, b, c, _⟩ := vI_wrd (s := decide (vI x * vI y < 0)) hf
    refine ⟨b, c, ?_⟩
    rw [a]
    have := sgZ_rI (k := K) (T := vI x * vI y)
    rw [show (-1074 - (K : Int)) = -2148 by omega] at this
    exact this
end Go.Proofs.Ytbkmbdbjeiffpaa
