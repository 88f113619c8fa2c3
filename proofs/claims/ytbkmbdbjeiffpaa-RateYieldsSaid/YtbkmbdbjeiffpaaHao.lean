/- A great whole number rounded by its leading bits: what is behind them counts but as one bit. Sums of floats, by whole numbers; whole numbers as floats. -/
import Derived.Test.YtbkmbdbjeiffpaaHan
import Derived.Test.YtbkmbdbjeiffpaaHai
namespace Go.Proofs.Ytbkmbdbjeiffpaa

/-- The bits from place s on, the last of them standing for all behind it. -/
def stick (M s : Nat) (more : Bool) : Nat := if M % 2 ^ s = 0 ∧ more = false then M / 2 ^ s else if M / 2 ^ s % 2 = 1 then M / 2 ^ s else M / 2 ^ s + 1
theorem log2_div {M s : Nat} (h : s ≤ M.log2) (h0 : M ≠ 0) : (M / 2 ^ s).log2 = M.log2 - s ∧ M / 2 ^ s ≠ 0 := by
  have a := Nat.log2_self_le h0
  have b : M < 2 ^ (M.log2 + 1) := Nat.lt_log2_self
  have hp := Nat.two_pow_pos s
  have e1 : 2 ^ (M.log2 - s) ≤ M / 2 ^ s := (Nat.le_div_iff_mul_le hp).2 (by rw [← Nat.pow_add]; rw [show M.log2 - s + s = M.log2 by omega]; exact a)
  have e2 : M / 2 ^ s < 2 ^ (M.log2 - s + 1) := (Nat.div_lt_iff_lt_mul hp).2 (by rw [← Nat.pow_add]; rw [show M.log2 - s + 1 + s = M.log2 + 1 by omega]; exact b)
  have h1 : M / 2 ^ s ≠ 0 := by have := Nat.two_pow_pos (M.log2 - s); omega
  exact ⟨(Nat.log2_eq_iff h1).2 ⟨e1, e2⟩, h1⟩
theorem log2_stick {M s : Nat} (more : Bool) (h : s ≤ M.log2) (h0 : M ≠ 0) : (stick M s more).log2 = M.log2 - s ∧ stick M s more ≠ 0 := by
  obtain ⟨h1, h2⟩ := log2_div h h0
  unfold stick
  split
  · exact ⟨h1, h2⟩
  · split
    · exact ⟨h1, h2⟩
    · rename_i ho
      have a := Nat.log2_self_le h2
      have b : M / 2 ^ s < 2 ^ ((M / 2 ^ s).log2 + 1) := Nat.lt_log2_self
      rw [h1] at a b
      refine ⟨(Nat.log2_eq_iff (by omega)).2 ⟨by omega, ?_⟩, by omega⟩
      have : (2 : Nat) ^ (M.log2 - s + 1) = 2 * 2 ^ (M.log2 - s) := by rw [Nat.pow_succ, Nat.mul_comm]
      omega
theorem nearR_stick {M s : Nat} {p : Int} (h0 : M ≠ 0) (h : s + 60 ≤ M.log2) : nearR (stick M s false) (s + p) = nearR M p := by
  obtain ⟨h1, _⟩ := log2_stick false (show s ≤ M.log2 by omega) h0
  have hL : lastP (stick M s false) (s + p) = lastP M p := by
    unfold lastP; rw [h1]; congr 1; omega
  have hL2 : (s : Int) + p + 8 ≤ lastP M p := by unfold lastP; omega
  unfold nearR
  rw [hL]
  obtain ⟨d, hd⟩ : ∃ d : Nat, lastP M p = s + p + d := ⟨(lastP M p - (s + p)).toNat, by omega⟩
  have e1 : ((s : Int) + p - lastP M p).toNat = 0 := by omega
  have e2 : (p - lastP M p).toNat = 0 := by omega
  have e3 : (lastP M p - (s + p)).toNat = d := by omega
  have e4 : (lastP M p - p).toNat = d + s := by omega
  rw [e1, e2, e3, e4, Nat.pow_zero, Nat.mul_one, Nat.mul_one]
  have hs : stick M s false = (if M % 2 ^ s = 0 then M / 2 ^ s else (if M / 2 ^ s % 2 = 1 then M / 2 ^ s else M / 2 ^ s + 1)) := by unfold stick; simp only [and_true]
  rw [hs, rne_sticky (by omega)]
theorem nearR_scale {M : Nat} (h0 : M ≠ 0) (k : Nat) (p : Int) : nearR (M * 2 ^ k) (p - k) = nearR M p := by
  have hlog : (M * 2 ^ k).log2 = M.log2 + k := by
    have a := Nat.log2_self_le h0
    have b : M < 2 ^ (M.log2 + 1) := Nat.lt_log2_self
    have hp := Nat.two_pow_pos k
    refine (Nat.log2_eq_iff (by have := Nat.mul_pos (show 0 < M by omega) hp; omega)).2 ⟨?_, ?_⟩
    · rw [Nat.pow_add]; exact Nat.mul_le_mul_right _ a
    · rw [show M.log2 + k + 1 = (M.log2 + 1) + k by omega, Nat.pow_add]; exact Nat.mul_lt_mul_of_pos_right b hp
  have hL : lastP (M * 2 ^ k) (p - k) = lastP M p := by unfold lastP; rw [hlog]; congr 1; omega
  unfold nearR
  rw [hL]
  generalize lastP M p = L
  congr 2
  by_cases hc : p ≤ L
  · have e1 : (p - (k : Int) - L).toNat = 0 := by omega
    have e2 : (p - L).toNat = 0 := by omega
    have e3 : (L - (p - (k : Int))).toNat = (L - p).toNat + k := by omega
    rw [e1, e2, e3, Nat.pow_zero, Nat.mul_one, Nat.mul_one, rne_scale]
  · obtain ⟨q, hq⟩ : ∃ q : Nat, p = L + q := ⟨(p - L).toNat, by omega⟩
    have e2 : (p - L).toNat = q := by omega
    have e4 : (L - p).toNat = 0 := by omega
    rw [e2, e4, rne_zero]
    by_cases hk : k ≤ q
    · have e1 : (p - (k : Int) - L).toNat = q - k := by omega
      have e3 : (L - (p - (k : Int))).toNat = 0 := by omega
      rw [e1, e3, rne_zero, Nat.mul_assoc, ← Nat.pow_add]; congr 2; omega
    · have e1 : (p - (k : Int) - L).toNat = 0 := by omega
      have e3 : (L - (p - (k : Int))).toNat = 0 + (k - q) := by omega
      rw [e1, e3, Nat.pow_zero, Nat.mul_one, show M * 2 ^ k = (M * 2 ^ q) * 2 ^ (k - q) by rw [Nat.mul_assoc, ← Nat.pow_add]; congr 2; omega, rne_scale, rne_zero]

/-- What is handed to Join: the leading 62 bits, and their place. -/
def mant (M : Nat) (more : Bool) : Nat := if M = 0 then (if more then 1 else 0) else stick (M * 2 ^ 64) (M.log2 + 3) more
def expo (M : Nat) : Int := if M = 0 then -2210 else (M.log2 : Int) - 2209
def sgM (neg : Bool) (m : Nat) : Int := if neg then -(m : Int) else (m : Int)
theorem log2_scaled {M : Nat} (h0 : M ≠ 0) (k : Nat) : (M * 2 ^ k).log2 = M.log2 + k := by
  have a := Nat.log2_self_le h0
  have b : M < 2 ^ (M.log2 + 1) := Nat.lt_log2_self
  have hp := Nat.two_pow_pos k
  refine (Nat.log2_eq_iff (by have := Nat.mul_pos (show 0 < M by omega) hp; omega)).2 ⟨?_, ?_⟩
  · rw [Nat.pow_add]; exact Nat.mul_le_mul_right _ a
  · rw [show M.log2 + k + 1 = (M.log2 + 1) + k by omega, Nat.pow_add]; exact Nat.mul_lt_mul_of_pos_right b hp
theorem nearR_mant {M : Nat} (h0 : M ≠ 0) : nearR (mant M false) (expo M) = nearR M (-2148) := by
  have hp := Nat.two_pow_pos 64
  have h1 : M * 2 ^ 64 ≠ 0 := by have := Nat.mul_pos (show 0 < M by omega) hp; omega
  unfold mant expo
  rw [if_neg h0, if_neg h0, show (M.log2 : Int) - 2209 = ((M.log2 + 3 : Nat) : Int) + (-2148 - (64 : Nat)) by omega, nearR_stick h1 (by rw [log2_scaled h0]; omega), nearR_scale h0]
theorem mant_lt (M : Nat) (more : Bool) : mant M more < 2 ^ 62 := by
  unfold mant
  split
  · split <;> decide
  · rename_i h0
    have hp := Nat.two_pow_pos 64
    have h1 : M * 2 ^ 64 ≠ 0 := by have := Nat.mul_pos (show 0 < M by omega) hp; omega
    obtain ⟨h2, h3⟩ := log2_stick more (show M.log2 + 3 ≤ (M * 2 ^ 64).log2 by rw [log2_scaled h0]; omega) h1
    have : stick (M * 2 ^ 64) (M.log2 + 3) more < 2 ^ ((stick (M * 2 ^ 64) (M.log2 + 3) more).log2 + 1) := Nat.lt_log2_self
    rw [h2, log2_scaled h0, show M.log2 + 64 - (M.log2 + 3) + 1 = 62 by omega] at this
    exact this
/-- The bits of near of N units. -/
def valF (N : Int) : Nat := joinN N (-2148)
theorem join_mant (N : Int) : joinN (sgM (decide (N < 0)) (mant N.natAbs false)) (expo N.natAbs) = valF N := by
  unfold valF
  by_cases h0 : N = 0
  · subst h0; decide
  · have h1 : N.natAbs ≠ 0 := by omega
    have hp := Nat.two_pow_pos 64
    have h2 : N.natAbs * 2 ^ 64 ≠ 0 := by have := Nat.mul_pos (show 0 < N.natAbs by omega) hp; omega
    have h3 : mant N.natAbs false ≠ 0 := by
      unfold mant; rw [if_neg h1]
      exact (log2_stick false (by rw [log2_scaled h1]; omega) h2).2
    have h4 := nearR_mant h1
    unfold joinN sgM
    by_cases hn : N < 0
    · simp only [hn, decide_true, if_true]
      rw [if_neg (by omega), if_pos (by omega), if_neg h0, show (-(mant N.natAbs false : Int)).natAbs = mant N.natAbs false by omega, h4]
    · simp only [hn, decide_false, Bool.false_eq_true, if_false]
      rw [if_neg (by omega), if_neg (by omega), if_neg h0, show ((mant N.natAbs false : Nat) : Int).natAbs = mant N.natAbs false by omega, h4]

/-- The two leading words, and what they tell. -/
theorem lead_parts {x y ld : Nat} (hx : x ≠ 0) (hxf : x < 18446744073709551616) (hy : y < 18446744073709551616) (hld : ld = 63 - x.log2) :
    x * 2 ^ ld < 18446744073709551616 ∧ (x * 2 ^ ld) ||| (y / 2 ^ (64 - ld)) = x * 2 ^ ld + y / 2 ^ (64 - ld) ∧ x * 2 ^ ld + y / 2 ^ (64 - ld) < 18446744073709551616 ∧ ld ≤ 63 := by
  have h1 : x * 2 ^ ld < 18446744073709551616 := by rw [hld]; exact top_lt hx hxf
  have h2 := piece1 (hi := x) (show ld < 64 by omega) hy
  rw [Nat.mod_eq_of_lt h1] at h2
  refine ⟨h1, h2, ?_, by omega⟩
  rw [← h2]
  exact Nat.or_lt_two_pow (n := 64) h1 (Nat.lt_of_le_of_lt (Nat.div_le_self _ _) hy)
theorem near_main {x y ld T R M : Nat} {more : Bool} (hx : x ≠ 0) (hxf : x < 18446744073709551616) (hld : ld = 63 - x.log2) (hM : M * 2 ^ 64 = (x * 18446744073709551616 + y) * 2 ^ (64 * T) + R * 2 ^ 64) (hR : R * 2 ^ 64 < 2 ^ (64 * T)) (hyf : y < 18446744073709551616) :
    mant M more = (if (more = true ∨ R ≠ 0) ∨ (x * 2 ^ ld + y / 2 ^ (64 - ld)) % 4 ≠ 0 ∨ y * 2 ^ ld % 18446744073709551616 ≠ 0 then (if (x * 2 ^ ld + y / 2 ^ (64 - ld)) / 4 % 2 = 1 then (x * 2 ^ ld + y / 2 ^ (64 - ld)) / 4 else (x * 2 ^ ld + y / 2 ^ (64 - ld)) / 4 + 1) else (x * 2 ^ ld + y / 2 ^ (64 - ld)) / 4) ∧ expo M = 64 * (T : Int) - ld + 2 + -2148 := by
  have e64 : (2 : Nat) ^ 64 = 18446744073709551616 := rfl
  rw [e64] at hM hR
  have hxl : x.log2 < 64 := (Nat.log2_lt hx).2 hxf
  have hl : ld ≤ 63 := by omega
  have eW : (18446744073709551616 : Nat) = 2 ^ ld * 2 ^ (64 - ld) := by rw [← Nat.pow_add, show ld + (64 - ld) = 64 by omega]
  obtain ⟨Z, hZ⟩ : ∃ Z, Z = x * 18446744073709551616 + y := ⟨_, rfl⟩
  rw [← hZ] at hM
  have hp := Nat.two_pow_pos (64 - ld)
  have hZd : Z / 2 ^ (64 - ld) = x * 2 ^ ld + y / 2 ^ (64 - ld) := by
    rw [hZ, eW, ← Nat.mul_assoc, Nat.add_comm, Nat.add_mul_div_right _ _ hp, Nat.add_comm]
  have hZm : Z % 2 ^ (64 - ld) = y % 2 ^ (64 - ld) := by
    rw [hZ, eW, ← Nat.mul_assoc, Nat.add_comm, Nat.add_mul_mod_self_right]
  have hM0 : M ≠ 0 := by
    intro e
    rw [e, Nat.zero_mul] at hM
    have h1 : 0 < Z * 2 ^ (64 * T) := Nat.mul_pos (by omega) (Nat.two_pow_pos _)
    omega
  have hlogM : M.log2 + 3 = 64 * T + (66 - ld) := by
    have h1 := log2_scaled hM0 64
    rw [e64] at h1
    have h2 : (M * 18446744073709551616).log2 = x.log2 + 64 + 64 * T := by
      have a := Nat.log2_self_le hx
      have b : x < 2 ^ (x.log2 + 1) := Nat.lt_log2_self
      have b2 : x + 1 ≤ 2 ^ (x.log2 + 1) := b
      have hz1 : 2 ^ (x.log2 + 64) ≤ Z := by
        rw [Nat.pow_add, hZ, e64]
        exact Nat.le_trans (Nat.mul_le_mul_right _ a) (Nat.le_add_right _ _)
      have hz2 : Z + 1 ≤ 2 ^ (x.log2 + 1 + 64) := by
        rw [Nat.pow_add, hZ, e64]
        refine Nat.le_trans ?_ (Nat.mul_le_mul_right 18446744073709551616 b2)
        rw [Nat.add_mul, Nat.one_mul, Nat.add_assoc]
        exact Nat.add_le_add_left (Nat.succ_le_of_lt hyf) _
      clear e64
      have hT := Nat.two_pow_pos (64 * T)
      refine (Nat.log2_eq_iff ?_).2 ⟨?_, ?_⟩
      · have := Nat.mul_pos (show 0 < M by omega) (show 0 < 18446744073709551616 by decide); omega
      · rw [hM, Nat.pow_add]; have := Nat.mul_le_mul_right (2 ^ (64 * T)) hz1; omega
      · rw [hM, show x.log2 + 64 + 64 * T + 1 = (x.log2 + 1 + 64) + 64 * T by omega, Nat.pow_add]
        have := Nat.mul_le_mul_right (2 ^ (64 * T)) hz2
        rw [Nat.add_mul, Nat.one_mul] at this
        omega
    omega
  have hs : M * 18446744073709551616 / 2 ^ (M.log2 + 3) = (x * 2 ^ ld + y / 2 ^ (64 - ld)) / 4 := by
    rw [hlogM, Nat.pow_add, ← Nat.div_div_eq_div_mul, hM, Nat.add_comm (Z * _), Nat.add_mul_div_right _ _ (Nat.two_pow_pos _), Nat.div_eq_of_lt hR, Nat.zero_add, show 66 - ld = (64 - ld) + 2 by omega, Nat.pow_add, ← Nat.div_div_eq_div_mul, hZd]
  have hm : M * 18446744073709551616 % 2 ^ (M.log2 + 3) = 0 ↔ (R = 0 ∧ (x * 2 ^ ld + y / 2 ^ (64 - ld)) % 4 = 0 ∧ y * 2 ^ ld % 18446744073709551616 = 0) := by
    rw [hlogM, Nat.pow_add, Nat.mod_mul]
    have e1 : M * 18446744073709551616 % 2 ^ (64 * T) = R * 18446744073709551616 := by rw [hM, Nat.add_comm (Z * _), Nat.add_mul_mod_self_right, Nat.mod_eq_of_lt hR]
    have e2 : M * 18446744073709551616 / 2 ^ (64 * T) = Z := by rw [hM, Nat.add_comm (Z * _), Nat.add_mul_div_right _ _ (Nat.two_pow_pos _), Nat.div_eq_of_lt hR, Nat.zero_add]
    rw [e1, e2, show 66 - ld = (64 - ld) + 2 by omega, Nat.pow_add, Nat.mod_mul, hZm, hZd]
    have e3 : y * 2 ^ ld % 18446744073709551616 = (y % 2 ^ (64 - ld)) * 2 ^ ld := by
      rw [eW, Nat.mul_comm y, Nat.mul_mod_mul_left, Nat.mul_comm]
    rw [e3]
    have hp1 := Nat.two_pow_pos ld
    have hp2 := Nat.two_pow_pos (64 * T)
    generalize y % 2 ^ (64 - ld) = r
    generalize (x * 2 ^ ld + y / 2 ^ (64 - ld)) = win
    rw [show (2 : Nat) ^ 2 = 4 from rfl]
    constructor
    · intro h
      obtain ⟨h1, h2⟩ := Nat.add_eq_zero_iff.1 h
      have h1' : R = 0 := by
        rcases Nat.mul_eq_zero.1 h1 with h3 | h3
        · exact h3
        · exact absurd h3 (by decide)
      rcases Nat.mul_eq_zero.1 h2 with h3 | h3
      · exact absurd h3 (Nat.ne_of_gt hp2)
      · obtain ⟨h4, h5⟩ := Nat.add_eq_zero_iff.1 h3
        rcases Nat.mul_eq_zero.1 h5 with h6 | h6
        · exact absurd h6 (Nat.ne_of_gt hp)
        · exact ⟨h1', h6, by rw [h4, Nat.zero_mul]⟩
    · rintro ⟨rfl, h2, h3⟩
      rcases Nat.mul_eq_zero.1 h3 with h4 | h4
      · rw [h4, h2]; simp
      · exact absurd h4 (Nat.ne_of_gt hp1)
  refine ⟨?_, ?_⟩
  · unfold mant stick
    rw [if_neg hM0, e64, hs]
    by_cases hc : M * 18446744073709551616 % 2 ^ (M.log2 + 3) = 0 ∧ more = false
    · rw [if_pos hc]
      obtain ⟨h1, h2, h3⟩ := hm.1 hc.1
      have h4 : ¬ ((more = true ∨ R ≠ 0) ∨ (x * 2 ^ ld + y / 2 ^ (64 - ld)) % 4 ≠ 0 ∨ y * 2 ^ ld % 18446744073709551616 ≠ 0) := by
        rw [hc.2]; simp [h1, h2, h3]
      rw [if_neg h4]
    · rw [if_neg hc]
      have h4 : (more = true ∨ R ≠ 0) ∨ (x * 2 ^ ld + y / 2 ^ (64 - ld)) % 4 ≠ 0 ∨ y * 2 ^ ld % 18446744073709551616 ≠ 0 := by
        by_cases h5 : more = true
        · exact Or.inl (Or.inl h5)
        · by_cases h6 : R = 0
          · by_cases h7 : (x * 2 ^ ld + y / 2 ^ (64 - ld)) % 4 = 0
            · refine Or.inr (Or.inr fun h8 => hc ⟨hm.2 ⟨h6, h7, h8⟩, by simpa using h5⟩)
            · exact Or.inr (Or.inl h7)
          · exact Or.inl (Or.inr h6)
      rw [if_pos h4]
  · unfold expo
    rw [if_neg hM0]; omega
end Go.Proofs.Ytbkmbdbjeiffpaa
namespace Go.Proofs.Ytbkmbdbjeiffpaa

/-- A number's worth in units of the least one. -/
def vI (b : Nat) : Int := if b / 9223372036854775808 % 2 == 1 then -(V (b % 9223372036854775808) : Int) else (V (b % 9223372036854775808) : Int)
def sgZ (s : Bool) (n : Nat) : Int := if s then -(n : Int) else (n : Int)
theorem sgZ_mul (s : Bool) (n k : Nat) : sgZ s (n * k) = sgZ s n * k := by
  unfold sgZ; cases s <;> simp [Int.neg_mul]
theorem signed_eq (s : Bool) (m k : Nat) : Ieee.signed s m k = sgZ s (m * 2 ^ k) := by
  unfold Ieee.signed sgZ; rw [Nat.shiftLeft_eq]
theorem word_true (r : Nat) : Ieee.double.word true r = 9223372036854775808 + r := rfl
theorem word_false (r : Nat) : Ieee.double.word false r = r := rfl
/-- What is told of a sum of units. -/
def addR (s t : Bool) (T : Int) : Nat := if T = 0 then (if s && t then 9223372036854775808 else 0) else joinN T (-1074)
theorem sum_write (s t : Bool) (m n p q : Nat) :
    ((Ieee.Datum.number s m (-1074 + (p : Int))).sum (.number t n (-1074 + (q : Int)))).map Ieee.double.write = some (addR s t (sgZ s (m * 2 ^ p) + sgZ t (n * 2 ^ q))) := by
  obtain ⟨e, he⟩ : ∃ e, min p q = e := ⟨_, rfl⟩
  have hb : min (-1074 + (p : Int)) (-1074 + (q : Int)) = -1074 + (e : Int) := by omega
  have h1 : (-1074 + (p : Int) - (-1074 + (e : Int))).toNat = p - e := by omega
  have h2 : (-1074 + (q : Int) - (-1074 + (e : Int))).toNat = q - e := by omega
  obtain ⟨T, hT⟩ : ∃ T, sgZ s (m * 2 ^ (p - e)) + sgZ t (n * 2 ^ (q - e)) = T := ⟨_, rfl⟩
  have hTT : sgZ s (m * 2 ^ p) + sgZ t (n * 2 ^ q) = T * ((2 ^ e : Nat) : Int) := by
    rw [← hT, Int.add_mul, ← sgZ_mul, ← sgZ_mul, Nat.mul_assoc, Nat.mul_assoc, ← Nat.pow_add, ← Nat.pow_add, show p - e + e = p by omega, show q - e + e = q by omega]
  have key : ((Ieee.Datum.number s m (-1074 + (p : Int))).sum (.number t n (-1074 + (q : Int)))).map Ieee.double.write = some (Ieee.double.nearest (if T = 0 then s && t else decide (T < 0)) T.natAbs (-1074 + (e : Int))) := by
    show some (Ieee.double.write (.number (if Ieee.signed s m (-1074 + (p : Int) - min (-1074 + (p : Int)) (-1074 + (q : Int))).toNat + Ieee.signed t n (-1074 + (q : Int) - min (-1074 + (p : Int)) (-1074 + (q : Int))).toNat = 0 then s && t else decide (Ieee.signed s m (-1074 + (p : Int) - min (-1074 + (p : Int)) (-1074 + (q : Int))).toNat + Ieee.signed t n (-1074 + (q : Int) - min (-1074 + (p : Int)) (-1074 + (q : Int))).toNat < 0)) (Ieee.signed s m (-1074 + (p : Int) - min (-1074 + (p : Int)) (-1074 + (q : Int))).toNat + Ieee.signed t n (-1074 + (q : Int) - min (-1074 + (p : Int)) (-1074 + (q : Int))).toNat).natAbs (min (-1074 + (p : Int)) (-1074 + (q : Int))))) = _
    rw [hb, h1, h2, signed_eq, signed_eq, hT]
    rfl
  rw [key, hTT]
  have hp : (0 : Int) < ((2 ^ e : Nat) : Int) := by have := Nat.two_pow_pos e; omega
  unfold addR
  by_cases h0 : T = 0
  · subst h0
    rw [if_pos rfl, Int.zero_mul, if_pos rfl]
    show some (Ieee.double.nearest (s && t) 0 _) = _
    rw [nearest_zero]
    cases s <;> cases t <;> rfl
  · rw [if_neg h0]
    have h3 : T * ((2 ^ e : Nat) : Int) ≠ 0 := Int.mul_ne_zero h0 (by omega)
    rw [if_neg h3, nearest_eq _ (by omega)]
    have h4 : nearR (T * ((2 ^ e : Nat) : Int)).natAbs (-1074) = nearR T.natAbs (-1074 + (e : Int)) := by
      have := nearR_scale (M := T.natAbs) (by omega) e (-1074 + (e : Int))
      rw [show -1074 + (e : Int) - (e : Int) = -1074 by omega] at this
      rw [Int.natAbs_mul, Int.natAbs_natCast]; exact this
    unfold joinN
    rw [if_neg h3, h4]
    have h5 : T * ((2 ^ e : Nat) : Int) < 0 ↔ T < 0 := by
      constructor
      · intro h
        by_cases h6 : T < 0
        · exact h6
        · have := Int.mul_nonneg (by omega : 0 ≤ T) (by omega : (0 : Int) ≤ ((2 ^ e : Nat) : Int)); omega
      · intro h; exact Int.mul_neg_of_neg_of_pos h hp
    by_cases h6 : T < 0
    · rw [if_pos (h5.2 h6)]
      simp only [h6, decide_true]
      rw [word_true]
    · rw [if_neg (fun h => h6 (h5.1 h))]
      simp only [h6, decide_false]
      rw [word_false]
theorem vI_eq (b : Nat) : vI b = sgZ (b / 9223372036854775808 % 2 == 1) (mg (b % 9223372036854775808) * 2 ^ pl (b % 9223372036854775808)) := rfl
theorem add_num {x y : Nat} (hx : x % 9223372036854775808 < 9218868437227405312) (hy : y % 9223372036854775808 < 9218868437227405312) :
    floatBits .add .f64 x y = some (addR (x / 9223372036854775808 % 2 == 1) (y / 9223372036854775808 % 2 == 1) (vI x + vI y)) := by
  show ((Ieee.double.read x).sum (Ieee.double.read y)).map Ieee.double.write = _
  rw [read_num hx, read_num hy, sum_write, vI_eq, vI_eq]
theorem sub_num {x y : Nat} (hx : x % 9223372036854775808 < 9218868437227405312) (hy : y % 9223372036854775808 < 9218868437227405312) :
    floatBits .sub .f64 x y = some (addR (x / 9223372036854775808 % 2 == 1) (!(y / 9223372036854775808 % 2 == 1)) (vI x - vI y)) := by
  show ((Ieee.double.read x).sum (Ieee.double.read y).opposite).map Ieee.double.write = _
  rw [read_num hx, read_num hy]
  show ((Ieee.Datum.number _ _ _).sum (Ieee.Datum.number _ _ _)).map Ieee.double.write = _
  rw [sum_write, vI_eq, vI_eq, Int.sub_eq_add_neg]
  congr 3
  unfold sgZ
  cases (y / 9223372036854775808 % 2 == 1) <;> simp

/-- A whole number as a float. -/
def fi (m : Int) : Nat := joinN m 0
theorem fi_zero : fi 0 = 0 := rfl
/-- The rung of a whole number of at most 2^53 is exact. -/
theorem V_great {K : Nat} (hK : K = 1074) : V 4845873199050653696 = 9007199254740992 * 2 ^ K := by
  have h1 : mg 4845873199050653696 = 4503599627370496 := by decide
  have h2 : pl 4845873199050653696 = K + 1 := by rw [hK]; decide
  unfold V
  rw [h1, h2, Nat.pow_succ]; omega
theorem near_low {m l k : Nat} (hl : m.log2 = l) (hl2 : l ≤ 52) (hk : m * 2 ^ (52 - l) = k) (hk2 : k < 9007199254740992) : nearR m 0 = (l + 1022) * 4503599627370496 + k := by
  have hL : lastP m 0 = (l : Int) - 52 := by unfold lastP; rw [hl]; omega
  have e1 : (0 - lastP m 0).toNat = 52 - l := by rw [hL]; omega
  have e2 : (lastP m 0 - 0).toNat = 0 := by rw [hL]; omega
  have e3 : (lastP m 0 + 1074).toNat = l + 1022 := by rw [hL]; omega
  unfold nearR
  rw [e1, e2, e3, hk, rne_zero]
  exact Nat.min_eq_left (by omega)
theorem mg_pl {l k : Nat} (hk1 : 4503599627370496 ≤ k) (hk2 : k < 9007199254740992) : mg ((l + 1022) * 4503599627370496 + k) = k ∧ pl ((l + 1022) * 4503599627370496 + k) = l + 1022 := by
  unfold mg pl
  rw [if_neg (by omega)]
  omega
theorem V_whole {m K : Nat} (hK : K = 1074) (h0 : 0 < m) (h : m ≤ 9007199254740992) : V (nearR m 0) = m * 2 ^ K ∧ nearR m 0 < 9218868437227405312 := by
  have hlog : m.log2 ≤ 53 := by
    have : m.log2 < 54 := (Nat.log2_lt (by omega)).2 (by omega)
    omega
  have a := Nat.log2_self_le (show m ≠ 0 by omega)
  have b : m < 2 ^ (m.log2 + 1) := Nat.lt_log2_self
  by_cases h53 : m.log2 = 53
  · have hm : m = 9007199254740992 := by rw [h53] at a; omega
    subst hm
    have e : nearR 9007199254740992 0 = 4845873199050653696 := by decide
    rw [e]
    exact ⟨V_great hK, by decide⟩
  · obtain ⟨l, hl⟩ : ∃ l, m.log2 = l := ⟨_, rfl⟩
    rw [hl] at a b hlog h53
    have hl2 : l ≤ 52 := by omega
    obtain ⟨k, hk⟩ : ∃ k, m * 2 ^ (52 - l) = k := ⟨_, rfl⟩
    have hk1 : 4503599627370496 ≤ k := by
      have := Nat.mul_le_mul_right (2 ^ (52 - l)) a
      rw [← Nat.pow_add, show l + (52 - l) = 52 by omega, hk] at this; exact this
    have hk2 : k < 9007199254740992 := by
      have := Nat.mul_lt_mul_of_pos_right b (Nat.two_pow_pos (52 - l))
      rw [← Nat.pow_add, show l + 1 + (52 - l) = 53 by omega, hk] at this; exact this
    rw [near_low hl hl2 hk hk2]
    obtain ⟨hmg, hpl⟩ := mg_pl (l := l) hk1 hk2
    refine ⟨?_, by omega⟩
    unfold V
    rw [hmg, hpl, ← hk, Nat.mul_assoc, ← Nat.pow_add, show 52 - l + (l + 1022) = K by omega]
theorem vI_fi {m : Int} {K : Nat} (hK : K = 1074) (h1 : -9007199254740992 ≤ m) (h2 : m ≤ 9007199254740992) : vI (fi m) = m * ((2 ^ K : Nat) : Int) ∧ fi m % 9223372036854775808 < 9218868437227405312 ∧ (fi m / 9223372036854775808 % 2 == 1) = decide (m < 0) ∧ fi m < 18446744073709551616 := by
  unfold fi joinN
  by_cases h0 : m = 0
  · subst h0; exact ⟨by simp [vI, V_zero], by decide, by decide, by decide⟩
  · rw [if_neg h0]
    obtain ⟨a, b⟩ := V_whole (m := m.natAbs) hK (by omega) (by omega)
    by_cases hn : m < 0
    · rw [if_pos hn]
      have e1 : (9223372036854775808 + nearR m.natAbs 0) % 9223372036854775808 = nearR m.natAbs 0 := by omega
      have e2 : (9223372036854775808 + nearR m.natAbs 0) / 9223372036854775808 % 2 = 1 := by omega
      refine ⟨?_, by omega, by rw [e2]; simp [hn], by omega⟩
      unfold vI
      rw [e1, e2, a]
      simp only [beq_self_eq_true, if_true, Int.natCast_mul]
      rw [← Int.neg_mul]
      congr 1; omega
    · rw [if_neg hn]
      have e1 : nearR m.natAbs 0 % 9223372036854775808 = nearR m.natAbs 0 := by omega
      have e2 : nearR m.natAbs 0 / 9223372036854775808 % 2 = 0 := by omega
      refine ⟨?_, by omega, by rw [e2]; simp [hn], by omega⟩
      unfold vI
      rw [e1, e2, a]
      simp only [show ((0 : Nat) == 1) = false from rfl, Bool.false_eq_true, if_false, Int.natCast_mul]
      congr 1; omega
theorem join_whole (m : Int) {K : Nat} (hK : K = 1074) : joinN (m * ((2 ^ K : Nat) : Int)) (-1074) = fi m := by
  unfold fi joinN
  have hp : (0 : Int) < ((2 ^ K : Nat) : Int) := by have := Nat.two_pow_pos K; omega
  by_cases h0 : m = 0
  · subst h0; simp
  · have h3 : m * ((2 ^ K : Nat) : Int) ≠ 0 := Int.mul_ne_zero h0 (by omega)
    have h4 : nearR (m * ((2 ^ K : Nat) : Int)).natAbs (-1074) = nearR m.natAbs 0 := by
      have := nearR_scale (M := m.natAbs) (by omega) K 0
      rw [show (0 : Int) - (K : Int) = -1074 by omega] at this
      rw [Int.natAbs_mul, Int.natAbs_natCast]; exact this
    rw [if_neg h0, if_neg h3, h4]
    by_cases hn : m < 0
    · rw [if_pos hn, if_pos (Int.mul_neg_of_neg_of_pos hn hp)]
    · rw [if_neg hn, if_neg (by have := Int.mul_nonneg (by omega : 0 ≤ m) (by omega : (0 : Int) ≤ ((2 ^ K : Nat) : Int)); omega)]
theorem add_fi {m n : Int} (h1 : -9007199254740992 ≤ m) (h2 : m ≤ 9007199254740992) (h3 : -9007199254740992 ≤ n) (h4 : n ≤ 9007199254740992) : floatBits .add .f64 (fi m) (fi n) = some (fi (m + n)) := by
  obtain ⟨K, hK⟩ : ∃ K, K = 1074 := ⟨_, rfl⟩
  have hp := Nat.two_pow_pos K
  obtain ⟨a1, a2, a3, _⟩ := vI_fi hK h1 h2
  obtain ⟨b1, b2, b3, _⟩ := vI_fi hK h3 h4
  rw [add_num a2 b2, a1, b1, a3, b3, ← Int.add_mul]
  congr 1
  unfold addR
  by_cases h0 : m + n = 0
  · rw [h0, Int.zero_mul, if_pos rfl, fi_zero]
    by_cases hm : m < 0
    · simp [hm, show ¬ n < 0 by omega]
    · simp [hm]
  · rw [if_neg (Int.mul_ne_zero h0 (by omega)), join_whole _ hK]
theorem sub_fi {m n : Int} (h1 : -9007199254740992 ≤ m) (h2 : m ≤ 9007199254740992) (h3 : -9007199254740992 ≤ n) (h4 : n ≤ 9007199254740992) : floatBits .sub .f64 (fi m) (fi n) = some (fi (m - n)) := by
  obtain ⟨K, hK⟩ : ∃ K, K = 1074 := ⟨_, rfl⟩
  have hp := Nat.two_pow_pos K
  obtain ⟨a1, a2, a3, _⟩ := vI_fi hK h1 h2
  obtain ⟨b1, b2, b3, _⟩ := vI_fi hK h3 h4
  rw [sub_num a2 b2, a1, b1, a3, b3, ← Int.sub_mul]
  congr 1
  unfold addR
  by_cases h0 : m - n = 0
  · obtain rfl : m = n := by omega
    rw [h0, Int.zero_mul, if_pos rfl, fi_zero]
    simp
  · rw [if_neg (Int.mul_ne_zero h0 (by omega)), join_whole _ hK]
end Go.Proofs.Ytbkmbdbjeiffpaa
