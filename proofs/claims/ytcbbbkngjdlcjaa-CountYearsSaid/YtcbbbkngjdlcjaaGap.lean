/- Plain facts of the model's binary64: how two words compare, by their ranks; what is read is written back. Rounding to nearest, ties to even, by whole numbers: the model's, and how the program's steps come to it. -/
import Derived.Test.YtcbbbkngjdlcjaaGao
import Derived.Laws.FloatArith
import Derived.Lib.BitFns
namespace Go.Proofs.Ytcbbbkngjdlcjaa

/-- The significand and the place of a rung (both noughts of the subnormal numbers' binade are one). -/
def mg (r : Nat) : Nat := if r < 4503599627370496 then r else 4503599627370496 + r % 4503599627370496
def pl (r : Nat) : Nat := r / 4503599627370496 - 1
def V (r : Nat) : Nat := mg r * 2 ^ pl r

theorem mg_lt (r : Nat) : mg r < 9007199254740992 := by unfold mg; split <;> omega
theorem mg_ge {r : Nat} (h : 4503599627370496 ≤ r) : 4503599627370496 ≤ mg r := by unfold mg; split <;> omega

theorem V_lt {r s : Nat} (h : r < s) : V r < V s := by
  unfold V
  by_cases hp : pl r = pl s
  · rw [hp]
    refine Nat.mul_lt_mul_of_pos_right ?_ (Nat.two_pow_pos _)
    unfold pl at hp
    unfold mg
    split <;> split <;> omega
  · have hlt : pl r < pl s := by
      have : pl r ≤ pl s := by unfold pl; omega
      omega
    have h1 := mg_lt r
    have h2 : 4503599627370496 ≤ mg s := mg_ge (by unfold pl at hlt; omega)
    have h3 : 2 ^ (pl r + 1) ≤ 2 ^ pl s := Nat.pow_le_pow_right (by decide) hlt
    calc mg r * 2 ^ pl r < 9007199254740992 * 2 ^ pl r := Nat.mul_lt_mul_of_pos_right h1 (Nat.two_pow_pos _)
      _ = 4503599627370496 * 2 ^ (pl r + 1) := by rw [Nat.pow_succ]; omega
      _ ≤ 4503599627370496 * 2 ^ pl s := Nat.mul_le_mul_left _ h3
      _ ≤ mg s * 2 ^ pl s := Nat.mul_le_mul_right _ h2
theorem V_le {r s : Nat} (h : r ≤ s) : V r ≤ V s := by
  rcases Nat.lt_or_eq_of_le h with h | h
  · exact Nat.le_of_lt (V_lt h)
  · rw [h]; exact Nat.le_refl _
theorem V_lt_iff {r s : Nat} : V r < V s ↔ r < s := by
  refine ⟨fun h => ?_, V_lt⟩
  rcases Nat.lt_or_ge r s with h' | h'
  · exact h'
  · exact absurd h (Nat.not_lt.2 (V_le h'))
theorem V_eq_iff {r s : Nat} : V r = V s ↔ r = s := by
  refine ⟨fun h => ?_, fun h => by rw [h]⟩
  rcases Nat.lt_trichotomy r s with h' | h' | h'
  · have := V_lt h'; omega
  · exact h'
  · have := V_lt h'; omega
theorem V_zero : V 0 = 0 := by decide

theorem read_num {b : Nat} (h : b % 9223372036854775808 < 9218868437227405312) :
    Ieee.double.read b = .number (b / 9223372036854775808 % 2 == 1) (mg (b % 9223372036854775808)) (-1074 + (pl (b % 9223372036854775808) : Int)) := by
  show (if b % 9223372036854775808 < 4503599627370496 then Ieee.Datum.number (b / 9223372036854775808 % 2 == 1) (b % 9223372036854775808) (-1074) else
    if b % 9223372036854775808 < 9218868437227405312 then .number (b / 9223372036854775808 % 2 == 1) (4503599627370496 + b % 9223372036854775808 % 4503599627370496) (-1074 + ((b % 9223372036854775808 / 4503599627370496 - 1 : Nat) : Int)) else _) = _
  generalize b % 9223372036854775808 = r at *
  unfold mg pl
  by_cases h1 : r < 4503599627370496
  · rw [if_pos h1, if_pos h1, show r / 4503599627370496 - 1 = 0 by omega]; rfl
  · rw [if_neg h1, if_pos h, if_neg h1]

theorem read_inf {b : Nat} (h : b % 9223372036854775808 = 9218868437227405312) : Ieee.double.read b = .infinity (b / 9223372036854775808 % 2 == 1) := by
  show (if b % 9223372036854775808 < 4503599627370496 then _ else if b % 9223372036854775808 < 9218868437227405312 then _ else
    if b % 9223372036854775808 = 9218868437227405312 then Ieee.Datum.infinity (b / 9223372036854775808 % 2 == 1) else _) = _
  rw [h]; rfl
theorem read_nan {b : Nat} (h : 9218868437227405312 < b % 9223372036854775808) : ∃ f, Ieee.double.read b = .nan (b / 9223372036854775808 % 2 == 1) f := by
  refine ⟨b % 9223372036854775808 - 9218868437227405312, ?_⟩
  show (if b % 9223372036854775808 < 4503599627370496 then _ else if b % 9223372036854775808 < 9218868437227405312 then _ else
    if b % 9223372036854775808 = 9218868437227405312 then _ else Ieee.Datum.nan (b / 9223372036854775808 % 2 == 1) (b % 9223372036854775808 - 9218868437227405312)) = _
  rw [if_neg (by omega), if_neg (by omega), if_neg (by omega)]

theorem compare_same {x y x' y' : Int} (h1 : x < y ↔ x' < y') (h2 : x = y ↔ x' = y') : compare x y = compare x' y' := by
  show compareOfLessAndEq x y = compareOfLessAndEq x' y'
  unfold compareOfLessAndEq
  by_cases a : x < y
  · rw [if_pos a, if_pos (h1.1 a)]
  · rw [if_neg a, if_neg (fun h => a (h1.2 h))]
    by_cases b : x = y
    · rw [if_pos b, if_pos (h2.1 b)]
    · rw [if_neg b, if_neg (fun h => b (h2.2 h))]
theorem compare_lt_iff (x y : Int) : (compare x y == .lt) = decide (x < y) := by
  show (compareOfLessAndEq x y == .lt) = _
  unfold compareOfLessAndEq
  by_cases a : x < y
  · simp [a]
  · by_cases b : x = y <;> simp [a, b]
theorem compare_eq_iff (x y : Int) : (compare x y == .eq) = decide (x = y) := by
  show (compareOfLessAndEq x y == .eq) = _
  unfold compareOfLessAndEq
  by_cases a : x < y
  · have : ¬ x = y := by omega
    simp [a, this]
  · by_cases b : x = y <;> simp [a, b]

/-- The rank by the rung. -/
def sgn (s : Bool) (r : Nat) : Int := if s then -(r : Int) else (r : Int)

theorem order_num (s t : Bool) (r r' : Nat) :
    Ieee.Datum.order (.number s (mg r) (-1074 + (pl r : Int))) (.number t (mg r') (-1074 + (pl r' : Int))) = some (compare (sgn s r) (sgn t r')) := by
  show some (compare (Ieee.signed s (mg r) ((-1074 + (pl r : Int)) - min (-1074 + (pl r : Int)) (-1074 + (pl r' : Int))).toNat) (Ieee.signed t (mg r') ((-1074 + (pl r' : Int)) - min (-1074 + (pl r : Int)) (-1074 + (pl r' : Int))).toNat)) = _
  have e1 : ((-1074 + (pl r : Int)) - min (-1074 + (pl r : Int)) (-1074 + (pl r' : Int))).toNat = pl r - min (pl r) (pl r') := by omega
  have e2 : ((-1074 + (pl r' : Int)) - min (-1074 + (pl r : Int)) (-1074 + (pl r' : Int))).toNat = pl r' - min (pl r) (pl r') := by omega
  rw [e1, e2]
  congr 1
  have hA : (mg r <<< (pl r - min (pl r) (pl r'))) * 2 ^ min (pl r) (pl r') = V r := by
    rw [Nat.shiftLeft_eq, Nat.mul_assoc, ← Nat.pow_add, Nat.sub_add_cancel (Nat.min_le_left _ _)]; rfl
  have hB : (mg r' <<< (pl r' - min (pl r) (pl r'))) * 2 ^ min (pl r) (pl r') = V r' := by
    rw [Nat.shiftLeft_eq, Nat.mul_assoc, ← Nat.pow_add, Nat.sub_add_cancel (Nat.min_le_right _ _)]; rfl
  have hp : 0 < 2 ^ min (pl r) (pl r') := Nat.two_pow_pos _
  unfold Ieee.signed sgn
  generalize mg r <<< (pl r - min (pl r) (pl r')) = A at *
  generalize mg r' <<< (pl r' - min (pl r) (pl r')) = B at *
  generalize 2 ^ min (pl r) (pl r') = P at *
  have f1 : A < B ↔ r < r' := by rw [← V_lt_iff (r := r) (s := r'), ← hA, ← hB]; exact (Nat.mul_lt_mul_right hp).symm
  have f2 : B < A ↔ r' < r := by rw [← V_lt_iff (r := r') (s := r), ← hA, ← hB]; exact (Nat.mul_lt_mul_right hp).symm
  have z1 : A = 0 ↔ r = 0 := by
    rw [← V_eq_iff (r := r) (s := 0), V_zero, ← hA, Nat.mul_eq_zero]; constructor
    · exact fun h => Or.inl h
    · rintro (h | h) <;> omega
  have z2 : B = 0 ↔ r' = 0 := by
    rw [← V_eq_iff (r := r') (s := 0), V_zero, ← hB, Nat.mul_eq_zero]; constructor
    · exact fun h => Or.inl h
    · rintro (h | h) <;> omega
  clear hA hB hp e1 e2
  apply compare_same <;> cases s <;> cases t <;> simp only [Bool.false_eq_true, if_true, if_false] <;> omega

theorem sgn_rank {b : Nat} (h : b < 18446744073709551616) (hn : nanB b = false) : sgn (b / 9223372036854775808 % 2 == 1) (b % 9223372036854775808) = rankI b := by
  unfold rankI
  rw [hn]
  simp only [Bool.false_eq_true, if_false]
  unfold sgn sgB szI
  by_cases hs : 9223372036854775808 ≤ b
  · rw [show (b / 9223372036854775808 % 2 == 1) = true by simp; omega, show decide ((9223372036854775808 : Int) ≤ (b : Int)) = true by simp; omega]
    simp only [if_true]; omega
  · rw [show (b / 9223372036854775808 % 2 == 1) = false by simp; omega, show decide ((9223372036854775808 : Int) ≤ (b : Int)) = false by simp; omega]
    simp only [Bool.false_eq_true, if_false]; omega

theorem nan_false {b : Nat} (h : nanB b = false) : b % 9223372036854775808 ≤ 9218868437227405312 := by
  have h := of_decide_eq_false h; unfold szI at h; omega
theorem nan_true {b : Nat} (h : nanB b = true) : 9218868437227405312 < b % 9223372036854775808 := by
  have h := of_decide_eq_true h; unfold szI at h; omega

/-- How two words compare: by their ranks. -/
theorem order_rank {a b : Nat} (ha : a < 18446744073709551616) (hb : b < 18446744073709551616) (hna : nanB a = false) (hnb : nanB b = false) :
    FloatKind.f64.format.order a b = some (compare (rankI a) (rankI b)) := by
  show (Ieee.double.read a).order (Ieee.double.read b) = _
  have la := nan_false hna
  have lb := nan_false hnb
  rw [← sgn_rank ha hna, ← sgn_rank hb hnb]
  rcases Nat.lt_or_eq_of_le la with la | la <;> rcases Nat.lt_or_eq_of_le lb with lb | lb
  · rw [read_num la, read_num lb]; exact order_num _ _ _ _
  · rw [read_num la, read_inf lb, lb]
    show some (if (b / 9223372036854775808 % 2 == 1) then Ordering.gt else Ordering.lt) = _
    congr 1
    generalize a % 9223372036854775808 = r at *
    generalize (a / 9223372036854775808 % 2 == 1) = s
    generalize (b / 9223372036854775808 % 2 == 1) = t
    show _ = compareOfLessAndEq (sgn s r) (sgn t 9218868437227405312)
    unfold compareOfLessAndEq sgn
    cases s <;> cases t <;> simp only [Bool.false_eq_true, if_true, if_false]
    · rw [if_pos (by omega)]
    · rw [if_neg (by omega), if_neg (by omega)]
    · rw [if_pos (by omega)]
    · rw [if_neg (by omega), if_neg (by omega)]
  · rw [read_inf la, read_num lb, la]
    show some (if (a / 9223372036854775808 % 2 == 1) then Ordering.lt else Ordering.gt) = _
    congr 1
    generalize b % 9223372036854775808 = r at *
    generalize (a / 9223372036854775808 % 2 == 1) = s
    generalize (b / 9223372036854775808 % 2 == 1) = t
    show _ = compareOfLessAndEq (sgn s 9218868437227405312) (sgn t r)
    unfold compareOfLessAndEq sgn
    cases s <;> cases t <;> simp only [Bool.false_eq_true, if_true, if_false]
    · rw [if_neg (by omega), if_neg (by omega)]
    · rw [if_neg (by omega), if_neg (by omega)]
    · rw [if_pos (by omega)]
    · rw [if_pos (by omega)]
  · rw [read_inf la, read_inf lb, la, lb]
    show some (compare (Bool.toNat _) (Bool.toNat _)) = _
    congr 1
    generalize (a / 9223372036854775808 % 2 == 1) = s
    generalize (b / 9223372036854775808 % 2 == 1) = t
    cases s <;> cases t <;> decide
theorem order_nan_left {a b : Nat} (h : nanB a = true) : FloatKind.f64.format.order a b = none := by
  show (Ieee.double.read a).order (Ieee.double.read b) = _
  obtain ⟨f, e⟩ := read_nan (nan_true h)
  rw [e]; rfl
theorem order_nan_right {a b : Nat} (h : nanB b = true) : FloatKind.f64.format.order a b = none := by
  show (Ieee.double.read a).order (Ieee.double.read b) = _
  obtain ⟨f, e⟩ := read_nan (nan_true h)
  rw [e]; cases Ieee.double.read a <;> rfl

theorem eq_rank {a b : Nat} (ha : U64 a) (hb : U64 b) (hna : nanB a = false) (hnb : nanB b = false) : (FloatKind.f64.format.order a b == some .eq) = decide (rankI a = rankI b) := by
  rw [order_rank (by have := ha.2; omega) (by have := hb.2; omega) hna hnb, ← compare_eq_iff]; rfl
theorem lt_rank {a b : Nat} (ha : U64 a) (hb : U64 b) (hna : nanB a = false) (hnb : nanB b = false) : (FloatKind.f64.format.order a b == some .lt) = decide (rankI a < rankI b) := by
  rw [order_rank (by have := ha.2; omega) (by have := hb.2; omega) hna hnb, ← compare_lt_iff]; rfl
theorem eq_self {a : Nat} (ha : U64 a) : (FloatKind.f64.format.order a a == some .eq) = !nanB a := by
  cases h : nanB a
  · rw [eq_rank ha ha h h]; simp
  · rw [order_nan_left h]; rfl
end Go.Proofs.Ytcbbbkngjdlcjaa
namespace Go.Proofs.Ytcbbbkngjdlcjaa

/-- n / 2^d, rounded to the nearest, ties to even. -/
def rne (n d : Nat) : Nat := n / 2 ^ d + (if 2 ^ d < 2 * (n % 2 ^ d) ∨ (2 ^ d = 2 * (n % 2 ^ d) ∧ n / 2 ^ d % 2 = 1) then 1 else 0)

theorem rne_small {n d : Nat} (h : 2 * n < 2 ^ d) : rne n d = 0 := by
  have h1 : n < 2 ^ d := by omega
  unfold rne
  rw [Nat.div_eq_of_lt h1, Nat.mod_eq_of_lt h1, if_neg (by omega)]
theorem rne_zero (n : Nat) : rne n 0 = n := by unfold rne; simp [Nat.mod_one]
theorem rne_scale (n d k : Nat) : rne (n * 2 ^ k) (d + k) = rne n d := by
  have hp : 0 < 2 ^ k := Nat.two_pow_pos k
  unfold rne
  rw [Nat.pow_add, Nat.mul_div_mul_right _ _ hp, Nat.mul_mod_mul_right]
  congr 1
  have e : 2 * (n % 2 ^ d * 2 ^ k) = (2 * (n % 2 ^ d)) * 2 ^ k := by rw [Nat.mul_assoc]
  rw [e]
  have f1 : 2 ^ d * 2 ^ k < (2 * (n % 2 ^ d)) * 2 ^ k ↔ 2 ^ d < 2 * (n % 2 ^ d) := Nat.mul_lt_mul_right hp
  have f2 : 2 ^ d * 2 ^ k = (2 * (n % 2 ^ d)) * 2 ^ k ↔ 2 ^ d = 2 * (n % 2 ^ d) := ⟨fun h => Nat.eq_of_mul_eq_mul_right hp h, fun h => congrArg (· * 2 ^ k) h⟩
  simp only [f1, f2]

theorem cut_even (neg : Bool) (n drop : Nat) : Ieee.Toward.even.cut neg n drop = rne n drop := by
  show n / (1 <<< min drop (n.log2 + 2)) + (decide (1 <<< min drop (n.log2 + 2) < 2 * (n % (1 <<< min drop (n.log2 + 2)))) || ((1 <<< min drop (n.log2 + 2)) == 2 * (n % (1 <<< min drop (n.log2 + 2))) && n / (1 <<< min drop (n.log2 + 2)) % 2 == 1)).toNat = _
  rw [Nat.one_shiftLeft]
  by_cases h : drop ≤ n.log2 + 2
  · rw [Nat.min_eq_left h]
    unfold rne
    congr 1
    by_cases a : 2 ^ drop < 2 * (n % 2 ^ drop)
    · rw [if_pos (Or.inl a)]; simp [a]
    · by_cases b : 2 ^ drop = 2 * (n % 2 ^ drop) ∧ n / 2 ^ drop % 2 = 1
      · rw [if_pos (Or.inr b), ← b.1, b.2]; simp
      · rw [if_neg (by rintro (h | h); exact a h; exact b h)]
        have : ((2 ^ drop == 2 * (n % 2 ^ drop)) && (n / 2 ^ drop % 2 == 1)) = false := by
          rw [Bool.eq_false_iff]; intro h; simp only [Bool.and_eq_true, beq_iff_eq] at h; exact b h
        rw [this]; simp [a]
  · rw [Nat.min_eq_right (by omega)]
    have hl : n < 2 ^ (n.log2 + 1) := Nat.lt_log2_self
    have e : (2 : Nat) ^ (n.log2 + 2) = 2 ^ (n.log2 + 1) * 2 := Nat.pow_succ ..
    have hd : (2 : Nat) ^ (n.log2 + 2) ≤ 2 ^ drop := Nat.pow_le_pow_right (by decide) (by omega)
    rw [rne_small (by omega), Nat.div_eq_of_lt (by omega), Nat.mod_eq_of_lt (by omega)]
    have a : ¬ (2 ^ (n.log2 + 2) < 2 * n) := by omega
    have b : ((2 : Nat) ^ (n.log2 + 2) == 2 * n) = false := by simp; omega
    rw [b]; simp [a]

/-- The place of the last digit that is kept. -/
def lastP (mag : Nat) (place : Int) : Int := max (place + mag.log2 - 52) (-1074)
/-- The rung of what is nearest to mag * 2^place. -/
def nearR (mag : Nat) (place : Int) : Nat :=
  min ((lastP mag place + 1074).toNat * 4503599627370496 + rne (mag * 2 ^ (place - lastP mag place).toNat) (lastP mag place - place).toNat) 9218868437227405312

theorem nearest_eq (neg : Bool) {mag : Nat} (h : mag ≠ 0) (place : Int) : Ieee.double.nearest neg mag place = Ieee.double.word neg (nearR mag place) := by
  unfold Ieee.Format.nearest
  rw [if_neg h]
  dsimp only
  rw [cut_even, Nat.shiftLeft_eq]
  rfl
theorem nearest_zero (neg : Bool) (place : Int) : Ieee.double.nearest neg 0 place = Ieee.double.word neg 0 := by
  unfold Ieee.Format.nearest; rw [if_pos rfl]

/-- What is read is written back. -/
theorem nearR_mg {r : Nat} (h0 : 0 < r) (h : r < 9218868437227405312) : nearR (mg r) (-1074 + (pl r : Int)) = r := by
  by_cases h1 : r < 4503599627370496
  · have e1 : mg r = r := by unfold mg; rw [if_pos h1]
    have e2 : pl r = 0 := by unfold pl; omega
    have hl : r.log2 < 52 := (Nat.log2_lt (by omega)).2 (by omega)
    have e3 : lastP r (-1074 + ((0 : Nat) : Int)) = -1074 := by unfold lastP; omega
    rw [e1, e2]
    unfold nearR
    rw [e3]
    simp only [Int.natCast_zero, Int.add_zero, Int.sub_self, Int.toNat_zero, Nat.pow_zero, Nat.mul_one, rne_zero]
    omega
  · have hlo := mg_ge (r := r) (by omega)
    have hhi := mg_lt r
    have hl : (mg r).log2 = 52 := by
      rw [Nat.log2_eq_iff (by omega)]; exact ⟨hlo, hhi⟩
    have e3 : lastP (mg r) (-1074 + (pl r : Int)) = -1074 + (pl r : Int) := by unfold lastP; rw [hl]; omega
    unfold nearR
    rw [e3]
    simp only [Int.sub_self, Int.toNat_zero, Nat.pow_zero, Nat.mul_one, rne_zero]
    unfold mg pl at *
    rw [if_neg h1] at *
    omega

theorem nearR_big {mag : Nat} {place : Int} (h : mag ≠ 0) (ht : 1023 < place + mag.log2) : nearR mag place = 9218868437227405312 := by
  have hl : lastP mag place = place + mag.log2 - 52 := by unfold lastP; omega
  unfold nearR
  rw [hl]
  refine Nat.min_eq_right ?_
  have hk : 4503599627370496 ≤ rne (mag * 2 ^ (place - (place + mag.log2 - 52)).toNat) (place + mag.log2 - 52 - place).toNat := by
    have h1 := Nat.log2_self_le h
    rw [show (place - (place + mag.log2 - 52)).toNat = 52 - mag.log2 by omega, show (place + mag.log2 - 52 - place).toNat = mag.log2 - 52 by omega]
    refine Nat.le_trans ?_ (Nat.le_add_right _ _)
    rw [Nat.le_div_iff_mul_le (Nat.two_pow_pos _), show (4503599627370496 : Nat) = 2 ^ 52 from rfl, ← Nat.pow_add]
    calc 2 ^ (52 + (mag.log2 - 52)) = 2 ^ mag.log2 * 2 ^ (52 - mag.log2) := by rw [← Nat.pow_add]; congr 1; omega
      _ ≤ mag * 2 ^ (52 - mag.log2) := Nat.mul_le_mul_right _ h1
  omega

theorem bitLenAux_eq : ∀ (f x : Nat), x < 2 ^ f → Lib.bitLenAux f x = if x = 0 then 0 else x.log2 + 1
  | 0, x, h => by
    have : x = 0 := by simpa using h
    subst this; rfl
  | f + 1, x, h => by
    unfold Lib.bitLenAux
    by_cases h0 : x = 0
    · rw [if_pos h0, if_pos h0]
    · rw [if_neg h0, if_neg h0, bitLenAux_eq f (x / 2) (by rw [Nat.pow_succ] at h; omega)]
      by_cases h1 : x / 2 = 0
      · have : x = 1 := by omega
        subst this; decide
      · rw [if_neg h1, Nat.log2_def x, if_pos (by omega)]
        omega
theorem bitLen_log2 {x : Nat} (h0 : x ≠ 0) (h : x < 18446744073709551616) : Lib.bitLen x = x.log2 + 1 := by
  unfold Lib.bitLen
  rw [bitLenAux_eq 64 x h, if_neg h0]

theorem rne_le (n d : Nat) : rne n d ≤ n / 2 ^ d + 1 := by unfold rne; split <;> omega

theorem top_lt {u : Nat} (h0 : u ≠ 0) (h : u < 18446744073709551616) : u * 2 ^ (63 - u.log2) < 18446744073709551616 := by
  have hl : u.log2 < 64 := (Nat.log2_lt h0).2 h
  have h1 : u < 2 ^ (u.log2 + 1) := Nat.lt_log2_self
  have h2 : u * 2 ^ (63 - u.log2) < 2 ^ (u.log2 + 1) * 2 ^ (63 - u.log2) := Nat.mul_lt_mul_of_pos_right h1 (Nat.two_pow_pos _)
  rw [← Nat.pow_add, show u.log2 + 1 + (63 - u.log2) = 64 by omega] at h2
  exact h2
theorem rne_bd {n d c : Nat} (h : n < c * 2 ^ d) : rne n d ≤ c := by
  have := rne_le n d
  have h2 : n / 2 ^ d < c := (Nat.div_lt_iff_lt_mul (Nat.two_pow_pos _)).2 h
  omega
theorem min_top {t k : Nat} (ht : t ≤ 2045) (hk : k ≤ 9007199254740992) : min (t * 4503599627370496 + k) 9218868437227405312 = t * 4503599627370496 + k := by omega
/-- Far below the least number. -/
theorem nearR_small {u : Nat} {e : Int} (h : u < 18446744073709551616) (he : e < -1139) : nearR u e = 0 := by
  have hl : u.log2 < 64 := by
    by_cases h0 : u = 0
    · subst h0; decide
    · exact (Nat.log2_lt h0).2 h
  have e3 : lastP u e = -1074 := by unfold lastP; omega
  unfold nearR
  rw [e3, show (e - -1074).toNat = 0 by omega, Nat.pow_zero, Nat.mul_one, rne_small]
  · rfl
  · have : (2 : Nat) ^ 65 ≤ 2 ^ (-1074 - e).toNat := Nat.pow_le_pow_right (by decide) (by omega)
    omega

/-- A normal number: the shifted significand, rounded at its 11 last bits. -/
theorem nearR_normal {u : Nat} {e : Int} (h0 : u ≠ 0) (h : u < 18446744073709551616) (h1 : -1022 ≤ e + u.log2) (h2 : e + u.log2 ≤ 1023) :
    nearR u e = (e + u.log2 + 1022).toNat * 4503599627370496 + rne (u * 2 ^ (63 - u.log2)) 11 := by
  have hl : u.log2 < 64 := (Nat.log2_lt h0).2 h
  have e3 : lastP u e = e + u.log2 - 52 := by unfold lastP; omega
  have hk : rne (u * 2 ^ (e - (e + u.log2 - 52)).toNat) (e + u.log2 - 52 - e).toNat = rne (u * 2 ^ (63 - u.log2)) 11 := by
    rw [show (e - (e + u.log2 - 52)).toNat = 52 - u.log2 by omega, show (e + u.log2 - 52 - e).toNat = u.log2 - 52 by omega]
    by_cases hc : u.log2 ≤ 52
    · have := rne_scale (u * 2 ^ (52 - u.log2)) 0 11
      rw [Nat.mul_assoc, ← Nat.pow_add, show 52 - u.log2 + 11 = 63 - u.log2 by omega, show 0 + 11 = 11 from rfl] at this
      rw [this, show u.log2 - 52 = 0 by omega]
    · have := rne_scale u (u.log2 - 52) (63 - u.log2)
      rw [show u.log2 - 52 + (63 - u.log2) = 11 by omega] at this
      rw [this, show 52 - u.log2 = 0 by omega, Nat.pow_zero, Nat.mul_one]
  unfold nearR
  rw [e3, hk, show (e + u.log2 - 52 + 1074).toNat = (e + u.log2 + 1022).toNat by omega]
  exact min_top (by omega) (rne_bd (top_lt h0 h))

/-- A subnormal one. -/
theorem nearR_sub {u : Nat} {e : Int} (h0 : u ≠ 0) (h : u < 18446744073709551616) (h2 : e + u.log2 < -1022) :
    nearR u e = rne (u * 2 ^ (63 - u.log2)) (-1011 - e - u.log2).toNat := by
  have hl : u.log2 < 64 := (Nat.log2_lt h0).2 h
  have e3 : lastP u e = -1074 := by unfold lastP; omega
  have hk : rne (u * 2 ^ (e - -1074).toNat) (-1074 - e).toNat = rne (u * 2 ^ (63 - u.log2)) (-1011 - e - u.log2).toNat := by
    by_cases hc : e ≤ -1074
    · have := rne_scale u (-1074 - e).toNat (63 - u.log2)
      rw [show (-1074 - e).toNat + (63 - u.log2) = (-1011 - e - u.log2).toNat by omega] at this
      rw [this, show (e - -1074).toNat = 0 by omega, Nat.pow_zero, Nat.mul_one]
    · have := rne_scale (u * 2 ^ (e - -1074).toNat) 0 (-1011 - e - u.log2).toNat
      rw [Nat.mul_assoc, ← Nat.pow_add, show (e - -1074).toNat + (-1011 - e - u.log2).toNat = 63 - u.log2 by omega, Nat.zero_add] at this
      rw [this, show (-1074 - e).toNat = 0 by omega]
  unfold nearR
  rw [e3, hk, show (-1074 + 1074 : Int).toNat = 0 from rfl]
  have hb : rne (u * 2 ^ (63 - u.log2)) (-1011 - e - u.log2).toNat ≤ 9007199254740992 := by
    refine rne_bd (Nat.lt_of_lt_of_le (top_lt h0 h) ?_)
    have : (2 : Nat) ^ 11 ≤ 2 ^ (-1011 - e - u.log2).toNat := Nat.pow_le_pow_right (by decide) (by omega)
    omega
  rw [min_top (by omega) hb]; omega

end Go.Proofs.Ytcbbbkngjdlcjaa
