/- Binary32 by whole numbers: its rungs, rounding to it, and back. Contracts of the document's digits: trim, Digits, Len, digit. The contract of Split. Exact products: whole numbers, and powers of 2. A sum, a difference and a product rise where what they are rounded from rises: no word of the program. -/
import Derived.Test.YtcmbfflemoccmaaGreatHao
import Derived.Test.YtcmbfflemoccmaaGreatHac
import Derived.LoopTactic
namespace Go.Proofs.YtcmbfflemoccmaaGreat

def mgS (r : Nat) : Nat := if r < 8388608 then r else 8388608 + r % 8388608
def plS (r : Nat) : Nat := r / 8388608 - 1
def VS (r : Nat) : Nat := mgS r * 2 ^ plS r
theorem mgS_lt (r : Nat) : mgS r < 16777216 := by unfold mgS; split <;> omega
theorem mgS_ge {r : Nat} (h : 8388608 ≤ r) : 8388608 ≤ mgS r := by unfold mgS; split <;> omega
theorem VS_lt {r s : Nat} (h : r < s) : VS r < VS s := by
  unfold VS
  by_cases hp : plS r = plS s
  · rw [hp]
    refine Nat.mul_lt_mul_of_pos_right ?_ (Nat.two_pow_pos _)
    unfold plS at hp
    unfold mgS
    split <;> split <;> omega
  · have hlt : plS r < plS s := by
      have : plS r ≤ plS s := by unfold plS; omega
      omega
    have h1 := mgS_lt r
    have h2 : 8388608 ≤ mgS s := mgS_ge (by unfold plS at hlt; omega)
    have h3 : 2 ^ (plS r + 1) ≤ 2 ^ plS s := Nat.pow_le_pow_right (by decide) hlt
    calc mgS r * 2 ^ plS r < 16777216 * 2 ^ plS r := Nat.mul_lt_mul_of_pos_right h1 (Nat.two_pow_pos _)
      _ = 8388608 * 2 ^ (plS r + 1) := by rw [Nat.pow_succ]; omega
      _ ≤ 8388608 * 2 ^ plS s := Nat.mul_le_mul_left _ h3
      _ ≤ mgS s * 2 ^ plS s := Nat.mul_le_mul_right _ h2
theorem VS_le {r s : Nat} (h : r ≤ s) : VS r ≤ VS s := by
  rcases Nat.lt_or_eq_of_le h with h | h
  · exact Nat.le_of_lt (VS_lt h)
  · rw [h]; exact Nat.le_refl _
theorem VS_zero : VS 0 = 0 := by decide
theorem readS_num {b : Nat} (h : b % 2147483648 < 2139095040) :
    Ieee.single.read b = .number (b / 2147483648 % 2 == 1) (mgS (b % 2147483648)) (-149 + (plS (b % 2147483648) : Int)) := by
  show (if b % 2147483648 < 8388608 then Ieee.Datum.number (b / 2147483648 % 2 == 1) (b % 2147483648) (-149) else
    if b % 2147483648 < 2139095040 then .number (b / 2147483648 % 2 == 1) (8388608 + b % 2147483648 % 8388608) (-149 + ((b % 2147483648 / 8388608 - 1 : Nat) : Int)) else _) = _
  generalize b % 2147483648 = r at *
  unfold mgS plS
  by_cases h1 : r < 8388608
  · rw [if_pos h1, if_pos h1, show r / 8388608 - 1 = 0 by omega]; rfl
  · rw [if_neg h1, if_pos h, if_neg h1]
theorem readS_inf {b : Nat} (h : b % 2147483648 = 2139095040) : Ieee.single.read b = .infinity (b / 2147483648 % 2 == 1) := by
  show (if b % 2147483648 < 8388608 then _ else if b % 2147483648 < 2139095040 then _ else
    if b % 2147483648 = 2139095040 then Ieee.Datum.infinity (b / 2147483648 % 2 == 1) else _) = _
  rw [h]; rfl
theorem readS_nan {b : Nat} (h : 2139095040 < b % 2147483648) : ∃ f, Ieee.single.read b = .nan (b / 2147483648 % 2 == 1) f := by
  refine ⟨b % 2147483648 - 2139095040, ?_⟩
  show (if b % 2147483648 < 8388608 then _ else if b % 2147483648 < 2139095040 then _ else
    if b % 2147483648 = 2139095040 then _ else Ieee.Datum.nan (b / 2147483648 % 2 == 1) (b % 2147483648 - 2139095040)) = _
  rw [if_neg (by omega), if_neg (by omega), if_neg (by omega)]
def lastS (mag : Nat) (place : Int) : Int := max (place + mag.log2 - 23) (-149)
def nearS (mag : Nat) (place : Int) : Nat :=
  min ((lastS mag place + 149).toNat * 8388608 + rne (mag * 2 ^ (place - lastS mag place).toNat) (lastS mag place - place).toNat) 2139095040
theorem nearestS_eq (neg : Bool) {mag : Nat} (h : mag ≠ 0) (place : Int) : Ieee.single.nearest neg mag place = Ieee.single.word neg (nearS mag place) := by
  unfold Ieee.Format.nearest
  rw [if_neg h]
  dsimp only
  rw [cut_even, Nat.shiftLeft_eq]
  rfl
theorem nearS_mg {r : Nat} (h0 : 0 < r) (h : r < 2139095040) : nearS (mgS r) (-149 + (plS r : Int)) = r := by
  by_cases h1 : r < 8388608
  · have e1 : mgS r = r := by unfold mgS; rw [if_pos h1]
    have e2 : plS r = 0 := by unfold plS; omega
    have hl : r.log2 < 23 := (Nat.log2_lt (by omega)).2 (by omega)
    have e3 : lastS r (-149 + ((0 : Nat) : Int)) = -149 := by unfold lastS; omega
    rw [e1, e2]
    unfold nearS
    rw [e3]
    simp only [Int.natCast_zero, Int.add_zero, Int.sub_self, Int.toNat_zero, Nat.pow_zero, Nat.mul_one, rne_zero]
    omega
  · have hlo := mgS_ge (r := r) (by omega)
    have hhi := mgS_lt r
    have hl : (mgS r).log2 = 23 := by
      rw [Nat.log2_eq_iff (by omega)]; exact ⟨hlo, hhi⟩
    have e3 : lastS (mgS r) (-149 + (plS r : Int)) = -149 + (plS r : Int) := by unfold lastS; rw [hl]; omega
    unfold nearS
    rw [e3]
    simp only [Int.sub_self, Int.toNat_zero, Nat.pow_zero, Nat.mul_one, rne_zero]
    unfold mgS plS at *
    rw [if_neg h1] at *
    omega
theorem nearS_scale {M : Nat} (h0 : M ≠ 0) (k : Nat) (p : Int) : nearS (M * 2 ^ k) (p - k) = nearS M p := by
  have hlog : (M * 2 ^ k).log2 = M.log2 + k := by
    have a := Nat.log2_self_le h0
    have b : M < 2 ^ (M.log2 + 1) := Nat.lt_log2_self
    have hp := Nat.two_pow_pos k
    refine (Nat.log2_eq_iff (by have := Nat.mul_pos (show 0 < M by omega) hp; omega)).2 ⟨?_, ?_⟩
    · rw [Nat.pow_add]; exact Nat.mul_le_mul_right _ a
    · rw [show M.log2 + k + 1 = (M.log2 + 1) + k by omega, Nat.pow_add]; exact Nat.mul_lt_mul_of_pos_right b hp
  have hL : lastS (M * 2 ^ k) (p - k) = lastS M p := by unfold lastS; rw [hlog]; congr 1; omega
  unfold nearS
  rw [hL]
  generalize lastS M p = L
  congr 2
  by_cases hc : p ≤ L
  · have e1 : (p - (k : Int) - L).toNat = 0 := by omega
    have e2 : (p - L).toNat = 0 := by omega
    have e3 : (L - (p - (k : Int))).toNat = (L - p).toNat + k := by omega
    rw [e1, e2, e3, Nat.pow_zero, Nat.mul_one, Nat.mul_one, rne_scale]
  · obtain ⟨q, hq⟩ : ∃ q : Nat, p = L + q := ⟨(p - L).toNat, by omega⟩
    have e2 : (p - L).toNat = q := by omega
    have e4 : (L - p).toNat = 0 := by omega
    rw [e2, e4, rne_zero]
    by_cases hk : k ≤ q
    · have e1 : (p - (k : Int) - L).toNat = q - k := by omega
      have e3 : (L - (p - (k : Int))).toNat = 0 := by omega
      rw [e1, e3, rne_zero, Nat.mul_assoc, ← Nat.pow_add]; congr 2; omega
    · have e1 : (p - (k : Int) - L).toNat = 0 := by omega
      have e3 : (L - (p - (k : Int))).toNat = 0 + (k - q) := by omega
      rw [e1, e3, Nat.pow_zero, Nat.mul_one, show M * 2 ^ k = (M * 2 ^ q) * 2 ^ (k - q) by rw [Nat.mul_assoc, ← Nat.pow_add]; congr 2; omega, rne_scale, rne_zero]
def keptS (M : Nat) (e : Int) : Nat := rne (M * 2 ^ (e - lastS M e).toNat) (lastS M e - e).toNat
theorem keptS_hi {M : Nat} {e : Int} : keptS M e ≤ 16777216 := by
  unfold keptS
  have hl : e + M.log2 - 23 ≤ lastS M e := by unfold lastS; omega
  generalize lastS M e = L at hl
  have b : M < 2 ^ (M.log2 + 1) := Nat.lt_log2_self
  generalize M.log2 = l at b hl
  refine rne_bd ?_
  have h1 : M * 2 ^ (e - L).toNat < 2 ^ (l + 1) * 2 ^ (e - L).toNat := Nat.mul_lt_mul_of_pos_right b (Nat.two_pow_pos _)
  refine Nat.lt_of_lt_of_le h1 ?_
  rw [show (16777216 : Nat) = 2 ^ 24 from rfl, ← Nat.pow_add, ← Nat.pow_add]
  exact Nat.pow_le_pow_right (by decide) (by omega)
theorem keptS_lo {M : Nat} {e : Int} (h0 : M ≠ 0) (h : -149 < lastS M e) : 8388608 ≤ keptS M e := by
  unfold keptS
  have hl : e + M.log2 - 23 = lastS M e := by unfold lastS at *; omega
  generalize lastS M e = L at hl h
  have a := Nat.log2_self_le h0
  generalize M.log2 = l at a hl
  refine Nat.le_trans ?_ (Nat.le_add_right _ _)
  rw [Nat.le_div_iff_mul_le (Nat.two_pow_pos _), show (8388608 : Nat) = 2 ^ 23 from rfl, ← Nat.pow_add]
  refine Nat.le_trans ?_ (Nat.mul_le_mul_right _ a)
  rw [← Nat.pow_add]
  exact Nat.pow_le_pow_right (by decide) (by omega)
theorem nearS_kept (M : Nat) (e : Int) : nearS M e = min ((lastS M e + 149).toNat * 8388608 + keptS M e) 2139095040 := rfl
theorem minS_next {a a' c c' I : Nat} (h : a + 1 ≤ a') (h1 : c ≤ 16777216) (h2 : 8388608 ≤ c') : min (a * 8388608 + c) I ≤ min (a' * 8388608 + c') I := by omega
theorem nearS_mono {M M' : Nat} (e : Int) (h : M ≤ M') : nearS M e ≤ nearS M' e := by
  have hl := log2_le h
  have hL : lastS M e ≤ lastS M' e := by unfold lastS; omega
  have hb : -149 ≤ lastS M e := by unfold lastS; omega
  rw [nearS_kept, nearS_kept]
  by_cases hc : lastS M e = lastS M' e
  · have : keptS M e ≤ keptS M' e := by
      unfold keptS
      rw [hc]
      exact rne_mono (Nat.mul_le_mul_right _ h)
    rw [hc]; exact min_same this
  · have h0 : M' ≠ 0 := by
      intro h0; subst h0
      have : M = 0 := by omega
      subst this; exact hc rfl
    have h1 := keptS_hi (M := M) (e := e)
    have h2 := keptS_lo (M := M') (e := e) h0 (by omega)
    have h3 : (lastS M e + 149).toNat + 1 ≤ (lastS M' e + 149).toNat := by omega
    exact minS_next h3 h1 h2
theorem nearS_zero {e : Int} (h : e ≤ -126) : nearS 0 e = 0 := by
  have hl : lastS 0 e = -149 := by unfold lastS; simp; omega
  unfold nearS
  rw [hl, Nat.zero_mul, rne_small (by have := Nat.two_pow_pos (-149 - e).toNat; omega)]; rfl
theorem nearS_V {r : Nat} (h : r < 2139095040) (k : Nat) : nearS (VS r * 2 ^ k) (-149 - (k : Int)) = r := by
  by_cases h0 : r = 0
  · subst h0; rw [VS_zero, Nat.zero_mul, nearS_zero (by omega)]
  · have hm : mgS r ≠ 0 := by
      unfold mgS; split <;> omega
    have := nearS_scale hm (plS r + k) (-149 + (plS r : Int))
    rw [nearS_mg (by omega) h] at this
    have e1 : VS r * 2 ^ k = mgS r * 2 ^ (plS r + k) := by unfold VS; rw [Nat.mul_assoc, ← Nat.pow_add]
    have e2 : (-149 - (k : Int)) = -149 + (plS r : Int) - ((plS r + k : Nat) : Int) := by omega
    rw [e1, e2]; exact this
def sgl (f : Nat) : Nat := nearS (V f) (-1074)
def dblK (K b : Nat) : Nat := nearR (VS b * 2 ^ K) (-1074)
def dblS (b : Nat) : Nat := dblK 925 b
theorem dbl_ex {b K : Nat} (hK : K = 925) (h0 : 0 < b) (h : b < 2139095040) : ∃ r, 0 < r ∧ r < 9218868437227405312 ∧ V r = VS b * 2 ^ K := by
  have hm : mgS b ≠ 0 := by unfold mgS; split <;> omega
  have hm2 := mgS_lt b
  have hp : plS b ≤ 253 := by unfold plS; omega
  unfold VS
  generalize mgS b = M at *
  generalize plS b = p at *
  have a := Nat.log2_self_le hm
  have c : M < 2 ^ (M.log2 + 1) := Nat.lt_log2_self
  have hl : M.log2 < 24 := (Nat.log2_lt hm).2 (by omega)
  generalize M.log2 = l at *
  have h1 : 4503599627370496 ≤ M * 2 ^ (52 - l) := by
    have : 2 ^ l * 2 ^ (52 - l) ≤ M * 2 ^ (52 - l) := Nat.mul_le_mul_right _ a
    rw [← Nat.pow_add, show l + (52 - l) = 52 by omega] at this
    exact this
  have h2 : M * 2 ^ (52 - l) < 9007199254740992 := by
    have : M * 2 ^ (52 - l) < 2 ^ (l + 1) * 2 ^ (52 - l) := Nat.mul_lt_mul_of_pos_right c (Nat.two_pow_pos _)
    rw [← Nat.pow_add, show l + 1 + (52 - l) = 53 by omega] at this
    exact this
  obtain ⟨k, hk⟩ : ∃ k, k = p + K - (52 - l) := ⟨_, rfl⟩
  have e : M * 2 ^ p * 2 ^ K = M * 2 ^ (52 - l) * 2 ^ k := by
    rw [Nat.mul_assoc, Nat.mul_assoc, ← Nat.pow_add, ← Nat.pow_add, show p + K = 52 - l + k by omega]
  rw [e]
  have hk2 : k ≤ 1200 := by omega
  generalize M * 2 ^ (52 - l) = m at *
  clear e hK hk
  refine ⟨(k + 1) * 4503599627370496 + (m - 4503599627370496), by omega, by omega, ?_⟩
  unfold V
  have em : mg ((k + 1) * 4503599627370496 + (m - 4503599627370496)) = m := by unfold mg; rw [if_neg (by omega)]; omega
  have ep : pl ((k + 1) * 4503599627370496 + (m - 4503599627370496)) = k := by unfold pl; omega
  rw [em, ep]
theorem dblK_V {b K : Nat} (hK : K = 925) (h0 : 0 < b) (h : b < 2139095040) : 0 < dblK K b ∧ dblK K b < 9218868437227405312 ∧ V (dblK K b) = VS b * 2 ^ K := by
  obtain ⟨r, h1, h2, h3⟩ := dbl_ex hK h0 h
  have := nearR_V h2 0
  rw [Nat.pow_zero, Nat.mul_one, h3] at this
  have e : dblK K b = r := this
  rw [e]; exact ⟨h1, h2, h3⟩
theorem dblS_fin {b : Nat} (h0 : 0 < b) (h : b < 2139095040) : 0 < dblS b ∧ dblS b < 9218868437227405312 := by
  unfold dblS
  obtain ⟨K, hK⟩ : ∃ K, K = 925 := ⟨_, rfl⟩
  rw [← hK]
  have := dblK_V hK h0 h
  exact ⟨this.1, this.2.1⟩
theorem sgl_dblK {b K : Nat} (hK : K = 925) (h0 : 0 < b) (h : b < 2139095040) : sgl (dblK K b) = b := by
  unfold sgl
  rw [(dblK_V hK h0 h).2.2]
  have := nearS_V h K
  rw [show (-149 - (K : Int)) = -1074 by omega] at this
  exact this
theorem sgl_dbl {b : Nat} (h0 : 0 < b) (h : b < 2139095040) : sgl (dblS b) = b := by
  unfold dblS
  obtain ⟨K, hK⟩ : ∃ K, K = 925 := ⟨_, rfl⟩
  rw [← hK]
  exact sgl_dblK hK h0 h
theorem sgl_mono {f g : Nat} (h : f ≤ g) : sgl f ≤ sgl g := nearS_mono _ (V_le h)
theorem dblK_mono {K b c : Nat} (h : b ≤ c) : dblK K b ≤ dblK K c := nearR_mono _ (Nat.mul_le_mul_right _ (VS_le h))
theorem dblS_mono {b c : Nat} (h : b ≤ c) : dblS b ≤ dblS c := dblK_mono h
theorem sgl_top (f : Nat) : sgl f ≤ 2139095040 := Nat.min_le_right _ _
theorem dblK_one {K : Nat} (hK : K = 925) : dblK K 1065353216 = 4607182418800017408 := by
  have e1 : mgS 1065353216 = 2 ^ 23 := by decide
  have e2 : plS 1065353216 = 126 := by decide
  have e3 : mg 4607182418800017408 = 2 ^ 52 := by decide
  have e4 : pl 4607182418800017408 = 1022 := by decide
  have hV : VS 1065353216 * 2 ^ K = V 4607182418800017408 := by
    unfold VS V
    rw [e1, e2, e3, e4, ← Nat.pow_add, ← Nat.pow_add]
    generalize hL : 1022 = L
    rw [← Nat.pow_add, show 23 + 126 + K = 52 + L by omega]
  unfold dblK
  rw [hV]
  have := nearR_V (r := 4607182418800017408) (by decide) 0
  rw [Nat.pow_zero, Nat.mul_one] at this
  exact this
theorem dblS_one : dblS 1065353216 = 4607182418800017408 := dblK_one rfl
theorem sgl_one : sgl 4607182418800017408 = 1065353216 := by
  have := sgl_dbl (b := 1065353216) (by decide) (by decide)
  rw [dblS_one] at this
  exact this

theorem readD_pos {f : Nat} (h : f < 9218868437227405312) : Ieee.double.read f = .number false (mg f) (-1074 + (pl f : Int)) := by
  have e : f % 9223372036854775808 = f := Nat.mod_eq_of_lt (by omega)
  have := read_num (b := f) (by omega)
  rw [e, show f / 9223372036854775808 = 0 by omega] at this
  exact this
theorem wordS_false (r : Nat) : Ieee.single.word false r = r := rfl
theorem sgl_eq (f : Nat) : sgl f = nearS (V f) (-1074) := rfl
theorem V_eq (f : Nat) : V f = mg f * 2 ^ pl f := rfl
theorem writeS_pos {f : Nat} (h0 : 0 < f) : Ieee.single.nearest false (mg f) (-1074 + (pl f : Int)) = sgl f := by
  have hm : mg f ≠ 0 := by unfold mg; split <;> omega
  rw [nearestS_eq _ hm, wordS_false, sgl_eq, V_eq]
  generalize mg f = M at *
  generalize pl f = q at *
  have := nearS_scale hm q (-1074 + (q : Int))
  rw [show (-1074 + (q : Int) - (q : Int)) = -1074 by omega] at this
  exact this.symm
theorem conv_down {f : Nat} (h0 : 0 < f) (h : f < 9218868437227405312) : floatToFloatBits .f64 f .f32 = if sgl f < 2139095040 then some (sgl f) else none := by
  unfold floatToFloatBits
  rw [if_neg (by decide)]
  show (match Ieee.double.read f with
    | .nan _ _ => none
    | .infinity s => some (Ieee.single.write (.infinity s))
    | .number s m e => if (Ieee.single.read (Ieee.single.nearest s m e)).isInfinity then none else some (Ieee.single.nearest s m e)) = _
  rw [readD_pos h]
  show (if (Ieee.single.read (Ieee.single.nearest false (mg f) (-1074 + (pl f : Int)))).isInfinity then none else some (Ieee.single.nearest false (mg f) (-1074 + (pl f : Int)))) = _
  rw [writeS_pos h0]
  have ht := sgl_top f
  by_cases hs : sgl f < 2139095040
  · have e : sgl f % 2147483648 = sgl f := Nat.mod_eq_of_lt (by omega)
    rw [readS_num (by omega), if_pos hs]; rfl
  · have e : sgl f = 2139095040 := by omega
    rw [readS_inf (by rw [e]), if_neg hs]; rfl
theorem convUp_show (b : Nat) : floatToFloatBits .f32 b .f64 = (match Ieee.single.read b with
    | .nan _ _ => none
    | .infinity s => some (Ieee.double.write (.infinity s))
    | .number s m e => if (Ieee.double.read (Ieee.double.nearest s m e)).isInfinity then none else some (Ieee.double.nearest s m e)) := by
  unfold floatToFloatBits
  rw [if_neg (by decide)]; rfl
theorem conv_up_inf {b : Nat} (h : b % 2147483648 = 2139095040) : floatToFloatBits .f32 b .f64 = some (wrd (b / 2147483648 % 2 == 1) 9218868437227405312) := by
  rw [convUp_show, readS_inf h]
  show some (Ieee.double.word _ 9218868437227405312) = _
  rw [word_eq]
theorem writeD_posK {K : Nat} (hK : K = 925) (s : Bool) {b : Nat} (h0 : 0 < b) : Ieee.double.nearest s (mgS b) (-149 + (plS b : Int)) = wrd s (dblK K b) := by
  have hm : mgS b ≠ 0 := by unfold mgS; split <;> omega
  rw [nearest_eq _ hm, word_eq]
  have := nearR_scale hm (plS b + K) (-149 + (plS b : Int))
  rw [← this, show (-149 + (plS b : Int) - ((plS b + K : Nat) : Int)) = -1074 by omega]
  unfold dblK VS
  rw [Nat.mul_assoc, ← Nat.pow_add]
theorem writeD_pos (s : Bool) {b : Nat} (h0 : 0 < b) : Ieee.double.nearest s (mgS b) (-149 + (plS b : Int)) = wrd s (dblS b) := writeD_posK rfl s h0
theorem conv_up_num {b : Nat} (h0 : 0 < b % 2147483648) (h : b % 2147483648 < 2139095040) : floatToFloatBits .f32 b .f64 = some (wrd (b / 2147483648 % 2 == 1) (dblS (b % 2147483648))) := by
  rw [convUp_show, readS_num h]
  show (if (Ieee.double.read (Ieee.double.nearest _ (mgS (b % 2147483648)) (-149 + (plS (b % 2147483648) : Int)))).isInfinity then none else some (Ieee.double.nearest _ (mgS (b % 2147483648)) (-149 + (plS (b % 2147483648) : Int)))) = _
  rw [writeD_pos _ h0]
  obtain ⟨d0, d1⟩ := dblS_fin h0 h
  have hr : wrd (b / 2147483648 % 2 == 1) (dblS (b % 2147483648)) % 9223372036854775808 = dblS (b % 2147483648) := by
    unfold wrd; split <;> omega
  rw [read_num (by rw [hr]; exact d1)]; rfl
theorem conv_up_zero {b : Nat} (h : b % 2147483648 = 0) : floatToFloatBits .f32 b .f64 = some (wrd (b / 2147483648 % 2 == 1) 0) := by
  rw [convUp_show, readS_num (by rw [h]; decide), h]
  show (if (Ieee.double.read (Ieee.double.nearest _ 0 _)).isInfinity then none else some (Ieee.double.nearest _ 0 _)) = _
  rw [nearest_zero, word_eq]
  have hr : wrd (b / 2147483648 % 2 == 1) 0 % 9223372036854775808 = 0 := by
    unfold wrd; split <;> omega
  rw [read_num (by rw [hr]; decide)]; rfl
end Go.Proofs.YtcmbfflemoccmaaGreat
namespace Go.Proofs.YtcmbfflemoccmaaGreat
open Go.RowKit

theorem hide {p : Prop} (h : p) : Hid p := h
theorem unhide {p : Prop} (h : Hid p) : p := h

def RowIs (w : World) (g n M : Nat) : Prop := ∀ i, i < n → w.cell? ⟨g, i, none⟩ = some (.int .u64 (dgt M i : Int))

theorem ret_slice {g a b c : Nat} (h : a = b) : Ending.returned (.slice (some ⟨g, 0, none⟩) a c) = .returned (.slice (some ⟨g, 0, none⟩) b c) := by rw [h]

set_option maxHeartbeats 400000 in
theorem trim_row (g n c M : Nat) (w : World) (hrow : RowIs w g n M) (hM : M < 2 ^ (32 * n)) (hn : n ≤ c) (hb : n ≤ 4611686018427387904) :
    Calls Tryz.prog 112 #[.slice (some ⟨g, 0, none⟩) n c] w fun e w' => e = .returned (.slice (some ⟨g, 0, none⟩) (nd M) c) ∧ w' = w := by
  have HR := hide hrow
  have HM := hide hM
  clear hrow hM
  go_enter Tryz.func112, Tryz.ntmps112
  go_wp2
  go_loop [3] (fun t => ∃ k : Nat, k ≤ n ∧ t = .int .i64 k ∧ Hid (M < 2 ^ (32 * k))) (fun t => (intOf t).toNat)
  case atStart => exact ⟨n, Nat.le_refl _, rfl, HM⟩
  case round =>
    obtain ⟨k, hk, rfl, HK⟩ := hrel
    cases k with
    | zero =>
      go_wp2
      go_ret
      exact ⟨ret_slice (by have h1 := HK.out; rw [Nat.mul_zero, Nat.pow_zero] at h1; rw [show M = 0 by omega]; rfl), rfl⟩
    | succ j =>
      have hc := unhide HR j (by omega)
      by_cases h0 : dgt M j = 0
      · rw [h0] at hc
        go_wp2
        go_round
        case rel => exact ⟨j, by omega, rfl, trim_step HK.out h0⟩
        case measure => simp [intOf]
      · have H0 := hide h0
        have h1 : ((dgt M j : Int) == 0) = false := by simpa using h0
        clear h0
        generalize (dgt M j : Int) = q at h1 hc
        go_wp2
        go_ret
        exact ⟨ret_slice (trim_end HK.out H0.out).symm, rfl⟩

def DN (w : World) (v : Value) (N : Nat) : Prop :=
  (N = 0 ∧ ∃ p c, v = .slice p 0 c) ∨ (N ≠ 0 ∧ ∃ g c, v = .slice (some ⟨g, 0, none⟩) (nd N) c ∧ nd N ≤ c ∧ g < w.heap.size ∧ RowIs w g (nd N) N)

theorem RowIs.mono {w : World} {g n m M : Nat} (h : RowIs w g n M) (hm : m ≤ n) : RowIs w g m M := fun i hi => h i (by omega)
theorem RowIs.below {w w' : World} {g n M : Nat} (h : RowIs w g n M) (hg : g < w.heap.size) (hb : Below w.heap.size w w') : RowIs w' g n M :=
  fun i hi => (hb.cell (p := ⟨g, i, none⟩) hg).trans (h i hi)
theorem DN.below {w w' : World} {v : Value} {N : Nat} (h : DN w v N) (hb : Below w.heap.size w w') : DN w' v N := by
  rcases h with h | ⟨h0, g, c, hv, hc, hg, hr⟩
  · exact Or.inl h
  · exact Or.inr ⟨h0, g, c, hv, hc, Nat.lt_of_lt_of_le hg hb.size, hr.below hg hb⟩
theorem dn_mk {w : World} {g c n M : Nat} (hr : RowIs w g n M) (hM : M < 2 ^ (32 * n)) (hc : n ≤ c) (hg : g < w.heap.size) : DN w (.slice (some ⟨g, 0, none⟩) (nd M) c) M := by
  by_cases h0 : M = 0
  · exact Or.inl ⟨h0, some ⟨g, 0, none⟩, c, by rw [h0]; rfl⟩
  · have := nd_mono hM
    exact Or.inr ⟨h0, g, c, rfl, by omega, hg, hr.mono this⟩

theorem row_two (n : Nat) (w : World) (h : n < 18446744073709551616) : RowIs (w.alloc (.cells #[.int .u64 ((n : Int) % 4294967296), .int .u64 ((n : Int) / 4294967296)] 51)) w.heap.size 2 n := by
  intro i hi
  have e0 : (dgt n 0 : Int) = (n : Int) % 4294967296 := by unfold dgt; rw [Nat.mul_zero, Nat.pow_zero, Nat.div_one]; omega
  have e1 : (dgt n 1 : Int) = (n : Int) / 4294967296 := by unfold dgt; rw [show (2 : Nat) ^ (32 * 1) = 4294967296 from rfl]; omega
  match i, hi with
  | 0, _ => rw [e0]; simp
  | 1, _ => rw [e1]; simp

def From (B : Nat) (v : Value) : Prop := ∀ a l c, v = .slice (some a) l c → B ≤ a.block
theorem from_nil (B : Nat) : From B (.slice none 0 0) := fun a l c h => by cases h
theorem from_at (B g l c : Nat) (h : B ≤ g) : From B (.slice (some ⟨g, 0, none⟩) l c) := fun a l' c' e => by cases e; exact h
theorem DN.set {w : World} {v : Value} {N B : Nat} (h : DN w v N) (hf : From B v) {a : Addr} (ha : a.block < B) (x : Value) : DN (w.setCell a x) v N := by
  rcases h with h | ⟨h0, g, c, rfl, hc, hg, hr⟩
  · exact Or.inl h
  · have := hf _ _ _ rfl
    refine Or.inr ⟨h0, g, c, rfl, hc, by simpa using hg, fun i hi => ?_⟩
    exact (World.cell?_of_block (a := ⟨g, i, none⟩) (Below.heap_setCell w a x g (by have h9 : B ≤ g := this; omega))).trans (hr i hi)

set_option maxHeartbeats 400000 in
theorem digits_new (n : Nat) (w : World) (h : n < 18446744073709551616) :
    Calls Tryz.prog 77 #[.int .u64 n] w fun e w' => ∃ v, e = .returned v ∧ DN w' v n ∧ From w.heap.size v ∧ Below w.heap.size w w' := by
  have HR := hide (row_two n w h)
  have HD := hide (dn_mk HR.out (by omega) (Nat.le_refl 2) (by simp))
  go_enter Tryz.func77, Tryz.ntmps77
  go_wp2_with fail
  refine (trim_row _ 2 2 n _ HR.out (by omega) (Nat.le_refl 2) (by omega)).mono ?_
  rintro e w' ⟨rfl, rfl⟩
  go_wp2_with fail
  go_ret
  exact ⟨_, rfl, HD.out, from_at _ _ _ _ (Nat.le_refl _), (Below.refl _ _).alloc (Nat.le_refl _) _⟩
theorem digits_as (u : Int) (n : Nat) (w : World) (hu : Hid (u = n)) (h : n < 18446744073709551616) :
    Calls Tryz.prog 77 #[.int .u64 u] w fun e w' => ∃ v, e = .returned v ∧ DN w' v n ∧ From w.heap.size v ∧ Below w.heap.size w w' := by
  rw [hu.out]; exact digits_new n w h

theorem bl_le64 {x : Nat} (h : x < 18446744073709551616) : bl x ≤ 64 := by
  unfold bl
  by_cases h0 : x = 0
  · rw [if_pos h0]; omega
  · rw [if_neg h0]; have := (Nat.log2_lt h0).2 (show x < 2 ^ 64 from h); omega

set_option maxHeartbeats 400000 in
theorem len_nil (p : Option Addr) (c : Nat) (w : World) :
    Calls Tryz.prog 80 #[.slice p 0 c] w fun e w' => e = .returned (.int .i64 0) ∧ w' = w := by
  go_enter Tryz.func80, Tryz.ntmps80
  go_wp2
  go_ret
  exact ⟨rfl, rfl⟩

set_option maxHeartbeats 400000 in
theorem len_row (g n c N : Nat) (w : World) (hN : N ≠ 0) (hn : Hid (n + 1 = nd N)) (hb : n ≤ 100000000) (hcell : w.cell? ⟨g, n, none⟩ = some (.int .u64 (dgt N n : Int))) :
    Calls Tryz.prog 80 #[.slice (some ⟨g, 0, none⟩) (n + 1 : Nat) c] w fun e w' => e = .returned (.int .i64 (bl N : Int)) ∧ w' = w := by
  have HB : Hid (bl N = 32 * n + bl (dgt N n)) := by
    have := bl_top hN
    rw [← hn.out, Nat.add_sub_cancel] at this; exact this
  have hd := dgt_lt N n
  generalize dgt N n = d at hcell HB hd
  rw [HB.out]
  clear HB
  go_enter Tryz.func80, Tryz.ntmps80
  go_wp2
  go_loop [3, 4] (fun s t => ∃ a x : Nat, s = .int .i64 a ∧ t = .int .u64 x ∧ x < 4294967296 ∧ Hid (a + bl x = 32 * n + bl d)) (fun _ t => (intOf t).toNat)
  case atStart => exact ⟨32 * n, d, by go_num, rfl, hd, rfl⟩
  case round =>
    obtain ⟨a, x, rfl, rfl, hx, HA⟩ := hrel
    have ha : a ≤ 3200000064 := by
      have h1 := HA.out
      have h2 : bl d ≤ 64 := bl_le64 (by omega)
      omega
    by_cases h0 : x = 0
    · subst h0
      go_wp2
      go_ret
      exact ⟨ret_int (by have := HA.out; rw [show bl 0 = 0 from rfl] at this; omega), rfl⟩
    · have HB := hide (bl_half h0)
      have h1 : 0 < x := by omega
      clear h0
      go_wp2
      go_round
      case rel => exact ⟨a + 1, x / 2, by go_num, by go_num, by omega, by have h2 := HA.out; rw [HB.out] at h2; show _ = _; omega⟩
      case measure => simp [intOf]; omega

theorem len_any (v : Value) (N : Nat) (w : World) (h : DN w v N) (hb : nd N ≤ 100000000) :
    Calls Tryz.prog 80 #[v] w fun e w' => e = .returned (.int .i64 (bl N : Int)) ∧ w' = w := by
  rcases h with ⟨h0, p, c, rfl⟩ | ⟨h0, g, c, rfl, hc, hg, hr⟩
  · rw [h0]; exact len_nil p c w
  · have h1 := nd_pos h0
    obtain ⟨n, hn⟩ : ∃ n, n + 1 = nd N := ⟨nd N - 1, by omega⟩
    rw [← hn]
    exact len_row g n c N w h0 hn (by omega) (hr n (by omega))

set_option maxHeartbeats 400000 in
theorem digit_out (p : Option Addr) (n c : Nat) (i : Int) (w : World) (hi : i < 0 ∨ (n : Int) ≤ i) :
    Calls Tryz.prog 113 #[.slice p n c, .int .i64 i] w fun e w' => e = .returned (.int .u64 0) ∧ w' = w := by
  by_cases h : i < 0
  · go_enter Tryz.func113, Tryz.ntmps113
    go_wp2
    go_ret
    exact ⟨rfl, rfl⟩
  · have h2 : (n : Int) ≤ i := by omega
    go_enter Tryz.func113, Tryz.ntmps113
    go_wp2
    go_ret
    exact ⟨rfl, rfl⟩

set_option maxHeartbeats 400000 in
theorem digit_in (g n c k : Nat) (q : Int) (w : World) (hk : k < n) (hcell : w.cell? ⟨g, k, none⟩ = some (.int .u64 q)) :
    Calls Tryz.prog 113 #[.slice (some ⟨g, 0, none⟩) n c, .int .i64 k] w fun e w' => e = .returned (.int .u64 q) ∧ w' = w := by
  go_enter Tryz.func113, Tryz.ntmps113
  go_wp2
  go_ret
  exact ⟨rfl, rfl⟩

theorem digit_any (v : Value) (N k : Nat) (w : World) (h : DN w v N) :
    Calls Tryz.prog 113 #[v, .int .i64 k] w fun e w' => e = .returned (.int .u64 (dgt N k : Int)) ∧ w' = w := by
  rcases h with ⟨h0, p, c, rfl⟩ | ⟨h0, g, c, rfl, hc, hg, hr⟩
  · rw [h0, dgt_zero]; exact digit_out p 0 c k w (by omega)
  · by_cases hk : k < nd N
    · exact digit_in g (nd N) c k _ w hk (hr k hk)
    · rw [dgt_past (by omega)]; exact digit_out _ _ c k w (by omega)

end Go.Proofs.YtcmbfflemoccmaaGreat
namespace Go.Proofs.YtcmbfflemoccmaaGreat
open Go.RowKit

theorem and_mask52 {z : Int} (h0 : 0 ≤ z) (h : z < 18446744073709551616) : bits .and .u64 z 4503599627370495 = z % 4503599627370496 := by
  obtain ⟨b, rfl⟩ := Int.eq_ofNat_of_zero_le h0
  have := bits_and_u64_nat b 4503599627370495 (by omega) (by decide)
  rw [show ((4503599627370495 : Nat) : Int) = 4503599627370495 from rfl] at this
  rw [this]
  have e := Nat.and_two_pow_sub_one_eq_mod b 52
  rw [show (2 : Nat) ^ 52 - 1 = 4503599627370495 from rfl, show (2 : Nat) ^ 52 = 4503599627370496 from rfl] at e
  rw [e]; omega
theorem or_hidden {z : Int} (h0 : 0 ≤ z) (h : z < 4503599627370496) : bits .or .u64 z 4503599627370496 = 4503599627370496 + z := by
  obtain ⟨b, rfl⟩ := Int.eq_ofNat_of_zero_le h0
  have := bits_or_u64_nat b 4503599627370496 (by omega) (by decide)
  rw [show ((4503599627370496 : Nat) : Int) = 4503599627370496 from rfl] at this
  rw [this]
  have h2 := Nat.two_pow_add_eq_or_of_lt (i := 52) (b := b) (by omega) 1
  rw [Nat.or_comm, show (4503599627370496 : Nat) = 2 ^ 52 * 1 from rfl, ← h2]
  omega

def magI (z : Int) : Int := if z < 4503599627370496 then z else 4503599627370496 + z % 4503599627370496
def plcI (z : Int) : Int := if z < 4503599627370496 then -1074 else z / 4503599627370496 - 1075
def splOk (u : Int) : Bool := decide (szI u < 9218868437227405312)
def splM (u : Int) : Int := if splOk u then (if sgB u then -magI (szI u) else magI (szI u)) else 0
def splE (u : Int) : Int := if splOk u && decide (szI u ≠ 0) then plcI (szI u) else 0

set_option maxHeartbeats 400000 in
theorem split_no (b : Nat) (u : Int) (w : World) (hu : Hid (u = b)) (h : U64 u) (h1 : 9218868437227405312 ≤ szI u) :
    Calls Tryz.prog 163 #[.float .f64 b] w fun e w' => e = .returned (.tuple #[.int .i64 0, .int .i64 0, .bool false]) ∧ w' = w := by
  go_enter Tryz.func163, Tryz.ntmps163
  go_wp2_with (go_at_call 195; refine (size_as _ _ _ hu h).mono ?_; rintro e w' ⟨rfl, rfl⟩)
  go_ret3
  exact ⟨rfl, rfl⟩

set_option maxHeartbeats 400000 in
theorem split_zero (b : Nat) (u : Int) (w : World) (hu : Hid (u = b)) (h : U64 u) (h1 : szI u = 0) :
    Calls Tryz.prog 163 #[.float .f64 b] w fun e w' => e = .returned (.tuple #[.int .i64 0, .int .i64 0, .bool true]) ∧ w' = w := by
  go_enter Tryz.func163, Tryz.ntmps163
  go_wp2_with (go_at_call 195; refine (size_as _ _ _ hu h).mono ?_; rintro e w' ⟨rfl, rfl⟩)
  go_ret3
  exact ⟨rfl, rfl⟩

set_option maxHeartbeats 400000 in
theorem split_sub (b : Nat) (u : Int) (w : World) (hu : Hid (u = b)) (h : U64 u) (h1 : 0 < szI u) (h2 : szI u < 4503599627370496) :
    Calls Tryz.prog 163 #[.float .f64 b] w fun e w' => e = .returned (.tuple #[.int .i64 (if sgB u then -szI u else szI u), .int .i64 (-1074), .bool true]) ∧ w' = w := by
  cases hs : sgB u
  all_goals
    simp only [Bool.false_eq_true, if_true, if_false]
    go_enter Tryz.func163, Tryz.ntmps163
    go_wp2_with (first | (go_at_call 195; refine (size_as _ _ _ hu h).mono ?_; rintro e w' ⟨rfl, rfl⟩) | (go_at_call 196; refine (signed_as _ _ _ hu h).mono ?_; rintro e w' ⟨rfl, rfl⟩))
    go_ret3
    exact ⟨rfl, rfl⟩

set_option maxHeartbeats 400000 in
theorem split_normal (b : Nat) (u m : Int) (w : World) (hu : Hid (u = b)) (h : U64 u) (h1 : 4503599627370496 ≤ szI u) (h2 : szI u < 9218868437227405312)
    (hm : bits .or .u64 (bits .and .u64 (szI u) 4503599627370495) 4503599627370496 = m) (hm0 : 4503599627370496 ≤ m) (hm1 : m < 9007199254740992) :
    Calls Tryz.prog 163 #[.float .f64 b] w fun e w' => e = .returned (.tuple #[.int .i64 (if sgB u then -m else m), .int .i64 (szI u / 4503599627370496 - 1 + -1074), .bool true]) ∧ w' = w := by
  cases hs : sgB u
  all_goals
    simp only [Bool.false_eq_true, if_true, if_false]
    go_enter Tryz.func163, Tryz.ntmps163
    go_wp2_with (first | (go_at_call 195; refine (size_as _ _ _ hu h).mono ?_; rintro e w' ⟨rfl, rfl⟩) | (go_at_call 196; refine (signed_as _ _ _ hu h).mono ?_; rintro e w' ⟨rfl, rfl⟩))
    go_ret3
    exact ⟨rfl, rfl⟩

theorem split_as (b : Nat) (u : Int) (w : World) (hu : Hid (u = b)) (h : U64 u) :
    Calls Tryz.prog 163 #[.float .f64 b] w fun e w' => e = .returned (.tuple #[.int .i64 (splM u), .int .i64 (splE u), .bool (splOk u)]) ∧ w' = w := by
  have hlo := szI_lo u
  have hhi := szI_hi u
  by_cases h1 : szI u < 9218868437227405312
  · have e1 : splOk u = true := by simp [splOk, h1]
    by_cases h2 : szI u = 0
    · have e2 : splM u = 0 := by unfold splM magI; rw [h2]; simp
      have e3 : splE u = 0 := by unfold splE; rw [h2]; simp
      rw [e1, e2, e3]; exact split_zero b u w hu h h2
    · by_cases h3 : szI u < 4503599627370496
      · have e2 : splM u = if sgB u then -szI u else szI u := by unfold splM magI; rw [e1, if_pos h3]; rfl
        have e3 : splE u = -1074 := by unfold splE plcI; simp [e1, h2, h3]
        rw [e1, e2, e3]; exact split_sub b u w hu h (by omega) h3
      · have e2 : splM u = if sgB u then -(4503599627370496 + szI u % 4503599627370496) else 4503599627370496 + szI u % 4503599627370496 := by unfold splM magI; rw [e1, if_neg h3]; rfl
        have e3 : splE u = szI u / 4503599627370496 - 1 + -1074 := by unfold splE plcI; simp [e1, h2, h3]; omega
        rw [e1, e2, e3]
        exact split_normal b u _ w hu h (by omega) h1 (by rw [and_mask52 hlo (by omega), or_hidden (by omega) (by omega)]) (by omega) (by omega)
  · have e1 : splOk u = false := by simp [splOk, h1]
    have e2 : splM u = 0 := by simp [splM, e1]
    have e3 : splE u = 0 := by simp [splE, e1]
    rw [e1, e2, e3]; exact split_no b u w hu h (by omega)
end Go.Proofs.YtcmbfflemoccmaaGreat
namespace Go.Proofs.YtcmbfflemoccmaaGreat

theorem vI_sgZ (x : Nat) : vI x = sgZ (sB x) (aV x) := rfl
theorem aV_fi {a : Int} {K : Nat} (hK : K = 1074) (h1 : -9007199254740992 ≤ a) (h2 : a ≤ 9007199254740992) : aV (fi a) = a.natAbs * 2 ^ K ∧ sB (fi a) = decide (a < 0) ∧ NumB (fi a) ∧ fi a < 18446744073709551616 := by
  obtain ⟨b1, b2, b3, b4⟩ := vI_fi hK h1 h2
  refine ⟨?_, b3, b2, b4⟩
  have h3 : (vI (fi a)).natAbs = aV (fi a) := by
    rw [vI_sgZ]; unfold sgZ; cases sB (fi a) <;> simp
  rw [← h3, b1, natAbs_mul_pow]
def P2 (k : Int) : Nat := nearR 1 k
theorem P2_eq {k : Int} (h1 : -1022 ≤ k) (h2 : k ≤ 1023) : P2 k = (k + 1023).toNat * 4503599627370496 := by
  unfold P2
  have hl : Nat.log2 1 = 0 := by decide
  rw [nearR_normal (by decide) (by decide) (by rw [hl]; omega) (by rw [hl]; omega), hl, show rne (1 * 2 ^ (63 - 0)) 11 = 4503599627370496 by decide]
  omega
theorem P2_num {k : Int} (h1 : -1022 ≤ k) (h2 : k ≤ 1023) : NumB (P2 k) ∧ sB (P2 k) = false ∧ P2 k < 9218868437227405312 ∧ mg (P2 k % 9223372036854775808) = 4503599627370496 ∧ pl (P2 k % 9223372036854775808) = (k + 1022).toNat := by
  rw [P2_eq h1 h2]
  obtain ⟨n, hn⟩ : ∃ n : Nat, (k + 1023).toNat = n := ⟨_, rfl⟩
  have hk : k = (n : Int) - 1023 := by omega
  subst hk
  rw [hn]
  have hn1 : 1 ≤ n := by omega
  have hn2 : n ≤ 2046 := by omega
  have e : n * 4503599627370496 % 9223372036854775808 = n * 4503599627370496 := by omega
  refine ⟨by unfold NumB; omega, ?_, by omega, ?_, ?_⟩
  · unfold sB; rw [show n * 4503599627370496 / 9223372036854775808 = 0 by omega]; rfl
  · rw [e]; unfold mg; rw [if_neg (by omega)]; omega
  · rw [e]; unfold pl; omega
theorem pow_52 {a b : Nat} (h : 52 + a = b) : 4503599627370496 * 2 ^ a = 2 ^ b := by
  subst h
  have := Nat.pow_add 2 52 a
  rw [this]
theorem aV_P2 {k : Int} (h1 : -1022 ≤ k) (h2 : k ≤ 1023) : aV (P2 k) = 2 ^ (k + 1074).toNat := by
  obtain ⟨_, _, _, a, b⟩ := P2_num h1 h2
  unfold aV V
  rw [a, b]
  exact pow_52 (by omega)
theorem P2_zero : P2 0 = 4607182418800017408 := by rw [P2_eq (by decide) (by decide)]; rfl
theorem fi_one : fi 1 = 4607182418800017408 := by
  show joinN 1 0 = _
  exact P2_zero
end Go.Proofs.YtcmbfflemoccmaaGreat
namespace Go.Proofs.YtcmbfflemoccmaaGreat

def rndI (T p : Int) : Int := if T = 0 then 0 else if T < 0 then -(nearR T.natAbs p : Int) else (nearR T.natAbs p : Int)
theorem nearR_top (M : Nat) (p : Int) : nearR M p ≤ 9218868437227405312 := Nat.min_le_right _ _
theorem rnd_mono {T T' : Int} (p : Int) (h : T ≤ T') : rndI T p ≤ rndI T' p := by
  unfold rndI
  by_cases h0 : T = 0
  · rw [if_pos h0]
    by_cases h1 : T' = 0
    · rw [if_pos h1]; omega
    · rw [if_neg h1, if_neg (by omega)]; omega
  · rw [if_neg h0]
    by_cases h1 : T' = 0
    · rw [if_pos h1, if_pos (by omega)]; omega
    · rw [if_neg h1]
      by_cases s : T < 0
      · rw [if_pos s]
        by_cases s' : T' < 0
        · rw [if_pos s']
          have := nearR_mono p (show T'.natAbs ≤ T.natAbs by omega)
          omega
        · rw [if_neg s']; omega
      · rw [if_neg s, if_neg (by omega)]
        have := nearR_mono p (show T.natAbs ≤ T'.natAbs by omega)
        omega
theorem rnd_neg (T p : Int) : rndI (-T) p = -rndI T p := by
  unfold rndI
  by_cases h0 : T = 0
  · rw [if_pos h0, if_pos (by omega)]; rfl
  · rw [if_neg h0, if_neg (by omega), Int.natAbs_neg]
    by_cases s : T < 0
    · rw [if_pos s, if_neg (by omega)]; omega
    · rw [if_neg s, if_pos (by omega)]
def RkW (r : Nat) (k : Int) : Prop := rankI (r : Int) = k ∧ r < 18446744073709551616 ∧ nanB (r : Int) = false
theorem rk_pos {r : Nat} (h : r ≤ 9218868437227405312) : RkW r (r : Int) := by
  have hn : nanB (r : Int) = false := by unfold nanB szI; rw [decide_eq_false_iff_not]; omega
  have hs : sgB (r : Int) = false := by unfold sgB; rw [decide_eq_false_iff_not]; omega
  refine ⟨?_, by omega, hn⟩
  rw [rank_pos hn hs]
  unfold szI
  omega
theorem rk_neg {r q : Nat} (h : r ≤ 9218868437227405312) (hq : q = 9223372036854775808 + r) : RkW q (-(r : Int)) := by
  have hn : nanB (q : Int) = false := by unfold nanB szI; rw [decide_eq_false_iff_not]; omega
  have hs : sgB (q : Int) = true := by unfold sgB; rw [decide_eq_true_iff]; omega
  refine ⟨?_, by omega, hn⟩
  unfold rankI
  rw [hn, hs]
  simp only [Bool.false_eq_true, if_false, if_true]
  unfold szI
  omega
theorem rk_zero : RkW 0 0 := rk_pos (r := 0) (by omega)
theorem rk_nzero : RkW 9223372036854775808 0 := rk_neg (r := 0) (by omega) (by omega)
theorem rk_wrd {s : Bool} {r : Nat} (h : r ≤ 9218868437227405312) : RkW (wrd s r) (sgZ s r) := by
  unfold wrd sgZ
  cases s
  · simp only [Bool.false_eq_true, if_false]; exact rk_pos h
  · simp only [if_true]; exact rk_neg h rfl
theorem rank_join (T p : Int) : RkW (joinN T p) (rndI T p) := by
  unfold joinN rndI
  by_cases h0 : T = 0
  · rw [if_pos h0, if_pos h0]; exact rk_zero
  · rw [if_neg h0, if_neg h0]
    have hr := nearR_top T.natAbs p
    generalize nearR T.natAbs p = r at *
    by_cases s : T < 0
    · rw [if_pos s, if_pos s]
      exact rk_neg hr rfl
    · rw [if_neg s, if_neg s]
      exact rk_pos hr
theorem rank_addR (s t : Bool) (T : Int) : RkW (addR s t T) (rndI T (-1074)) := by
  unfold addR
  by_cases h0 : T = 0
  · have e : rndI T (-1074) = 0 := by unfold rndI; rw [if_pos h0]
    rw [if_pos h0, e]
    cases hs : (s && t)
    · simp only [Bool.false_eq_true, if_false]; exact rk_zero
    · simp only [if_true]; exact rk_nzero
  · rw [if_neg h0]; exact rank_join T _
theorem rank_mulR (s : Bool) (T : Nat) : RkW (mulR s T) (rndI (sgZ s T) (-2148)) := by
  unfold mulR
  by_cases h0 : T = 0
  · have e0 : sgZ s T = 0 := by unfold sgZ; rw [h0]; cases s <;> simp
    have e : rndI (sgZ s T) (-2148) = 0 := by unfold rndI; rw [if_pos e0]
    rw [if_pos h0, e]
    have := rk_wrd (s := s) (r := 0) (by omega)
    have e2 : sgZ s 0 = 0 := by unfold sgZ; cases s <;> simp
    rw [e2] at this
    exact this
  · rw [if_neg h0]
    have hr := nearR_top T (-2148)
    have hw := rk_wrd (s := s) hr
    have e : rndI (sgZ s T) (-2148) = sgZ s (nearR T (-2148)) := by
      unfold rndI sgZ
      generalize hM : nearR T (-2148) = M
      cases s
      · simp only [Bool.false_eq_true, if_false]
        rw [if_neg (by omega), if_neg (by omega), Int.natAbs_natCast, hM]
      · simp only [if_true]
        rw [if_neg (by omega), if_pos (by omega), Int.natAbs_neg, Int.natAbs_natCast, hM]
    rw [e]
    exact hw
theorem vI_sg (x : Nat) : vI x = sgZ (sB x) (aV x) := rfl
theorem sgZ_times (s t : Bool) (m n : Nat) : sgZ s m * sgZ t n = sgZ (s ^^ t) (m * n) := by
  unfold sgZ
  cases s <;> cases t <;> simp [Int.neg_mul, Int.mul_neg]
theorem add_rank {x y : Nat} (hx : NumB x) (hy : NumB y) : ∃ r, floatBits .add .f64 x y = some r ∧ RkW r (rndI (vI x + vI y) (-1074)) := ⟨_, add_num hx hy, rank_addR _ _ _⟩
theorem sub_rank {x y : Nat} (hx : NumB x) (hy : NumB y) : ∃ r, floatBits .sub .f64 x y = some r ∧ RkW r (rndI (vI x - vI y) (-1074)) := ⟨_, sub_num hx hy, rank_addR _ _ _⟩
theorem mul_rank {x y : Nat} (hx : NumB x) (hy : NumB y) : ∃ r, floatBits .mul .f64 x y = some r ∧ RkW r (rndI (vI x * vI y) (-2148)) := by
  refine ⟨_, mul_num hx hy, ?_⟩
  rw [vI_sg x, vI_sg y, sgZ_times]
  exact rank_mulR _ _
theorem num_nan {x : Nat} (h : NumB x) : nanB (x : Int) = false := by unfold NumB at h; unfold nanB szI; rw [decide_eq_false_iff_not]; omega
theorem rank_lt_iff {a b : Nat} (ha : NumB a) (hb : NumB b) (ha2 : a < 18446744073709551616) (hb2 : b < 18446744073709551616) : rankI a < rankI b ↔ vI a < vI b := by
  rw [← sgn_rank ha2 (num_nan ha), ← sgn_rank hb2 (num_nan hb)]
  have e1 : vI a = sgZ (a / 9223372036854775808 % 2 == 1) (V (a % 9223372036854775808)) := rfl
  have e2 : vI b = sgZ (b / 9223372036854775808 % 2 == 1) (V (b % 9223372036854775808)) := rfl
  rw [e1, e2]
  generalize a % 9223372036854775808 = r at *
  generalize b % 9223372036854775808 = s at *
  generalize (a / 9223372036854775808 % 2 == 1) = p at *
  generalize (b / 9223372036854775808 % 2 == 1) = q at *
  have h1 := V_lt_iff (r := r) (s := s)
  have h2 := V_lt_iff (r := s) (s := r)
  have h3 := V_lt_iff (r := 0) (s := s)
  have h4 := V_lt_iff (r := 0) (s := r)
  rw [V_zero] at h3 h4
  unfold sgn sgZ
  cases p <;> cases q <;> simp only [Bool.false_eq_true, if_true, if_false] at * <;> omega
theorem rank_le_iff {a b : Nat} (ha : NumB a) (hb : NumB b) (ha2 : a < 18446744073709551616) (hb2 : b < 18446744073709551616) : rankI a ≤ rankI b ↔ vI a ≤ vI b := by
  have := rank_lt_iff hb ha hb2 ha2
  omega
theorem num_rank {r : Nat} {k : Int} (h : RkW r k) (h0 : -9218868437227405312 < k) (h1 : k < 9218868437227405312) : NumB r := by
  obtain ⟨e, h2, hn⟩ := h
  rw [← sgn_rank h2 hn] at e
  unfold NumB
  unfold sgn at e
  generalize (r / 9223372036854775808 % 2 == 1) = p at *
  cases p <;> simp only [Bool.false_eq_true, if_true, if_false] at e <;> omega
end Go.Proofs.YtcmbfflemoccmaaGreat
