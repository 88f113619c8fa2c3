/- The contract of the document's MulDigits. The contract of the document's Times. The document's Of at any number's bits, and what its answers are worth. The contract of the document's DivDigits: bit by bit. The contract of the document's NearOver. The document's Year. The contract of the document's Mul at any bits. Quotients rounded once: how many bits are reckoned beyond those that count makes nothing. The year of a fraction: one rounding of a quotient; it rises. No word of the program. The contract of the document's Div at any bits. Go's quotient of two whole floats is the year's rounding. No word of the program. The contract of Year: one rounding of a quotient of whole numbers. The contract of the document's Add at any bits. What floats tell fits 64 bits; the contracts of tenorlaw1.Bits, tenorlaw1.Are and of the document's Horner. The contracts of the document's Flip, Sub, Int, Lt and Floor. The contract of the document's steep: a slope between two nodes. Quotients far below all numbers: how many bits are kept makes nothing. No word of the program. Sums divided by whole numbers and rounded once: they keep order, and tell numbers themselves. No word of the program. Four points that never fall: the polynomial through them never falls. No word of the program. A quotient rises with what is divided, and falls where the divisor rises: no word of the program. The contracts of the document's facts and Exp. The contract of the document's Exp. The walk of FnHorners: any coefficients, any float. The walk of FnExps: Exp of any float. The program's Ln, whatever its steps tell. -/
import Derived.Test.YtphnainibdepbaaGreatHbb
import Derived.Deep.LoopGhost
import Derived.Test.YtphnainibdepbaaGreatHat
import Derived.Test.YtphnainibdepbaaGreatHam
import Derived.Test.YtphnainibdepbaaGreatHav
import Derived.Test.YtphnainibdepbaaGreatNFrac
import Derived.Deep.RegionHeld3
import Derived.Test.YtphnainibdepbaaGreatHau
import Derived.Test.YtphnainibdepbaaGreatHaw
namespace Go.Proofs.YtphnainibdepbaaGreat
open Go.RowKit

end Go.Proofs.YtphnainibdepbaaGreat
namespace Go.Proofs.YtphnainibdepbaaGreat
open Go.RowKit

end Go.Proofs.YtphnainibdepbaaGreat
namespace Go.Proofs.YtphnainibdepbaaGreat
open Go.RowKit

structure OfR (x : Nat) (neg : Bool) (N : Nat) (e : Int) : Prop where
  lt : N < 9007199254740992
  lo : -1074 ≤ e
  hi : e ≤ 971
  val : N * 2 ^ (e + 1074).toNat = aV x
  sgn : N ≠ 0 → neg = sB x
  mag : N ≠ 0 → N = mg (x % 9223372036854775808) ∧ e = -1074 + (pl (x % 9223372036854775808) : Int)
theorem sgB_nat {x : Nat} (h : x < 18446744073709551616) : sgB (x : Int) = sB x := by
  unfold sgB sB
  rcases (show x / 9223372036854775808 = 0 ∨ x / 9223372036854775808 = 1 by omega) with e | e
  · rw [e]; show _ = false; rw [decide_eq_false_iff_not]; omega
  · rw [e]; show _ = true; rw [decide_eq_true_eq]; omega
theorem szI_nat (x : Nat) : szI (x : Int) = ((x % 9223372036854775808 : Nat) : Int) := by unfold szI; omega

end Go.Proofs.YtphnainibdepbaaGreat
namespace Go.Proofs.YtphnainibdepbaaGreat
open Go.RowKit

end Go.Proofs.YtphnainibdepbaaGreat
namespace Go.Proofs.YtphnainibdepbaaGreat
open Go.RowKit

end Go.Proofs.YtphnainibdepbaaGreat
namespace Go.Proofs.YtphnainibdepbaaGreat
open Go.RowKit

def yearK (X Y : Nat) : Nat := (70 - (bl X : Int) + (bl Y : Int)).toNat
def Two (b : Nat) (P Q : Int) (w : World) : Prop := w.cell? ⟨b, 0, none⟩ = some (.int .i64 P) ∧ w.cell? ⟨b, 1, none⟩ = some (.int .i64 Q)
theorem Two.below {w w' : World} {b s : Nat} {P Q : Int} (h : Two b P Q w) (hb : Below s w w') (hs : b < s) : Two b P Q w' :=
  ⟨(hb.cell (p := ⟨b, 0, none⟩) hs).trans h.1, (hb.cell (p := ⟨b, 1, none⟩) hs).trans h.2⟩
end Go.Proofs.YtphnainibdepbaaGreat
namespace Go.Proofs.YtphnainibdepbaaGreat
open Go.RowKit

def cn (o : Option Nat) : Nat := o.getD 9221120237041090561
theorem cn_none : cn none = 9221120237041090561 := rfl
theorem cn_some (r : Nat) : cn (some r) = r := rfl
theorem sgn_abs (neg : Bool) (N : Nat) : (sg neg N).natAbs = N := by unfold sg; cases neg <;> simp
theorem write_inf (s : Bool) : Ieee.double.write (.infinity s) = wrd s 9218868437227405312 := by cases s <;> decide +kernel
theorem mg_pos {r : Nat} (h : r ≠ 0) : mg r ≠ 0 := by unfold mg; split <;> omega
theorem mul_inf_num {x y : Nat} (hx : x % 9223372036854775808 = 9218868437227405312) (hy : NumB y) (h0 : y % 9223372036854775808 ≠ 0) : floatBits .mul .f64 x y = some (wrd (sB x ^^ sB y) 9218868437227405312) ∧ floatBits .mul .f64 y x = some (wrd (sB y ^^ sB x) 9218868437227405312) := by
  have hm := mg_pos h0
  constructor
  · show ((Ieee.double.read x).product (Ieee.double.read y)).map Ieee.double.write = _
    rw [read_inf hx, read_num hy]
    show (if mg (y % 9223372036854775808) = 0 then none else some (Ieee.Datum.infinity (_ ^^ _))).map Ieee.double.write = _
    rw [if_neg hm]
    show some (Ieee.double.write (.infinity _)) = _
    rw [write_inf]; rfl
  · show ((Ieee.double.read y).product (Ieee.double.read x)).map Ieee.double.write = _
    rw [read_inf hx, read_num hy]
    show (if mg (y % 9223372036854775808) = 0 then none else some (Ieee.Datum.infinity (_ ^^ _))).map Ieee.double.write = _
    rw [if_neg hm]
    show some (Ieee.double.write (.infinity _)) = _
    rw [write_inf, Bool.xor_comm]; rfl
end Go.Proofs.YtphnainibdepbaaGreat
namespace Go.Proofs.YtphnainibdepbaaGreat

theorem nearR_stick2 {M s : Nat} {p : Int} (h0 : M ≠ 0) (h : s + 54 ≤ M.log2) : nearR (stick M s false) (s + p) = nearR M p := by
  obtain ⟨h1, _⟩ := log2_stick false (show s ≤ M.log2 by omega) h0
  have hL : lastP (stick M s false) (s + p) = lastP M p := by
    unfold lastP; rw [h1]; congr 1; omega
  have hL2 : (s : Int) + p + 2 ≤ lastP M p := by unfold lastP; omega
  unfold nearR
  rw [hL]
  obtain ⟨d, hd⟩ : ∃ d : Nat, lastP M p = s + p + d := ⟨(lastP M p - (s + p)).toNat, by omega⟩
  have e1 : ((s : Int) + p - lastP M p).toNat = 0 := by omega
  have e2 : (p - lastP M p).toNat = 0 := by omega
  have e3 : (lastP M p - (s + p)).toNat = d := by omega
  have e4 : (lastP M p - p).toNat = d + s := by omega
  rw [e1, e2, e3, e4, Nat.pow_zero, Nat.mul_one, Nat.mul_one]
  have hs : stick M s false = (if M % 2 ^ s = 0 then M / 2 ^ s else (if M / 2 ^ s % 2 = 1 then M / 2 ^ s else M / 2 ^ s + 1)) := by unfold stick; simp only [and_true]
  rw [hs, rne_sticky (by omega)]
def quoS (X Y k : Nat) : Nat := 2 * (X * 2 ^ k / Y) + (if X * 2 ^ k % Y = 0 then 0 else 1)
theorem stick_of {q e T : Nat} {t : Nat} (hT : T = 2 ^ t) (he : e < 2 * T) : stick (2 * q * T + e) t false = 2 * q + (if e = 0 then 0 else 1) := by
  have hp : 0 < T := by rw [hT]; exact Nat.two_pow_pos t
  unfold stick
  rw [← hT]
  have hd : (2 * q * T + e) / T = 2 * q + e / T := by rw [Nat.add_comm, Nat.add_mul_div_right _ _ hp, Nat.add_comm]
  have hm : (2 * q * T + e) % T = e % T := by rw [Nat.add_comm, Nat.add_mul_mod_self_right]
  rw [hd, hm]
  by_cases h0 : e = 0
  · rw [h0, Nat.zero_mod, Nat.zero_div, if_pos ⟨rfl, rfl⟩, if_pos rfl]
  · rw [if_neg h0]
    by_cases h1 : e < T
    · rw [Nat.mod_eq_of_lt h1, Nat.div_eq_of_lt h1, if_neg (fun h => h0 h.1), if_neg (by omega)]
    · have h2 : e / T = 1 := by
        have := Nat.div_lt_iff_lt_mul hp (x := e) (y := 2)
        have h3 : e / T < 2 := this.2 he
        have h4 : 1 ≤ e / T := (Nat.one_le_div_iff hp).2 (by omega)
        omega
      rw [h2]
      by_cases h3 : e % T = 0 ∧ (false : Bool) = false
      · rw [if_pos h3]
      · rw [if_neg h3, if_pos (by omega)]
theorem quo_stick {X Y : Nat} (k t : Nat) (hY : 0 < Y) : stick (quoS X Y (k + t)) t false = quoS X Y k := by
  obtain ⟨T, hT⟩ : ∃ T, T = 2 ^ t := ⟨_, rfl⟩
  have hp : 0 < T := by rw [hT]; exact Nat.two_pow_pos t
  unfold quoS
  rw [Nat.pow_add, ← Nat.mul_assoc, ← hT]
  generalize X * 2 ^ k = A
  have hA := Nat.div_add_mod A Y
  have hr : A % Y < Y := Nat.mod_lt _ hY
  generalize A / Y = q at *
  generalize A % Y = r at *
  have hAT : A * T = r * T + Y * (q * T) := by rw [← hA, Nat.add_mul, Nat.mul_assoc, Nat.add_comm]
  have hd : A * T / Y = q * T + r * T / Y := by rw [hAT, Nat.add_mul_div_left _ _ hY, Nat.add_comm]
  have hm : A * T % Y = r * T % Y := by rw [hAT, Nat.add_mul_mod_self_left]
  rw [hd, hm]
  have hc : r * T / Y < T := by rw [Nat.div_lt_iff_lt_mul hY, Nat.mul_comm T]; exact Nat.mul_lt_mul_of_pos_right hr hp
  have e1 := Nat.div_add_mod (r * T) Y
  have h5 : r = 0 ↔ r * T = 0 := by
    constructor
    · intro h; rw [h, Nat.zero_mul]
    · intro h; rcases Nat.mul_eq_zero.1 h with h | h <;> omega
  have e2 : 2 * (q * T + r * T / Y) + (if r * T % Y = 0 then 0 else 1) = 2 * q * T + (2 * (r * T / Y) + (if r * T % Y = 0 then 0 else 1)) := by rw [Nat.mul_add, ← Nat.mul_assoc, Nat.add_assoc]
  rw [e2]
  generalize r * T / Y = c at *
  generalize r * T % Y = s at *
  generalize r * T = rt at *
  rw [stick_of hT (by split <;> omega)]
  congr 1
  by_cases h0 : r = 0
  · have h6 : rt = 0 := h5.1 h0
    have h7 : s = 0 := by omega
    have h8 : c = 0 := by
      by_cases hcc : c = 0
      · exact hcc
      · have := Nat.mul_pos hY (show 0 < c by omega); omega
    rw [if_pos h0, if_pos (by rw [h7, h8]; rfl)]
  · have h6 : rt ≠ 0 := fun h => h0 (h5.2 h)
    rw [if_neg h0, if_neg]
    intro h
    by_cases hs : s = 0
    · rw [if_pos hs] at h
      have hc0 : c = 0 := by omega
      rw [hc0, Nat.mul_zero] at e1; omega
    · rw [if_neg hs] at h; omega
theorem near_quo {X Y k1 k2 : Nat} {p : Int} (hY : 0 < Y) (hk : k1 ≤ k2) (hb : 54 ≤ (quoS X Y k1).log2) : nearR (quoS X Y k1) (p - k1) = nearR (quoS X Y k2) (p - k2) := by
  obtain ⟨t, rfl⟩ : ∃ t, k2 = k1 + t := ⟨k2 - k1, by omega⟩
  have hs := quo_stick (X := X) k1 t hY
  obtain ⟨M, hM⟩ : ∃ M, quoS X Y (k1 + t) = M := ⟨_, rfl⟩
  rw [hM] at hs ⊢
  have hq0 : quoS X Y k1 ≠ 0 := by intro h; rw [h] at hb; exact absurd hb (by decide)
  have h1 := Nat.log2_self_le hq0
  have h2 : (2 : Nat) ^ 54 ≤ 2 ^ (quoS X Y k1).log2 := Nat.pow_le_pow_right (by decide) hb
  have h3 : stick M t false ≤ M / 2 ^ t + 1 := by unfold stick; split; omega; split <;> omega
  have h4 : 1 ≤ M / 2 ^ t := by rw [hs] at h3; omega
  have h5 : 2 ^ t ≤ M := (Nat.one_le_div_iff (Nat.two_pow_pos _)).1 h4
  have hM0 : M ≠ 0 := by have := Nat.two_pow_pos t; omega
  have h6 : t ≤ M.log2 := (Nat.le_log2 hM0).2 h5
  have h7 := (log2_stick false h6 hM0).1
  rw [hs] at h7
  have := nearR_stick2 (M := M) (s := t) (p := p - ((k1 + t : Nat) : Int)) hM0 (by omega)
  rw [hs, show (t : Int) + (p - ((k1 + t : Nat) : Int)) = p - k1 by omega] at this
  exact this
theorem quo_bits {X Y k : Nat} (hX : X ≠ 0) (hY : Y ≠ 0) (hk : 54 + Y.log2 ≤ X.log2 + k) : 9007199254740992 ≤ X * 2 ^ k / Y ∧ 54 ≤ (quoS X Y k).log2 := by
  have h1 := Nat.log2_self_le hX
  have h2 : Y < 2 ^ (Y.log2 + 1) := Nat.lt_log2_self
  have h3 : 9007199254740992 ≤ X * 2 ^ k / Y := by
    rw [Nat.le_div_iff_mul_le (by omega)]
    refine Nat.le_trans (Nat.mul_le_mul_left _ (Nat.le_of_lt h2)) ?_
    refine Nat.le_trans ?_ (Nat.mul_le_mul_right _ h1)
    rw [show (9007199254740992 : Nat) = 2 ^ 53 from rfl, ← Nat.pow_add, ← Nat.pow_add]
    exact Nat.pow_le_pow_right (by decide) (by omega)
  refine ⟨h3, ?_⟩
  have h4 : 2 ^ 54 ≤ quoS X Y k := by unfold quoS; omega
  exact (Nat.le_log2 (by have := Nat.two_pow_pos 54; omega)).2 h4
end Go.Proofs.YtphnainibdepbaaGreat
namespace Go.Proofs.YtphnainibdepbaaGreat
open Go.RowKit

def yearR (X Y : Nat) : Nat := nearR (quoS X Y 200) (-1 - ((200 : Nat) : Int))
theorem yearK_le {X Y : Nat} (hX : X ≠ 0) (hY : Y ≠ 0) (hY' : Y ≤ 1000000000) : yearK X Y ≤ 200 ∧ 54 + Y.log2 ≤ X.log2 + yearK X Y := by
  have h1 := bl_pos hX
  have h2 := bl_pos hY
  have h3 : Y.log2 < 30 := (Nat.log2_lt hY).2 (by omega)
  unfold yearK
  omega
theorem yearR_fin {X Y : Nat} (h : X ≤ 1000000000) : yearR X Y < 9218868437227405312 := by
  unfold yearR
  have h1 : quoS X Y 200 ≤ 1 * 2 ^ 232 := by
    unfold quoS
    have h2 : X * 2 ^ 200 / Y ≤ X * 2 ^ 200 := Nat.div_le_self _ _
    have h3 : X * 2 ^ 200 ≤ 1073741824 * 2 ^ 200 := Nat.mul_le_mul_right _ (by omega)
    rw [show (1073741824 : Nat) * 2 ^ 200 = 2 ^ 230 by decide] at h3
    split <;> omega
  refine Nat.lt_of_le_of_lt (nearR_mono _ h1) ?_
  rw [show (-1 : Int) - ((200 : Nat) : Int) = 31 - ((232 : Nat) : Int) by decide, nearR_scale (by decide)]
  decide
end Go.Proofs.YtphnainibdepbaaGreat
namespace Go.Proofs.YtphnainibdepbaaGreat
open Go.RowKit

theorem quo_inf {x y : Nat} (hx : x % 9223372036854775808 = 9218868437227405312) (hy : NumB y) : floatBits .quo .f64 x y = some (wrd (sB x ^^ sB y) 9218868437227405312) := by
  show ((Ieee.double.read x).quotient 54 (Ieee.double.read y)).map Ieee.double.write = _
  rw [read_inf hx, read_num hy]
  show some (Ieee.double.write (.infinity _)) = _
  rw [write_inf]; rfl
theorem quo_by_zero {x y : Nat} (hx : NumB x) (h0 : x % 9223372036854775808 ≠ 0) (hy : y % 9223372036854775808 = 0) : floatBits .quo .f64 x y = some (wrd (sB x ^^ sB y) 9218868437227405312) := by
  have hm := mg_pos h0
  show ((Ieee.double.read x).quotient 54 (Ieee.double.read y)).map Ieee.double.write = _
  rw [read_num hx, read_num (b := y) (by omega), hy, show mg 0 = 0 by decide]
  show (if mg (x % 9223372036854775808) = 0 then none else some (Ieee.Datum.infinity (_ ^^ _))).map Ieee.double.write = _
  rw [if_neg hm]
  show some (Ieee.double.write (.infinity _)) = _
  rw [write_inf]; rfl
theorem write_none (s : Bool) (i : Int) : Ieee.double.write (.number s 0 i) = wrd s 0 := by
  show Ieee.double.nearest s 0 i = _
  rw [nearest_zero, word_eq]
theorem quo_by_inf {x y : Nat} (hx : NumB x) (hy : y % 9223372036854775808 = 9218868437227405312) : floatBits .quo .f64 x y = some (wrd (sB x ^^ sB y) 0) := by
  show ((Ieee.double.read x).quotient 54 (Ieee.double.read y)).map Ieee.double.write = _
  rw [read_num hx, read_inf hy]
  show some (Ieee.double.write (.number _ 0 0)) = _
  rw [write_none]; rfl
theorem quo_parts (s t : Bool) (m n : Nat) (i j : Int) (hn : n ≠ 0) : ((Ieee.Datum.number s m i).quotient 54 (.number t n j)).map Ieee.double.write = some (Ieee.double.nearest (s ^^ t) (2 * (m * 2 ^ (54 + n.log2 - m.log2) / n) + (m * 2 ^ (54 + n.log2 - m.log2) % n != 0).toNat) (i - j - ((54 + n.log2 - m.log2 : Nat) : Int) - 1)) := by
  show (if n = 0 then _ else some (Ieee.Datum.number (s ^^ t) (2 * ((m <<< (54 + n.log2 - m.log2)) / n) + ((m <<< (54 + n.log2 - m.log2)) % n != 0).toNat) (i - j - ((54 + n.log2 - m.log2 : Nat) : Int) - 1))).map Ieee.double.write = _
  rw [if_neg hn, Nat.shiftLeft_eq]
  rfl
theorem quo_zero {x y : Nat} (hx : x % 9223372036854775808 = 0) (hy : NumB y) (h0 : y % 9223372036854775808 ≠ 0) : floatBits .quo .f64 x y = some (wrd (sB x ^^ sB y) 0) := by
  have hm := mg_pos h0
  show ((Ieee.double.read x).quotient 54 (Ieee.double.read y)).map Ieee.double.write = _
  rw [read_num (b := x) (by omega), read_num hy, hx, quo_parts _ _ _ _ _ _ hm, show mg 0 = 0 by decide, Nat.zero_mul, Nat.zero_div, Nat.zero_mod]
  show some (Ieee.double.nearest _ 0 _) = _
  rw [nearest_zero, word_eq]; rfl
theorem quoS_eq (X Y k : Nat) : 2 * (X * 2 ^ k / Y) + (X * 2 ^ k % Y != 0).toNat = quoS X Y k := by
  unfold quoS
  congr 1
  by_cases h : X * 2 ^ k % Y = 0
  · rw [if_pos h, h]; rfl
  · rw [if_neg h, show (X * 2 ^ k % Y != 0) = true by simpa using h]; rfl
theorem quo_num {x y : Nat} (hx : NumB x) (hy : NumB y) (h0 : x % 9223372036854775808 ≠ 0) (h1 : y % 9223372036854775808 ≠ 0) {X Y : Nat} {ex ey : Int} (hX : X = mg (x % 9223372036854775808)) (hY : Y = mg (y % 9223372036854775808)) (hex : ex = -1074 + (pl (x % 9223372036854775808) : Int)) (hey : ey = -1074 + (pl (y % 9223372036854775808) : Int)) {k : Nat} (hk : 54 + Y.log2 - X.log2 ≤ k) :
    floatBits .quo .f64 x y = some (wrd (sB x ^^ sB y) (nearR (quoS X Y k) (ex - ey - 1 - k))) := by
  have hX0 : X ≠ 0 := by rw [hX]; exact mg_pos h0
  have hY0 : Y ≠ 0 := by rw [hY]; exact mg_pos h1
  show ((Ieee.double.read x).quotient 54 (Ieee.double.read y)).map Ieee.double.write = _
  rw [read_num hx, read_num hy, ← hX, ← hY, ← hex, ← hey, quo_parts _ _ _ _ _ _ hY0, quoS_eq]
  have hq := quo_bits hX0 hY0 (k := 54 + Y.log2 - X.log2) (by omega)
  have hq0 : quoS X Y (54 + Y.log2 - X.log2) ≠ 0 := by intro h; rw [h] at hq; exact absurd hq.2 (by decide)
  rw [nearest_eq _ hq0, word_eq]
  have := near_quo (X := X) (Y := Y) (p := ex - ey - 1) (by omega) hk hq.2
  rw [← this, show ex - ey - ((54 + Y.log2 - X.log2 : Nat) : Int) - 1 = ex - ey - 1 - ((54 + Y.log2 - X.log2 : Nat) : Int) by omega]
  rfl

theorem zero_V2 {r : Nat} (h : V r = 0) : r = 0 := by
  have := V_eq_iff (r := r) (s := 0)
  rw [V_zero] at this
  exact this.1 h
end Go.Proofs.YtphnainibdepbaaGreat
namespace Go.Proofs.YtphnainibdepbaaGreat
open Go.RowKit

theorem quoS_upN (X Y a k : Nat) : quoS (X * 2 ^ a) Y k = quoS X Y (a + k) := by
  unfold quoS
  rw [Nat.mul_assoc, ← Nat.pow_add]
theorem quoS_scaleN (X Y k c : Nat) (hc : 0 < c) : quoS (X * c) (Y * c) k = quoS X Y k := by
  unfold quoS
  rw [show X * c * 2 ^ k = X * 2 ^ k * c by rw [Nat.mul_assoc, Nat.mul_comm c, ← Nat.mul_assoc], Nat.mul_div_mul_right _ _ hc, Nat.mul_mod_mul_right]
  have : (X * 2 ^ k % Y * c = 0) ↔ (X * 2 ^ k % Y = 0) := by
    rw [Nat.mul_eq_zero]; omega
  simp only [this]
theorem quoS_same {A B X Y p q m t : Nat} (hA : A * 2 ^ p = X * 2 ^ t) (hB : B * 2 ^ q = Y * 2 ^ t) : quoS A B (p + m) = quoS X Y (q + m) := by
  rw [← quoS_upN A B p m, hA, ← quoS_scaleN _ B m (2 ^ q) (Nat.two_pow_pos _), hB, show X * 2 ^ t * 2 ^ q = X * 2 ^ q * 2 ^ t by rw [Nat.mul_assoc, Nat.mul_comm (2 ^ t), ← Nat.mul_assoc], quoS_scaleN _ _ _ _ (Nat.two_pow_pos _), quoS_upN]
theorem quo_whole {x y X Y : Nat} (hx : NumB x) (hy : NumB y) (hX : aV x = X * 2 ^ 1074) (hY : aV y = Y * 2 ^ 1074) (hX0 : X ≠ 0) (hY0 : Y ≠ 0) (hY' : Y ≤ 1000000000) :
    floatBits .quo .f64 x y = some (wrd (sB x ^^ sB y) (yearR X Y)) := by
  have px := Nat.two_pow_pos 1074
  have h0 : x % 9223372036854775808 ≠ 0 := by
    intro h
    unfold aV at hX
    rw [h, V_zero] at hX
    have := Nat.mul_pos (show 0 < X by omega) px
    omega
  have h1 : y % 9223372036854775808 ≠ 0 := by
    intro h
    unfold aV at hY
    rw [h, V_zero] at hY
    have := Nat.mul_pos (show 0 < Y by omega) px
    omega
  unfold aV V at hX hY
  have mx := mg_pos h0
  have my := mg_pos h1
  have lx := mg_lt (x % 9223372036854775808)
  have ly := mg_lt (y % 9223372036854775808)
  have hl : (mg (y % 9223372036854775808)).log2 < 53 := (Nat.log2_lt my).2 (by omega)
  rw [quo_num hx hy h0 h1 rfl rfl rfl rfl (k := pl (x % 9223372036854775808) + 300) (by omega), quoS_same hX hY]
  obtain ⟨k1, k2⟩ := yearK_le hX0 hY0 hY'
  have hb := quo_bits hX0 hY0 k2
  have e1 := near_quo (X := X) (Y := Y) (p := -1) (by omega) (show yearK X Y ≤ pl (y % 9223372036854775808) + 300 by omega) hb.2
  have e2 := near_quo (X := X) (Y := Y) (p := -1) (by omega) k1 hb.2
  unfold yearR
  rw [← e2, e1]
  congr 3
  omega
end Go.Proofs.YtphnainibdepbaaGreat
namespace Go.Proofs.YtphnainibdepbaaGreat
open Go.RowKit

theorem floatOf_fi7 (m : Int) : floatOfInt .f64 m = fi m := by
  show Ieee.double.nearest (decide (m < 0)) m.natAbs 0 = _
  unfold fi joinN
  by_cases h0 : m = 0
  · subst h0; rfl
  · rw [if_neg h0, nearest_eq _ (by omega)]
    by_cases hn : m < 0
    · simp only [hn, decide_true, if_true]; rw [word_true]
    · simp only [hn, decide_false, if_false]; rw [word_false]
theorem aV_fi7 {m : Int} {K : Nat} (hK : K = 1074) (h1 : -1000000000 ≤ m) (h2 : m ≤ 1000000000) : NumB (fi m) ∧ aV (fi m) = m.natAbs * 2 ^ K ∧ sB (fi m) = decide (m < 0) ∧ fi m < 18446744073709551616 := by
  obtain ⟨a, b, c, d⟩ := vI_fi (m := m) hK (by omega) (by omega)
  refine ⟨b, ?_, c, d⟩
  unfold aV
  have hn : (vI (fi m)).natAbs = V (fi m % 9223372036854775808) := by
    unfold vI
    split <;> simp
  rw [← hn, a, Int.natAbs_mul, Int.natAbs_natCast]
def yW (P Q : Int) : Nat := if P = 0 then 0 else wrd (decide (P < 0)) (yearR P.natAbs Q.natAbs)
theorem quo_year {P Q : Int} (h1 : -1000000000 ≤ P) (h2 : P ≤ 1000000000) (h3 : 0 < Q) (h4 : Q ≤ 1000000000) : floatBits .quo .f64 (fi P) (fi Q) = some (yW P Q) := by
  obtain ⟨K, hK⟩ : ∃ K : Nat, K = 1074 := ⟨_, rfl⟩
  obtain ⟨a1, a2, a3, _⟩ := aV_fi7 (m := P) hK h1 h2
  obtain ⟨b1, b2, b3, _⟩ := aV_fi7 (m := Q) hK (by omega) h4
  have hs : decide (Q < 0) = false := decide_eq_false (by omega)
  have hp := Nat.two_pow_pos K
  unfold yW
  by_cases h0 : P = 0
  · rw [if_pos h0]
    subst h0
    have hq : fi Q % 9223372036854775808 ≠ 0 := fun e => by
      unfold aV at b2
      rw [e, V_zero] at b2
      have := Nat.mul_pos (show 0 < Q.natAbs by omega) hp
      omega
    rw [show fi 0 = 0 from fi_zero, quo_zero (by rfl) b1 hq, b3, hs]
    rfl
  · rw [if_neg h0]
    subst hK
    rw [quo_whole a1 b1 a2 b2 (by omega) (by omega) (by omega), a3, b3, hs]
    simp
theorem yW_lt {P Q : Int} (h1 : -1000000000 ≤ P) (h2 : P ≤ 1000000000) : yW P Q < 18446744073709551616 := by
  unfold yW
  have := yearR_fin (X := P.natAbs) (Y := Q.natAbs) (by omega)
  split
  · decide
  · unfold wrd; split <;> omega

set_option maxHeartbeats 800000 in
theorem yearP_ok (kind W a b P Q : Int) (v : Value) (w : World) (h1 : -1000000000 ≤ P) (h2 : P ≤ 1000000000) (h3 : 0 < Q) (h4 : Q ≤ 1000000000) (H : Hid (FracH w kind W a b P Q 0 v)) :
    Calls Tryz.prog 28 #[.int .i64 kind, .agg #[.int .i64 W, v], .int .i64 a, .int .i64 b] w fun e w' => e = .returned (.tuple #[.float .f64 (yW P Q), .int .i64 0]) ∧ Below w.heap.size w w' := by
  have HB := hideS (cbox_first w W v)
  have f1 := floatOf_fi7 P
  have f2 := floatOf_fi7 Q
  have hq := quo_year h1 h2 h3 h4
  unfold FracH at H
  clear h1 h2 h3 h4
  generalize yW P Q = R at *
  generalize fi P = X at *
  generalize fi Q = Y at *
  have hr := fun wx => run_float_arith (P := Tryz.prog) wx .quo 42 .f64 X Y R hq
  clear hq
  go_enter Tryz.func28, Tryz.ntmps28
  go_wp2_with (go_at_call 43; refine (H.out _ HB.out).mono ?_; rintro e w1 ⟨rfl, hb⟩)
  go_ret2
  exact ⟨rfl, HB.out.trans (hb.mono HB.out.size)⟩
set_option maxHeartbeats 800000 in
theorem yearP_err (kind W a b E : Int) (v : Value) (w : World) (hE : E ≠ 0) (H : Hid (FracH w kind W a b 0 0 E v)) :
    Calls Tryz.prog 28 #[.int .i64 kind, .agg #[.int .i64 W, v], .int .i64 a, .int .i64 b] w fun e w' => e = .returned (.tuple #[.float .f64 0, .int .i64 E]) ∧ Below w.heap.size w w' := by
  have HB := hideS (cbox_first w W v)
  have hE' : (E != 0) = true := bne_iff_ne.2 hE
  unfold FracH at H
  clear hE
  go_enter Tryz.func28, Tryz.ntmps28
  go_wp2_with (go_at_call 43; refine (H.out _ HB.out).mono ?_; rintro e w1 ⟨rfl, hb⟩)
  go_ret2
  exact ⟨rfl, HB.out.trans (hb.mono HB.out.size)⟩
def YearH (w : World) (kind W a b : Int) (R : Nat) (E : Int) (v : Value) : Prop := ∀ wx, Below w.heap.size w wx → Calls Tryz.prog 28 #[.int .i64 kind, .agg #[.int .i64 W, v], .int .i64 a, .int .i64 b] wx fun e w' => e = .returned (.tuple #[.float .f64 R, .int .i64 E]) ∧ Below wx.heap.size wx w'
theorem FracH.later {w wx : World} {kind W a b P Q E : Int} {v : Value} (h : FracH w kind W a b P Q E v) (hb : Below w.heap.size w wx) : FracH wx kind W a b P Q E v := fun wy hy => h wy (hb.trans (hy.mono hb.size))
theorem fracQ_bd {kind : Int} : 0 < fracQ kind ∧ fracQ kind ≤ 1000000000 := by
  unfold fracQ
  split
  · decide
  · split
    · decide
    · split <;> decide
theorem FracR.bd {kind W a b P Q E : Int} {rs : List Rul} (h : FracR kind W a b rs P Q E) : -1000000000 ≤ P ∧ P ≤ 1000000000 ∧ (E = 0 → 0 < Q ∧ Q ≤ 1000000000) ∧ (E ≠ 0 → P = 0 ∧ Q = 0) := by
  cases h with
  | fine hk hk' ha hb h6 =>
    have := fracS_bd (opB W rs) (kind := kind) ha hb
    exact ⟨this.1, this.2, fun _ => fracQ_bd, fun c => absurd rfl c⟩
  | kind h => exact ⟨by decide, by decide, fun c => absurd c (by decide), fun _ => ⟨rfl, rfl⟩⟩
  | cal A B h6 h hA => exact ⟨by decide, by decide, fun c => absurd c hA, fun _ => ⟨rfl, rfl⟩⟩
  | day hk hk' h h6 => exact ⟨by decide, by decide, fun c => absurd c (by decide), fun _ => ⟨rfl, rfl⟩⟩
theorem FracR.year {kind W a b P Q E : Int} {rs : List Rul} (h : FracR kind W a b rs P Q E) (p : Option Addr) (bb off c : Nat) (w : World) (hs : RSrc w p bb off rs) (hl : rs.length ≤ 9223372036854775807) : YearH w kind W a b (yW P Q) E (.slice p rs.length c) := fun wx hbx => by
  have hp := (h.prog p bb off c w hs hl).later hbx
  obtain ⟨b1, b2, b3, b4⟩ := h.bd
  by_cases hE : E = 0
  · subst hE
    exact yearP_ok kind W a b P Q _ wx b1 b2 (b3 rfl).1 (b3 rfl).2 hp
  · obtain ⟨rfl, rfl⟩ := b4 hE
    exact yearP_err kind W a b E _ wx hE hp
end Go.Proofs.YtphnainibdepbaaGreat
namespace Go.Proofs.YtphnainibdepbaaGreat
open Go.RowKit

theorem sg_zero_any (neg : Bool) : sg neg 0 = 0 := by cases neg <;> rfl
theorem add_inf {x y : Nat} (hx : x % 9223372036854775808 = 9218868437227405312) (hy : NumB y) (hx64 : x < 18446744073709551616) : floatBits .add .f64 x y = some x ∧ floatBits .add .f64 y x = some x := by
  have hw : wrd (sB x) 9218868437227405312 = x := by
    unfold wrd sB
    rcases (show x / 9223372036854775808 = 0 ∨ x / 9223372036854775808 = 1 by omega) with e | e
    · rw [e]; simp; omega
    · rw [e]; simp; omega
  constructor
  · show ((Ieee.double.read x).sum (Ieee.double.read y)).map Ieee.double.write = _
    rw [read_inf hx, read_num hy]
    show some (Ieee.double.write (.infinity _)) = _
    rw [write_inf]; exact congrArg some hw
  · show ((Ieee.double.read y).sum (Ieee.double.read x)).map Ieee.double.write = _
    rw [read_inf hx, read_num hy]
    show some (Ieee.double.write (.infinity _)) = _
    rw [write_inf]; exact congrArg some hw
theorem add_infs {x y : Nat} (hx : x % 9223372036854775808 = 9218868437227405312) (hy : y % 9223372036854775808 = 9218868437227405312) (hx64 : x < 18446744073709551616) (hy64 : y < 18446744073709551616) : floatBits .add .f64 x y = if x = y then some x else none := by
  show ((Ieee.double.read x).sum (Ieee.double.read y)).map Ieee.double.write = _
  rw [read_inf hx, read_inf hy]
  rcases (show x = 9218868437227405312 ∨ x = 18442240474082181120 by omega) with e | e <;> rcases (show y = 9218868437227405312 ∨ y = 18442240474082181120 by omega) with e' | e' <;> subst e <;> subst e' <;> decide +kernel

end Go.Proofs.YtphnainibdepbaaGreat
namespace Go.Proofs.YtphnainibdepbaaGreat
open Go.RowKit

theorem cn_lt {op : BinOp} (ho : op = .add ∨ op = .sub ∨ op = .mul ∨ op = .quo) (x y : Nat) : cn (floatBits op .f64 x y) < 18446744073709551616 := by
  cases h : floatBits op .f64 x y with
  | none => decide
  | some r => exact float_lt ho h
theorem cn_nan : nanB ((9221120237041090561 : Nat) : Int) = true := by decide
theorem ag_cn (o : Option Nat) : Ag o (cn o) := by
  cases o with
  | none => exact ⟨cn_nan, by decide⟩
  | some r => rfl
end Go.Proofs.YtphnainibdepbaaGreat
namespace Go.Proofs.YtphnainibdepbaaGreat
open Go.RowKit

def flipN (x : Nat) : Nat := if x < 9223372036854775808 then 9223372036854775808 + x else x - 9223372036854775808
theorem flip_parts {x : Nat} (h : x < 18446744073709551616) : flipN x < 18446744073709551616 ∧ flipN x % 9223372036854775808 = x % 9223372036854775808 ∧ (flipN x / 9223372036854775808 % 2 == 1) = !(x / 9223372036854775808 % 2 == 1) := by
  unfold flipN
  by_cases h1 : x < 9223372036854775808
  · rw [if_pos h1]
    refine ⟨by omega, by omega, ?_⟩
    rw [show (9223372036854775808 + x) / 9223372036854775808 = 1 by omega, show x / 9223372036854775808 = 0 by omega]; rfl
  · rw [if_neg h1]
    refine ⟨by omega, by omega, ?_⟩
    rw [show (x - 9223372036854775808) / 9223372036854775808 = 0 by omega, show x / 9223372036854775808 = 1 by omega]; rfl
theorem sub_flip {x y : Nat} (h : y < 18446744073709551616) (hn : nanB (y : Int) = false) : floatBits .add .f64 x (flipN y) = floatBits .sub .f64 x y := by
  obtain ⟨_, h2, h3⟩ := flip_parts h
  have hl := nan_false hn
  have e : Ieee.double.read (flipN y) = (Ieee.double.read y).opposite := by
    by_cases hy : y % 9223372036854775808 < 9218868437227405312
    · rw [read_num (b := flipN y) (by rw [h2]; exact hy), read_num hy, h2, h3]; rfl
    · rw [read_inf (b := flipN y) (by rw [h2]; omega), read_inf (b := y) (by omega), h3]; rfl
  show ((Ieee.double.read x).sum (Ieee.double.read (flipN y))).map Ieee.double.write = ((Ieee.double.read x).sum (Ieee.double.read y).opposite).map Ieee.double.write
  rw [e]

end Go.Proofs.YtphnainibdepbaaGreat
namespace Go.Proofs.YtphnainibdepbaaGreat
open Go.RowKit

def sAdd (x y : Nat) : Nat := cn (floatBits .add .f64 x y)
def sSub (x y : Nat) : Nat := cn (floatBits .sub .f64 x y)
def sMul (x y : Nat) : Nat := cn (floatBits .mul .f64 x y)
def sDiv (x y : Nat) : Nat := cn (floatBits .quo .f64 x y)
theorem u64N {x : Nat} (h : x < 18446744073709551616) : U64 (x : Nat) := ⟨by omega, by omega⟩
theorem fi_lt {n : Int} (h0 : -9007199254740992 ≤ n) (h1 : n ≤ 9007199254740992) : fi n < 18446744073709551616 := (vI_fi rfl h0 h1).2.2.2
def steepB (xs : List Int) (ys : List Nat) (k : Nat) : Nat := sDiv (sSub (ys.getD (k + 1) 0) (ys.getD k 0)) (fi (xs.getD (k + 1) 0 - xs.getD k 0))
structure Six6 (w : World) (B : Nat) (vx vy : Value) (bx ox b2 oy k j : Nat) (x0 x1 : Int) (y0 y1 : Nat) : Prop where
  t1 : w.cell? ⟨B, 1, none⟩ = some vx
  t2 : w.cell? ⟨B, 2, none⟩ = some vy
  a0 : w.cell? ⟨bx, ox + k, none⟩ = some (.int .i64 x0)
  a1 : w.cell? ⟨bx, ox + j, none⟩ = some (.int .i64 x1)
  b0 : w.cell? ⟨b2, oy + k, none⟩ = some (.int .u64 (y0 : Int))
  b1 : w.cell? ⟨b2, oy + j, none⟩ = some (.int .u64 (y1 : Int))
theorem Six6.step {w w' : World} {B s : Nat} {vx vy : Value} {bx ox b2 oy k j : Nat} {x0 x1 : Int} {y0 y1 : Nat} (h : Six6 w B vx vy bx ox b2 oy k j x0 x1 y0 y1) (hb : Below s w w') (hB : B < s) (hx : bx < s) (hy : b2 < s) : Six6 w' B vx vy bx ox b2 oy k j x0 x1 y0 y1 :=
  ⟨(hb.cell (p := ⟨B, 1, none⟩) hB).trans h.t1, (hb.cell (p := ⟨B, 2, none⟩) hB).trans h.t2, (hb.cell (p := ⟨bx, ox + k, none⟩) hx).trans h.a0, (hb.cell (p := ⟨bx, ox + j, none⟩) hx).trans h.a1, (hb.cell (p := ⟨b2, oy + k, none⟩) hy).trans h.b0, (hb.cell (p := ⟨b2, oy + j, none⟩) hy).trans h.b1⟩
end Go.Proofs.YtphnainibdepbaaGreat
namespace Go.Proofs.YtphnainibdepbaaGreat
open Go.RowKit

end Go.Proofs.YtphnainibdepbaaGreat
namespace Go.Proofs.YtphnainibdepbaaGreat
open Go.RowKit

def overG (N : Int) (d : Nat) : Nat := if N = 0 then 0 else wrd (decide (N < 0)) (nearR (quoS N.natAbs d 0) (-2149))
def ovRk (N : Int) (d : Nat) : Int := if N = 0 then 0 else if N < 0 then -(nearR (quoS N.natAbs d 0) (-2149) : Int) else (nearR (quoS N.natAbs d 0) (-2149) : Int)
theorem nearR_topI (M : Nat) (p : Int) : nearR M p ≤ 9218868437227405312 := by
  rw [nearR_kept]; omega
theorem rank_wrd7 (s : Bool) {r : Nat} (h : r ≤ 9218868437227405312) : U64 (wrd s r : Nat) ∧ nanB (wrd s r : Nat) = false ∧ rankI (wrd s r : Nat) = if s then -(r : Int) else (r : Int) := by
  have hn : nanB (wrd s r : Nat) = false := by
    unfold nanB szI wrd
    rw [decide_eq_false_iff_not]
    cases s <;> simp <;> omega
  refine ⟨by unfold U64 wrd; cases s <;> simp <;> omega, hn, ?_⟩
  unfold rankI
  rw [hn, if_neg (by decide)]
  unfold sgB szI wrd
  cases s
  · have : ¬ (9223372036854775808 : Int) ≤ (r : Int) := by omega
    simp [this]
    omega
  · simp
    omega
theorem overG_rank (N : Int) (d : Nat) : U64 (overG N d : Nat) ∧ nanB (overG N d : Nat) = false ∧ rankI (overG N d : Nat) = ovRk N d := by
  unfold overG ovRk
  by_cases h0 : N = 0
  · rw [if_pos h0, if_pos h0]
    exact ⟨by unfold U64; decide, by decide, by decide⟩
  · rw [if_neg h0, if_neg h0]
    obtain ⟨a, b, c⟩ := rank_wrd7 (decide (N < 0)) (nearR_topI (quoS N.natAbs d 0) (-2149))
    refine ⟨a, b, ?_⟩
    rw [c]
    by_cases hn : N < 0 <;> simp [hn]
theorem quoS_mono7 {X X' Y k : Nat} (h : X ≤ X') : quoS X Y k ≤ quoS X' Y k := by
  have h1 : X * 2 ^ k ≤ X' * 2 ^ k := Nat.mul_le_mul_right _ h
  unfold quoS
  generalize X * 2 ^ k = A at *
  generalize X' * 2 ^ k = B at *
  have h2 : A / Y ≤ B / Y := Nat.div_le_div_right h1
  have ea := Nat.div_add_mod A Y
  have eb := Nat.div_add_mod B Y
  by_cases hq : A / Y = B / Y
  · rw [hq] at ea ⊢
    have : A % Y ≤ B % Y := by omega
    split <;> split <;> omega
  · split <;> split <;> omega
theorem ovRk_mono {N N' : Int} (d : Nat) (h : N ≤ N') : ovRk N d ≤ ovRk N' d := by
  unfold ovRk
  by_cases h1 : N' < 0
  · have := nearR_mono (-2149) (quoS_mono7 (Y := d) (k := 0) (show N'.natAbs ≤ N.natAbs by omega))
    rw [if_neg (by omega), if_pos (by omega), if_neg (by omega), if_pos h1]
    omega
  · by_cases h2 : 0 < N
    · have := nearR_mono (-2149) (quoS_mono7 (Y := d) (k := 0) (show N.natAbs ≤ N'.natAbs by omega))
      rw [if_neg (by omega), if_neg (by omega), if_neg (by omega), if_neg (by omega)]
      omega
    · (repeat' split) <;> omega
theorem ovRk_neg (N : Int) (d : Nat) : ovRk (-N) d = -ovRk N d := by
  unfold ovRk
  by_cases h0 : N = 0
  · rw [if_pos h0, if_pos (by omega)]; rfl
  · rw [if_neg h0, if_neg (by omega), Int.natAbs_neg]
    by_cases hn : N < 0
    · rw [if_pos hn, if_neg (by omega)]; omega
    · rw [if_neg hn, if_pos (by omega)]
theorem ovRk_at {r d K : Nat} (hK : K = 1074) (hr : r < 9218868437227405312) (hd : 0 < d) : ovRk (((V r * 2 ^ K * d : Nat)) : Int) d = r := by
  unfold ovRk
  by_cases h0 : V r * 2 ^ K * d = 0
  · rw [h0, if_pos (show ((0 : Nat) : Int) = 0 from rfl)]
    have h1 : V r = 0 := by
      have hp := Nat.two_pow_pos K
      rcases Nat.mul_eq_zero.1 h0 with c | c
      · rcases Nat.mul_eq_zero.1 c with c | c <;> omega
      · omega
    have : V r = V 0 := by rw [h1, V_zero]
    rw [V_eq_iff] at this
    rw [this]; rfl
  · rw [if_neg (by omega), if_neg (by omega), Int.natAbs_natCast]
    have e : quoS (V r * 2 ^ K * d) d 0 = V r * 2 ^ (K + 1) := by
      unfold quoS
      rw [Nat.pow_zero, Nat.mul_one, Nat.mul_div_cancel _ hd, Nat.mul_mod_left, if_pos rfl, Nat.pow_succ, Nat.add_zero]
      generalize V r = a
      generalize 2 ^ K = b
      rw [Nat.mul_comm 2, Nat.mul_assoc]
    rw [e]
    have := nearR_V hr (K + 1)
    rw [show (-1074 : Int) - ((K + 1 : Nat) : Int) = -2149 by omega] at this
    rw [this]
def uI (K : Nat) (y : Nat) : Int := vI y * ((2 ^ K : Nat) : Int)
theorem vI_rank {y : Nat} (h64 : y < 18446744073709551616) (hy : NumB y) : (0 ≤ rankI (y : Nat) ∧ vI y = (V (y % 9223372036854775808) : Int) ∧ rankI (y : Nat) = ((y % 9223372036854775808 : Nat) : Int)) ∨ (rankI (y : Nat) ≤ 0 ∧ vI y = -(V (y % 9223372036854775808) : Int) ∧ rankI (y : Nat) = -((y % 9223372036854775808 : Nat) : Int)) := by
  unfold NumB at hy
  have hn : nanB (y : Nat) = false := by unfold nanB szI; rw [decide_eq_false_iff_not]; omega
  unfold rankI vI
  rw [hn, if_neg (by decide)]
  unfold sgB szI
  by_cases hs : y < 9223372036854775808
  · left
    have h1 : ¬ (9223372036854775808 : Int) ≤ (y : Int) := by omega
    have h2 : y / 9223372036854775808 % 2 = 0 := by omega
    rw [h2]
    simp only [h1, decide_false, Bool.false_eq_true, if_false, show ((0 : Nat) == 1) = false from rfl]
    exact ⟨by omega, trivial, by omega⟩
  · right
    have h1 : (9223372036854775808 : Int) ≤ (y : Int) := by omega
    have h2 : y / 9223372036854775808 % 2 = 1 := by omega
    rw [h2]
    simp only [h1, decide_true, if_true, beq_self_eq_true]
    exact ⟨by omega, trivial, by omega⟩
theorem ovRk_num {y d K : Nat} (hK : K = 1074) (h64 : y < 18446744073709551616) (hy : NumB y) (hd : 0 < d) : ovRk (uI K y * (d : Int)) d = rankI (y : Nat) := by
  unfold NumB at hy
  rcases vI_rank h64 hy with ⟨_, hv, hr⟩ | ⟨_, hv, hr⟩
  · unfold uI
    rw [hv, hr, ← ovRk_at (r := y % 9223372036854775808) hK (by omega) hd]
    simp only [Int.natCast_mul]
  · unfold uI
    rw [hv, hr, ← ovRk_at (r := y % 9223372036854775808) hK (by omega) hd, Int.neg_mul, Int.neg_mul, ovRk_neg]
    simp only [Int.natCast_mul]
theorem ov_ge {y d K : Nat} {N : Int} (hK : K = 1074) (h64 : y < 18446744073709551616) (hy : NumB y) (hd : 0 < d) (h : uI K y * (d : Int) ≤ N) : rankI (y : Nat) ≤ ovRk N d := by
  rw [← ovRk_num hK h64 hy hd]; exact ovRk_mono d h
theorem ov_le {y d K : Nat} {N : Int} (hK : K = 1074) (h64 : y < 18446744073709551616) (hy : NumB y) (hd : 0 < d) (h : N ≤ uI K y * (d : Int)) : ovRk N d ≤ rankI (y : Nat) := by
  rw [← ovRk_num hK h64 hy hd]; exact ovRk_mono d h
theorem uI_le {x y : Nat} (K : Nat) (hx : x < 18446744073709551616) (hxn : NumB x) (hy : y < 18446744073709551616) (hyn : NumB y) (h : rankI (x : Nat) ≤ rankI (y : Nat)) : uI K x ≤ uI K y := by
  have hp : (0 : Int) ≤ ((2 ^ K : Nat) : Int) := Int.natCast_nonneg _
  unfold uI
  refine Int.mul_le_mul_of_nonneg_right ?_ hp
  rcases vI_rank hx hxn with ⟨a1, a2, a3⟩ | ⟨a1, a2, a3⟩ <;> rcases vI_rank hy hyn with ⟨b1, b2, b3⟩ | ⟨b1, b2, b3⟩
  · rw [a2, b2]; have := V_le (r := x % 9223372036854775808) (s := y % 9223372036854775808) (by omega); omega
  · rw [a2, b2]
    have e1 : x % 9223372036854775808 = 0 := by omega
    have e2 : y % 9223372036854775808 = 0 := by omega
    rw [e1, e2, V_zero]; omega
  · rw [a2, b2]; omega
  · rw [a2, b2]; have := V_le (r := y % 9223372036854775808) (s := x % 9223372036854775808) (by omega); omega

def linN (n i u0 u1 : Int) : Int := (n - i) * u0 + i * u1
theorem lin_lo {n i u0 u1 : Int} (h0 : 0 ≤ i) (h1 : i ≤ n) (h : u0 ≤ u1) : u0 * n ≤ linN n i u0 u1 ∧ linN n i u0 u1 ≤ u1 * n := by
  unfold linN
  have a : i * u0 ≤ i * u1 := Int.mul_le_mul_of_nonneg_left h h0
  have b : (n - i) * u0 ≤ (n - i) * u1 := Int.mul_le_mul_of_nonneg_left h (by omega)
  have e0 : (n - i) * u0 = n * u0 - i * u0 := Int.sub_mul ..
  have e1 : (n - i) * u1 = n * u1 - i * u1 := Int.sub_mul ..
  rw [Int.mul_comm u0 n, Int.mul_comm u1 n]
  omega
theorem lin_mono {n i j u0 u1 : Int} (h : u0 ≤ u1) (hij : i ≤ j) : linN n i u0 u1 ≤ linN n j u0 u1 := by
  unfold linN
  have a : (j - i) * u0 ≤ (j - i) * u1 := Int.mul_le_mul_of_nonneg_left h (by omega)
  rw [Int.sub_mul, Int.sub_mul] at a
  rw [Int.sub_mul, Int.sub_mul]
  omega
theorem lin_neg (n i u0 u1 : Int) : linN n i (-u0) (-u1) = -linN n i u0 u1 := by
  unfold linN
  rw [Int.mul_neg, Int.mul_neg]; omega
end Go.Proofs.YtphnainibdepbaaGreat
namespace Go.Proofs.YtphnainibdepbaaGreat
open Go.RowKit

def cubN (n i u0 u1 u2 u3 : Int) : Int := (n - i) * (n - i) * (n - i) * u0 + 3 * (n - i) * (n - i) * i * u1 + 3 * (n - i) * i * i * u2 + i * i * i * u3
def wA (n i : Int) : Int := n * n * n - (n - i) * (n - i) * (n - i)
def wB (n i : Int) : Int := i * i * (3 * (n - i) + i)
def wC (i : Int) : Int := i * i * i
theorem three_x (x : Int) : 3 * x = x + x + x := by omega
theorem two_x (x : Int) : 2 * x = x + x := by omega
theorem cub_parts (n i u0 u1 u2 u3 : Int) : cubN n i u0 u1 u2 u3 = n * n * n * u0 + wA n i * (u1 - u0) + wB n i * (u2 - u1) + wC i * (u3 - u2) := by
  unfold cubN wA wB wC
  obtain ⟨a, ha⟩ : ∃ a, n - i = a := ⟨_, rfl⟩
  have hn : n = a + i := by omega
  rw [ha, hn]
  simp only [three_x]
  simp only [Int.mul_add, Int.add_mul, Int.mul_sub, Int.sub_mul, Int.mul_assoc]
  simp only [Int.mul_comm, Int.mul_left_comm]
  omega
theorem wC_mono {i j : Int} (h0 : 0 ≤ i) (h : i ≤ j) : wC i ≤ wC j := by
  unfold wC
  have h1 : i * i ≤ j * j := Int.mul_le_mul h h h0 (by omega)
  exact Int.mul_le_mul h1 h h0 (Int.mul_nonneg (by omega) (by omega))
theorem wA_mono {n i j : Int} (h : i ≤ j) (hn : j ≤ n) : wA n i ≤ wA n j := by
  unfold wA
  have := wC_mono (i := n - j) (j := n - i) (by omega) (by omega)
  unfold wC at this
  omega
theorem wB_step (a i t : Int) : (i + t) * (i + t) * (3 * (a - t) + (i + t)) - i * i * (3 * a + i) = t * (3 * (i * (2 * a - t)) + t * (3 * a - 2 * t)) := by
  simp only [three_x, two_x]
  simp only [Int.mul_add, Int.add_mul, Int.mul_sub, Int.mul_assoc]
  simp only [Int.mul_comm, Int.mul_left_comm]
  omega
theorem wB_mono {n i j : Int} (h0 : 0 ≤ i) (h : i ≤ j) (hn : j ≤ n) : wB n i ≤ wB n j := by
  obtain ⟨t, ht⟩ : ∃ t, j = i + t := ⟨j - i, by omega⟩
  obtain ⟨a, ha⟩ : ∃ a, n - i = a := ⟨_, rfl⟩
  have e := wB_step a i t
  unfold wB
  rw [ht, ha, show n - (i + t) = a - t by omega]
  have p1 : 0 ≤ i * (2 * a - t) := Int.mul_nonneg h0 (by omega)
  have p2 : 0 ≤ t * (3 * a - 2 * t) := Int.mul_nonneg (by omega) (by omega)
  have p3 : 0 ≤ t * (3 * (i * (2 * a - t)) + t * (3 * a - 2 * t)) := Int.mul_nonneg (by omega) (by omega)
  omega
theorem cub_mono {n i j u0 u1 u2 u3 : Int} (h0 : 0 ≤ i) (h : i ≤ j) (hn : j ≤ n) (h1 : u0 ≤ u1) (h2 : u1 ≤ u2) (h3 : u2 ≤ u3) : cubN n i u0 u1 u2 u3 ≤ cubN n j u0 u1 u2 u3 := by
  rw [cub_parts, cub_parts]
  have a := Int.mul_le_mul_of_nonneg_right (wA_mono h hn) (show 0 ≤ u1 - u0 by omega)
  have b := Int.mul_le_mul_of_nonneg_right (wB_mono h0 h hn) (show 0 ≤ u2 - u1 by omega)
  have c := Int.mul_le_mul_of_nonneg_right (wC_mono h0 h) (show 0 ≤ u3 - u2 by omega)
  omega
theorem cub_at0 (n u0 u1 u2 u3 : Int) : cubN n 0 u0 u1 u2 u3 = u0 * (n * n * n) := by
  unfold cubN
  simp only [Int.sub_zero, Int.mul_zero, Int.zero_mul, Int.add_zero]
  exact Int.mul_comm _ _
theorem cub_atn (n u0 u1 u2 u3 : Int) : cubN n n u0 u1 u2 u3 = u3 * (n * n * n) := by
  unfold cubN
  simp only [Int.sub_self, Int.mul_zero, Int.zero_mul, Int.zero_add]
  exact Int.mul_comm _ _
theorem cub_lo {n i u0 u1 u2 u3 : Int} (h0 : 0 ≤ i) (h : i ≤ n) (h1 : u0 ≤ u1) (h2 : u1 ≤ u2) (h3 : u2 ≤ u3) : u0 * (n * n * n) ≤ cubN n i u0 u1 u2 u3 ∧ cubN n i u0 u1 u2 u3 ≤ u3 * (n * n * n) := by
  have a := cub_mono (n := n) (Int.le_refl 0) h0 h h1 h2 h3
  have b := cub_mono (n := n) h0 h (Int.le_refl n) h1 h2 h3
  rw [cub_at0] at a
  rw [cub_atn] at b
  exact ⟨a, b⟩
theorem cub_neg (n i u0 u1 u2 u3 : Int) : cubN n i (-u0) (-u1) (-u2) (-u3) = -cubN n i u0 u1 u2 u3 := by
  unfold cubN
  rw [Int.mul_neg, Int.mul_neg, Int.mul_neg, Int.mul_neg]; omega
theorem cub_fall {n i j u0 u1 u2 u3 : Int} (h0 : 0 ≤ i) (h : i ≤ j) (hn : j ≤ n) (h1 : u1 ≤ u0) (h2 : u2 ≤ u1) (h3 : u3 ≤ u2) : cubN n j u0 u1 u2 u3 ≤ cubN n i u0 u1 u2 u3 := by
  have := cub_mono (n := n) (u0 := -u0) (u1 := -u1) (u2 := -u2) (u3 := -u3) h0 h hn (by omega) (by omega) (by omega)
  rw [cub_neg, cub_neg] at this
  omega
theorem cub_hi {n i u0 u1 u2 u3 : Int} (h0 : 0 ≤ i) (h : i ≤ n) (h1 : u1 ≤ u0) (h2 : u2 ≤ u1) (h3 : u3 ≤ u2) : u3 * (n * n * n) ≤ cubN n i u0 u1 u2 u3 ∧ cubN n i u0 u1 u2 u3 ≤ u0 * (n * n * n) := by
  have a := cub_fall (n := n) (Int.le_refl 0) h0 h h1 h2 h3
  have b := cub_fall (n := n) h0 h (Int.le_refl n) h1 h2 h3
  rw [cub_at0] at a
  rw [cub_atn] at b
  exact ⟨b, a⟩
theorem lin_fall {n i j u0 u1 : Int} (h : u1 ≤ u0) (hij : i ≤ j) : linN n j u0 u1 ≤ linN n i u0 u1 := by
  have := lin_mono (n := n) (u0 := -u0) (u1 := -u1) (by omega) hij
  rw [lin_neg, lin_neg] at this
  omega
theorem lin_hi {n i u0 u1 : Int} (h0 : 0 ≤ i) (h1 : i ≤ n) (h : u1 ≤ u0) : u1 * n ≤ linN n i u0 u1 ∧ linN n i u0 u1 ≤ u0 * n := by
  have := lin_lo (n := n) (u0 := -u0) (u1 := -u1) h0 h1 (by omega)
  rw [lin_neg, Int.neg_mul, Int.neg_mul] at this
  omega
end Go.Proofs.YtphnainibdepbaaGreat
namespace Go.Proofs.YtphnainibdepbaaGreat

theorem quoS_up {X X' Y k : Nat} (h : X ≤ X') : quoS X Y k ≤ quoS X' Y k := by
  unfold quoS
  have hA : X * 2 ^ k ≤ X' * 2 ^ k := Nat.mul_le_mul_right _ h
  generalize X * 2 ^ k = A at *
  generalize X' * 2 ^ k = B at *
  have hq := Nat.div_le_div_right (c := Y) hA
  have e1 := Nat.div_add_mod A Y
  have e2 := Nat.div_add_mod B Y
  by_cases hc : A / Y = B / Y
  · rw [hc] at e1 ⊢
    have : A % Y ≤ B % Y := by omega
    split <;> split <;> omega
  · split <;> split <;> omega
theorem quoS_down {X Y Y' k : Nat} (hY : 0 < Y) (h : Y ≤ Y') : quoS X Y' k ≤ quoS X Y k := by
  unfold quoS
  generalize X * 2 ^ k = A
  have hq := Nat.div_le_div_left (a := A) h hY
  have e1 := Nat.div_add_mod A Y
  have e2 := Nat.div_add_mod A Y'
  by_cases hc : A / Y' = A / Y
  · have hm : Y * (A / Y) ≤ Y' * (A / Y) := Nat.mul_le_mul_right _ h
    rw [hc] at e2 ⊢
    have : A % Y' ≤ A % Y := by omega
    split <;> split <;> omega
  · split <;> split <;> omega
theorem quoS_scale {X Y a b K : Nat} (h : b ≤ a + K) : quoS (X * 2 ^ a) (Y * 2 ^ b) K = quoS X Y (a + K - b) := by
  have e : X * 2 ^ a * 2 ^ K = X * 2 ^ (a + K - b) * 2 ^ b := by
    rw [Nat.mul_assoc, ← Nat.pow_add, Nat.mul_assoc, ← Nat.pow_add, show a + K - b + b = a + K by omega]
  unfold quoS
  rw [e, Nat.mul_div_mul_right _ _ (Nat.two_pow_pos b), Nat.mul_mod_mul_right]
  have hp := Nat.two_pow_pos b
  generalize X * 2 ^ (a + K - b) % Y = m
  by_cases hm : m = 0
  · rw [if_pos hm, if_pos (by rw [hm, Nat.zero_mul])]
  · rw [if_neg hm, if_neg (fun e => by rcases Nat.mul_eq_zero.1 e with e | e <;> omega)]
def qR (X Y : Nat) : Nat := if X = 0 then 0 else nearR (quoS X Y 2200) (-2201)
theorem qR_up {X X' Y : Nat} (h : X ≤ X') : qR X Y ≤ qR X' Y := by
  unfold qR
  by_cases h0 : X = 0
  · rw [if_pos h0]; exact Nat.zero_le _
  · rw [if_neg h0, if_neg (by omega)]
    exact nearR_mono _ (quoS_up h)
theorem qR_down {X Y Y' : Nat} (hY : 0 < Y) (h : Y ≤ Y') : qR X Y' ≤ qR X Y := by
  unfold qR
  by_cases h0 : X = 0
  · rw [if_pos h0, if_pos h0]; exact Nat.le_refl _
  · rw [if_neg h0, if_neg h0]
    exact nearR_mono _ (quoS_down hY h)
theorem pl_top {r : Nat} (h : r < 9218868437227405312) : pl r ≤ 2046 := by unfold pl; omega
theorem quo_rank {x y : Nat} (hx : NumB x) (hy : NumB y) (h1 : y % 9223372036854775808 ≠ 0) : ∃ r, floatBits .quo .f64 x y = some r ∧ RkW r (sgZ (sB x ^^ sB y) (qR (aV x) (aV y))) := by
  by_cases h0 : x % 9223372036854775808 = 0
  · refine ⟨_, quo_zero h0 hy h1, ?_⟩
    have e : aV x = 0 := by unfold aV; rw [h0]; exact V_zero
    have e2 : qR (aV x) (aV y) = 0 := by unfold qR; rw [if_pos e]
    rw [e2]
    exact rk_wrd (by omega)
  · have hpx := pl_top hx
    have hpy := pl_top hy
    have hk : 54 + (mg (y % 9223372036854775808)).log2 - (mg (x % 9223372036854775808)).log2 ≤ pl (x % 9223372036854775808) + 2200 - pl (y % 9223372036854775808) := by
      have := mg_lt (y % 9223372036854775808)
      have hl : (mg (y % 9223372036854775808)).log2 < 53 := (Nat.log2_lt (mg_pos h1)).2 (by omega)
      omega
    refine ⟨_, quo_num hx hy h0 h1 rfl rfl rfl rfl hk, ?_⟩
    have hz : aV x ≠ 0 := by
      intro e
      exact h0 (zero_V2 e)
    have e2 : qR (aV x) (aV y) = nearR (quoS (mg (x % 9223372036854775808)) (mg (y % 9223372036854775808)) (pl (x % 9223372036854775808) + 2200 - pl (y % 9223372036854775808))) (-1074 + (pl (x % 9223372036854775808) : Int) - (-1074 + (pl (y % 9223372036854775808) : Int)) - 1 - ((pl (x % 9223372036854775808) + 2200 - pl (y % 9223372036854775808) : Nat) : Int)) := by
      unfold qR
      rw [if_neg hz]
      unfold aV V
      rw [quoS_scale (by omega)]
      congr 1
      omega
    rw [e2]
    exact rk_wrd (nearR_top _ _)
end Go.Proofs.YtphnainibdepbaaGreat
namespace Go.Proofs.YtphnainibdepbaaGreat
open Go.RowKit

end Go.Proofs.YtphnainibdepbaaGreat
namespace Go.Proofs.YtphnainibdepbaaGreat
open Go.RowKit

theorem magI_mg (r : Nat) : magI (r : Int) = (mg r : Int) := by
  unfold magI mg
  by_cases c : r < 4503599627370496
  · rw [if_pos c, if_pos (by omega)]
  · rw [if_neg c, if_neg (by omega)]; omega
theorem plcI_pl (r : Nat) : plcI (r : Int) = -1074 + (pl r : Int) := by
  unfold plcI pl
  by_cases c : r < 4503599627370496
  · rw [if_pos (by omega)]; omega
  · rw [if_neg (by omega)]; omega
theorem split_of {p : Nat} {neg : Bool} {N : Nat} {e : Int} (h : OfR p neg N e) (h64 : p < 18446744073709551616) (hn : NumB p) (h0 : N ≠ 0) : splM (p : Int) = sg neg N ∧ splE (p : Int) = e ∧ neg = sB p := by
  obtain ⟨m1, m2⟩ := h.mag h0
  have hsz := szI_nat p
  unfold NumB at hn
  have hok : splOk (p : Int) = true := by unfold splOk; rw [hsz]; simp; omega
  have hr0 : p % 9223372036854775808 ≠ 0 := by
    intro e0; rw [e0] at m1; exact h0 (by rw [m1]; decide)
  refine ⟨?_, ?_, h.sgn h0⟩
  · unfold splM
    rw [hok, if_pos rfl, hsz, magI_mg, ← m1, sgB_nat h64, ← h.sgn h0]
    rfl
  · unfold splE
    rw [hok, hsz, plcI_pl, ← m2, show decide (((p % 9223372036854775808 : Nat) : Int) ≠ 0) = true by simpa using fun h => hr0 (by omega)]
    rfl
end Go.Proofs.YtphnainibdepbaaGreat
namespace Go.Proofs.YtphnainibdepbaaGreat
open Go.RowKit

theorem ag_lt {o : Option Nat} {r : Nat} (h : Ag o r) (ho : ∀ q, o = some q → q < 18446744073709551616) : r < 18446744073709551616 := by
  cases o with
  | none => exact (ag_none h).2
  | some q => rw [ag_some h]; exact ho q rfl
end Go.Proofs.YtphnainibdepbaaGreat
namespace Go.Proofs.YtphnainibdepbaaGreat
open Go.RowKit

theorem to_below {f : Nat} {args : Array Value} {v : Value} {w : World} (h : Calls Tryz.prog f args w fun e w' => e = .returned v ∧ w' = w) : Calls Tryz.prog f args w fun e w' => e = .returned v ∧ Below w.heap.size w w' :=
  h.mono fun _ _ ⟨a, b⟩ => ⟨a, by rw [b]; exact Below.refl _ _⟩
theorem joinN_lt (m e : Int) : joinN m e < 18446744073709551616 := by
  unfold joinN
  have h1 := nearR_le m.natAbs e
  split
  · decide
  · split <;> omega

end Go.Proofs.YtphnainibdepbaaGreat
namespace Go.Proofs.YtphnainibdepbaaGreat
open Go.RowKit

theorem horn_nan {cs : List Nat} {x : Nat} (hx : nanB (x : Int) = true) (hl : 2 ≤ cs.length) : hornO cs x = none := by
  obtain ⟨k, hk⟩ : ∃ k, cs.length - 1 = k + 1 := ⟨cs.length - 2, by omega⟩
  unfold hornO
  rw [if_neg (by omega), hk]
  show stepO x (hornAt cs x k) _ = none
  unfold stepO
  cases hornAt cs x k with
  | none => rfl
  | some p =>
    show (floatBits .mul .f64 p x).bind _ = none
    rw [nan_right hx]; rfl
theorem horn_ag {cs : List Nat} {z : Option Nat} {x : Nat} (h : Ag z x) (hl : 2 ≤ cs.length) : (z.bind fun z => hornO cs z) = hornO cs x := by
  cases z with
  | none => rw [horn_nan (ag_none h).1 hl]; rfl
  | some r => rw [ag_some h]; rfl
def lnO (a b hi lo : Nat) : Option Nat :=
  opO .add (some hi) (opO .add (opO .mul (opO .mul (some 4611686018427387904) (floatBits .quo .f64 a b)) ((opO .mul (floatBits .quo .f64 a b) (floatBits .quo .f64 a b)).bind fun z => hornO lnL z)) (some lo))
theorem lnL_len : lnL.length = 11 := by decide
theorem ln_steps {a b hi lo s s2 z h v c r : Nat} (g3 : Ag (floatBits .quo .f64 a b) s) (g4 : Ag (floatBits .mul .f64 4611686018427387904 s) s2) (g5 : Ag (floatBits .mul .f64 s s) z) (g6 : Ag (hornO lnL z) h) (g7 : Ag (floatBits .mul .f64 s2 h) v) (g8 : Ag (floatBits .add .f64 v lo) c) (g9 : Ag (floatBits .add .f64 hi c) r) : Ag (lnO a b hi lo) r := by
  unfold lnO
  have e0 : Ag (some 4611686018427387904) 4611686018427387904 := rfl
  have e4 : Ag (opO .mul (some 4611686018427387904) (floatBits .quo .f64 a b)) s2 := by rw [opO_ag e0 g3]; exact g4
  have e5 : Ag (opO .mul (floatBits .quo .f64 a b) (floatBits .quo .f64 a b)) z := by rw [opO_ag g3 g3]; exact g5
  have e6 : Ag ((opO .mul (floatBits .quo .f64 a b) (floatBits .quo .f64 a b)).bind fun z => hornO lnL z) h := by rw [horn_ag e5 (by rw [lnL_len]; decide)]; exact g6
  have e7 : Ag (opO .mul (opO .mul (some 4611686018427387904) (floatBits .quo .f64 a b)) ((opO .mul (floatBits .quo .f64 a b) (floatBits .quo .f64 a b)).bind fun z => hornO lnL z)) v := by rw [opO_ag e4 e6]; exact g7
  have e8 := opO_ag (op := .add) (o' := some lo) (c := lo) e7 rfl
  rw [← e8] at g8
  have e9 := opO_ag (op := .add) (o := some hi) (a := hi) rfl g8
  rw [← e9] at g9
  exact g9

set_option maxRecDepth 20000 in
set_option maxHeartbeats 1600000 in
theorem ln_ag (x m a b kf hi lo : Nat) (k : Int) (w : World) (h : U64 x) (hn : nanB x = false) (hl : (FloatKind.f64.format.order x 0 == some .lt) = false) (he : (FloatKind.f64.format.order x 0 == some .eq) = false) (hi0 : (FloatKind.f64.format.order x 9218868437227405311 == some .gt) = false)
    (hA : Hid (∀ w, Calls Tryz.prog 153 #[.float .f64 x] w fun r w' => r = .returned (.tuple #[.float .f64 m, .int .i64 k]) ∧ ∃ q, w' = w.drewN q))
    (q1 : floatBits .sub .f64 m 4607182418800017408 = some a) (q2 : floatBits .add .f64 m 4607182418800017408 = some b) (hkf : fi k = kf) (q8 : floatBits .mul .f64 kf 4604418534311723008 = some hi) (q9 : floatBits .mul .f64 kf 4461442080421002358 = some lo) :
    Calls Tryz.prog 138 #[.float .f64 x] w fun e w' => ∃ r, e = .returned (.float .f64 r) ∧ Ag (lnO a b hi lo) r ∧ Below w.heap.size w w' := by
  have H := hideS (isNaN_math x w h)
  rw [hn] at H
  have HI := hideS (isInf_pos x false w hi0)
  have r1 := fun w => run_float_arith (P := Tryz.prog) w .sub 42 .f64 _ _ _ q1
  have r2 := fun w => run_float_arith (P := Tryz.prog) w .add 42 .f64 _ _ _ q2
  have hfo := (floatOf_fi k).trans hkf
  have HL : Hid (∀ w, Calls Tryz.prog 150 #[.float .f64 kf] w fun e w' => e = .returned (.tuple #[.float .f64 hi, .float .f64 lo]) ∧ w' = w) := fun w => logs_at kf hi lo w q8 q9
  clear h hn q1 q2 q8 q9 hi0 hkf
  go_enter Tryz.func138, Tryz.ntmps138
  go_wp2_with fail
  refine (turned H.out).mono ?_
  rintro e w' ⟨rfl, rfl⟩
  clear H
  go_wp2_with fail
  refine (turned HI.out).mono ?_
  rintro e w' ⟨rfl, rfl⟩
  clear HI
  go_wp2_with fail
  refine (hA.out _).mono ?_
  rintro e w' ⟨rfl, q, hw'⟩
  have B0 : Hid (Below w.heap.size w w') := by rw [hw']; exact ⟨rfl, rfl, rfl, Nat.le_refl _, fun _ _ => rfl⟩
  clear hw'
  obtain ⟨s, ⟨q3, r3⟩, g3⟩ := run_op_ag .quo (by simp) 42 a b w'
  obtain ⟨s2, ⟨q4, r4⟩, g4⟩ := run_op_ag .mul (by simp) 42 4611686018427387904 s (w'.drewN q3)
  have G3 := hideS g3
  have G4 := hideS g4
  clear g3 g4
  go_wp2_with fail
  obtain ⟨w2, hw2⟩ : ∃ w2, w2 = w'.drewN (q3 + q4) := ⟨_, rfl⟩
  rw [← hw2]
  have B2 : Hid (Below w.heap.size w w2) := by rw [hw2]; exact ⟨B0.out.os, B0.out.tape, B0.out.output, B0.out.size, B0.out.block⟩
  clear hw2 r3 r4 B0
  have HT := hideS (lnTerms_any w2)
  refine HT.out.mono ?_
  rintro e w3 ⟨rfl, hs, hb⟩
  have B3 : Hid (Below w.heap.size w w3) := B2.out.trans (hb.mono B2.out.size)
  obtain ⟨z, ⟨q5, r5⟩, g5⟩ := run_op_ag .mul (by simp) 42 s s w3
  have HH : Hid (Calls Tryz.prog 151 #[.slice (some ⟨w2.heap.size, 0, none⟩) 11 11, .float .f64 z] (w3.drewN q5) fun e w4 => ∃ r', e = .returned (.float .f64 r') ∧ Ag (hornO lnL z) r' ∧ ∃ q, w4 = (w3.drewN q5).drewN q) := horner_any _ w2.heap.size 0 11 z 11 lnL (w3.drewN q5) (hs.below ⟨rfl, rfl, rfl, Nat.le_refl _, fun _ _ => rfl⟩) rfl (by decide)
  have G5 := hideS g5
  clear hs hb HT B2 g5
  go_wp2_with fail
  refine HH.out.mono ?_
  rintro e w4 ⟨h', rfl, hag, q6, hw4⟩
  have B4 : Hid (Below w.heap.size w w4) := by rw [hw4]; exact ⟨B3.out.os, B3.out.tape, B3.out.output, B3.out.size, B3.out.block⟩
  obtain ⟨v, ⟨q7, r7⟩, g7⟩ := run_op_ag .mul (by simp) 42 s2 h' w4
  have G6 := hideS hag
  have G7 := hideS g7
  clear hag g7 hw4 HH B3 r5
  go_wp2_with fail
  obtain ⟨w5, hw5⟩ : ∃ w5, w5 = w4.drewN q7 := ⟨_, rfl⟩
  rw [← hw5]
  have B5 : Hid (Below w.heap.size w w5) := by rw [hw5]; exact ⟨B4.out.os, B4.out.tape, B4.out.output, B4.out.size, B4.out.block⟩
  clear hw5 r7 B4
  refine (turned (HL.out _)).mono ?_
  rintro e w' ⟨rfl, rfl⟩
  obtain ⟨c, ⟨q8, r8⟩, g8⟩ := run_op_ag .add (by simp) 42 v lo w5
  obtain ⟨r, ⟨q9, r9⟩, g9⟩ := run_op_ag .add (by simp) 42 hi c (w5.drewN q8)
  have GE := hideS (ln_steps G3.out G4.out G5.out G6.out G7.out g8 g9)
  clear g8 g9 G3 G4 G5 G6 G7
  go_wp2_with fail
  go_ret
  exact ⟨r, rfl, GE.out, ⟨B5.out.os, B5.out.tape, B5.out.output, B5.out.size, B5.out.block⟩⟩
end Go.Proofs.YtphnainibdepbaaGreat
