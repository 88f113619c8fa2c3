/- The contract of the document's Div at any bits. Go's quotient of two whole floats is the year's rounding. No word of the program. -/
import Derived.Test.YtcbbbkngjdlcjaaGbi
import Derived.Test.YtcbbbkngjdlcjaaGbf
namespace Go.Proofs.Ytcbbbkngjdlcjaa
open Go.RowKit

theorem quo_none {x y : Nat} (h : (x % 9223372036854775808 = 9218868437227405312 ∧ y % 9223372036854775808 = 9218868437227405312) ∨ (x % 9223372036854775808 = 0 ∧ y % 9223372036854775808 = 0)) : floatBits .quo .f64 x y = none := by
  show ((Ieee.double.read x).quotient 54 (Ieee.double.read y)).map Ieee.double.write = _
  rcases h with ⟨hx, hy⟩ | ⟨hx, hy⟩
  · rw [read_inf hx, read_inf hy]; rfl
  · rw [read_num (by omega), read_num (by omega), hx, hy]; rfl
theorem quo_inf {x y : Nat} (hx : x % 9223372036854775808 = 9218868437227405312) (hy : NumB y) : floatBits .quo .f64 x y = some (wrd (sB x ^^ sB y) 9218868437227405312) := by
  show ((Ieee.double.read x).quotient 54 (Ieee.double.read y)).map Ieee.double.write = _
  rw [read_inf hx, read_num hy]
  show some (Ieee.double.write (.infinity _)) = _
  rw [write_inf]; rfl
theorem quo_by_zero {x y : Nat} (hx : NumB x) (h0 : x % 9223372036854775808 ≠ 0) (hy : y % 9223372036854775808 = 0) : floatBits .quo .f64 x y = some (wrd (sB x ^^ sB y) 9218868437227405312) := by
  have hm := mg_pos h0
  show ((Ieee.double.read x).quotient 54 (Ieee.double.read y)).map Ieee.double.write = _
  rw [read_num hx, read_num (b := y) (by omega), hy, show mg 0 = 0 by decide]
  show (if mg (x % 9223372036854775808) = 0 then none else some (Ieee.Datum.infinity (_ ^^ _))).map Ieee.double.write = _
  rw [if_neg hm]
  show some (Ieee.double.write (.infinity _)) = _
  rw [write_inf]; rfl
theorem write_none (s : Bool) (i : Int) : Ieee.double.write (.number s 0 i) = wrd s 0 := by
  show Ieee.double.nearest s 0 i = _
  rw [nearest_zero, word_eq]
theorem quo_by_inf {x y : Nat} (hx : NumB x) (hy : y % 9223372036854775808 = 9218868437227405312) : floatBits .quo .f64 x y = some (wrd (sB x ^^ sB y) 0) := by
  show ((Ieee.double.read x).quotient 54 (Ieee.double.read y)).map Ieee.double.write = _
  rw [read_num hx, read_inf hy]
  show some (Ieee.double.write (.number _ 0 0)) = _
  rw [write_none]; rfl
theorem quo_parts (s t : Bool) (m n : Nat) (i j : Int) (hn : n ≠ 0) : ((Ieee.Datum.number s m i).quotient 54 (.number t n j)).map Ieee.double.write = some (Ieee.double.nearest (s ^^ t) (2 * (m * 2 ^ (54 + n.log2 - m.log2) / n) + (m * 2 ^ (54 + n.log2 - m.log2) % n != 0).toNat) (i - j - ((54 + n.log2 - m.log2 : Nat) : Int) - 1)) := by
  show (if n = 0 then _ else some (Ieee.Datum.number (s ^^ t) (2 * ((m <<< (54 + n.log2 - m.log2)) / n) + ((m <<< (54 + n.log2 - m.log2)) % n != 0).toNat) (i - j - ((54 + n.log2 - m.log2 : Nat) : Int) - 1))).map Ieee.double.write = _
  rw [if_neg hn, Nat.shiftLeft_eq]
  rfl
theorem quo_zero {x y : Nat} (hx : x % 9223372036854775808 = 0) (hy : NumB y) (h0 : y % 9223372036854775808 ≠ 0) : floatBits .quo .f64 x y = some (wrd (sB x ^^ sB y) 0) := by
  have hm := mg_pos h0
  show ((Ieee.double.read x).quotient 54 (Ieee.double.read y)).map Ieee.double.write = _
  rw [read_num (b := x) (by omega), read_num hy, hx, quo_parts _ _ _ _ _ _ hm, show mg 0 = 0 by decide, Nat.zero_mul, Nat.zero_div, Nat.zero_mod]
  show some (Ieee.double.nearest _ 0 _) = _
  rw [nearest_zero, word_eq]; rfl
theorem quoS_eq (X Y k : Nat) : 2 * (X * 2 ^ k / Y) + (X * 2 ^ k % Y != 0).toNat = quoS X Y k := by
  unfold quoS
  congr 1
  by_cases h : X * 2 ^ k % Y = 0
  · rw [if_pos h, h]; rfl
  · rw [if_neg h, show (X * 2 ^ k % Y != 0) = true by simpa using h]; rfl
theorem quo_num {x y : Nat} (hx : NumB x) (hy : NumB y) (h0 : x % 9223372036854775808 ≠ 0) (h1 : y % 9223372036854775808 ≠ 0) {X Y : Nat} {ex ey : Int} (hX : X = mg (x % 9223372036854775808)) (hY : Y = mg (y % 9223372036854775808)) (hex : ex = -1074 + (pl (x % 9223372036854775808) : Int)) (hey : ey = -1074 + (pl (y % 9223372036854775808) : Int)) {k : Nat} (hk : 54 + Y.log2 - X.log2 ≤ k) :
    floatBits .quo .f64 x y = some (wrd (sB x ^^ sB y) (nearR (quoS X Y k) (ex - ey - 1 - k))) := by
  have hX0 : X ≠ 0 := by rw [hX]; exact mg_pos h0
  have hY0 : Y ≠ 0 := by rw [hY]; exact mg_pos h1
  show ((Ieee.double.read x).quotient 54 (Ieee.double.read y)).map Ieee.double.write = _
  rw [read_num hx, read_num hy, ← hX, ← hY, ← hex, ← hey, quo_parts _ _ _ _ _ _ hY0, quoS_eq]
  have hq := quo_bits hX0 hY0 (k := 54 + Y.log2 - X.log2) (by omega)
  have hq0 : quoS X Y (54 + Y.log2 - X.log2) ≠ 0 := by intro h; rw [h] at hq; exact absurd hq.2 (by decide)
  rw [nearest_eq _ hq0, word_eq]
  have := near_quo (X := X) (Y := Y) (p := ex - ey - 1) (by omega) hk hq.2
  rw [← this, show ex - ey - ((54 + Y.log2 - X.log2 : Nat) : Int) - 1 = ex - ey - 1 - ((54 + Y.log2 - X.log2 : Nat) : Int) by omega]
  rfl

theorem zero_V2 {r : Nat} (h : V r = 0) : r = 0 := by
  have := V_eq_iff (r := r) (s := 0)
  rw [V_zero] at this
  exact this.1 h
theorem sbit_sz (s : Bool) {r : Nat} (h : r ≤ 9218868437227405312) : U64 (sbit s + (r : Int)) ∧ szI (sbit s + (r : Int)) = r := by
  unfold sbit U64 szI
  cases s <;> simp only [Bool.false_eq_true, if_true, if_false] <;> omega
theorem mod_mod63 (x : Nat) : x % 9223372036854775808 % 9223372036854775808 = x % 9223372036854775808 := Nat.mod_mod _ _
/-- What NearOver tells of two sizes. -/
theorem over_val {x y X Y k : Nat} {nx : Bool} {ex ey : Int} (hx : OfR (x % 9223372036854775808) nx X ex) {ny : Bool} (hy : OfR (y % 9223372036854775808) ny Y ey) (hnx : NumB x) (hny : NumB y) (h0 : x % 9223372036854775808 ≠ 0) (h1 : y % 9223372036854775808 ≠ 0) (hX0 : X ≠ 0) (hY0 : Y ≠ 0) (hk : max 0 (70 - (bl X : Int) + (bl Y : Int)) = (k : Int)) (more : Bool) (hmo : decide (0 < nd (X * 2 ^ k % Y)) = more) :
    ∃ r : Nat, r ≤ 9218868437227405312 ∧ floatBits .quo .f64 x y = some (wrd (sB x ^^ sB y) r) ∧ U64 (nearM nx (X * 2 ^ k / Y) (ex - k - ey) more) ∧ szI (nearM nx (X * 2 ^ k / Y) (ex - k - ey) more) = r := by
  obtain ⟨a1, a2⟩ := hx.mag hX0
  obtain ⟨b1, b2⟩ := hy.mag hY0
  rw [mod_mod63] at a1 a2 b1 b2
  have hbx := bl_pos hX0
  have hby := bl_pos hY0
  have hkk : 54 + Y.log2 - X.log2 ≤ k := by omega
  have hq := quo_num hnx hny h0 h1 a1 b1 a2 b2 hkk
  have hb := quo_bits hX0 hY0 (k := k) (by omega)
  refine ⟨nearR (quoS X Y k) (ex - ey - 1 - (k : Int)), Nat.min_le_right _ _, hq, ?_⟩
  rw [nearM_more nx more _ hb.1]
  have e : 2 * (X * 2 ^ k / Y) + (if more = true then 1 else 0) = quoS X Y k := by
    unfold quoS
    congr 1
    by_cases hr : X * 2 ^ k % Y = 0
    · rw [hr] at hmo
      rw [if_pos hr, ← hmo]; rfl
    · have := nd_pos hr
      rw [if_neg hr, ← hmo, if_pos (decide_eq_true (show 0 < nd (X * 2 ^ k % Y) from this))]
  rw [e, show ex - (k : Int) - ey - 1 = ex - ey - 1 - (k : Int) by omega]
  have hle : nearR (quoS X Y k) (ex - ey - 1 - (k : Int)) ≤ 9218868437227405312 := Nat.min_le_right _ _
  generalize nearR (quoS X Y k) (ex - ey - 1 - (k : Int)) = r at hle
  exact sbit_sz nx hle
end Go.Proofs.Ytcbbbkngjdlcjaa
namespace Go.Proofs.Ytcbbbkngjdlcjaa
open Go.RowKit

theorem quoS_up (X Y a k : Nat) : quoS (X * 2 ^ a) Y k = quoS X Y (a + k) := by
  unfold quoS
  rw [Nat.mul_assoc, ← Nat.pow_add]
theorem quoS_scale (X Y k c : Nat) (hc : 0 < c) : quoS (X * c) (Y * c) k = quoS X Y k := by
  unfold quoS
  rw [show X * c * 2 ^ k = X * 2 ^ k * c by rw [Nat.mul_assoc, Nat.mul_comm c, ← Nat.mul_assoc], Nat.mul_div_mul_right _ _ hc, Nat.mul_mod_mul_right]
  have : (X * 2 ^ k % Y * c = 0) ↔ (X * 2 ^ k % Y = 0) := by
    rw [Nat.mul_eq_zero]; omega
  simp only [this]
theorem quoS_same {A B X Y p q m t : Nat} (hA : A * 2 ^ p = X * 2 ^ t) (hB : B * 2 ^ q = Y * 2 ^ t) : quoS A B (p + m) = quoS X Y (q + m) := by
  rw [← quoS_up A B p m, hA, ← quoS_scale _ B m (2 ^ q) (Nat.two_pow_pos _), hB, show X * 2 ^ t * 2 ^ q = X * 2 ^ q * 2 ^ t by rw [Nat.mul_assoc, Nat.mul_comm (2 ^ t), ← Nat.mul_assoc], quoS_scale _ _ _ _ (Nat.two_pow_pos _), quoS_up]
/-- Two floats that are whole numbers: Go's quotient. -/
theorem quo_whole {x y X Y : Nat} (hx : NumB x) (hy : NumB y) (hX : aV x = X * 2 ^ 1074) (hY : aV y = Y * 2 ^ 1074) (hX0 : X ≠ 0) (hY0 : Y ≠ 0) (hY' : Y ≤ 1000000000) :
    floatBits .quo .f64 x y = some (wrd (sB x ^^ sB y) (yearR X Y)) := by
  have px := Nat.two_pow_pos 1074
  have h0 : x % 9223372036854775808 ≠ 0 := by
    intro h
    unfold aV at hX
    rw [h, V_zero] at hX
    have := Nat.mul_pos (show 0 < X by omega) px
    omega
  have h1 : y % 9223372036854775808 ≠ 0 := by
    intro h
    unfold aV at hY
    rw [h, V_zero] at hY
    have := Nat.mul_pos (show 0 < Y by omega) px
    omega
  unfold aV V at hX hY
  have mx := mg_pos h0
  have my := mg_pos h1
  have lx := mg_lt (x % 9223372036854775808)
  have ly := mg_lt (y % 9223372036854775808)
  have hl : (mg (y % 9223372036854775808)).log2 < 53 := (Nat.log2_lt my).2 (by omega)
  rw [quo_num hx hy h0 h1 rfl rfl rfl rfl (k := pl (x % 9223372036854775808) + 300) (by omega), quoS_same hX hY]
  obtain ⟨k1, k2⟩ := yearK_le hX0 hY0 hY'
  have hb := quo_bits hX0 hY0 k2
  have e1 := near_quo (X := X) (Y := Y) (p := -1) (by omega) (show yearK X Y ≤ pl (y % 9223372036854775808) + 300 by omega) hb.2
  have e2 := near_quo (X := X) (Y := Y) (p := -1) (by omega) k1 hb.2
  unfold yearR
  rw [← e2, e1]
  congr 3
  omega
end Go.Proofs.Ytcbbbkngjdlcjaa
