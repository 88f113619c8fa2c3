/- The digits of a day's text, as lists of bytes: no word of the program. -/
import Derived.Test.YtgigmepilpfefaaDoorDTxt
import Derived.Lib.ItoaNum
namespace Go.Proofs.YtgigmepilpfefaaDoor
open Go.RowKit

/-- A digit's byte. -/
def dg (n : Nat) : UInt8 := UInt8.ofNat (48 + n % 10)
theorem dg_nat (n : Nat) : (dg n).toNat = 48 + n % 10 := by
  unfold dg
  rw [UInt8.toNat_ofNat']
  omega
def t4 (n : Nat) : ByteArray := ⟨#[dg (n / 1000), dg (n / 100), dg (n / 10), dg n]⟩
def t2 (n : Nat) : ByteArray := ⟨#[dg (n / 10), dg n]⟩
def dash : ByteArray := ⟨#[45]⟩
/-- A date's text. -/
def dateT (y m d : Nat) : ByteArray := t4 y ++ dash ++ t2 m ++ dash ++ t2 d

theorem dec_step {n : Nat} (h : 10 ≤ n) : Lib.decDigits n = Lib.decDigits (n / 10) ++ [dg n] := by
  rw [Lib.decDigits, dif_neg (by omega)]; rfl
theorem dec_one {n : Nat} (h : n < 10) : Lib.decDigits n = [dg n] := by
  rw [Lib.decDigits, dif_pos h]
  unfold dg
  rw [Nat.mod_eq_of_lt h]
theorem dec4 {n : Nat} (h : 1000 ≤ n) (h' : n < 10000) : (⟨(Lib.decDigits n).toArray⟩ : ByteArray) = t4 n := by
  rw [dec_step (by omega), dec_step (n := n / 10) (by omega), dec_step (n := n / 10 / 10) (by omega), dec_one (n := n / 10 / 10 / 10) (by omega)]
  unfold t4
  rw [show n / 10 / 10 / 10 = n / 1000 by omega, show n / 10 / 10 = n / 100 by omega]
  rfl
theorem dec3 {n : Nat} (h : 100 ≤ n) (h' : n < 1000) : (⟨(Lib.decDigits n).toArray⟩ : ByteArray) = ⟨#[dg (n / 100), dg (n / 10), dg n]⟩ := by
  rw [dec_step (by omega), dec_step (n := n / 10) (by omega), dec_one (n := n / 10 / 10) (by omega)]
  rw [show n / 10 / 10 = n / 100 by omega]
  rfl
theorem dg_mod {a b : Nat} (h : a % 10 = b % 10) : dg a = dg b := by unfold dg; rw [h]
theorem three_cut (a b c : UInt8) : (⟨#[a, b, c]⟩ : ByteArray).extract 1 3 = ⟨#[b, c]⟩ := by
  apply ByteArray.ext
  rw [ByteArray.data_extract]
  rfl
theorem two_cut (x : Nat) : (⟨#[dg ((100 + x) / 100), dg ((100 + x) / 10), dg (100 + x)]⟩ : ByteArray).extract 1 3 = t2 x := by
  rw [three_cut, dg_mod (a := (100 + x) / 10) (b := x / 10) (by omega), dg_mod (a := 100 + x) (b := x) (by omega)]
  rfl
/-- The last k digits. -/
def padB (n : Nat) : Nat → ByteArray
  | 0 => ⟨#[]⟩
  | k + 1 => ⟨#[dg (n / 10 ^ k)]⟩ ++ padB n k
theorem pad4 (n : Nat) : padB n 4 = t4 n := by
  unfold t4 padB padB padB padB padB
  apply ByteArray.ext
  simp [ByteArray.data_append]
theorem pad2 (n : Nat) : padB n 2 = t2 n := by
  unfold t2 padB padB padB
  apply ByteArray.ext
  simp [ByteArray.data_append]

theorem dateT_eq (y m d : Nat) : dateT y m d = ⟨#[dg (y / 1000), dg (y / 100), dg (y / 10), dg y, 45, dg (m / 10), dg m, 45, dg (d / 10), dg d]⟩ := by
  unfold dateT t4 t2 dash
  apply ByteArray.ext
  simp [ByteArray.data_append]
theorem dateT_ok (y m d : Nat) : txtOk (dateT y m d) := by
  rw [dateT_eq]
  refine ⟨rfl, ?_⟩
  have hd : ∀ n, digB (dg n).toNat = true := fun n => by
    unfold digB
    rw [dg_nat, decide_eq_true_eq]
    omega
  intro i hi
  rcases (show i = 0 ∨ i = 1 ∨ i = 2 ∨ i = 3 ∨ i = 4 ∨ i = 5 ∨ i = 6 ∨ i = 7 ∨ i = 8 ∨ i = 9 by omega) with rfl | rfl | rfl | rfl | rfl | rfl | rfl | rfl | rfl | rfl
  · exact hd _
  · exact hd _
  · exact hd _
  · exact hd _
  · rfl
  · exact hd _
  · exact hd _
  · rfl
  · exact hd _
  · exact hd _
theorem num2 (a b : UInt8) : numN ⟨#[a, b]⟩ 2 = 10 * (10 * 0 + (a.toNat - 48)) + (b.toNat - 48) := rfl
theorem num4 (a b c d : UInt8) : numN ⟨#[a, b, c, d]⟩ 4 = 10 * (10 * (10 * (10 * 0 + (a.toNat - 48)) + (b.toNat - 48)) + (c.toNat - 48)) + (d.toNat - 48) := rfl
theorem dateT_y {y m d : Nat} (h : y < 10000) : parseY (dateT y m d) = y := by
  unfold parseY
  rw [dateT_eq, show (⟨#[dg (y / 1000), dg (y / 100), dg (y / 10), dg y, 45, dg (m / 10), dg m, 45, dg (d / 10), dg d]⟩ : ByteArray).extract 0 4 = ⟨#[dg (y / 1000), dg (y / 100), dg (y / 10), dg y]⟩ from by apply ByteArray.ext; rw [ByteArray.data_extract]; rfl, num4]
  rw [dg_nat, dg_nat, dg_nat, dg_nat]
  omega
theorem dateT_m {y m d : Nat} (h : m < 100) : parseM (dateT y m d) = m := by
  unfold parseM
  rw [dateT_eq, show (⟨#[dg (y / 1000), dg (y / 100), dg (y / 10), dg y, 45, dg (m / 10), dg m, 45, dg (d / 10), dg d]⟩ : ByteArray).extract 5 7 = ⟨#[dg (m / 10), dg m]⟩ from by apply ByteArray.ext; rw [ByteArray.data_extract]; rfl, num2]
  rw [dg_nat, dg_nat]
  omega
theorem dateT_d {y m d : Nat} (h : d < 100) : parseD (dateT y m d) = d := by
  unfold parseD
  rw [dateT_eq, show (⟨#[dg (y / 1000), dg (y / 100), dg (y / 10), dg y, 45, dg (m / 10), dg m, 45, dg (d / 10), dg d]⟩ : ByteArray).extract 8 10 = ⟨#[dg (d / 10), dg d]⟩ from by apply ByteArray.ext; rw [ByteArray.data_extract]; rfl, num2]
  rw [dg_nat, dg_nat]
  omega
end Go.Proofs.YtgigmepilpfefaaDoor
