/- The digits of a day's text, as lists of bytes: no word of the program. -/
import Derived.Test.YtiiajhomdpfafaaGreatDoorDTxt
import Derived.Lib.ItoaNum
namespace Go.Proofs.YtiiajhomdpfafaaGreatDoor
open Go.RowKit

def dg (n : Nat) : UInt8 := UInt8.ofNat (48 + n % 10)
def t4 (n : Nat) : ByteArray := ⟨#[dg (n / 1000), dg (n / 100), dg (n / 10), dg n]⟩
def t2 (n : Nat) : ByteArray := ⟨#[dg (n / 10), dg n]⟩
def dash : ByteArray := ⟨#[45]⟩
def dateT (y m d : Nat) : ByteArray := t4 y ++ dash ++ t2 m ++ dash ++ t2 d

theorem dec_step {n : Nat} (h : 10 ≤ n) : Lib.decDigits n = Lib.decDigits (n / 10) ++ [dg n] := by
  rw [Lib.decDigits, dif_neg (by omega)]; rfl
theorem dec_one {n : Nat} (h : n < 10) : Lib.decDigits n = [dg n] := by
  rw [Lib.decDigits, dif_pos h]
  unfold dg
  rw [Nat.mod_eq_of_lt h]
theorem dec4 {n : Nat} (h : 1000 ≤ n) (h' : n < 10000) : (⟨(Lib.decDigits n).toArray⟩ : ByteArray) = t4 n := by
  rw [dec_step (by omega), dec_step (n := n / 10) (by omega), dec_step (n := n / 10 / 10) (by omega), dec_one (n := n / 10 / 10 / 10) (by omega)]
  unfold t4
  rw [show n / 10 / 10 / 10 = n / 1000 by omega, show n / 10 / 10 = n / 100 by omega]
  rfl
theorem dec3 {n : Nat} (h : 100 ≤ n) (h' : n < 1000) : (⟨(Lib.decDigits n).toArray⟩ : ByteArray) = ⟨#[dg (n / 100), dg (n / 10), dg n]⟩ := by
  rw [dec_step (by omega), dec_step (n := n / 10) (by omega), dec_one (n := n / 10 / 10) (by omega)]
  rw [show n / 10 / 10 = n / 100 by omega]
  rfl
theorem dg_mod {a b : Nat} (h : a % 10 = b % 10) : dg a = dg b := by unfold dg; rw [h]
theorem three_cut (a b c : UInt8) : (⟨#[a, b, c]⟩ : ByteArray).extract 1 3 = ⟨#[b, c]⟩ := by
  apply ByteArray.ext
  rw [ByteArray.data_extract]
  rfl
theorem two_cut (x : Nat) : (⟨#[dg ((100 + x) / 100), dg ((100 + x) / 10), dg (100 + x)]⟩ : ByteArray).extract 1 3 = t2 x := by
  rw [three_cut, dg_mod (a := (100 + x) / 10) (b := x / 10) (by omega), dg_mod (a := 100 + x) (b := x) (by omega)]
  rfl
def padB (n : Nat) : Nat → ByteArray
  | 0 => ⟨#[]⟩
  | k + 1 => ⟨#[dg (n / 10 ^ k)]⟩ ++ padB n k
theorem pad4 (n : Nat) : padB n 4 = t4 n := by
  unfold t4 padB padB padB padB padB
  apply ByteArray.ext
  simp [ByteArray.data_append]
theorem pad2 (n : Nat) : padB n 2 = t2 n := by
  unfold t2 padB padB padB
  apply ByteArray.ext
  simp [ByteArray.data_append]

end Go.Proofs.YtiiajhomdpfafaaGreatDoor
