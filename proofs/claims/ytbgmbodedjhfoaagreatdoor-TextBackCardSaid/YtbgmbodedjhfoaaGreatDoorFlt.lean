/- Plain facts of the model's binary64: how two words compare, by their ranks; what is read is written back. -/
import Derived.Test.YtbgmbodedjhfoaaGreatDoorHaa
import Derived.Laws.FloatArith
namespace Go.Proofs.YtbgmbodedjhfoaaGreatDoor

def mg (r : Nat) : Nat := if r < 4503599627370496 then r else 4503599627370496 + r % 4503599627370496
def pl (r : Nat) : Nat := r / 4503599627370496 - 1
def V (r : Nat) : Nat := mg r * 2 ^ pl r

theorem mg_lt (r : Nat) : mg r < 9007199254740992 := by unfold mg; split <;> omega
theorem mg_ge {r : Nat} (h : 4503599627370496 ≤ r) : 4503599627370496 ≤ mg r := by unfold mg; split <;> omega

theorem read_num {b : Nat} (h : b % 9223372036854775808 < 9218868437227405312) :
    Ieee.double.read b = .number (b / 9223372036854775808 % 2 == 1) (mg (b % 9223372036854775808)) (-1074 + (pl (b % 9223372036854775808) : Int)) := by
  show (if b % 9223372036854775808 < 4503599627370496 then Ieee.Datum.number (b / 9223372036854775808 % 2 == 1) (b % 9223372036854775808) (-1074) else
    if b % 9223372036854775808 < 9218868437227405312 then .number (b / 9223372036854775808 % 2 == 1) (4503599627370496 + b % 9223372036854775808 % 4503599627370496) (-1074 + ((b % 9223372036854775808 / 4503599627370496 - 1 : Nat) : Int)) else _) = _
  generalize b % 9223372036854775808 = r at *
  unfold mg pl
  by_cases h1 : r < 4503599627370496
  · rw [if_pos h1, if_pos h1, show r / 4503599627370496 - 1 = 0 by omega]; rfl
  · rw [if_neg h1, if_pos h, if_neg h1]

theorem read_nan {b : Nat} (h : 9218868437227405312 < b % 9223372036854775808) : ∃ f, Ieee.double.read b = .nan (b / 9223372036854775808 % 2 == 1) f := by
  refine ⟨b % 9223372036854775808 - 9218868437227405312, ?_⟩
  show (if b % 9223372036854775808 < 4503599627370496 then _ else if b % 9223372036854775808 < 9218868437227405312 then _ else
    if b % 9223372036854775808 = 9218868437227405312 then _ else Ieee.Datum.nan (b / 9223372036854775808 % 2 == 1) (b % 9223372036854775808 - 9218868437227405312)) = _
  rw [if_neg (by omega), if_neg (by omega), if_neg (by omega)]

theorem nan_false {b : Nat} (h : nanB b = false) : b % 9223372036854775808 ≤ 9218868437227405312 := by
  have h := of_decide_eq_false h; unfold szI at h; omega
theorem nan_true {b : Nat} (h : nanB b = true) : 9218868437227405312 < b % 9223372036854775808 := by
  have h := of_decide_eq_true h; unfold szI at h; omega

theorem order_nan_left {a b : Nat} (h : nanB a = true) : FloatKind.f64.format.order a b = none := by
  show (Ieee.double.read a).order (Ieee.double.read b) = _
  obtain ⟨f, e⟩ := read_nan (nan_true h)
  rw [e]; rfl
end Go.Proofs.YtbgmbodedjhfoaaGreatDoor
