/- Plain facts of the model's binary64: how two words compare, by their ranks; what is read is written back. -/
import Derived.Test.YtbgmbodedjhfoaaGreatDoorHaa
import Derived.Laws.FloatArith
namespace Go.Proofs.YtbgmbodedjhfoaaGreatDoor

def mg (r : Nat) : Nat := if r < 4503599627370496 then r else 4503599627370496 + r % 4503599627370496
def pl (r : Nat) : Nat := r / 4503599627370496 - 1
def V (r : Nat) : Nat := mg r * 2 ^ pl r

theorem mg_lt (r : Nat) : mg r < 9007199254740992 := by unfold mg; split <;> omega
theorem mg_ge {r : Nat} (h : 4503599627370496 ≤ r) : 4503599627370496 ≤ mg r := by unfold mg; split <;> omega

theorem read_num {b : Nat} (h : b % 9223372036854775808 < 9218868437227405312) :
    Ieee.double.read b = .number (b / 9223372036854775808 % 2 == 1) (mg (b % 9223372036854775808)) (-1074 + (pl (b % 9223372036854775808) : Int)) := by
  show (if b % 9223372036854775808 < 4503599627370496 then Ieee.Datum.number (b / 9223372036854775808 % 2 == 1) (b % 9223372036854775808) (-1074) else
    if b % 9223372036854775808 < 9218868437227405312 then .number (b / 9223372036854775808 % 2 == 1) (4503599627370496 + b % 9223372036854775808 % 4503599627370496) (-1074 + ((b % 9223372036854775808 / 4503599627370496 - 1 : Nat) : Int)) else _) = _
  generalize b % 9223372036854775808 = r at *
  unfold mg pl
  by_cases h1 : r < 4503599627370496
  · rw [if_pos h1, if_pos h1, show r / 4503599627370496 - 1 = 0 by omega]; rfl
  · rw [if_neg h1, if_pos h, if_neg h1]

end Go.Proofs.YtbgmbodedjhfoaaGreatDoor
