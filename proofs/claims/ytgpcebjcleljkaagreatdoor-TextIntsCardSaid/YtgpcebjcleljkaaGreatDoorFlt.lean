/- Plain facts of the model's binary64: how two words compare, by their ranks; what is read is written back. -/
import Derived.Test.YtgpcebjcleljkaaGreatDoorPlain
import Derived.Laws.FloatArith
namespace Go.Proofs.YtgpcebjcleljkaaGreatDoor

def mg (r : Nat) : Nat := if r < 4503599627370496 then r else 4503599627370496 + r % 4503599627370496
def pl (r : Nat) : Nat := r / 4503599627370496 - 1
def V (r : Nat) : Nat := mg r * 2 ^ pl r

end Go.Proofs.YtgpcebjcleljkaaGreatDoor
