/- A number less itself. -/
import Derived.Test.YtoeifjnknhjchaaHag
namespace Go.Proofs.Ytoeifjnknhjchaa
open Go.RowKit

instance (x : Nat) : Decidable (NumB x) := by unfold NumB; infer_instance
theorem sub_self {r : Nat} (h : NumB r) : floatBits .sub .f64 r r = some 0 := by
  rw [sub_num h h]
  unfold addR
  rw [if_pos (by omega)]
  cases (r / 9223372036854775808 % 2 == 1) <;> rfl
theorem sub_inf {r : Nat} (hr : r < 18446744073709551616) (h : ¬ NumB r) : floatBits .sub .f64 r r = none := by
  cases hn : nanB (r : Int) with
  | true => exact nan_left hn
  | false =>
    have hl := nan_false hn
    unfold NumB at h
    rcases (show r = 9218868437227405312 ∨ r = 18442240474082181120 by omega) with rfl | rfl
    · decide +kernel
    · decide +kernel
end Go.Proofs.Ytoeifjnknhjchaa
