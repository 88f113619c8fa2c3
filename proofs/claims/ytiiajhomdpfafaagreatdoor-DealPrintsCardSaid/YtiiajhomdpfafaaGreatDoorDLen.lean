/- The contracts of Leap, length, Length, leaps and newYear, of the program and of the document's answer. -/
import Derived.Test.YtiiajhomdpfafaaGreatDoorDPlain
import Derived.Test.YtiiajhomdpfafaaGreatDoorRows
import Derived.WalkKit
import Derived.WalkSpells
import Derived.WalkLawsBesides
import Derived.Handy
import Derived.LoopTactic
import Derived.BigQuiet
namespace Go.Proofs.YtiiajhomdpfafaaGreatDoor
open Go.RowKit

theorem hideS {p : Prop} (h : p) : Hid p := h

set_option maxHeartbeats 400000 in
theorem leap_any (y : Int) (w : World) :
    Calls Tryz.prog 216 #[.int .i64 y] w fun e w' => e = .returned (.bool (leapB y)) ∧ w' = w := by
  unfold leapB
  cases h4 : (y.tmod 4 == 0) <;> cases h1 : (y.tmod 100 != 0) <;> cases h400 : (y.tmod 400 == 0)
  all_goals
    go_enter Tryz.func216, Tryz.ntmps216
    go_wp2
    go_ret
    exact ⟨rfl, rfl⟩

set_option maxHeartbeats 400000 in
theorem refLeap_any (y : Int) (w : World) :
    Calls Tryz.prog 173 #[.int .i64 y] w fun e w' => e = .returned (.bool (leapB y)) ∧ w' = w := by
  unfold leapB
  cases h4 : (y.tmod 4 == 0) <;> cases h1 : (y.tmod 100 != 0) <;> cases h400 : (y.tmod 400 == 0)
  all_goals
    go_enter Tryz.func173, Tryz.ntmps173
    go_wp2
    go_ret
    exact ⟨rfl, rfl⟩

theorem len_eq {y m : Int} {l : Bool} (hl : leapB y = l) (x : Int) (hx : (if m = 2 then 28 + (if l then 1 else 0) else if m = 4 ∨ m = 6 ∨ m = 9 ∨ m = 11 then 30 else (31 : Int)) = x) : lenI y m = x := by
  unfold lenI lpI; rw [hl]; exact hx

set_option maxHeartbeats 1000000 in
theorem length_any (y m : Int) (w : World) (h1 : 1 ≤ m) (h2 : m ≤ 12) :
    Calls Tryz.prog 192 #[.int .i64 y, .int .i64 m] w fun e w' => e = .returned (.int .i64 (lenI y m)) ∧ w' = w := by
  cases hl : leapB y <;> rcases month_cases h1 h2 with rfl | rfl | rfl | rfl | rfl | rfl | rfl | rfl | rfl | rfl | rfl | rfl
  all_goals
    rw [len_eq hl _ rfl]
    clear h1 h2
    go_enter Tryz.func192, Tryz.ntmps192
    go_wp2_with (go_at_call 216; refine (leap_any _ _).mono ?_; rintro e w' ⟨rfl, rfl⟩)
    go_ret
    exact ⟨rfl, rfl⟩

set_option maxHeartbeats 1000000 in
theorem refLength_any (y m : Int) (w : World) (h1 : 1 ≤ m) (h2 : m ≤ 12) :
    Calls Tryz.prog 174 #[.int .i64 y, .int .i64 m] w fun e w' => e = .returned (.int .i64 (lenI y m)) ∧ w' = w := by
  cases hl : leapB y <;> rcases month_cases h1 h2 with rfl | rfl | rfl | rfl | rfl | rfl | rfl | rfl | rfl | rfl | rfl | rfl
  all_goals
    rw [len_eq hl _ rfl]
    clear h1 h2
    go_enter Tryz.func174, Tryz.ntmps174
    go_wp2_with (go_at_call 173; refine (refLeap_any _ _).mono ?_; rintro e w' ⟨rfl, rfl⟩)
    go_ret
    exact ⟨rfl, rfl⟩
end Go.Proofs.YtiiajhomdpfafaaGreatDoor
