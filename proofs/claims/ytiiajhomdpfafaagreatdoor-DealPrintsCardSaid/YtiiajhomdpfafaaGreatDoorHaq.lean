/- The contracts of the small functions of package ieee and of the document's answer: classes, ranks, At. The contracts of Class, Negative, Same, Rank, At, Mid, Gap, Up and Down, of the program and of the document's answer. The contracts of At, Up, Down, Mid, Gap, of the program and of the document's answer. The contracts of Mid, Gap, Up, Down, of the program and of the document's answer. -/
import Derived.Test.YtiiajhomdpfafaaGreatDoorRows
import Derived.Test.YtiiajhomdpfafaaGreatDoorHaa
import Derived.WalkKit
import Derived.WalkSpells
import Derived.WalkLawsBesides
import Derived.Handy
namespace Go.Proofs.YtiiajhomdpfafaaGreatDoor
open Go.RowKit

theorem ret_int {k : IntKind} {a b : Int} (h : a = b) : Ending.returned (.int k a) = .returned (.int k b) := by rw [h]
theorem ret_bool {a b : Bool} (h : a = b) : Ending.returned (.bool a) = .returned (.bool b) := by rw [h]
theorem call_bits (b : Nat) (w : World) : (callFunc 29 #[.float .f64 b]).run Tryz.prog w = .ok (.value (.int .u64 b)) w :=
  (run_callFunc_extern (e := Extern.MathFloatBits.float64bits) Tryz.func29 (by kernel_rfl) (by kernel_rfl) (by kernel_rfl) (by kernel_rfl) _ w).trans rfl

theorem call_frombits (n : Int) (w : World) : (callFunc 184 #[.int .u64 n]).run Tryz.prog w = .ok (.value (.float .f64 n.toNat)) w :=
  (run_callFunc_extern (e := Extern.MathFloatBits.float64frombits) Tryz.func184 (by kernel_rfl) (by kernel_rfl) (by kernel_rfl) (by kernel_rfl) _ w).trans rfl

set_option maxHeartbeats 400000 in
theorem bits_any (b : Nat) (w : World) :
    Calls Tryz.prog 15 #[.float .f64 b] w fun e w' => e = .returned (.int .u64 b) ∧ w' = w := by
  have hb := call_bits
  go_enter Tryz.func15, Tryz.ntmps15
  go_wp2
  go_ret
  exact ⟨rfl, rfl⟩

set_option maxHeartbeats 400000 in
theorem size_any (b : Nat) (w : World) (h : U64 b) :
    Calls Tryz.prog 149 #[.float .f64 b] w fun e w' => e = .returned (.int .u64 (szI b)) ∧ w' = w := by
  go_enter Tryz.func149, Tryz.ntmps149
  go_wp2_with (go_at_call 15; refine (bits_any _ _).mono ?_; rintro e w' ⟨rfl, rfl⟩)
  go_ret
  exact ⟨ret_int (andNot_sz h), rfl⟩

set_option maxHeartbeats 400000 in
theorem signed_any (b : Nat) (w : World) (h : U64 b) :
    Calls Tryz.prog 150 #[.float .f64 b] w fun e w' => e = .returned (.bool (sgB b)) ∧ w' = w := by
  go_enter Tryz.func150, Tryz.ntmps150
  go_wp2_with (go_at_call 15; refine (bits_any _ _).mono ?_; rintro e w' ⟨rfl, rfl⟩)
  go_ret
  refine ⟨ret_bool ?_, rfl⟩
  rw [and_sg h]
  cases sgB b <;> rfl

theorem nan_cast (u : Int) : decide ((9218868437227405312 : Int) < szI u) = nanB u := rfl

set_option maxHeartbeats 400000 in
theorem isNaN_any (b : Nat) (w : World) (h : U64 b) :
    Calls Tryz.prog 151 #[.float .f64 b] w fun e w' => e = .returned (.bool (nanB b)) ∧ w' = w := by
  go_enter Tryz.func151, Tryz.ntmps151
  go_wp2_with (go_at_call 149; refine (size_any _ _ h).mono ?_; rintro e w' ⟨rfl, rfl⟩)
  go_ret
  exact ⟨ret_bool (nan_cast b), rfl⟩

set_option maxHeartbeats 400000 in
theorem refSize_any (b : Int) (w : World) (h : U64 b) :
    Calls Tryz.prog 134 #[.int .u64 b] w fun e w' => e = .returned (.int .u64 (szI b)) ∧ w' = w := by
  have hz := andNot_sz h
  go_enter Tryz.func134, Tryz.ntmps134
  go_wp2
  go_ret
  exact ⟨rfl, rfl⟩

end Go.Proofs.YtiiajhomdpfafaaGreatDoor
namespace Go.Proofs.YtiiajhomdpfafaaGreatDoor
open Go.RowKit

theorem size_as (b : Nat) (u : Int) (w : World) (hu : Hid (u = b)) (h : U64 u) :
    Calls Tryz.prog 149 #[.float .f64 b] w fun e w' => e = .returned (.int .u64 (szI u)) ∧ w' = w := by
  have e := hu.out; subst e; exact size_any b w h

set_option maxHeartbeats 400000 in
theorem negative_any (b : Nat) (w : World) (h : U64 b) :
    Calls Tryz.prog 111 #[.float .f64 b] w fun e w' => e = .returned (.bool (sgB b && !nanB b)) ∧ w' = w := by
  cases h1 : sgB b <;> cases h2 : nanB b
  all_goals
    go_enter Tryz.func111, Tryz.ntmps111
    go_wp2_with (first | (go_at_call 150; refine (signed_any _ _ h).mono ?_; rintro e w' ⟨rfl, rfl⟩) | (go_at_call 151; refine (isNaN_any _ _ h).mono ?_; rintro e w' ⟨rfl, rfl⟩))
    go_ret
    exact ⟨rfl, rfl⟩


theorem signed_as (b : Nat) (u : Int) (w : World) (hu : Hid (u = b)) (h : U64 u) :
    Calls Tryz.prog 150 #[.float .f64 b] w fun e w' => e = .returned (.bool (sgB u)) ∧ w' = w := by
  have e := hu.out; subst e; exact signed_any b w h

end Go.Proofs.YtiiajhomdpfafaaGreatDoor
namespace Go.Proofs.YtiiajhomdpfafaaGreatDoor
open Go.RowKit

end Go.Proofs.YtiiajhomdpfafaaGreatDoor
namespace Go.Proofs.YtiiajhomdpfafaaGreatDoor
open Go.RowKit

end Go.Proofs.YtiiajhomdpfafaaGreatDoor
