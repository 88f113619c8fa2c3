/- The contracts of the small functions of package ieee and of the document's answer: classes, ranks, At. The contracts of Class, Negative, Same, Rank, At, Mid, Gap, Up and Down, of the program and of the document's answer. The contracts of At, Up, Down, Mid, Gap, of the program and of the document's answer. The contracts of Mid, Gap, Up, Down, of the program and of the document's answer. -/
import Derived.Test.YteglnchcnacjlaaGreatRows
import Derived.Test.YteglnchcnacjlaaGreatHaa
import Derived.WalkKit
import Derived.WalkSpells
import Derived.WalkLawsBesides
import Derived.Handy
namespace Go.Proofs.YteglnchcnacjlaaGreat
open Go.RowKit

theorem ret_int {k : IntKind} {a b : Int} (h : a = b) : Ending.returned (.int k a) = .returned (.int k b) := by rw [h]
theorem ret_bool {a b : Bool} (h : a = b) : Ending.returned (.bool a) = .returned (.bool b) := by rw [h]
theorem ret_f64 {a b : Nat} (h : a = b) : Ending.returned (.float .f64 a) = .returned (.float .f64 b) := by rw [h]

theorem call_bits (b : Nat) (w : World) : (callFunc 28 #[.float .f64 b]).run Tryz.prog w = .ok (.value (.int .u64 b)) w :=
  (run_callFunc_extern (e := Extern.MathFloatBits.float64bits) Tryz.func28 (by kernel_rfl) (by kernel_rfl) (by kernel_rfl) (by kernel_rfl) _ w).trans rfl

theorem call_frombits (n : Int) (w : World) : (callFunc 110 #[.int .u64 n]).run Tryz.prog w = .ok (.value (.float .f64 n.toNat)) w :=
  (run_callFunc_extern (e := Extern.MathFloatBits.float64frombits) Tryz.func110 (by kernel_rfl) (by kernel_rfl) (by kernel_rfl) (by kernel_rfl) _ w).trans rfl

set_option maxHeartbeats 400000 in
theorem bits_any (b : Nat) (w : World) :
    Calls Tryz.prog 13 #[.float .f64 b] w fun e w' => e = .returned (.int .u64 b) ∧ w' = w := by
  have hb := call_bits
  go_enter Tryz.func13, Tryz.ntmps13
  go_wp2
  go_ret
  exact ⟨rfl, rfl⟩

set_option maxHeartbeats 400000 in
theorem float_any (n : Int) (w : World) :
    Calls Tryz.prog 140 #[.int .u64 n] w fun e w' => e = .returned (.float .f64 n.toNat) ∧ w' = w := by
  have hb := call_frombits
  go_enter Tryz.func140, Tryz.ntmps140
  go_wp2
  go_ret
  exact ⟨rfl, rfl⟩

set_option maxHeartbeats 400000 in
theorem size_any (b : Nat) (w : World) (h : U64 b) :
    Calls Tryz.prog 113 #[.float .f64 b] w fun e w' => e = .returned (.int .u64 (szI b)) ∧ w' = w := by
  go_enter Tryz.func113, Tryz.ntmps113
  go_wp2_with (go_at_call 13; refine (bits_any _ _).mono ?_; rintro e w' ⟨rfl, rfl⟩)
  go_ret
  exact ⟨ret_int (andNot_sz h), rfl⟩

set_option maxHeartbeats 400000 in
theorem signed_any (b : Nat) (w : World) (h : U64 b) :
    Calls Tryz.prog 114 #[.float .f64 b] w fun e w' => e = .returned (.bool (sgB b)) ∧ w' = w := by
  go_enter Tryz.func114, Tryz.ntmps114
  go_wp2_with (go_at_call 13; refine (bits_any _ _).mono ?_; rintro e w' ⟨rfl, rfl⟩)
  go_ret
  refine ⟨ret_bool ?_, rfl⟩
  rw [and_sg h]
  cases sgB b <;> rfl

theorem nan_cast (u : Int) : decide ((9218868437227405312 : Int) < szI u) = nanB u := rfl

set_option maxHeartbeats 400000 in
theorem isNaN_any (b : Nat) (w : World) (h : U64 b) :
    Calls Tryz.prog 135 #[.float .f64 b] w fun e w' => e = .returned (.bool (nanB b)) ∧ w' = w := by
  go_enter Tryz.func135, Tryz.ntmps135
  go_wp2_with (go_at_call 113; refine (size_any _ _ h).mono ?_; rintro e w' ⟨rfl, rfl⟩)
  go_ret
  exact ⟨ret_bool (nan_cast b), rfl⟩

set_option maxHeartbeats 400000 in
theorem refNaN_any (b : Int) (w : World) (h : U64 b) :
    Calls Tryz.prog 50 #[.int .u64 b] w fun e w' => e = .returned (.bool (nanB b)) ∧ w' = w := by
  have hz := andNot_sz h
  have hn := nan_cast b
  go_enter Tryz.func50, Tryz.ntmps50
  go_wp2
  go_ret
  exact ⟨rfl, rfl⟩

set_option maxHeartbeats 400000 in
theorem refNegative_any (b : Int) (w : World) :
    Calls Tryz.prog 62 #[.int .u64 b] w fun e w' => e = .returned (.bool (sgB b)) ∧ w' = w := by
  go_enter Tryz.func62, Tryz.ntmps62
  go_wp2
  go_ret
  exact ⟨rfl, rfl⟩

set_option maxHeartbeats 400000 in
theorem refSize_any (b : Int) (w : World) (h : U64 b) :
    Calls Tryz.prog 52 #[.int .u64 b] w fun e w' => e = .returned (.int .u64 (szI b)) ∧ w' = w := by
  have hz := andNot_sz h
  go_enter Tryz.func52, Tryz.ntmps52
  go_wp2
  go_ret
  exact ⟨rfl, rfl⟩

end Go.Proofs.YteglnchcnacjlaaGreat
namespace Go.Proofs.YteglnchcnacjlaaGreat
open Go.RowKit

theorem size_as (b : Nat) (u : Int) (w : World) (hu : Hid (u = b)) (h : U64 u) :
    Calls Tryz.prog 113 #[.float .f64 b] w fun e w' => e = .returned (.int .u64 (szI u)) ∧ w' = w := by
  have e := hu.out; subst e; exact size_any b w h

set_option maxHeartbeats 400000 in
theorem class_as (b : Nat) (u : Int) (w : World) (hu : Hid (u = b)) (h : U64 u) :
    Calls Tryz.prog 116 #[.float .f64 b] w fun e w' => e = .returned (.int .i64 (clsI u)) ∧ w' = w := by
  rcases cls_cases u with ⟨hz, hc⟩ | ⟨⟨h1, h2⟩, hc⟩ | ⟨⟨h1, h2⟩, hc⟩ | ⟨hz, hc⟩ | ⟨h1, hc⟩
  all_goals
    rw [hc]; clear hc
    go_enter Tryz.func116, Tryz.ntmps116
    go_wp2_with (go_at_call 113; refine (size_as _ _ _ hu h).mono ?_; rintro e w' ⟨rfl, rfl⟩)
    go_ret
    exact ⟨rfl, rfl⟩
set_option maxHeartbeats 400000 in
theorem negative_any (b : Nat) (w : World) (h : U64 b) :
    Calls Tryz.prog 117 #[.float .f64 b] w fun e w' => e = .returned (.bool (sgB b && !nanB b)) ∧ w' = w := by
  cases h1 : sgB b <;> cases h2 : nanB b
  all_goals
    go_enter Tryz.func117, Tryz.ntmps117
    go_wp2_with (first | (go_at_call 114; refine (signed_any _ _ h).mono ?_; rintro e w' ⟨rfl, rfl⟩) | (go_at_call 135; refine (isNaN_any _ _ h).mono ?_; rintro e w' ⟨rfl, rfl⟩))
    go_ret
    exact ⟨rfl, rfl⟩


set_option maxHeartbeats 400000 in
theorem refSame_any (a b : Int) (w : World) (h : U64 a) (h' : U64 b) :
    Calls Tryz.prog 33 #[.int .u64 a, .int .u64 b] w fun e w' => e = .returned (.bool (sameB a b)) ∧ w' = w := by
  by_cases h0 : a = b
  · have hb : (a == b) = true := by simpa using h0
    clear h0
    have hs : Hid (sameB a b = true) := by
      have : a = b := by simpa using hb
      subst this; exact sameB_refl a
    rw [hs.out]
    go_enter Tryz.func33, Tryz.ntmps33
    go_wp2
    go_ret
    exact ⟨rfl, rfl⟩
  · have hb : (a == b) = false := by simpa using h0
    have hs : Hid (sameB a b = (nanB a && nanB b)) := by show sameB a b = _; simp [sameB, h0]
    clear h0
    rw [hs.out]
    cases h1 : nanB a <;> cases h2 : nanB b
    all_goals
      go_enter Tryz.func33, Tryz.ntmps33
      go_wp2_with fail
      refine (refNaN_any _ _ h).mono ?_
      rintro e w' ⟨rfl, rfl⟩
      go_wp2_with (go_at_call 50; refine (refNaN_any _ _ h').mono ?_; rintro e w' ⟨rfl, rfl⟩)
      go_ret
      exact ⟨rfl, rfl⟩

theorem signed_as (b : Nat) (u : Int) (w : World) (hu : Hid (u = b)) (h : U64 u) :
    Calls Tryz.prog 114 #[.float .f64 b] w fun e w' => e = .returned (.bool (sgB u)) ∧ w' = w := by
  have e := hu.out; subst e; exact signed_any b w h

end Go.Proofs.YteglnchcnacjlaaGreat
namespace Go.Proofs.YteglnchcnacjlaaGreat
open Go.RowKit

theorem or_sg' {u : Int} (h0 : 0 ≤ u) (h : u < 9223372036854775808) : (bits .or .u64 u 9223372036854775808).toNat = (9223372036854775808 + u).toNat := by rw [or_sg h0 h]

set_option maxHeartbeats 400000 in
theorem withSign_pos (u : Int) (w : World) :
    Calls Tryz.prog 125 #[.int .u64 u, .bool false] w fun e w' => e = .returned (.float .f64 u.toNat) ∧ w' = w := by
  go_enter Tryz.func125, Tryz.ntmps125
  go_wp2_with (go_at_call 140; refine (float_any _ _).mono ?_; rintro e w' ⟨rfl, rfl⟩)
  go_ret
  exact ⟨rfl, rfl⟩

set_option maxHeartbeats 400000 in
theorem withSign_neg (u : Int) (w : World) (h0 : 0 ≤ u) (h : u < 9223372036854775808) :
    Calls Tryz.prog 125 #[.int .u64 u, .bool true] w fun e w' => e = .returned (.float .f64 (9223372036854775808 + u).toNat) ∧ w' = w := by
  go_enter Tryz.func125, Tryz.ntmps125
  go_wp2_with (go_at_call 140; refine (float_any _ _).mono ?_; rintro e w' ⟨rfl, rfl⟩)
  go_ret
  exact ⟨ret_f64 (or_sg' h0 h), rfl⟩

end Go.Proofs.YteglnchcnacjlaaGreat
namespace Go.Proofs.YteglnchcnacjlaaGreat
open Go.RowKit

end Go.Proofs.YteglnchcnacjlaaGreat
