/- The contracts of the small functions of package ieee and of the document's answer: classes, ranks, At. The contracts of Class, Negative, Same, Rank, At, Mid, Gap, Up and Down, of the program and of the document's answer. -/
import Derived.Test.YtcbbbkngjdlcjaaRows
import Derived.Test.YtcbbbkngjdlcjaaGao
import Derived.WalkKit
import Derived.WalkSpells
import Derived.WalkLawsBesides
import Derived.Handy
namespace Go.Proofs.Ytcbbbkngjdlcjaa
open Go.RowKit

theorem ret_int {k : IntKind} {a b : Int} (h : a = b) : Ending.returned (.int k a) = .returned (.int k b) := by rw [h]
theorem ret_bool {a b : Bool} (h : a = b) : Ending.returned (.bool a) = .returned (.bool b) := by rw [h]
theorem ret_f64 {a b : Nat} (h : a = b) : Ending.returned (.float .f64 a) = .returned (.float .f64 b) := by rw [h]

theorem call_bits (b : Nat) (w : World) : (callFunc 42 #[.float .f64 b]).run Try.prog w = .ok (.value (.int .u64 b)) w :=
  (run_callFunc_extern (e := Extern.MathFloatBits.float64bits) Try.func42 (by kernel_rfl) (by kernel_rfl) (by kernel_rfl) (by kernel_rfl) _ w).trans rfl

set_option maxHeartbeats 400000 in
theorem bits_any (b : Nat) (w : World) :
    Calls Try.prog 23 #[.float .f64 b] w fun e w' => e = .returned (.int .u64 b) ∧ w' = w := by
  have hb := call_bits
  go_enter Try.func23, Try.ntmps23
  go_wp2
  go_ret
  exact ⟨rfl, rfl⟩

theorem nan_cast (u : Int) : decide ((9218868437227405312 : Int) < szI u) = nanB u := rfl

set_option maxHeartbeats 400000 in
theorem refNaN_any (b : Int) (w : World) (h : U64 b) :
    Calls Try.prog 41 #[.int .u64 b] w fun e w' => e = .returned (.bool (nanB b)) ∧ w' = w := by
  have hz := andNot_sz h
  have hn := nan_cast b
  go_enter Try.func41, Try.ntmps41
  go_wp2
  go_ret
  exact ⟨rfl, rfl⟩

end Go.Proofs.Ytcbbbkngjdlcjaa
namespace Go.Proofs.Ytcbbbkngjdlcjaa
open Go.RowKit

set_option maxHeartbeats 400000 in
theorem refSame_any (a b : Int) (w : World) (h : U64 a) (h' : U64 b) :
    Calls Try.prog 22 #[.int .u64 a, .int .u64 b] w fun e w' => e = .returned (.bool (sameB a b)) ∧ w' = w := by
  by_cases h0 : a = b
  · have hb : (a == b) = true := by simpa using h0
    clear h0
    have hs : Hid (sameB a b = true) := by
      have : a = b := by simpa using hb
      subst this; exact sameB_refl a
    rw [hs.out]
    go_enter Try.func22, Try.ntmps22
    go_wp2
    go_ret
    exact ⟨rfl, rfl⟩
  · have hb : (a == b) = false := by simpa using h0
    have hs : Hid (sameB a b = (nanB a && nanB b)) := by show sameB a b = _; simp [sameB, h0]
    clear h0
    rw [hs.out]
    cases h1 : nanB a <;> cases h2 : nanB b
    all_goals
      go_enter Try.func22, Try.ntmps22
      go_wp2_with fail
      refine (refNaN_any _ _ h).mono ?_
      rintro e w' ⟨rfl, rfl⟩
      go_wp2_with (go_at_call 41; refine (refNaN_any _ _ h').mono ?_; rintro e w' ⟨rfl, rfl⟩)
      go_ret
      exact ⟨rfl, rfl⟩

set_option maxHeartbeats 400000 in
theorem is_any (a : Nat) (b : Int) (w : World) (h : U64 a) (h' : U64 b) :
    Calls Try.prog 14 #[.float .f64 a, .int .u64 b] w fun e w' => e = .returned (.bool (sameB a b)) ∧ w' = w := by
  go_enter Try.func14, Try.ntmps14
  go_wp2_with (first | (go_at_call 23; refine (bits_any _ _).mono ?_; rintro e w' ⟨rfl, rfl⟩) | (go_at_call 22; refine (refSame_any _ _ _ h h').mono ?_; rintro e w' ⟨rfl, rfl⟩))
  go_ret
  exact ⟨rfl, rfl⟩

theorem rank_nan {u : Int} (h : nanB u = true) : rankI u = 0 := by simp [rankI, h]
theorem rank_neg {u : Int} (h : nanB u = false) (h' : sgB u = true) : rankI u = -szI u := by simp [rankI, h, h']
theorem rank_pos {u : Int} (h : nanB u = false) (h' : sgB u = false) : rankI u = szI u := by simp [rankI, h, h']

end Go.Proofs.Ytcbbbkngjdlcjaa
