/- The contracts of the small functions of package ieee and of the document's answer: classes, ranks, At. The contracts of Class, Negative, Same, Rank, At, Mid, Gap, Up and Down, of the program and of the document's answer. The contracts of At, Up, Down, Mid, Gap, of the program and of the document's answer. The contracts of Mid, Gap, Up, Down, of the program and of the document's answer. Plain arithmetic of ranks: there and back, and the middle. -/
import Derived.Test.YtnmjljijgmmakabGreatRows
import Derived.Test.YtnmjljijgmmakabGreatHaa
import Derived.WalkKit
import Derived.WalkSpells
import Derived.WalkLawsBesides
import Derived.Handy
namespace Go.Proofs.YtnmjljijgmmakabGreat
open Go.RowKit

theorem ret_int {k : IntKind} {a b : Int} (h : a = b) : Ending.returned (.int k a) = .returned (.int k b) := by rw [h]
theorem ret_bool {a b : Bool} (h : a = b) : Ending.returned (.bool a) = .returned (.bool b) := by rw [h]
theorem ret_f64 {a b : Nat} (h : a = b) : Ending.returned (.float .f64 a) = .returned (.float .f64 b) := by rw [h]

theorem call_bits (b : Nat) (w : World) : (callFunc 34 #[.float .f64 b]).run Tryz.prog w = .ok (.value (.int .u64 b)) w :=
  (run_callFunc_extern (e := Extern.MathFloatBits.float64bits) Tryz.func34 (by kernel_rfl) (by kernel_rfl) (by kernel_rfl) (by kernel_rfl) _ w).trans rfl

theorem call_frombits (n : Int) (w : World) : (callFunc 114 #[.int .u64 n]).run Tryz.prog w = .ok (.value (.float .f64 n.toNat)) w :=
  (run_callFunc_extern (e := Extern.MathFloatBits.float64frombits) Tryz.func114 (by kernel_rfl) (by kernel_rfl) (by kernel_rfl) (by kernel_rfl) _ w).trans rfl

set_option maxHeartbeats 400000 in
theorem bits_any (b : Nat) (w : World) :
    Calls Tryz.prog 12 #[.float .f64 b] w fun e w' => e = .returned (.int .u64 b) ∧ w' = w := by
  have hb := call_bits
  go_enter Tryz.func12, Tryz.ntmps12
  go_wp2
  go_ret
  exact ⟨rfl, rfl⟩

set_option maxHeartbeats 400000 in
theorem float_any (n : Int) (w : World) :
    Calls Tryz.prog 139 #[.int .u64 n] w fun e w' => e = .returned (.float .f64 n.toNat) ∧ w' = w := by
  have hb := call_frombits
  go_enter Tryz.func139, Tryz.ntmps139
  go_wp2
  go_ret
  exact ⟨rfl, rfl⟩

set_option maxHeartbeats 400000 in
theorem size_any (b : Nat) (w : World) (h : U64 b) :
    Calls Tryz.prog 115 #[.float .f64 b] w fun e w' => e = .returned (.int .u64 (szI b)) ∧ w' = w := by
  go_enter Tryz.func115, Tryz.ntmps115
  go_wp2_with (go_at_call 12; refine (bits_any _ _).mono ?_; rintro e w' ⟨rfl, rfl⟩)
  go_ret
  exact ⟨ret_int (andNot_sz h), rfl⟩

set_option maxHeartbeats 400000 in
theorem signed_any (b : Nat) (w : World) (h : U64 b) :
    Calls Tryz.prog 116 #[.float .f64 b] w fun e w' => e = .returned (.bool (sgB b)) ∧ w' = w := by
  go_enter Tryz.func116, Tryz.ntmps116
  go_wp2_with (go_at_call 12; refine (bits_any _ _).mono ?_; rintro e w' ⟨rfl, rfl⟩)
  go_ret
  refine ⟨ret_bool ?_, rfl⟩
  rw [and_sg h]
  cases sgB b <;> rfl

theorem nan_cast (u : Int) : decide ((9218868437227405312 : Int) < szI u) = nanB u := rfl

set_option maxHeartbeats 400000 in
theorem isNaN_any (b : Nat) (w : World) (h : U64 b) :
    Calls Tryz.prog 142 #[.float .f64 b] w fun e w' => e = .returned (.bool (nanB b)) ∧ w' = w := by
  go_enter Tryz.func142, Tryz.ntmps142
  go_wp2_with (go_at_call 115; refine (size_any _ _ h).mono ?_; rintro e w' ⟨rfl, rfl⟩)
  go_ret
  exact ⟨ret_bool (nan_cast b), rfl⟩

set_option maxHeartbeats 400000 in
theorem refNaN_any (b : Int) (w : World) (h : U64 b) :
    Calls Tryz.prog 44 #[.int .u64 b] w fun e w' => e = .returned (.bool (nanB b)) ∧ w' = w := by
  have hz := andNot_sz h
  have hn := nan_cast b
  go_enter Tryz.func44, Tryz.ntmps44
  go_wp2
  go_ret
  exact ⟨rfl, rfl⟩

set_option maxHeartbeats 400000 in
theorem refNegative_any (b : Int) (w : World) :
    Calls Tryz.prog 60 #[.int .u64 b] w fun e w' => e = .returned (.bool (sgB b)) ∧ w' = w := by
  go_enter Tryz.func60, Tryz.ntmps60
  go_wp2
  go_ret
  exact ⟨rfl, rfl⟩

set_option maxHeartbeats 400000 in
theorem refSize_any (b : Int) (w : World) (h : U64 b) :
    Calls Tryz.prog 46 #[.int .u64 b] w fun e w' => e = .returned (.int .u64 (szI b)) ∧ w' = w := by
  have hz := andNot_sz h
  go_enter Tryz.func46, Tryz.ntmps46
  go_wp2
  go_ret
  exact ⟨rfl, rfl⟩

end Go.Proofs.YtnmjljijgmmakabGreat
namespace Go.Proofs.YtnmjljijgmmakabGreat
open Go.RowKit

theorem size_as (b : Nat) (u : Int) (w : World) (hu : Hid (u = b)) (h : U64 u) :
    Calls Tryz.prog 115 #[.float .f64 b] w fun e w' => e = .returned (.int .u64 (szI u)) ∧ w' = w := by
  have e := hu.out; subst e; exact size_any b w h

set_option maxHeartbeats 400000 in
theorem class_as (b : Nat) (u : Int) (w : World) (hu : Hid (u = b)) (h : U64 u) :
    Calls Tryz.prog 131 #[.float .f64 b] w fun e w' => e = .returned (.int .i64 (clsI u)) ∧ w' = w := by
  rcases cls_cases u with ⟨hz, hc⟩ | ⟨⟨h1, h2⟩, hc⟩ | ⟨⟨h1, h2⟩, hc⟩ | ⟨hz, hc⟩ | ⟨h1, hc⟩
  all_goals
    rw [hc]; clear hc
    go_enter Tryz.func131, Tryz.ntmps131
    go_wp2_with (go_at_call 115; refine (size_as _ _ _ hu h).mono ?_; rintro e w' ⟨rfl, rfl⟩)
    go_ret
    exact ⟨rfl, rfl⟩
set_option maxHeartbeats 400000 in
theorem negative_any (b : Nat) (w : World) (h : U64 b) :
    Calls Tryz.prog 132 #[.float .f64 b] w fun e w' => e = .returned (.bool (sgB b && !nanB b)) ∧ w' = w := by
  cases h1 : sgB b <;> cases h2 : nanB b
  all_goals
    go_enter Tryz.func132, Tryz.ntmps132
    go_wp2_with (first | (go_at_call 116; refine (signed_any _ _ h).mono ?_; rintro e w' ⟨rfl, rfl⟩) | (go_at_call 142; refine (isNaN_any _ _ h).mono ?_; rintro e w' ⟨rfl, rfl⟩))
    go_ret
    exact ⟨rfl, rfl⟩


set_option maxHeartbeats 400000 in
theorem refSame_any (a b : Int) (w : World) (h : U64 a) (h' : U64 b) :
    Calls Tryz.prog 35 #[.int .u64 a, .int .u64 b] w fun e w' => e = .returned (.bool (sameB a b)) ∧ w' = w := by
  by_cases h0 : a = b
  · have hb : (a == b) = true := by simpa using h0
    clear h0
    have hs : Hid (sameB a b = true) := by
      have : a = b := by simpa using hb
      subst this; exact sameB_refl a
    rw [hs.out]
    go_enter Tryz.func35, Tryz.ntmps35
    go_wp2
    go_ret
    exact ⟨rfl, rfl⟩
  · have hb : (a == b) = false := by simpa using h0
    have hs : Hid (sameB a b = (nanB a && nanB b)) := by show sameB a b = _; simp [sameB, h0]
    clear h0
    rw [hs.out]
    cases h1 : nanB a <;> cases h2 : nanB b
    all_goals
      go_enter Tryz.func35, Tryz.ntmps35
      go_wp2_with fail
      refine (refNaN_any _ _ h).mono ?_
      rintro e w' ⟨rfl, rfl⟩
      go_wp2_with (go_at_call 44; refine (refNaN_any _ _ h').mono ?_; rintro e w' ⟨rfl, rfl⟩)
      go_ret
      exact ⟨rfl, rfl⟩

set_option maxHeartbeats 400000 in
theorem is_any (a : Nat) (b : Int) (w : World) (h : U64 a) (h' : U64 b) :
    Calls Tryz.prog 14 #[.float .f64 a, .int .u64 b] w fun e w' => e = .returned (.bool (sameB a b)) ∧ w' = w := by
  go_enter Tryz.func14, Tryz.ntmps14
  go_wp2_with (first | (go_at_call 12; refine (bits_any _ _).mono ?_; rintro e w' ⟨rfl, rfl⟩) | (go_at_call 35; refine (refSame_any _ _ _ h h').mono ?_; rintro e w' ⟨rfl, rfl⟩))
  go_ret
  exact ⟨rfl, rfl⟩

theorem rank_nan {u : Int} (h : nanB u = true) : rankI u = 0 := by simp [rankI, h]
theorem rank_neg {u : Int} (h : nanB u = false) (h' : sgB u = true) : rankI u = -szI u := by simp [rankI, h, h']
theorem rank_pos {u : Int} (h : nanB u = false) (h' : sgB u = false) : rankI u = szI u := by simp [rankI, h, h']

theorem signed_as (b : Nat) (u : Int) (w : World) (hu : Hid (u = b)) (h : U64 u) :
    Calls Tryz.prog 116 #[.float .f64 b] w fun e w' => e = .returned (.bool (sgB u)) ∧ w' = w := by
  have e := hu.out; subst e; exact signed_any b w h

set_option maxHeartbeats 400000 in
theorem refRank_any (u : Int) (w : World) (h : U64 u) :
    Calls Tryz.prog 43 #[.int .u64 u] w fun e w' => e = .returned (.tuple #[.int .i64 (rankI u), .bool (!nanB u)]) ∧ w' = w := by
  cases h1 : nanB u
  · cases h2 : sgB u
    · have h3 : u < 9223372036854775808 := by simpa [sgB] using h2
      have h4 : 0 ≤ u := h.1
      rw [rank_pos h1 h2, szI_of_pos h h2]
      clear h2
      go_enter Tryz.func43, Tryz.ntmps43
      go_wp2_with (go_at_call 44; refine (refNaN_any _ _ h).mono ?_; rintro e w' ⟨rfl, rfl⟩)
      go_ret2
      exact ⟨rfl, rfl⟩
    · have h3 : 9223372036854775808 ≤ u := by simpa [sgB] using h2
      have h4 : u < 18446744073709551616 := h.2
      rw [rank_neg h1 h2, szI_of_neg h h2]
      clear h2
      go_enter Tryz.func43, Tryz.ntmps43
      go_wp2_with (go_at_call 44; refine (refNaN_any _ _ h).mono ?_; rintro e w' ⟨rfl, rfl⟩)
      go_ret2
      exact ⟨rfl, rfl⟩
  · rw [rank_nan h1]
    go_enter Tryz.func43, Tryz.ntmps43
    go_wp2_with (go_at_call 44; refine (refNaN_any _ _ h).mono ?_; rintro e w' ⟨rfl, rfl⟩)
    go_ret2
    exact ⟨rfl, rfl⟩

end Go.Proofs.YtnmjljijgmmakabGreat
namespace Go.Proofs.YtnmjljijgmmakabGreat
open Go.RowKit

theorem or_sg' {u : Int} (h0 : 0 ≤ u) (h : u < 9223372036854775808) : (bits .or .u64 u 9223372036854775808).toNat = (9223372036854775808 + u).toNat := by rw [or_sg h0 h]

set_option maxHeartbeats 400000 in
theorem withSign_pos (u : Int) (w : World) :
    Calls Tryz.prog 127 #[.int .u64 u, .bool false] w fun e w' => e = .returned (.float .f64 u.toNat) ∧ w' = w := by
  go_enter Tryz.func127, Tryz.ntmps127
  go_wp2_with (go_at_call 139; refine (float_any _ _).mono ?_; rintro e w' ⟨rfl, rfl⟩)
  go_ret
  exact ⟨rfl, rfl⟩

set_option maxHeartbeats 400000 in
theorem withSign_neg (u : Int) (w : World) (h0 : 0 ≤ u) (h : u < 9223372036854775808) :
    Calls Tryz.prog 127 #[.int .u64 u, .bool true] w fun e w' => e = .returned (.float .f64 (9223372036854775808 + u).toNat) ∧ w' = w := by
  go_enter Tryz.func127, Tryz.ntmps127
  go_wp2_with (go_at_call 139; refine (float_any _ _).mono ?_; rintro e w' ⟨rfl, rfl⟩)
  go_ret
  exact ⟨ret_f64 (or_sg' h0 h), rfl⟩

end Go.Proofs.YtnmjljijgmmakabGreat
namespace Go.Proofs.YtnmjljijgmmakabGreat
open Go.RowKit

end Go.Proofs.YtnmjljijgmmakabGreat
namespace Go.Proofs.YtnmjljijgmmakabGreat
open Go.RowKit

end Go.Proofs.YtnmjljijgmmakabGreat
