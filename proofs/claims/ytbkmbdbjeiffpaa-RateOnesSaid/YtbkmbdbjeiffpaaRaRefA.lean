/- The contracts of the document's Kind, times, above, long: rates. -/
import Derived.Test.YtbkmbdbjeiffpaaHaq
namespace Go.Proofs.Ytbkmbdbjeiffpaa
open Go.RowKit

/-- A step of one word, of two, of a whole number. -/
def Stp1 (f : Nat) (u z : Int) : Prop := ∀ w, Calls Try.prog f #[.int .u64 u] w fun e w' => e = .returned (.int .u64 z) ∧ Below w.heap.size w w'
def Stp2 (f : Nat) (u v z : Int) : Prop := ∀ w, Calls Try.prog f #[.int .u64 u, .int .u64 v] w fun e w' => e = .returned (.int .u64 z) ∧ Below w.heap.size w w'
def StpI (f : Nat) (n z : Int) : Prop := ∀ w, Calls Try.prog f #[.int .i64 n] w fun e w' => e = .returned (.int .u64 z) ∧ Below w.heap.size w w'
def ltB (u v : Int) : Bool := !nanB u && !nanB v && decide (rankI u < rankI v)
/-- A number (neither NaN nor infinite). -/
def finB (u : Int) : Bool := decide (szI u < 9218868437227405312)
def timesI (k : Int) : Int := if k = 2 then 1 else if k = 3 then 2 else if k = 4 then 4 else if k = 5 then 12 else 0
/-- What stands at the end: a number other than 0, or an error. -/
def endU (f : Int) : Int := if finB f = true ∧ szI f ≠ 0 then f else 0
def endE (f : Int) : Int := if finB f = true ∧ szI f ≠ 0 then 0 else 91
/-- The same, where 0 may be. -/
def enyU (f : Int) : Int := if finB f = true then f else 0
def enyE (f : Int) : Int := if finB f = true then 0 else 91

set_option maxHeartbeats 800000 in
theorem refLt_any (u v : Int) (w : World) (h : U64 u) (h' : U64 v) :
    Calls Try.prog 21 #[.int .u64 u, .int .u64 v] w fun e w' => e = .returned (.bool (ltB u v)) ∧ w' = w := by
  have H1 := hideS fun w => refRank_any u w h
  have H2 := hideS fun w => refRank_any v w h'
  unfold ltB
  generalize rankI u = a at *
  generalize rankI v = c at *
  generalize nanB u = m at *
  generalize nanB v = n at *
  clear h h'
  go_enter Try.func21, Try.ntmps21
  go_wp2_with fail
  refine (H1.out _).mono ?_
  rintro e w' ⟨rfl, rfl⟩
  go_wp2_with fail
  refine (H2.out _).mono ?_
  rintro e w' ⟨rfl, rfl⟩
  cases m <;> cases n
  all_goals go_wp2_with fail
  all_goals go_ret
  all_goals exact ⟨by simp, rfl⟩

set_option maxHeartbeats 400000 in
theorem refNum_any (u : Int) (w : World) (h : U64 u) :
    Calls Try.prog 20 #[.int .u64 u] w fun e w' => e = .returned (.bool (finB u)) ∧ w' = w := by
  have hz := andNot_sz h
  unfold finB
  go_enter Try.func20, Try.ntmps20
  go_wp2
  go_ret
  exact ⟨rfl, rfl⟩

set_option maxHeartbeats 400000 in
theorem refKind_any (k : Int) (w : World) :
    Calls Try.prog 19 #[.int .i64 k] w fun e w' => e = .returned (.bool (decide (1 ≤ k ∧ k ≤ 6))) ∧ w' = w := by
  by_cases h1 : 1 ≤ k
  · by_cases h2 : k ≤ 6
    · rw [decide_eq_true (⟨h1, h2⟩ : 1 ≤ k ∧ k ≤ 6)]
      go_enter Try.func19, Try.ntmps19
      go_wp2
      go_ret
      exact ⟨by simp, rfl⟩
    · rw [decide_eq_false (fun a : 1 ≤ k ∧ k ≤ 6 => h2 a.2)]
      go_enter Try.func19, Try.ntmps19
      go_wp2
      go_ret
      exact ⟨by simp, rfl⟩
  · rw [decide_eq_false (fun a : 1 ≤ k ∧ k ≤ 6 => h1 a.1)]
    go_enter Try.func19, Try.ntmps19
    go_wp2
    go_ret
    exact ⟨rfl, rfl⟩

set_option maxHeartbeats 800000 in
theorem refTimes_any (k : Int) (w : World) (h : 1 ≤ k ∧ k ≤ 6) :
    Calls Try.prog 24 #[.int .i64 k] w fun e w' => e = .returned (.int .i64 (timesI k)) ∧ w' = w := by
  rcases (show k = 1 ∨ k = 2 ∨ k = 3 ∨ k = 4 ∨ k = 5 ∨ k = 6 by omega) with rfl | rfl | rfl | rfl | rfl | rfl
  all_goals
    go_enter Try.func24, Try.ntmps24
    go_wp2
    go_ret
    exact ⟨rfl, rfl⟩

set_option maxHeartbeats 400000 in
theorem refAbove_any (u : Int) (w : World) (h : U64 u) :
    Calls Try.prog 27 #[.int .u64 u] w fun e w' => e = .returned (.bool (ltB 0 u)) ∧ w' = w := by
  have H := hideS fun w => refLt_any 0 u w (by unfold U64; omega) h
  generalize ltB 0 u = B at *
  clear h
  go_enter Try.func27, Try.ntmps27
  go_wp2_with fail
  refine (H.out _).mono ?_
  rintro e w' ⟨rfl, rfl⟩
  go_wp2_with fail
  go_ret
  exact ⟨rfl, rfl⟩

set_option maxHeartbeats 400000 in
theorem refLong_any (u : Int) (w : World) (h : U64 u) (HI : Hid (StpI 23 1048576 4697254411347427328)) :
    Calls Try.prog 22 #[.int .u64 u] w fun e w' => e = .returned (.bool (ltB 4697254411347427328 u)) ∧ Below w.heap.size w w' := by
  have H := hideS fun w => refLt_any 4697254411347427328 u w (by unfold U64; omega) h
  generalize ltB 4697254411347427328 u = B at *
  clear h
  go_enter Try.func22, Try.ntmps22
  go_wp2_with fail
  refine (HI.out _).mono ?_
  rintro e w1 ⟨rfl, hb⟩
  go_wp2_with fail
  refine (H.out _).mono ?_
  rintro e w' ⟨rfl, rfl⟩
  go_wp2_with fail
  go_ret
  exact ⟨rfl, hb⟩
end Go.Proofs.Ytbkmbdbjeiffpaa
