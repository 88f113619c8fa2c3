/- Values doubled: each step tells the double where nothing is too small or too great. -/
import Derived.Test.YtkcnkhdbojdhgaaGreatHaw
import Derived.Test.YtkcnkhdbojdhgaaGreatHav
namespace Go.Proofs.YtkcnkhdbojdhgaaGreat

theorem vI_rk {r : Nat} {k : Int} (h : RkW r k) : vI r = if k < 0 then -(V k.natAbs : Int) else (V k.natAbs : Int) := by
  obtain ⟨h1, h2, h3⟩ := h
  rw [← h1, ← sgn_rank h2 h3]
  unfold vI sgn
  generalize r % 9223372036854775808 = m
  generalize (r / 9223372036854775808 % 2 == 1) = s
  cases s
  · simp only [Bool.false_eq_true, if_false]
    rw [if_neg (by omega), Int.natAbs_natCast]
  · simp only [if_true]
    by_cases c : m = 0
    · rw [c]; decide
    · rw [if_pos (by omega), Int.natAbs_neg, Int.natAbs_natCast]
end Go.Proofs.YtkcnkhdbojdhgaaGreat
