/- The contracts of At, Up, Down, Mid, Gap, of the program and of the document's answer. The contracts of Mid, Gap, Up, Down, of the program and of the document's answer. -/
import Derived.Test.YtcbbbkngjdlcjaaGar
namespace Go.Proofs.Ytcbbbkngjdlcjaa
open Go.RowKit

theorem or_sg' {u : Int} (h0 : 0 ≤ u) (h : u < 9223372036854775808) : (bits .or .u64 u 9223372036854775808).toNat = (9223372036854775808 + u).toNat := by rw [or_sg h0 h]

theorem atI_no {n : Int} (h : atOk n = false) : atI n = 0 := by simp [atI, h]
theorem atI_neg {n : Int} (h : atOk n = true) (h' : n < 0) : atI n = 9223372036854775808 - n := by simp [atI, h, h']
theorem atI_pos {n : Int} (h : atOk n = true) (h' : 0 ≤ n) : atI n = n := by simp [atI, h, Int.not_lt.2 h']
theorem atOk_iff (n : Int) : atOk n = true ↔ -9218868437227405312 ≤ n ∧ n ≤ 9218868437227405312 := by simp [atOk]
theorem atOk_not {n : Int} (h : atOk n = false) : n < -9218868437227405312 ∨ 9218868437227405312 < n := by
  simp only [atOk, decide_eq_false_iff_not] at h; omega
theorem ret_at {a b : Nat} {c : Bool} (h : a = b) : Ending.returned (.tuple #[.float .f64 a, .bool c]) = .returned (.tuple #[.float .f64 b, .bool c]) := by rw [h]
theorem ret_atu {a b : Int} {c : Bool} (h : a = b) : Ending.returned (.tuple #[.int .u64 a, .bool c]) = .returned (.tuple #[.int .u64 b, .bool c]) := by rw [h]

/-- The middle of two ranks, as both texts write it. -/
def midI (a b : Int) : Int := wrap64 (a / 2 + b / 2 + bits .and .i64 (bits .and .i64 a b) 1)
def upI (u d : Int) : Int := if nanB u then u else if atOk (wrap64 (rankI u + d)) then atI (wrap64 (rankI u + d)) else u

theorem rank_lo (u : Int) : -9218868437227405312 ≤ rankI u := by
  unfold rankI nanB; have := szI_lo u
  split
  · omega
  · rename_i h; simp only [decide_eq_true_eq] at h; split <;> omega
theorem rank_hi (u : Int) : rankI u ≤ 9218868437227405312 := by
  unfold rankI nanB; have := szI_lo u
  split
  · omega
  · rename_i h; simp only [decide_eq_true_eq] at h; split <;> omega

/-- What the document's answer tells there: of a NaN its own NaN. -/
def refUpI (u d : Int) : Int := if nanB u then 9221120237041090561 else upI u d

end Go.Proofs.Ytcbbbkngjdlcjaa
namespace Go.Proofs.Ytcbbbkngjdlcjaa
open Go.RowKit

def midOk (u v : Int) : Bool := !nanB u && !nanB v && atOk (midI (rankI u) (rankI v))
def midA (u v : Int) : Int := if !nanB u && !nanB v then atI (midI (rankI u) (rankI v)) else 0

theorem ret_midu {n m : Int} {c d : Bool} (h : n = m) (h' : c = d) : Ending.returned (.tuple #[.int .u64 n, .bool c]) = .returned (.tuple #[.int .u64 m, .bool d]) := by rw [h, h']

def gapI (u v : Int) : Int := if !nanB u && !nanB v then (if rankI u < rankI v then IntKind.u64.wrap (IntKind.u64.wrap (rankI v) - IntKind.u64.wrap (rankI u)) else IntKind.u64.wrap (IntKind.u64.wrap (rankI u) - IntKind.u64.wrap (rankI v))) else 0
def bothB (u v : Int) : Bool := !nanB u && !nanB v

end Go.Proofs.Ytcbbbkngjdlcjaa
