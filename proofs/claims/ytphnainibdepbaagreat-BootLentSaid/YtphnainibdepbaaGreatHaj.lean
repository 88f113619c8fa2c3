/- The contracts of the small functions of package ieee and of the document's answer: classes, ranks, At. The contracts of Class, Negative, Same, Rank, At, Mid, Gap, Up and Down, of the program and of the document's answer. The contracts of At, Up, Down, Mid, Gap, of the program and of the document's answer. The contracts of Mid, Gap, Up, Down, of the program and of the document's answer. Plain arithmetic of ranks: there and back, and the middle. Bisection by ranks, in plain words: what a search tells of a function that is given by the ranks of its answers. -/
import Derived.Test.YtphnainibdepbaaGreatRows
import Derived.Test.YtphnainibdepbaaGreatHaa
import Derived.WalkKit
import Derived.WalkSpells
import Derived.WalkLawsBesides
import Derived.Handy
namespace Go.Proofs.YtphnainibdepbaaGreat
open Go.RowKit

theorem ret_int {k : IntKind} {a b : Int} (h : a = b) : Ending.returned (.int k a) = .returned (.int k b) := by rw [h]
theorem ret_bool {a b : Bool} (h : a = b) : Ending.returned (.bool a) = .returned (.bool b) := by rw [h]
theorem ret_f64 {a b : Nat} (h : a = b) : Ending.returned (.float .f64 a) = .returned (.float .f64 b) := by rw [h]

theorem call_bits (b : Nat) (w : World) : (callFunc 23 #[.float .f64 b]).run Tryz.prog w = .ok (.value (.int .u64 b)) w :=
  (run_callFunc_extern (e := Extern.MathFloatBits.float64bits) Tryz.func23 (by kernel_rfl) (by kernel_rfl) (by kernel_rfl) (by kernel_rfl) _ w).trans rfl

theorem call_frombits (n : Int) (w : World) : (callFunc 39 #[.int .u64 n]).run Tryz.prog w = .ok (.value (.float .f64 n.toNat)) w :=
  (run_callFunc_extern (e := Extern.MathFloatBits.float64frombits) Tryz.func39 (by kernel_rfl) (by kernel_rfl) (by kernel_rfl) (by kernel_rfl) _ w).trans rfl

set_option maxHeartbeats 400000 in
theorem bits_any (b : Nat) (w : World) :
    Calls Tryz.prog 12 #[.float .f64 b] w fun e w' => e = .returned (.int .u64 b) ∧ w' = w := by
  have hb := call_bits
  go_enter Tryz.func12, Tryz.ntmps12
  go_wp2
  go_ret
  exact ⟨rfl, rfl⟩

set_option maxHeartbeats 400000 in
theorem float_any (n : Int) (w : World) :
    Calls Tryz.prog 113 #[.int .u64 n] w fun e w' => e = .returned (.float .f64 n.toNat) ∧ w' = w := by
  have hb := call_frombits
  go_enter Tryz.func113, Tryz.ntmps113
  go_wp2
  go_ret
  exact ⟨rfl, rfl⟩

set_option maxHeartbeats 400000 in
theorem size_any (b : Nat) (w : World) (h : U64 b) :
    Calls Tryz.prog 72 #[.float .f64 b] w fun e w' => e = .returned (.int .u64 (szI b)) ∧ w' = w := by
  go_enter Tryz.func72, Tryz.ntmps72
  go_wp2_with (go_at_call 12; refine (bits_any _ _).mono ?_; rintro e w' ⟨rfl, rfl⟩)
  go_ret
  exact ⟨ret_int (andNot_sz h), rfl⟩

set_option maxHeartbeats 400000 in
theorem signed_any (b : Nat) (w : World) (h : U64 b) :
    Calls Tryz.prog 73 #[.float .f64 b] w fun e w' => e = .returned (.bool (sgB b)) ∧ w' = w := by
  go_enter Tryz.func73, Tryz.ntmps73
  go_wp2_with (go_at_call 12; refine (bits_any _ _).mono ?_; rintro e w' ⟨rfl, rfl⟩)
  go_ret
  refine ⟨ret_bool ?_, rfl⟩
  rw [and_sg h]
  cases sgB b <;> rfl

theorem nan_cast (u : Int) : decide ((9218868437227405312 : Int) < szI u) = nanB u := rfl

set_option maxHeartbeats 400000 in
theorem isNaN_any (b : Nat) (w : World) (h : U64 b) :
    Calls Tryz.prog 99 #[.float .f64 b] w fun e w' => e = .returned (.bool (nanB b)) ∧ w' = w := by
  go_enter Tryz.func99, Tryz.ntmps99
  go_wp2_with (go_at_call 72; refine (size_any _ _ h).mono ?_; rintro e w' ⟨rfl, rfl⟩)
  go_ret
  exact ⟨ret_bool (nan_cast b), rfl⟩

end Go.Proofs.YtphnainibdepbaaGreat
namespace Go.Proofs.YtphnainibdepbaaGreat
open Go.RowKit

theorem size_as (b : Nat) (u : Int) (w : World) (hu : Hid (u = b)) (h : U64 u) :
    Calls Tryz.prog 72 #[.float .f64 b] w fun e w' => e = .returned (.int .u64 (szI u)) ∧ w' = w := by
  have e := hu.out; subst e; exact size_any b w h

set_option maxHeartbeats 400000 in
theorem class_as (b : Nat) (u : Int) (w : World) (hu : Hid (u = b)) (h : U64 u) :
    Calls Tryz.prog 75 #[.float .f64 b] w fun e w' => e = .returned (.int .i64 (clsI u)) ∧ w' = w := by
  rcases cls_cases u with ⟨hz, hc⟩ | ⟨⟨h1, h2⟩, hc⟩ | ⟨⟨h1, h2⟩, hc⟩ | ⟨hz, hc⟩ | ⟨h1, hc⟩
  all_goals
    rw [hc]; clear hc
    go_enter Tryz.func75, Tryz.ntmps75
    go_wp2_with (go_at_call 72; refine (size_as _ _ _ hu h).mono ?_; rintro e w' ⟨rfl, rfl⟩)
    go_ret
    exact ⟨rfl, rfl⟩
set_option maxHeartbeats 400000 in
theorem negative_any (b : Nat) (w : World) (h : U64 b) :
    Calls Tryz.prog 76 #[.float .f64 b] w fun e w' => e = .returned (.bool (sgB b && !nanB b)) ∧ w' = w := by
  cases h1 : sgB b <;> cases h2 : nanB b
  all_goals
    go_enter Tryz.func76, Tryz.ntmps76
    go_wp2_with (first | (go_at_call 73; refine (signed_any _ _ h).mono ?_; rintro e w' ⟨rfl, rfl⟩) | (go_at_call 99; refine (isNaN_any _ _ h).mono ?_; rintro e w' ⟨rfl, rfl⟩))
    go_ret
    exact ⟨rfl, rfl⟩


theorem rank_nan {u : Int} (h : nanB u = true) : rankI u = 0 := by simp [rankI, h]
theorem rank_neg {u : Int} (h : nanB u = false) (h' : sgB u = true) : rankI u = -szI u := by simp [rankI, h, h']
theorem rank_pos {u : Int} (h : nanB u = false) (h' : sgB u = false) : rankI u = szI u := by simp [rankI, h, h']

theorem isNaN_as (b : Nat) (u : Int) (w : World) (hu : Hid (u = b)) (h : U64 u) :
    Calls Tryz.prog 99 #[.float .f64 b] w fun e w' => e = .returned (.bool (nanB u)) ∧ w' = w := by
  have e := hu.out; subst e; exact isNaN_any b w h

theorem signed_as (b : Nat) (u : Int) (w : World) (hu : Hid (u = b)) (h : U64 u) :
    Calls Tryz.prog 73 #[.float .f64 b] w fun e w' => e = .returned (.bool (sgB u)) ∧ w' = w := by
  have e := hu.out; subst e; exact signed_any b w h

set_option maxHeartbeats 400000 in
theorem rank_as (b : Nat) (u : Int) (w : World) (hu : Hid (u = b)) (h : U64 u) :
    Calls Tryz.prog 92 #[.float .f64 b] w fun e w' => e = .returned (.tuple #[.int .i64 (rankI u), .bool (!nanB u)]) ∧ w' = w := by
  have hlo := szI_lo u
  have hhi := szI_hi u
  cases h1 : nanB u
  · cases h2 : sgB u
    · rw [rank_pos h1 h2]
      go_enter Tryz.func92, Tryz.ntmps92
      go_wp2_with (first | (go_at_call 99; refine (isNaN_as _ _ _ hu h).mono ?_; rintro e w' ⟨rfl, rfl⟩) | (go_at_call 72; refine (size_as _ _ _ hu h).mono ?_; rintro e w' ⟨rfl, rfl⟩) | (go_at_call 73; refine (signed_as _ _ _ hu h).mono ?_; rintro e w' ⟨rfl, rfl⟩))
      go_ret2
      exact ⟨rfl, rfl⟩
    · rw [rank_neg h1 h2]
      go_enter Tryz.func92, Tryz.ntmps92
      go_wp2_with (first | (go_at_call 99; refine (isNaN_as _ _ _ hu h).mono ?_; rintro e w' ⟨rfl, rfl⟩) | (go_at_call 72; refine (size_as _ _ _ hu h).mono ?_; rintro e w' ⟨rfl, rfl⟩) | (go_at_call 73; refine (signed_as _ _ _ hu h).mono ?_; rintro e w' ⟨rfl, rfl⟩))
      go_ret2
      exact ⟨rfl, rfl⟩
  · rw [rank_nan h1]
    go_enter Tryz.func92, Tryz.ntmps92
    go_wp2_with (go_at_call 99; refine (isNaN_as _ _ _ hu h).mono ?_; rintro e w' ⟨rfl, rfl⟩)
    go_ret2
    exact ⟨rfl, rfl⟩
end Go.Proofs.YtphnainibdepbaaGreat
namespace Go.Proofs.YtphnainibdepbaaGreat
open Go.RowKit

theorem or_sg' {u : Int} (h0 : 0 ≤ u) (h : u < 9223372036854775808) : (bits .or .u64 u 9223372036854775808).toNat = (9223372036854775808 + u).toNat := by rw [or_sg h0 h]

set_option maxHeartbeats 400000 in
theorem withSign_pos (u : Int) (w : World) :
    Calls Tryz.prog 93 #[.int .u64 u, .bool false] w fun e w' => e = .returned (.float .f64 u.toNat) ∧ w' = w := by
  go_enter Tryz.func93, Tryz.ntmps93
  go_wp2_with (go_at_call 113; refine (float_any _ _).mono ?_; rintro e w' ⟨rfl, rfl⟩)
  go_ret
  exact ⟨rfl, rfl⟩

set_option maxHeartbeats 400000 in
theorem withSign_neg (u : Int) (w : World) (h0 : 0 ≤ u) (h : u < 9223372036854775808) :
    Calls Tryz.prog 93 #[.int .u64 u, .bool true] w fun e w' => e = .returned (.float .f64 (9223372036854775808 + u).toNat) ∧ w' = w := by
  go_enter Tryz.func93, Tryz.ntmps93
  go_wp2_with (go_at_call 113; refine (float_any _ _).mono ?_; rintro e w' ⟨rfl, rfl⟩)
  go_ret
  exact ⟨ret_f64 (or_sg' h0 h), rfl⟩

theorem atI_no {n : Int} (h : atOk n = false) : atI n = 0 := by simp [atI, h]
theorem atI_neg {n : Int} (h : atOk n = true) (h' : n < 0) : atI n = 9223372036854775808 - n := by simp [atI, h, h']
theorem atI_pos {n : Int} (h : atOk n = true) (h' : 0 ≤ n) : atI n = n := by simp [atI, h, Int.not_lt.2 h']
theorem atOk_iff (n : Int) : atOk n = true ↔ -9218868437227405312 ≤ n ∧ n ≤ 9218868437227405312 := by simp [atOk]
theorem atOk_not {n : Int} (h : atOk n = false) : n < -9218868437227405312 ∨ 9218868437227405312 < n := by
  simp only [atOk, decide_eq_false_iff_not] at h; omega
theorem ret_at {a b : Nat} {c : Bool} (h : a = b) : Ending.returned (.tuple #[.float .f64 a, .bool c]) = .returned (.tuple #[.float .f64 b, .bool c]) := by rw [h]
set_option maxHeartbeats 400000 in
theorem at_any (n : Int) (w : World) :
    Calls Tryz.prog 67 #[.int .i64 n] w fun e w' => e = .returned (.tuple #[.float .f64 (atI n).toNat, .bool (atOk n)]) ∧ w' = w := by
  cases h : atOk n
  · rw [atI_no h]
    have h1 : n < -9218868437227405312 ∨ 9218868437227405312 < n := by
      exact atOk_not h
    clear h
    rcases h1 with h1 | h1
    all_goals
      go_enter Tryz.func67, Tryz.ntmps67
      go_wp2_with fail
      go_ret2
      exact ⟨rfl, rfl⟩
  · obtain ⟨h1, h2⟩ := (atOk_iff n).1 h
    by_cases h3 : n < 0
    · rw [atI_neg h h3]
      clear h
      go_enter Tryz.func67, Tryz.ntmps67
      go_wp2_with (go_at_call 93; refine (withSign_neg _ _ (by omega) (by omega)).mono ?_; rintro e w' ⟨rfl, rfl⟩)
      go_ret2
      exact ⟨ret_at (by omega), rfl⟩
    · have h4 : 0 ≤ n := by omega
      rw [atI_pos h h4]
      clear h h3
      go_enter Tryz.func67, Tryz.ntmps67
      go_wp2_with (go_at_call 93; refine (withSign_pos _ _).mono ?_; rintro e w' ⟨rfl, rfl⟩)
      go_ret2
      exact ⟨rfl, rfl⟩

def midI (a b : Int) : Int := wrap64 (a / 2 + b / 2 + bits .and .i64 (bits .and .i64 a b) 1)
theorem rank_lo (u : Int) : -9218868437227405312 ≤ rankI u := by
  unfold rankI nanB; have := szI_lo u
  split
  · omega
  · rename_i h; simp only [decide_eq_true_eq] at h; split <;> omega
theorem rank_hi (u : Int) : rankI u ≤ 9218868437227405312 := by
  unfold rankI nanB; have := szI_lo u
  split
  · omega
  · rename_i h; simp only [decide_eq_true_eq] at h; split <;> omega

set_option maxHeartbeats 400000 in
theorem ranks_as (a b : Nat) (u v : Int) (w : World) (hu : Hid (u = a)) (hv : Hid (v = b)) (h : U64 u) (h' : U64 v) :
    Calls Tryz.prog 66 #[.float .f64 a, .float .f64 b] w fun e w' => e = .returned (.tuple #[.int .i64 (rankI u), .int .i64 (rankI v), .bool (!nanB u && !nanB v)]) ∧ w' = w := by
  cases h1 : nanB u <;> cases h2 : nanB v
  all_goals
    go_enter Tryz.func66, Tryz.ntmps66
    go_wp2_with fail
    refine (rank_as _ _ _ hu h).mono ?_
    rintro e w' ⟨rfl, rfl⟩
    go_wp2_with (go_at_call 92; refine (rank_as _ _ _ hv h').mono ?_; rintro e w' ⟨rfl, rfl⟩)
    go_ret3
    exact ⟨rfl, rfl⟩

end Go.Proofs.YtphnainibdepbaaGreat
namespace Go.Proofs.YtphnainibdepbaaGreat
open Go.RowKit

def midOk (u v : Int) : Bool := !nanB u && !nanB v && atOk (midI (rankI u) (rankI v))
def midA (u v : Int) : Int := if !nanB u && !nanB v then atI (midI (rankI u) (rankI v)) else 0

set_option maxHeartbeats 400000 in
theorem mid_as (a b : Nat) (u v : Int) (w : World) (hu : Hid (u = a)) (hv : Hid (v = b)) (h : U64 u) (h' : U64 v) :
    Calls Tryz.prog 46 #[.float .f64 a, .float .f64 b] w fun e w' => e = .returned (.tuple #[.float .f64 (midA u v).toNat, .bool (midOk u v)]) ∧ w' = w := by
  have hl := rank_lo u
  have hh := rank_hi u
  have hl' := rank_lo v
  have hh' := rank_hi v
  cases h1 : nanB u
  · cases h2 : nanB v
    · have e1 : Hid (midA u v = atI (midI (rankI u) (rankI v))) := by show _ = _; simp [midA, h1, h2]
      have e2 : Hid (midOk u v = atOk (midI (rankI u) (rankI v))) := by show _ = _; simp [midOk, h1, h2]
      rw [e1.out, e2.out]
      go_enter Tryz.func46, Tryz.ntmps46
      go_wp2_with (first | (go_at_call 66; refine (ranks_as _ _ _ _ _ hu hv h h').mono ?_; rintro e w' ⟨rfl, rfl⟩) | (go_at_call 67; refine (at_any _ _).mono ?_; rintro e w' ⟨rfl, rfl⟩))
      go_ret2
      exact ⟨rfl, rfl⟩
    · have e1 : Hid (midA u v = 0) := by show _ = _; simp [midA, h2]
      have e2 : Hid (midOk u v = false) := by show _ = _; simp [midOk, h2]
      rw [e1.out, e2.out]
      go_enter Tryz.func46, Tryz.ntmps46
      go_wp2_with (go_at_call 66; refine (ranks_as _ _ _ _ _ hu hv h h').mono ?_; rintro e w' ⟨rfl, rfl⟩)
      go_ret2
      exact ⟨rfl, rfl⟩
  · have e1 : Hid (midA u v = 0) := by show _ = _; simp [midA, h1]
    have e2 : Hid (midOk u v = false) := by show _ = _; simp [midOk, h1]
    rw [e1.out, e2.out]
    go_enter Tryz.func46, Tryz.ntmps46
    go_wp2_with (go_at_call 66; refine (ranks_as _ _ _ _ _ hu hv h h').mono ?_; rintro e w' ⟨rfl, rfl⟩)
    go_ret2
    exact ⟨rfl, rfl⟩

end Go.Proofs.YtphnainibdepbaaGreat
namespace Go.Proofs.YtphnainibdepbaaGreat
open Go.RowKit

theorem i64_and1 (n : Int) : bits .and .i64 n 1 = n % 2 := by
  have h1 : (BitVec.ofInt 64 1).toNat = 2 ^ 1 - 1 := by decide
  have key : (BitVec.ofInt 64 n &&& BitVec.ofInt 64 1).toNat = (n % ((2 ^ 64 : Nat) : Int)).toNat % 2 ^ 1 := by
    rw [BitVec.toNat_and, BitVec.toNat_ofInt, h1, Nat.and_two_pow_sub_one_eq_mod]
  show IntKind.i64.wrap ((BitVec.ofInt 64 n &&& BitVec.ofInt 64 1).toNat : Nat) = n % 2
  rw [key, IntKind.wrap_i64]
  omega

theorem and_mod2 (x y : Nat) : (x &&& y) % 2 = (x % 2) * (y % 2) := by
  have h := Nat.and_mod_two_pow (a := x) (b := y) (n := 1)
  rw [show (2 : Nat) ^ 1 = 2 from rfl] at h
  rw [h]
  have hx : x % 2 = 0 ∨ x % 2 = 1 := by omega
  have hy : y % 2 = 0 ∨ y % 2 = 1 := by omega
  rcases hx with hx | hx <;> rcases hy with hy | hy <;> rw [hx, hy] <;> rfl

theorem wrap_mod2 (z : Nat) : IntKind.i64.wrap (z : Int) % 2 = ((z % 2 : Nat) : Int) := by rw [IntKind.wrap_i64]; omega
theorem ofInt_mod2 (a : Int) : (((BitVec.ofInt 64 a).toNat % 2 : Nat) : Int) = a % 2 := by rw [BitVec.toNat_ofInt]; omega
theorem i64_and_mod2 (a b : Int) : (bits .and .i64 a b) % 2 = (a % 2) * (b % 2) := by
  show (IntKind.i64.wrap ((BitVec.ofInt 64 a &&& BitVec.ofInt 64 b).toNat : Nat)) % 2 = _
  rw [wrap_mod2, BitVec.toNat_and, and_mod2, Int.natCast_mul, ofInt_mod2, ofInt_mod2]

theorem midI_eq {a b : Int} (ha : -9218868437227405312 ≤ a) (ha' : a ≤ 9218868437227405312) (hb : -9218868437227405312 ≤ b) (hb' : b ≤ 9218868437227405312) : midI a b = (a + b) / 2 := by
  unfold midI
  rw [i64_and1, i64_and_mod2]
  have hx : a % 2 = 0 ∨ a % 2 = 1 := by omega
  have hy : b % 2 = 0 ∨ b % 2 = 1 := by omega
  have e : a / 2 + b / 2 + a % 2 * (b % 2) = (a + b) / 2 := by
    rcases hx with hx | hx <;> rcases hy with hy | hy <;> rw [hx, hy] <;> omega
  rw [e]
  unfold wrap64
  omega

theorem nan_at {n : Int} (h : atOk n = true) : nanB (atI n) = false := by
  obtain ⟨h1, h2⟩ := (atOk_iff n).1 h
  unfold nanB szI
  rw [decide_eq_false_iff_not]
  by_cases h3 : n < 0
  · rw [atI_neg h h3]; omega
  · rw [atI_pos h (by omega)]; omega
theorem sg_at {n : Int} (h : atOk n = true) : sgB (atI n) = decide (n < 0) := by
  obtain ⟨h1, h2⟩ := (atOk_iff n).1 h
  unfold sgB
  apply decide_eq_decide.2
  by_cases h3 : n < 0
  · rw [atI_neg h h3]; omega
  · rw [atI_pos h (by omega)]; omega
theorem rank_at {n : Int} (h : atOk n = true) : rankI (atI n) = n := by
  obtain ⟨h1, h2⟩ := (atOk_iff n).1 h
  unfold rankI
  rw [nan_at h, sg_at h]
  by_cases h3 : n < 0
  · simp only [h3, decide_true, if_true, Bool.false_eq_true, if_false]; rw [atI_neg h h3]; unfold szI; omega
  · simp only [h3, decide_false, Bool.false_eq_true, if_false]; rw [atI_pos h (by omega)]; unfold szI; omega

theorem mid_facts {u v : Int} (h : nanB u = false) (h' : nanB v = false) :
    midOk u v = true ∧ nanB (midA u v) = false ∧ rankI (midA u v) = (rankI u + rankI v) / 2 ∧ U64 (midA u v) := by
  have b1 := rank_lo u
  have b2 := rank_hi u
  have b3 := rank_lo v
  have b4 := rank_hi v
  have hm := midI_eq b1 b2 b3 b4
  have ho : atOk (midI (rankI u) (rankI v)) = true := by rw [hm, atOk_iff]; omega
  have e1 : midOk u v = true := by simp [midOk, h, h', ho]
  have e2 : midA u v = atI (midI (rankI u) (rankI v)) := by simp [midA, h, h']
  rw [e1, e2, nan_at ho, rank_at ho, hm]
  exact ⟨rfl, rfl, rfl, atI_u64 _⟩
end Go.Proofs.YtphnainibdepbaaGreat
namespace Go.Proofs.YtphnainibdepbaaGreat
open Go.RowKit

structure Gd (a : Nat) (r : Int) : Prop where
  u : U64 (a : Int)
  n : nanB (a : Int) = false
  e : rankI (a : Int) = r
theorem Gd.lo {a : Nat} {r : Int} (h : Gd a r) : -9218868437227405312 ≤ r := by rw [← h.e]; exact rank_lo _
theorem Gd.hi {a : Nat} {r : Int} (h : Gd a r) : r ≤ 9218868437227405312 := by rw [← h.e]; exact rank_hi _
def mdN (a b : Nat) : Nat := (midA a b).toNat
theorem md_gd {a b : Nat} {r s : Int} (h : Gd a r) (h' : Gd b s) : Gd (mdN a b) ((r + s) / 2) := by
  obtain ⟨_, e2, e3, e4⟩ := mid_facts h.n h'.n
  have e : ((midA a b).toNat : Int) = midA a b := Int.toNat_of_nonneg e4.1
  refine ⟨?_, ?_, ?_⟩
  · unfold mdN; rw [e]; exact e4
  · unfold mdN; rw [e]; exact e2
  · unfold mdN; rw [e, e3, h.e, h'.e]
theorem md_cast {a b : Nat} {r s : Int} (h : Gd a r) (h' : Gd b s) : ((mdN a b : Nat) : Int) = midA a b ∧ midOk a b = true := by
  obtain ⟨e1, _, _, e4⟩ := mid_facts h.n h'.n
  exact ⟨Int.toNat_of_nonneg e4.1, e1⟩

def rkO (v : Nat) : Option Int := if nanB (v : Int) = true then none else some (rankI (v : Int))
theorem rkO_some {v : Nat} {r : Int} (h : rkO v = some r) : nanB (v : Int) = false ∧ rankI (v : Int) = r := by
  unfold rkO at h
  cases hn : nanB (v : Int) with
  | true => rw [hn] at h; simp at h
  | false => rw [hn] at h; simp at h; exact ⟨rfl, h⟩
theorem rkO_nan {v : Nat} (h : nanB (v : Int) = true) : rkO v = none := by unfold rkO; rw [if_pos h]
theorem rkO_num {v : Nat} (h : nanB (v : Int) = false) : rkO v = some (rankI (v : Int)) := by unfold rkO; rw [if_neg (by rw [h]; simp)]
def upB (r : Int) : Bool := decide (0 < r)

def bis (F : Nat → Option Int) (up : Bool) : Nat → Nat → Nat → Nat × Nat × Int
  | 0, lo, _ => (lo, 0, 0)
  | f + 1, lo, hi => if rankI (mdN lo hi : Int) = rankI (lo : Int) then (lo, 0, 0) else
    match F (mdN lo hi) with
    | none => (0, 1, 91)
    | some v => if v = 0 then (mdN lo hi, 1, 0) else
      if upB v = up then ((bis F up f (mdN lo hi) hi).1, (bis F up f (mdN lo hi) hi).2.1 + 1, (bis F up f (mdN lo hi) hi).2.2)
      else ((bis F up f lo (mdN lo hi)).1, (bis F up f lo (mdN lo hi)).2.1 + 1, (bis F up f lo (mdN lo hi)).2.2)

theorem bis_stop {F : Nat → Option Int} {up : Bool} {f a b : Nat} (h : rankI (mdN a b : Int) = rankI (a : Int)) : bis F up f a b = (a, 0, 0) := by
  cases f with
  | zero => rfl
  | succ f => show (if _ then _ else _) = _; rw [if_pos h]
theorem bis_nan {F : Nat → Option Int} {up : Bool} {f a b : Nat} (h : ¬ rankI (mdN a b : Int) = rankI (a : Int)) (hF : F (mdN a b) = none) : bis F up (f + 1) a b = (0, 1, 91) := by
  show (if _ then _ else _) = _; rw [if_neg h, hF]
theorem bis_zero {F : Nat → Option Int} {up : Bool} {f a b : Nat} (h : ¬ rankI (mdN a b : Int) = rankI (a : Int)) (hF : F (mdN a b) = some 0) : bis F up (f + 1) a b = (mdN a b, 1, 0) := by
  show (if _ then _ else _) = _; rw [if_neg h, hF]; rfl
theorem bis_low {F : Nat → Option Int} {up : Bool} {f a b : Nat} {v : Int} (h : ¬ rankI (mdN a b : Int) = rankI (a : Int)) (hF : F (mdN a b) = some v) (h0 : v ≠ 0) (hu : upB v = up) : bis F up (f + 1) a b = ((bis F up f (mdN a b) b).1, (bis F up f (mdN a b) b).2.1 + 1, (bis F up f (mdN a b) b).2.2) := by
  show (if _ then _ else _) = _; rw [if_neg h, hF]; show (if _ then _ else _) = _; rw [if_neg h0, if_pos hu]
theorem bis_high {F : Nat → Option Int} {up : Bool} {f a b : Nat} {v : Int} (h : ¬ rankI (mdN a b : Int) = rankI (a : Int)) (hF : F (mdN a b) = some v) (h0 : v ≠ 0) (hu : ¬ upB v = up) : bis F up (f + 1) a b = ((bis F up f a (mdN a b)).1, (bis F up f a (mdN a b)).2.1 + 1, (bis F up f a (mdN a b)).2.2) := by
  show (if _ then _ else _) = _; rw [if_neg h, hF]; show (if _ then _ else _) = _; rw [if_neg h0, if_neg hu]

theorem gap_half {f : Nat} {r s : Int} (h : s - r ≤ (2 : Int) ^ (f + 1)) : s - (r + s) / 2 ≤ (2 : Int) ^ f ∧ (r + s) / 2 - r ≤ (2 : Int) ^ f := by
  rw [Int.pow_succ] at h
  generalize (2 : Int) ^ f = p at *
  omega

structure BisS (F : Nat → Option Int) (up : Bool) (R S : Int) (X N : Nat) (E : Int) (f a b k : Nat) (r s : Int) : Prop where
  ga : Gd a r
  gb : Gd b s
  lt : r < s
  gap : s - r ≤ (2 : Int) ^ f
  lo : R ≤ r
  hi : s ≤ S
  few : k + f ≤ 64
  tells : bis F up f a b = (X, N - k, E)
  cnt : k ≤ N

theorem BisS.md {F : Nat → Option Int} {up : Bool} {R S : Int} {X N : Nat} {E : Int} {f a b k : Nat} {r s : Int} (h : BisS F up R S X N E f a b k r s) : Gd (mdN a b) ((r + s) / 2) := md_gd h.ga h.gb
theorem BisS.stop {F : Nat → Option Int} {up : Bool} {R S : Int} {X N : Nat} {E : Int} {f a b k : Nat} {r s : Int} (h : BisS F up R S X N E f a b k r s) (hm : (r + s) / 2 = r) : X = a ∧ N = k ∧ E = 0 := by
  have e := h.tells
  have hc := h.cnt
  rw [bis_stop (by rw [h.md.e, h.ga.e, hm])] at e
  injection e with e1 e2
  injection e2 with e2 e3
  exact ⟨e1.symm, by omega, e3.symm⟩
theorem BisS.fuel {F : Nat → Option Int} {up : Bool} {R S : Int} {X N : Nat} {E : Int} {f a b k : Nat} {r s : Int} (h : BisS F up R S X N E f a b k r s) (hm : ¬ (r + s) / 2 = r) : ∃ g, f = g + 1 := by
  cases f with
  | zero => exfalso; have := h.gap; have := h.lt; rw [Int.pow_zero] at *; omega
  | succ g => exact ⟨g, rfl⟩
theorem BisS.nan {F : Nat → Option Int} {up : Bool} {R S : Int} {X N : Nat} {E : Int} {f a b k : Nat} {r s : Int} (h : BisS F up R S X N E f a b k r s) (hm : ¬ (r + s) / 2 = r) (hF : F (mdN a b) = none) : X = 0 ∧ N = k + 1 ∧ E = 91 := by
  obtain ⟨g, rfl⟩ := h.fuel hm
  have e := h.tells
  have hc := h.cnt
  rw [bis_nan (by rw [h.md.e, h.ga.e]; exact hm) hF] at e
  injection e with e1 e2
  injection e2 with e2 e3
  exact ⟨e1.symm, by omega, e3.symm⟩
theorem BisS.zero {F : Nat → Option Int} {up : Bool} {R S : Int} {X N : Nat} {E : Int} {f a b k : Nat} {r s : Int} (h : BisS F up R S X N E f a b k r s) (hm : ¬ (r + s) / 2 = r) (hF : F (mdN a b) = some 0) : X = mdN a b ∧ N = k + 1 ∧ E = 0 := by
  obtain ⟨g, rfl⟩ := h.fuel hm
  have e := h.tells
  have hc := h.cnt
  rw [bis_zero (by rw [h.md.e, h.ga.e]; exact hm) hF] at e
  injection e with e1 e2
  injection e2 with e2 e3
  exact ⟨e1.symm, by omega, e3.symm⟩
theorem BisS.low {F : Nat → Option Int} {up : Bool} {R S : Int} {X N : Nat} {E : Int} {f a b k : Nat} {r s v : Int} (h : BisS F up R S X N E f a b k r s) (hm : ¬ (r + s) / 2 = r) (hF : F (mdN a b) = some v) (h0 : v ≠ 0) (hu : upB v = up) : ∃ g, f = g + 1 ∧ BisS F up R S X N E g (mdN a b) b (k + 1) ((r + s) / 2) s := by
  obtain ⟨g, rfl⟩ := h.fuel hm
  have e := h.tells
  have hc := h.cnt
  have hlt := h.lt
  have hR := h.lo
  have hf := h.few
  rw [bis_low (by rw [h.md.e, h.ga.e]; exact hm) hF h0 hu] at e
  injection e with e1 e2
  injection e2 with e2 e3
  refine ⟨g, rfl, ⟨h.md, h.gb, by omega, (gap_half h.gap).1, by omega, h.hi, by omega, ?_, by omega⟩⟩
  refine Prod.ext e1 (Prod.ext ?_ e3)
  show (bis F up g (mdN a b) b).2.1 = N - (k + 1)
  omega
theorem BisS.high {F : Nat → Option Int} {up : Bool} {R S : Int} {X N : Nat} {E : Int} {f a b k : Nat} {r s v : Int} (h : BisS F up R S X N E f a b k r s) (hm : ¬ (r + s) / 2 = r) (hF : F (mdN a b) = some v) (h0 : v ≠ 0) (hu : ¬ upB v = up) : ∃ g, f = g + 1 ∧ BisS F up R S X N E g a (mdN a b) (k + 1) r ((r + s) / 2) := by
  obtain ⟨g, rfl⟩ := h.fuel hm
  have e := h.tells
  have hc := h.cnt
  have hlt := h.lt
  have hS := h.hi
  have hf := h.few
  rw [bis_high (by rw [h.md.e, h.ga.e]; exact hm) hF h0 hu] at e
  injection e with e1 e2
  injection e2 with e2 e3
  refine ⟨g, rfl, ⟨h.ga, h.md, by omega, (gap_half h.gap).2, h.lo, by omega, by omega, ?_, by omega⟩⟩
  refine Prod.ext e1 (Prod.ext ?_ e3)
  show (bis F up g a (mdN a b)).2.1 = N - (k + 1)
  omega
theorem bisS_begin (F : Nat → Option Int) (up : Bool) {a b : Nat} {r s : Int} (ga : Gd a r) (gb : Gd b s) (lt : r < s) : BisS F up r s (bis F up 64 a b).1 (bis F up 64 a b).2.1 (bis F up 64 a b).2.2 64 a b 0 r s :=
  ⟨ga, gb, lt, by have := ga.lo; have := gb.hi; omega, Int.le_refl _, Int.le_refl _, by omega, rfl, Nat.zero_le _⟩

def BisX (F : Nat → Option Int) (up : Bool) (r s : Int) (X : Nat) : Prop :=
  ∃ x, Gd X x ∧ r ≤ x ∧ x ≤ s ∧ (F X = some 0 ∨ ∃ v c z, F X = some v ∧ v ≠ 0 ∧ upB v = up ∧ Gd c (x + 1) ∧ x + 1 ≤ s ∧ F c = some z ∧ z ≠ 0 ∧ ¬ upB z = up)
theorem BisX.wide {F : Nat → Option Int} {up : Bool} {r s r' s' : Int} {X : Nat} (h : BisX F up r s X) (hr : r' ≤ r) (hs : s ≤ s') : BisX F up r' s' X := by
  obtain ⟨x, g, h1, h2, h3⟩ := h
  refine ⟨x, g, by omega, by omega, ?_⟩
  rcases h3 with h3 | ⟨v, c, z, p1, p2, p3, p4, p5, p6⟩
  · exact Or.inl h3
  · exact Or.inr ⟨v, c, z, p1, p2, p3, p4, by omega, p6⟩
theorem bis_finds (F : Nat → Option Int) (up : Bool) : ∀ (f a b : Nat) (r s : Int), Gd a r → Gd b s → r < s → s - r ≤ (2 : Int) ^ f → (∃ v, F a = some v ∧ v ≠ 0 ∧ upB v = up) → (∃ z, F b = some z ∧ z ≠ 0 ∧ ¬ upB z = up) →
    (bis F up f a b).2.1 ≤ f ∧ (((bis F up f a b).2.2 = 91 ∧ (bis F up f a b).1 = 0 ∧ ∃ c, F c = none) ∨ ((bis F up f a b).2.2 = 0 ∧ BisX F up r s (bis F up f a b).1)) := by
  intro f
  induction f with
  | zero =>
    intro a b r s ga gb lt gap ⟨v, fa, v0, vu⟩ ⟨z, fb, z0, zu⟩
    rw [Int.pow_zero] at gap
    obtain rfl : s = r + 1 := by omega
    exact ⟨Nat.le_refl _, Or.inr ⟨rfl, r, ga, by omega, by omega, Or.inr ⟨v, b, z, fa, v0, vu, gb, by omega, fb, z0, zu⟩⟩⟩
  | succ f ih =>
    intro a b r s ga gb lt gap ⟨v, fa, v0, vu⟩ ⟨z, fb, z0, zu⟩
    have gm := md_gd ga gb
    by_cases hm : (r + s) / 2 = r
    · rw [bis_stop (by rw [gm.e, ga.e, hm])]
      obtain rfl : s = r + 1 := by omega
      exact ⟨Nat.zero_le _, Or.inr ⟨rfl, r, ga, by omega, by omega, Or.inr ⟨v, b, z, fa, v0, vu, gb, by omega, fb, z0, zu⟩⟩⟩
    · have hm' : ¬ rankI (mdN a b : Int) = rankI (a : Int) := by rw [gm.e, ga.e]; exact hm
      cases hF : F (mdN a b) with
      | none => rw [bis_nan hm' hF]; exact ⟨by show 1 ≤ f + 1; omega, Or.inl ⟨rfl, rfl, _, hF⟩⟩
      | some y =>
        by_cases y0 : y = 0
        · subst y0
          rw [bis_zero hm' hF]
          exact ⟨by show 1 ≤ f + 1; omega, Or.inr ⟨rfl, _, gm, by omega, by omega, Or.inl hF⟩⟩
        · by_cases hu : upB y = up
          · rw [bis_low hm' hF y0 hu]
            obtain ⟨h1, h2⟩ := ih (mdN a b) b _ s gm gb (by omega) (gap_half gap).1 ⟨y, hF, y0, hu⟩ ⟨z, fb, z0, zu⟩
            refine ⟨by show _ + 1 ≤ f + 1; omega, ?_⟩
            rcases h2 with h2 | ⟨h2, h3⟩
            · exact Or.inl h2
            · exact Or.inr ⟨h2, h3.wide (by omega) (Int.le_refl _)⟩
          · rw [bis_high hm' hF y0 hu]
            obtain ⟨h1, h2⟩ := ih a (mdN a b) r _ ga gm (by omega) (gap_half gap).2 ⟨v, fa, v0, vu⟩ ⟨y, hF, y0, hu⟩
            refine ⟨by show _ + 1 ≤ f + 1; omega, ?_⟩
            rcases h2 with h2 | ⟨h2, h3⟩
            · exact Or.inl h2
            · exact Or.inr ⟨h2, h3.wide (Int.le_refl _) (by omega)⟩
end Go.Proofs.YtphnainibdepbaaGreat
