/- A number above 0 as m * 2^k, m about 1: what about1 tells, and the document. The document's steps over what may be a NaN. -/
import Derived.Test.YtbkmbdbjeiffpaaHbe
import Derived.Test.YtbkmbdbjeiffpaaHbd
import Derived.Test.YtbkmbdbjeiffpaaHav
namespace Go.Proofs.Ytbkmbdbjeiffpaa
open Go.RowKit

/-- The bits of N * 2^(1 - L), L being N's length. -/
def oneB (N : Nat) : Nat := 4602678819172646912 + N * 2 ^ (52 - N.log2)
theorem oneB_parts {N : Nat} (h0 : N ≠ 0) (h : N < 9007199254740992) : 4503599627370496 ≤ N * 2 ^ (52 - N.log2) ∧ N * 2 ^ (52 - N.log2) < 9007199254740992 := by
  have hl : N.log2 ≤ 52 := by have := (Nat.log2_lt h0).2 (show N < 2 ^ 53 from h); omega
  have a := Nat.log2_self_le h0
  have b : N < 2 ^ (N.log2 + 1) := Nat.lt_log2_self
  constructor
  · have := Nat.mul_le_mul_right (2 ^ (52 - N.log2)) a
    rw [← Nat.pow_add, show N.log2 + (52 - N.log2) = 52 by omega] at this; exact this
  · have := Nat.mul_lt_mul_of_pos_right b (Nat.two_pow_pos (52 - N.log2))
    rw [← Nat.pow_add, show N.log2 + 1 + (52 - N.log2) = 53 by omega] at this; exact this
theorem oneB_near {N : Nat} (h0 : N ≠ 0) (h : N < 9007199254740992) : nearR N (-(N.log2 : Int)) = oneB N := by
  have hl : N.log2 ≤ 52 := by have := (Nat.log2_lt h0).2 (show N < 2 ^ 53 from h); omega
  obtain ⟨p1, p2⟩ := oneB_parts h0 h
  have e := nearR_scale h0 (52 - N.log2) (-(N.log2 : Int))
  rw [show -(N.log2 : Int) - ((52 - N.log2 : Nat) : Int) = -52 by omega] at e
  rw [← e]
  unfold oneB
  generalize N * 2 ^ (52 - N.log2) = k at *
  have m1 : mg (4602678819172646912 + k) = k := by unfold mg; rw [if_neg (by omega)]; omega
  have m2 : pl (4602678819172646912 + k) = 1022 := by unfold pl; omega
  have := nearR_mg (r := 4602678819172646912 + k) (by omega) (by omega)
  rw [m1, m2] at this
  exact this
theorem oneB_rng {N : Nat} (h0 : N ≠ 0) (h : N < 9007199254740992) : 4607182418800017408 ≤ oneB N ∧ oneB N < 4611686018427387904 := by
  obtain ⟨p1, p2⟩ := oneB_parts h0 h
  unfold oneB; omega
/-- Half of a number of the middle. -/
theorem half_V {r : Nat} (h : 9007199254740992 ≤ r) : V r = 2 * V (r - 4503599627370496) ∧ mg (r - 4503599627370496) = mg r ∧ pl r = pl (r - 4503599627370496) + 1 := by
  have e1 : mg (r - 4503599627370496) = mg r := by unfold mg; rw [if_neg (by omega), if_neg (by omega)]; omega
  have e2 : pl r = pl (r - 4503599627370496) + 1 := by unfold pl; omega
  refine ⟨?_, e1, e2⟩
  unfold V
  rw [e1, e2, Nat.pow_succ, ← Nat.mul_assoc, Nat.mul_comm]
theorem ne_mul_pow {v K : Nat} (h : v ≠ 0) : v * 2 ^ K ≠ 0 := Nat.mul_ne_zero h (Nat.pos_iff_ne_zero.1 (Nat.two_pow_pos K))
theorem wrd_plain (x : Nat) : wrd (false ^^ false) x = x := rfl
theorem half_mul {r : Nat} (h : 9007199254740992 ≤ r) (h2 : r < 9218868437227405312) : floatBits .mul .f64 r 4602678819172646912 = some (r - 4503599627370496) := by
  obtain ⟨K, hK⟩ : ∃ K : Nat, K = 1074 := ⟨_, rfl⟩
  have hP : P2 (-1) = 4602678819172646912 := by decide +kernel
  obtain ⟨a1, a2, _⟩ := P2_num (k := -1) (by omega) (by omega)
  have a3 := aV_P2 (k := -1) (by omega) (by omega)
  rw [hP] at a1 a2 a3
  have hr : NumB r := by unfold NumB; omega
  rw [mul_num hr a1, a2, a3]
  refine congrArg some ?_
  have hs : sB r = false := by unfold sB; rw [show r / 9223372036854775808 = 0 by omega]; rfl
  have ha : aV r = V r := by unfold aV; rw [Nat.mod_eq_of_lt (by omega)]
  have hT : V r * 2 ^ ((-1 : Int) + 1074).toNat = V (r - 4503599627370496) * 2 ^ K := by
    rw [(half_V h).1, show ((-1 : Int) + 1074).toNat = K - 1 by omega, show K = (K - 1) + 1 by omega, Nat.pow_succ, Nat.add_sub_cancel, Nat.mul_comm 2, Nat.mul_assoc, Nat.mul_comm 2]
  rw [ha, hT, hs]
  unfold mulR
  have hv : V (r - 4503599627370496) ≠ 0 := fun e => by have := zero_V2 e; omega
  rw [if_neg (ne_mul_pow hv)]
  have := nearR_V (r := r - 4503599627370496) (by omega) K
  rw [show (-1074 - (K : Int)) = -2148 by omega] at this
  rw [this]; exact wrd_plain _
theorem half_quo {r : Nat} (h : 9007199254740992 ≤ r) (h2 : r < 9218868437227405312) : floatBits .quo .f64 r 4611686018427387904 = some (r - 4503599627370496) := by
  have hr : NumB r := by unfold NumB; omega
  have hm : r % 9223372036854775808 = r := Nat.mod_eq_of_lt (by omega)
  have hX0 : mg r ≠ 0 := mg_pos (by omega)
  have hXg : 4503599627370496 ≤ mg r := mg_ge (by omega)
  have hlg : 52 ≤ (mg r).log2 := (Nat.le_log2 hX0).2 hXg
  have hY : mg (4611686018427387904 % 9223372036854775808) = 4503599627370496 := by decide
  have hpY : pl (4611686018427387904 % 9223372036854775808) = 1023 := by decide
  have hYl : Nat.log2 4503599627370496 = 52 := by decide
  have e := quo_num (x := r) (y := 4611686018427387904) hr (by unfold NumB; decide) (by omega) (by decide) (X := mg r) (Y := 4503599627370496) (ex := -1074 + (pl r : Int)) (ey := -51) (by rw [hm]) hY.symm (by rw [hm]) (by rw [hpY]; rfl) (k := 54) (by rw [hYl]; omega)
  rw [e]
  refine congrArg some ?_
  have hq : quoS (mg r) 4503599627370496 54 = mg r * 2 ^ 3 := by
    unfold quoS
    rw [show (2 : Nat) ^ 54 = 4 * 4503599627370496 from rfl, ← Nat.mul_assoc, Nat.mul_div_cancel _ (by decide), Nat.mul_mod_left, if_pos rfl]; omega
  have hs : sB r = false := by unfold sB; rw [show r / 9223372036854775808 = 0 by omega]; rfl
  have hs2 : sB 4611686018427387904 = false := by decide
  rw [hq, hs, hs2]
  obtain ⟨v1, v2, v3⟩ := half_V h
  have e2 := nearR_scale hX0 3 (-1074 + (pl r : Int) - 1)
  rw [show -1074 + (pl r : Int) - 1 - ((3 : Nat) : Int) = -1074 + (pl r : Int) - -51 - 1 - ((54 : Nat) : Int) by omega] at e2
  rw [e2, ← v2, v3, show -1074 + ((pl (r - 4503599627370496) + 1 : Nat) : Int) - 1 = -1074 + (pl (r - 4503599627370496) : Int) by omega, nearR_mg (by omega) (by omega)]
  exact wrd_plain _

/-- m and k of a number above 0. -/
def lnM (N : Nat) : Nat := if 4609047870845172685 < oneB N then oneB N - 4503599627370496 else oneB N
def lnK (N : Nat) (e : Int) : Int := if 4609047870845172685 < oneB N then e + (N.log2 : Int) + 1 else e + (N.log2 : Int)
theorem lnM_num {N : Nat} (h0 : N ≠ 0) (h : N < 9007199254740992) : NumB (lnM N) ∧ lnM N < 9218868437227405312 := by
  obtain ⟨a, b⟩ := oneB_rng h0 h
  unfold lnM NumB
  split <;> omega
theorem gt_bits {m : Nat} (h : m < 9218868437227405312) : (FloatKind.f64.format.order m 4609047870845172685 == some .gt) = decide (4609047870845172685 < m) := by
  have u1 : U64 (m : Int) := by unfold U64; omega
  have u2 : U64 ((4609047870845172685 : Nat) : Int) := by unfold U64; omega
  have r1 := rank_small (b := m) h
  have r2 := rank_small (b := 4609047870845172685) (by decide)
  rw [gt_rank u1 u2 r1.2.1 r2.2.1, r1.2.2, r2.2.2]
  exact decide_eq_decide.2 (by omega)

theorem about1_any (x N : Nat) (e : Int) (hx : U64 x) (hn : NumB x) (ho : OfR x false N e) (h0 : N ≠ 0) (w : World) :
    Calls Try.prog 84 #[.float .f64 x] w fun r w' => r = .returned (.tuple #[.float .f64 (lnM N), .int .i64 (lnK N e)]) ∧ ∃ q, w' = w.drewN q := by
  have hx64 : x < 18446744073709551616 := by have := hx.2; omega
  obtain ⟨s1, s2, _⟩ := split_of ho hx64 hn h0
  have hlt := ho.lt
  have hlo := ho.lo
  have hhi := ho.hi
  have hl : N.log2 ≤ 52 := by have := (Nat.log2_lt h0).2 (show N < 2 ^ 53 from hlt); omega
  have hS : Hid (∀ w, Calls Try.prog 81 #[.float .f64 x] w fun r w' => r = .returned (.tuple #[.int .i64 (N : Int), .int .i64 e, .bool (splOk (x : Int))]) ∧ w' = w) := fun w => by
    have := split_as x x w rfl hx
    rw [s1, s2] at this; exact this
  have hL : Hid (∀ w, Calls Try.prog 97 #[.int .u64 (N : Int)] w fun r w' => r = .returned (.int .i64 ((N.log2 : Int) + 1)) ∧ w' = w) := fun w => by
    have := Try.bits_Len (N : Int) w (by omega) (by omega)
    rw [Int.toNat_natCast, bitLen_log2 h0 (by omega)] at this
    exact this
  have hJ : Hid (∀ w, Calls Try.prog 82 #[.int .i64 (N : Int), .int .i64 (1 - ((N.log2 : Int) + 1))] w fun r w' => r = .returned (.float .f64 (oneB N)) ∧ ∃ q, w' = w.drewN q) := fun w => by
    have := join_any (N : Int) (1 - ((N.log2 : Int) + 1)) w (by omega) (by omega)
    have e : joinN (N : Int) (1 - ((N.log2 : Int) + 1)) = oneB N := by
      unfold joinN
      rw [if_neg (by omega), if_neg (by omega), Int.natAbs_natCast, show 1 - ((N.log2 : Int) + 1) = -(N.log2 : Int) by omega, oneB_near h0 hlt]
    rw [e] at this; exact this
  obtain ⟨o1, o2⟩ := oneB_rng h0 hlt
  have := about1_at x (oneB N) (oneB N - 4503599627370496) (N : Int) e ((N.log2 : Int) + 1) _ _ w hS (by omega) (by omega) hL (by omega) hJ (gt_bits (by omega)) (half_quo (by omega) (by omega))
  refine this.mono ?_
  rintro r w' ⟨rfl, hq⟩
  refine ⟨?_, hq⟩
  unfold lnM lnK
  by_cases c : 4609047870845172685 < oneB N
  · rw [if_pos c, if_pos c, decide_eq_true c]
    simp only [if_true]
    rw [show e + ((N.log2 : Int) + 1) = e + (N.log2 : Int) + 1 by omega]
  · rw [if_neg c, if_neg c, decide_eq_false c]
    simp only [Bool.false_eq_true, if_false]
    rw [show e + ((N.log2 : Int) + 1) - 1 = e + (N.log2 : Int) by omega]
end Go.Proofs.Ytbkmbdbjeiffpaa
namespace Go.Proofs.Ytbkmbdbjeiffpaa
open Go.RowKit

theorem opO_cn (op : BinOp) (o o' : Option Nat) : floatBits op .f64 (cn o) (cn o') = opO op o o' := (opO_ag (ag_cn o) (ag_cn o')).symm

theorem opO_lt {op : BinOp} (ho : op = .add ∨ op = .sub ∨ op = .mul ∨ op = .quo) (o o' : Option Nat) : cn (opO op o o') < 18446744073709551616 := by rw [← opO_cn]; exact cn_lt ho _ _

theorem mul_cn {o o' : Option Nat} {u v z : Int} (hu : u = (cn o : Int)) (hv : v = (cn o' : Int)) (h : U64 u) (h' : U64 v) (hz : z = (cn (opO .mul o o') : Int)) (w : World) :
    Calls Try.prog 26 #[.int .u64 u, .int .u64 v] w fun e w' => e = .returned (.int .u64 z) ∧ Below w.heap.size w w' := by
  have := refMul_any (cn o) (cn o') u v w hu hv h h'
  rw [opO_cn, ← hz] at this; exact this

theorem add_cn {o o' : Option Nat} {u v z : Int} (hu : u = (cn o : Int)) (hv : v = (cn o' : Int)) (h : U64 u) (h' : U64 v) (hz : z = (cn (opO .add o o') : Int)) (w : World) :
    Calls Try.prog 25 #[.int .u64 u, .int .u64 v] w fun e w' => e = .returned (.int .u64 z) ∧ Below w.heap.size w w' := by
  have := refAdd_any (cn o) (cn o') u v w hu hv h h'
  rw [opO_cn, ← hz] at this; exact this

theorem sub_cn {o o' : Option Nat} {u v z : Int} (hu : u = (cn o : Int)) (hv : v = (cn o' : Int)) (h : U64 u) (h' : U64 v) (hz : z = (cn (opO .sub o o') : Int)) (w : World) :
    Calls Try.prog 36 #[.int .u64 u, .int .u64 v] w fun e w' => e = .returned (.int .u64 z) ∧ Below w.heap.size w w' := by
  have := refSub_any (cn o) (cn o') u v w hu hv h h'
  rw [opO_cn, ← hz] at this; exact this

theorem u64_opO {op : BinOp} (ho : op = .add ∨ op = .sub ∨ op = .mul ∨ op = .quo) (o o' : Option Nat) {z : Int} (hz : z = (cn (opO op o o') : Int)) : U64 z := by rw [hz]; exact u64_of_nat (opO_lt ho o o')

end Go.Proofs.Ytbkmbdbjeiffpaa
