/- The contract of Horner: steps from the right, each rounded. The contract of the document's Mul at any bits. -/
import Derived.Test.YtcbbbkngjdlcjaaHaq
import Derived.Test.YtcbbbkngjdlcjaaHap
namespace Go.Proofs.Ytcbbbkngjdlcjaa
open Go.RowKit

/-- The NaN that the tape gives. -/
def nanAns (x y : Nat) (w : World) : Nat := (Question.nanBits .f64 x y).cut (w.tape w.drawn (.nanBits .f64 x y))
theorem nanAns_nan (x y : Nat) (w : World) : nanB (nanAns x y w) = true ∧ nanAns x y w < 18446744073709551616 := by
  unfold nanAns
  generalize w.tape w.drawn (.nanBits .f64 x y) = t
  show nanB (((t % 2) * 2 ^ 63 + 0x7ff0000000000000 + 1 + (t / 2) % (2 ^ 52 - 1) : Nat) : Int) = true ∧ ((t % 2) * 2 ^ 63 + 0x7ff0000000000000 + 1 + (t / 2) % (2 ^ 52 - 1) : Nat) < _
  have h1 : t % 2 < 2 := Nat.mod_lt _ (by decide)
  have h2 : (t / 2) % (2 ^ 52 - 1) < 2 ^ 52 - 1 := Nat.mod_lt _ (by decide)
  generalize t % 2 = a at *
  generalize (t / 2) % (2 ^ 52 - 1) = b at *
  unfold nanB szI
  refine ⟨?_, by omega⟩
  rw [decide_eq_true_eq]; omega
theorem run_arith_nan {P : Program} (op : BinOp) (ho : op = .add ∨ op = .sub ∨ op = .mul ∨ op = .quo) (t : TypeId) (x y : Nat) (h : floatBits op .f64 x y = none) (w : World) : (binOp op t (.float .f64 x) (.float .f64 y)).run P w = .ok (.float .f64 (nanAns x y w)) w.drew := by
  rcases ho with rfl | rfl | rfl | rfl <;> unfold floatBits at h <;> simp only at h <;> simp [binOp, Op.floatArith, h, Question.forced, nanAns]
theorem nan_left {op : BinOp} {x y : Nat} (h : nanB x = true) : floatBits op .f64 x y = none := by
  obtain ⟨f, e⟩ := read_nan (nan_true h)
  unfold floatBits
  cases op <;> dsimp only <;> first | rfl | skip
  · show ((Ieee.double.read x).sum (Ieee.double.read y)).map Ieee.double.write = _; rw [e]; rfl
  · show ((Ieee.double.read x).sum (Ieee.double.read y).opposite).map Ieee.double.write = _; rw [e]; rfl
  · show ((Ieee.double.read x).product (Ieee.double.read y)).map Ieee.double.write = _; rw [e]; rfl
  · show ((Ieee.double.read x).quotient 54 (Ieee.double.read y)).map Ieee.double.write = _; rw [e]; rfl
theorem nan_right {op : BinOp} {x y : Nat} (h : nanB y = true) : floatBits op .f64 x y = none := by
  obtain ⟨f, e⟩ := read_nan (nan_true h)
  unfold floatBits
  cases op <;> dsimp only <;> first | rfl | skip
  · show ((Ieee.double.read x).sum (Ieee.double.read y)).map Ieee.double.write = _; rw [e]; cases Ieee.double.read x <;> rfl
  · show ((Ieee.double.read x).sum (Ieee.double.read y).opposite).map Ieee.double.write = _; rw [e]; cases Ieee.double.read x <;> rfl
  · show ((Ieee.double.read x).product (Ieee.double.read y)).map Ieee.double.write = _; rw [e]; cases Ieee.double.read x <;> rfl
  · show ((Ieee.double.read x).quotient 54 (Ieee.double.read y)).map Ieee.double.write = _; rw [e]; cases Ieee.double.read x <;> rfl

/-- Bits that are what is told; where nothing is told, a NaN. -/
def Ag (o : Option Nat) (b : Nat) : Prop := match o with | some r => b = r | none => nanB b = true ∧ b < 18446744073709551616
theorem ag_some {r b : Nat} (h : Ag (some r) b) : b = r := h
theorem ag_none {b : Nat} (h : Ag none b) : nanB b = true ∧ b < 18446744073709551616 := h
def stepO (x : Nat) (p : Option Nat) (c : Nat) : Option Nat := (p.bind fun p => floatBits .mul .f64 p x).bind fun q => floatBits .add .f64 q c
def hornAt (cs : List Nat) (x : Nat) : Nat → Option Nat
  | 0 => some (cs.getD (cs.length - 1) 0)
  | i + 1 => stepO x (hornAt cs x i) (cs.getD (cs.length - 2 - i) 0)
def hornO (cs : List Nat) (x : Nat) : Option Nat := if cs.length = 0 then some 0 else hornAt cs x (cs.length - 1)

theorem bind_ag {o : Option Nat} {a : Nat} (h : Ag o a) (op : BinOp) (x : Nat) : (o.bind fun p => floatBits op .f64 p x) = floatBits op .f64 a x := by
  cases o with
  | some r => rw [ag_some h]; rfl
  | none => rw [nan_left (ag_none h).1]; rfl
theorem stepO_ag {o : Option Nat} {a : Nat} (h : Ag o a) (x y : Nat) : stepO x o y = (floatBits .mul .f64 a x).bind fun q => floatBits .add .f64 q y := by
  unfold stepO; rw [bind_ag h]
theorem drew_one {w wr : World} (h : ∃ q, wr = w.drewN q) : ∃ q, wr.drew = w.drewN q := by
  obtain ⟨q, e⟩ := h; exact ⟨q + 1, by rw [e]; rfl⟩
end Go.Proofs.Ytcbbbkngjdlcjaa
namespace Go.Proofs.Ytcbbbkngjdlcjaa
open Go.RowKit

/-- What is told; where nothing is told, the document's NaN. -/
def cn (o : Option Nat) : Nat := o.getD 9221120237041090561
theorem cn_none : cn none = 9221120237041090561 := rfl
theorem cn_some (r : Nat) : cn (some r) = r := rfl
/-- The sign's bit. -/
def sbit (s : Bool) : Int := if s then 9223372036854775808 else 0
theorem tb63 {b : Nat} (h : b < 18446744073709551616) : b.testBit 63 = sgB (b : Int) := by
  rw [Nat.testBit_eq_decide_div_mod_eq]
  unfold sgB
  apply decide_eq_decide.2
  omega
theorem xor_sg {u v : Int} (h : U64 u) (h' : U64 v) : bits .and .u64 (bits .xor .u64 u v) 9223372036854775808 = sbit (sgB u ^^ sgB v) := by
  obtain ⟨a, rfl⟩ := Int.eq_ofNat_of_zero_le h.1
  obtain ⟨b, rfl⟩ := Int.eq_ofNat_of_zero_le h'.1
  have ha : a < 18446744073709551616 := by have := h.2; omega
  have hb : b < 18446744073709551616 := by have := h'.2; omega
  have hx : a ^^^ b < 18446744073709551616 := Nat.xor_lt_two_pow (n := 64) ha hb
  rw [bits_xor_u64_nat a b ha hb, and_sg (u64_of_nat hx), ← tb63 hx, Nat.testBit_xor, tb63 ha, tb63 hb]
  rfl
theorem sgn_abs (neg : Bool) (N : Nat) : (sg neg N).natAbs = N := by unfold sg; cases neg <;> simp
theorem near_sz (neg : Bool) (N : Nat) (E : Int) : U64 (nearM neg N E false) ∧ szI (nearM neg N E false) = (if N = 0 then 0 else (nearR N E : Int)) := by
  by_cases h0 : N = 0
  · have : nearM neg N E false = 0 := by unfold nearM; rw [if_pos h0]
    rw [this, if_pos h0]
    exact ⟨by unfold U64; omega, by decide⟩
  · rw [nearM_eq neg E h0, if_neg h0]
    have hle : nearR N E ≤ 9218868437227405312 := Nat.min_le_right _ _
    generalize nearR N E = r at *
    unfold U64 szI
    cases neg
    · rw [if_neg (by decide)]; omega
    · rw [if_pos rfl]; omega
/-- What is read of a product. -/
def sizeM (T : Nat) : Int := if T = 0 then 0 else (nearR T (-2148) : Int)
theorem sizeM_le (T : Nat) : 0 ≤ sizeM T ∧ sizeM T ≤ 9218868437227405312 := by
  unfold sizeM
  have hle : nearR T (-2148) ≤ 9218868437227405312 := Nat.min_le_right _ _
  split <;> omega
theorem mulR_sz (s : Bool) (T : Nat) : (mulR s T : Int) = sbit s + sizeM T := by
  unfold mulR sizeM sbit wrd
  by_cases h0 : T = 0
  · rw [if_pos h0, if_pos h0]; cases s <;> simp
  · rw [if_neg h0, if_neg h0]
    generalize nearR T (-2148) = r
    cases s <;> simp
theorem mul_val {x y X Y N : Nat} {nx ny neg : Bool} {ex ey E : Int} (hX : OfR x nx X ex) (hY : OfR y ny Y ey) (hs : sg neg N = sg nx X * sg ny Y) (hE : E = ex + ey ∨ (E = 0 ∧ N = 0)) :
    U64 (nearM neg N E false) ∧ szI (nearM neg N E false) = sizeM (aV x * aV y) ∧ nd N ≤ 1000000 ∧ -10000000 ≤ E ∧ E ≤ 10000000 := by
  have hN : N = X * Y := by
    have := congrArg Int.natAbs hs
    rw [Int.natAbs_mul, sgn_abs, sgn_abs, sgn_abs] at this; exact this
  obtain ⟨a, b⟩ := near_sz neg N E
  have hnd : nd N ≤ 1000000 := by
    refine Nat.le_trans (nd_mono (k := 4) ?_) (by omega)
    rw [hN]
    have := Nat.mul_lt_mul'' hX.lt hY.lt
    omega
  have l1 := hX.lo
  have l2 := hX.hi
  have l3 := hY.lo
  have l4 := hY.hi
  refine ⟨a, ?_, hnd, by omega, by omega⟩
  rw [b]
  unfold sizeM
  have hT : aV x * aV y = N * 2 ^ ((ex + 1074).toNat + (ey + 1074).toNat) := by
    rw [← hX.val, ← hY.val, hN, Nat.pow_add, Nat.mul_mul_mul_comm]
  have hp := Nat.two_pow_pos ((ex + 1074).toNat + (ey + 1074).toNat)
  by_cases h0 : N = 0
  · rw [if_pos h0, if_pos (by rw [hT, h0, Nat.zero_mul])]
  · have h1 : aV x * aV y ≠ 0 := by rw [hT]; have := Nat.mul_pos (show 0 < N by omega) hp; omega
    rw [if_neg h0, if_neg h1, hT]
    have hEE : E = ex + ey := by
      rcases hE with h | ⟨_, h⟩
      · exact h
      · exact absurd h h0
    have := nearR_scale h0 ((ex + 1074).toNat + (ey + 1074).toNat) (ex + ey)
    rw [show ex + ey - (((ex + 1074).toNat + (ey + 1074).toNat : Nat) : Int) = -2148 by omega] at this
    rw [this, hEE]

theorem bits_class {x : Nat} {u : Int} (hu : u = (x : Int)) : szI u = ((x % 9223372036854775808 : Nat) : Int) := by rw [hu]; exact szI_nat x
theorem num_of {x : Nat} {u : Int} (hu : u = (x : Int)) (h1 : nanB u = false) (h2 : infB u = false) : NumB x := by
  have := bits_class hu
  unfold nanB at h1
  unfold infB at h2
  unfold NumB
  rw [decide_eq_false_iff_not] at h1
  have h3 : szI u ≠ 9218868437227405312 := by simpa using h2
  omega
theorem inf_of {x : Nat} {u : Int} (hu : u = (x : Int)) (h2 : infB u = true) : x % 9223372036854775808 = 9218868437227405312 := by
  have := bits_class hu
  unfold infB at h2
  have h3 : szI u = 9218868437227405312 := by simpa using h2
  omega
theorem mul_inf_zero {x y : Nat} (hx : x % 9223372036854775808 = 9218868437227405312) (hy : y % 9223372036854775808 = 0) : floatBits .mul .f64 x y = none ∧ floatBits .mul .f64 y x = none := by
  have e : Ieee.double.read y = .number (y / 9223372036854775808 % 2 == 1) 0 (-1074) := by rw [read_num (by omega), hy]; rfl
  constructor
  · show ((Ieee.double.read x).product (Ieee.double.read y)).map Ieee.double.write = _
    rw [read_inf hx, e]; rfl
  · show ((Ieee.double.read y).product (Ieee.double.read x)).map Ieee.double.write = _
    rw [read_inf hx, e]; rfl
theorem write_inf (s : Bool) : Ieee.double.write (.infinity s) = wrd s 9218868437227405312 := by cases s <;> decide +kernel
theorem mg_pos {r : Nat} (h : r ≠ 0) : mg r ≠ 0 := by unfold mg; split <;> omega
theorem mul_inf_num {x y : Nat} (hx : x % 9223372036854775808 = 9218868437227405312) (hy : NumB y) (h0 : y % 9223372036854775808 ≠ 0) : floatBits .mul .f64 x y = some (wrd (sB x ^^ sB y) 9218868437227405312) ∧ floatBits .mul .f64 y x = some (wrd (sB y ^^ sB x) 9218868437227405312) := by
  have hm := mg_pos h0
  constructor
  · show ((Ieee.double.read x).product (Ieee.double.read y)).map Ieee.double.write = _
    rw [read_inf hx, read_num hy]
    show (if mg (y % 9223372036854775808) = 0 then none else some (Ieee.Datum.infinity (_ ^^ _))).map Ieee.double.write = _
    rw [if_neg hm]
    show some (Ieee.double.write (.infinity _)) = _
    rw [write_inf]; rfl
  · show ((Ieee.double.read y).product (Ieee.double.read x)).map Ieee.double.write = _
    rw [read_inf hx, read_num hy]
    show (if mg (y % 9223372036854775808) = 0 then none else some (Ieee.Datum.infinity (_ ^^ _))).map Ieee.double.write = _
    rw [if_neg hm]
    show some (Ieee.double.write (.infinity _)) = _
    rw [write_inf, Bool.xor_comm]; rfl
theorem mul_inf_inf {x y : Nat} (hx : x % 9223372036854775808 = 9218868437227405312) (hy : y % 9223372036854775808 = 9218868437227405312) : floatBits .mul .f64 x y = some (wrd (sB x ^^ sB y) 9218868437227405312) := by
  show ((Ieee.double.read x).product (Ieee.double.read y)).map Ieee.double.write = _
  rw [read_inf hx, read_inf hy]
  show some (Ieee.double.write (.infinity _)) = _
  rw [write_inf]; rfl
end Go.Proofs.Ytcbbbkngjdlcjaa
