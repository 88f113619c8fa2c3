/- The contract of Horner: steps from the right, each rounded. -/
import Derived.Test.YtdmldggjgaaliaaGreatFRow
import Derived.Test.YtdmldggjgaaliaaGreatFlo
namespace Go.Proofs.YtdmldggjgaaliaaGreat
open Go.RowKit

/-- The NaN that the tape gives. -/
def nanAns (x y : Nat) (w : World) : Nat := (Question.nanBits .f64 x y).cut (w.tape w.drawn (.nanBits .f64 x y))
theorem nanAns_nan (x y : Nat) (w : World) : nanB (nanAns x y w) = true ∧ nanAns x y w < 18446744073709551616 := by
  unfold nanAns
  generalize w.tape w.drawn (.nanBits .f64 x y) = t
  show nanB (((t % 2) * 2 ^ 63 + 0x7ff0000000000000 + 1 + (t / 2) % (2 ^ 52 - 1) : Nat) : Int) = true ∧ ((t % 2) * 2 ^ 63 + 0x7ff0000000000000 + 1 + (t / 2) % (2 ^ 52 - 1) : Nat) < _
  have h1 : t % 2 < 2 := Nat.mod_lt _ (by decide)
  have h2 : (t / 2) % (2 ^ 52 - 1) < 2 ^ 52 - 1 := Nat.mod_lt _ (by decide)
  generalize t % 2 = a at *
  generalize (t / 2) % (2 ^ 52 - 1) = b at *
  unfold nanB szI
  refine ⟨?_, by omega⟩
  rw [decide_eq_true_eq]; omega
theorem run_arith_nan {P : Program} (op : BinOp) (ho : op = .add ∨ op = .sub ∨ op = .mul ∨ op = .quo) (t : TypeId) (x y : Nat) (h : floatBits op .f64 x y = none) (w : World) : (binOp op t (.float .f64 x) (.float .f64 y)).run P w = .ok (.float .f64 (nanAns x y w)) w.drew := by
  rcases ho with rfl | rfl | rfl | rfl <;> unfold floatBits at h <;> simp only at h <;> simp [binOp, Op.floatArith, h, Question.forced, nanAns]
theorem nan_left {op : BinOp} {x y : Nat} (h : nanB x = true) : floatBits op .f64 x y = none := by
  obtain ⟨f, e⟩ := read_nan (nan_true h)
  unfold floatBits
  cases op <;> dsimp only <;> first | rfl | skip
  · show ((Ieee.double.read x).sum (Ieee.double.read y)).map Ieee.double.write = _; rw [e]; rfl
  · show ((Ieee.double.read x).sum (Ieee.double.read y).opposite).map Ieee.double.write = _; rw [e]; rfl
  · show ((Ieee.double.read x).product (Ieee.double.read y)).map Ieee.double.write = _; rw [e]; rfl
  · show ((Ieee.double.read x).quotient 54 (Ieee.double.read y)).map Ieee.double.write = _; rw [e]; rfl
theorem nan_right {op : BinOp} {x y : Nat} (h : nanB y = true) : floatBits op .f64 x y = none := by
  obtain ⟨f, e⟩ := read_nan (nan_true h)
  unfold floatBits
  cases op <;> dsimp only <;> first | rfl | skip
  · show ((Ieee.double.read x).sum (Ieee.double.read y)).map Ieee.double.write = _; rw [e]; cases Ieee.double.read x <;> rfl
  · show ((Ieee.double.read x).sum (Ieee.double.read y).opposite).map Ieee.double.write = _; rw [e]; cases Ieee.double.read x <;> rfl
  · show ((Ieee.double.read x).product (Ieee.double.read y)).map Ieee.double.write = _; rw [e]; cases Ieee.double.read x <;> rfl
  · show ((Ieee.double.read x).quotient 54 (Ieee.double.read y)).map Ieee.double.write = _; rw [e]; cases Ieee.double.read x <;> rfl

/-- Bits that are what is told; where nothing is told, a NaN. -/
def Ag (o : Option Nat) (b : Nat) : Prop := match o with | some r => b = r | none => nanB b = true ∧ b < 18446744073709551616
theorem ag_some {r b : Nat} (h : Ag (some r) b) : b = r := h
theorem ag_none {b : Nat} (h : Ag none b) : nanB b = true ∧ b < 18446744073709551616 := h
def stepO (x : Nat) (p : Option Nat) (c : Nat) : Option Nat := (p.bind fun p => floatBits .mul .f64 p x).bind fun q => floatBits .add .f64 q c
def hornAt (cs : List Nat) (x : Nat) : Nat → Option Nat
  | 0 => some (cs.getD (cs.length - 1) 0)
  | i + 1 => stepO x (hornAt cs x i) (cs.getD (cs.length - 2 - i) 0)
def hornO (cs : List Nat) (x : Nat) : Option Nat := if cs.length = 0 then some 0 else hornAt cs x (cs.length - 1)

theorem bind_ag {o : Option Nat} {a : Nat} (h : Ag o a) (op : BinOp) (x : Nat) : (o.bind fun p => floatBits op .f64 p x) = floatBits op .f64 a x := by
  cases o with
  | some r => rw [ag_some h]; rfl
  | none => rw [nan_left (ag_none h).1]; rfl
theorem stepO_ag {o : Option Nat} {a : Nat} (h : Ag o a) (x y : Nat) : stepO x o y = (floatBits .mul .f64 a x).bind fun q => floatBits .add .f64 q y := by
  unfold stepO; rw [bind_ag h]
theorem drew_one {w wr : World} (h : ∃ q, wr = w.drewN q) : ∃ q, wr.drew = w.drewN q := by
  obtain ⟨q, e⟩ := h; exact ⟨q + 1, by rw [e]; rfl⟩
