/- The contract of Horner: steps from the right, each rounded. The contract of the document's Mul at any bits. -/
import Derived.Test.YtbkmbdbjeiffpaaHaq
import Derived.Test.YtbkmbdbjeiffpaaHap
namespace Go.Proofs.Ytbkmbdbjeiffpaa
open Go.RowKit

/-- The NaN that the tape gives. -/
def nanAns (x y : Nat) (w : World) : Nat := (Question.nanBits .f64 x y).cut (w.tape w.drawn (.nanBits .f64 x y))
theorem nanAns_nan (x y : Nat) (w : World) : nanB (nanAns x y w) = true ∧ nanAns x y w < 18446744073709551616 := by
  unfold nanAns
  generalize w.tape w.drawn (.nanBits .f64 x y) = t
  show nanB (((t % 2) * 2 ^ 63 + 0x7ff0000000000000 + 1 + (t / 2) % (2 ^ 52 - 1) : Nat) : Int) = true ∧ ((t % 2) * 2 ^ 63 + 0x7ff0000000000000 + 1 + (t / 2) % (2 ^ 52 - 1) : Nat) < _
  have h1 : t % 2 < 2 := Nat.mod_lt _ (by decide)
  have h2 : (t / 2) % (2 ^ 52 - 1) < 2 ^ 52 - 1 := Nat.mod_lt _ (by decide)
  generalize t % 2 = a at *
  generalize (t / 2) % (2 ^ 52 - 1) = b at *
  unfold nanB szI
  refine ⟨?_, by omega⟩
  rw [decide_eq_true_eq]; omega
theorem run_arith_nan {P : Program} (op : BinOp) (ho : op = .add ∨ op = .sub ∨ op = .mul ∨ op = .quo) (t : TypeId) (x y : Nat) (h : floatBits op .f64 x y = none) (w : World) : (binOp op t (.float .f64 x) (.float .f64 y)).run P w = .ok (.float .f64 (nanAns x y w)) w.drew := by
  rcases ho with rfl | rfl | rfl | rfl <;> unfold floatBits at h <;> simp only at h <;> simp [binOp, Op.floatArith, h, Question.forced, nanAns]
theorem nan_left {op : BinOp} {x y : Nat} (h : nanB x = true) : floatBits op .f64 x y = none := by
  obtain ⟨f, e⟩ := read_nan (nan_true h)
  unfold floatBits
  cases op <;> dsimp only <;> first | rfl | skip
  · show ((Ieee.double.read x).sum (Ieee.double.read y)).map Ieee.double.write = _; rw [e]; rfl
  · show ((Ieee.double.read x).sum (Ieee.double.read y).opposite).map Ieee.double.write = _; rw [e]; rfl
  · show ((Ieee.double.read x).product (Ieee.double.read y)).map Ieee.double.write = _; rw [e]; rfl
  · show ((Ieee.double.read x).quotient 54 (Ieee.double.read y)).map Ieee.double.write = _; rw [e]; rfl
theorem nan_right {op : BinOp} {x y : Nat} (h : nanB y = true) : floatBits op .f64 x y = none := by
  obtain ⟨f, e⟩ := read_nan (nan_true h)
  unfold floatBits
  cases op <;> dsimp only <;> first | rfl | skip
  · show ((Ieee.double.read x).sum (Ieee.double.read y)).map Ieee.double.write = _; rw [e]; cases Ieee.double.read x <;> rfl
  · show ((Ieee.double.read x).sum (Ieee.double.read y).opposite).map Ieee.double.write = _; rw [e]; cases Ieee.double.read x <;> rfl
  · show ((Ieee.double.read x).product (Ieee.double.read y)).map Ieee.double.write = _; rw [e]; cases Ieee.double.read x <;> rfl
  · show ((Ieee.double.read x).quotient 54 (Ieee.double.read y)).map Ieee.double.write = _; rw [e]; cases Ieee.double.read x <;> rfl

/-- Bits that are what is told; where nothing is told, a NaN. -/
def Ag (o : Option Nat) (b : Nat) : Prop := match o with | some r => b = r | none => nanB b = true ∧ b < 18446744073709551616
theorem ag_some {r b : Nat} (h : Ag (some r) b) : b = r := h
theorem ag_none {b : Nat} (h : Ag none b) : nanB b = true ∧ b < 18446744073709551616 := h
def stepO (x : Nat) (p : Option Nat) (c : Nat) : Option Nat := (p.bind fun p => floatBits .mul .f64 p x).bind fun q => floatBits .add .f64 q c
def hornAt (cs : List Nat) (x : Nat) : Nat → Option Nat
  | 0 => some (cs.getD (cs.length - 1) 0)
  | i + 1 => stepO x (hornAt cs x i) (cs.getD (cs.length - 2 - i) 0)
def hornO (cs : List Nat) (x : Nat) : Option Nat := if cs.length = 0 then some 0 else hornAt cs x (cs.length - 1)

theorem bind_ag {o : Option Nat} {a : Nat} (h : Ag o a) (op : BinOp) (x : Nat) : (o.bind fun p => floatBits op .f64 p x) = floatBits op .f64 a x := by
  cases o with
  | some r => rw [ag_some h]; rfl
  | none => rw [nan_left (ag_none h).1]; rfl
theorem stepO_ag {o : Option Nat} {a : Nat} (h : Ag o a) (x y : Nat) : stepO x o y = (floatBits .mul .f64 a x).bind fun q => floatBits .add .f64 q y := by
  unfold stepO; rw [bind_ag h]
theorem drew_one {w wr : World} (h : ∃ q, wr = w.drewN q) : ∃ q, wr.drew = w.drewN q := by
  obtain ⟨q, e⟩ := h; exact ⟨q + 1, by rw [e]; rfl⟩

set_option maxHeartbeats 800000 in
theorem horner_any (p : Option Addr) (g off c x n : Nat) (cs : List Nat) (w : World) (hs : Src w p g off cs) (hN : cs.length = n) (hn : n ≤ 1000000) :
    Calls Try.prog 79 #[.slice p n c, .float .f64 x] w fun e w' => ∃ r, e = .returned (.float .f64 r) ∧ Ag (hornO cs x) r ∧ ∃ q, w' = w.drewN q := by
  have HS := hideS hs
  have HN := hideS hN
  by_cases h0 : n = 0
  · subst h0
    have HR : Hid (hornO cs x = some 0) := by show _ = _; unfold hornO; rw [if_pos hN]
    clear hs hN HS HN
    go_enter Try.func79, Try.ntmps79
    go_wp2
    go_ret
    exact ⟨_, rfl, by rw [HR.out]; rfl, 0, rfl⟩
  obtain ⟨m, rfl⟩ : ∃ m, n = m + 1 := ⟨n - 1, by omega⟩
  obtain rfl := hs.at_ (by omega)
  have hc0 := hs.cell m (by omega)
  have HR : Hid (hornO cs x = hornAt cs x m) := by show _ = _; unfold hornO; rw [if_neg (by omega), hN]; rfl
  have HA0 : Hid (hornAt cs x 0 = some (cs.getD m 0)) := by show _ = _; unfold hornAt; rw [hN]; rfl
  have HA1 : Hid (∀ i, hornAt cs x (i + 1) = stepO x (hornAt cs x i) (cs.getD (m - 1 - i) 0)) := fun i => by
    show stepO x (hornAt cs x i) (cs.getD (cs.length - 2 - i) 0) = _
    rw [hN]; rfl
  generalize cs.getD m 0 = p0 at hc0 HA0
  clear hs hN h0
  go_enter Try.func79, Try.ntmps79
  go_wp2_with fail
  go_loopw [6, 19] (fun s i wr => ∃ k a : Nat, k ≤ m ∧ i = .int .i64 k ∧ s = .float .f64 a ∧ Hid (Ag (hornAt cs x k) a) ∧ Hid (∃ q, wr = w.drewN q)) (fun _ i _ => m - (intOf i).toNat)
  case atStart => exact ⟨0, p0, Nat.zero_le _, rfl, rfl, by rw [HA0.out]; rfl, ⟨0, rfl⟩⟩
  case round =>
    obtain ⟨k, a, hk, rfl, rfl, HA, HQ⟩ := hrel
    by_cases hlt : k < m
    · have hcx : wr.cell? ⟨g, off + (m - 1 - k), none⟩ = some (.float .f64 (cs.getD (m - 1 - k) 0)) := by
        obtain ⟨q, e⟩ := HQ.out
        rw [e]; exact HS.out.cell (m - 1 - k) (by rw [HN.out]; omega)
      have HA2 := hideS (HA1.out k)
      obtain ⟨j, hj⟩ : ∃ j : Nat, m - 1 - k = j := ⟨_, rfl⟩
      have hj2 : (m : Int) - 1 - k = j := by omega
      rw [hj] at hcx HA2
      clear hj
      generalize cs.getD j 0 = y at hcx HA2
      rw [stepO_ag HA.out] at HA2
      clear HA HA1 HA0
      cases hq : floatBits .mul .f64 a x with
      | some q =>
        have r1 := fun w => run_float_arith (P := Try.prog) w .mul 22 .f64 a x q hq
        cases hr : floatBits .add .f64 q y with
        | some r =>
          have r2 := fun w => run_float_arith (P := Try.prog) w .add 22 .f64 q y r hr
          have HE : Hid (Ag (hornAt cs x (k + 1)) r) := by rw [HA2.out, hq]; show Ag (floatBits .add .f64 q y) r; rw [hr]; rfl
          clear hq hr HA2
          go_wp2
          go_roundw
          case rel => exact ⟨k + 1, r, by omega, by simp, rfl, HE, HQ⟩
          case measure => simp [intOf]; omega
        | none =>
          have r2 := run_arith_nan (P := Try.prog) .add (by simp) 22 q y hr
          have HE : Hid (∀ z, Ag (hornAt cs x (k + 1)) (nanAns q y z)) := fun z => by rw [HA2.out, hq]; show Ag (floatBits .add .f64 q y) _; rw [hr]; exact nanAns_nan q y z
          clear hq hr HA2
          go_wp2
          go_roundw
          case rel => exact ⟨k + 1, _, by omega, by simp, rfl, HE.out _, drew_one HQ.out⟩
          case measure => simp [intOf]; omega
      | none =>
        have r1 := run_arith_nan (P := Try.prog) .mul (by simp) 22 a x hq
        have r2 := fun z => run_arith_nan (P := Try.prog) .add (by simp) 22 (nanAns a x z) y (nan_left (nanAns_nan a x z).1)
        have HE : Hid (∀ z z', Ag (hornAt cs x (k + 1)) (nanAns (nanAns a x z) y z')) := fun z z' => by rw [HA2.out, hq]; exact nanAns_nan _ y z'
        clear hq HA2
        go_wp2
        go_roundw
        case rel => exact ⟨k + 1, _, by omega, by simp, rfl, HE.out _ _, drew_one (drew_one HQ.out)⟩
        case measure => simp [intOf]; omega
    · obtain rfl : k = m := by omega
      go_wp2
      go_ret
      exact ⟨_, rfl, by rw [HR.out]; exact HA.out, HQ.out⟩
end Go.Proofs.Ytbkmbdbjeiffpaa
namespace Go.Proofs.Ytbkmbdbjeiffpaa
open Go.RowKit

/-- What is told; where nothing is told, the document's NaN. -/
def cn (o : Option Nat) : Nat := o.getD 9221120237041090561
theorem cn_none : cn none = 9221120237041090561 := rfl
theorem cn_some (r : Nat) : cn (some r) = r := rfl
/-- The sign's bit. -/
def sbit (s : Bool) : Int := if s then 9223372036854775808 else 0
theorem tb63 {b : Nat} (h : b < 18446744073709551616) : b.testBit 63 = sgB (b : Int) := by
  rw [Nat.testBit_eq_decide_div_mod_eq]
  unfold sgB
  apply decide_eq_decide.2
  omega
theorem xor_sg {u v : Int} (h : U64 u) (h' : U64 v) : bits .and .u64 (bits .xor .u64 u v) 9223372036854775808 = sbit (sgB u ^^ sgB v) := by
  obtain ⟨a, rfl⟩ := Int.eq_ofNat_of_zero_le h.1
  obtain ⟨b, rfl⟩ := Int.eq_ofNat_of_zero_le h'.1
  have ha : a < 18446744073709551616 := by have := h.2; omega
  have hb : b < 18446744073709551616 := by have := h'.2; omega
  have hx : a ^^^ b < 18446744073709551616 := Nat.xor_lt_two_pow (n := 64) ha hb
  rw [bits_xor_u64_nat a b ha hb, and_sg (u64_of_nat hx), ← tb63 hx, Nat.testBit_xor, tb63 ha, tb63 hb]
  rfl
theorem sgn_abs (neg : Bool) (N : Nat) : (sg neg N).natAbs = N := by unfold sg; cases neg <;> simp
theorem near_sz (neg : Bool) (N : Nat) (E : Int) : U64 (nearM neg N E false) ∧ szI (nearM neg N E false) = (if N = 0 then 0 else (nearR N E : Int)) := by
  by_cases h0 : N = 0
  · have : nearM neg N E false = 0 := by unfold nearM; rw [if_pos h0]
    rw [this, if_pos h0]
    exact ⟨by unfold U64; omega, by decide⟩
  · rw [nearM_eq neg E h0, if_neg h0]
    have hle : nearR N E ≤ 9218868437227405312 := Nat.min_le_right _ _
    generalize nearR N E = r at *
    unfold U64 szI
    cases neg
    · rw [if_neg (by decide)]; omega
    · rw [if_pos rfl]; omega
/-- What is read of a product. -/
def sizeM (T : Nat) : Int := if T = 0 then 0 else (nearR T (-2148) : Int)
theorem sizeM_le (T : Nat) : 0 ≤ sizeM T ∧ sizeM T ≤ 9218868437227405312 := by
  unfold sizeM
  have hle : nearR T (-2148) ≤ 9218868437227405312 := Nat.min_le_right _ _
  split <;> omega
theorem mulR_sz (s : Bool) (T : Nat) : (mulR s T : Int) = sbit s + sizeM T := by
  unfold mulR sizeM sbit wrd
  by_cases h0 : T = 0
  · rw [if_pos h0, if_pos h0]; cases s <;> simp
  · rw [if_neg h0, if_neg h0]
    generalize nearR T (-2148) = r
    cases s <;> simp
theorem mul_val {x y X Y N : Nat} {nx ny neg : Bool} {ex ey E : Int} (hX : OfR x nx X ex) (hY : OfR y ny Y ey) (hs : sg neg N = sg nx X * sg ny Y) (hE : E = ex + ey ∨ (E = 0 ∧ N = 0)) :
    U64 (nearM neg N E false) ∧ szI (nearM neg N E false) = sizeM (aV x * aV y) ∧ nd N ≤ 1000000 ∧ -10000000 ≤ E ∧ E ≤ 10000000 := by
  have hN : N = X * Y := by
    have := congrArg Int.natAbs hs
    rw [Int.natAbs_mul, sgn_abs, sgn_abs, sgn_abs] at this; exact this
  obtain ⟨a, b⟩ := near_sz neg N E
  have hnd : nd N ≤ 1000000 := by
    refine Nat.le_trans (nd_mono (k := 4) ?_) (by omega)
    rw [hN]
    have := Nat.mul_lt_mul'' hX.lt hY.lt
    omega
  have l1 := hX.lo
  have l2 := hX.hi
  have l3 := hY.lo
  have l4 := hY.hi
  refine ⟨a, ?_, hnd, by omega, by omega⟩
  rw [b]
  unfold sizeM
  have hT : aV x * aV y = N * 2 ^ ((ex + 1074).toNat + (ey + 1074).toNat) := by
    rw [← hX.val, ← hY.val, hN, Nat.pow_add, Nat.mul_mul_mul_comm]
  have hp := Nat.two_pow_pos ((ex + 1074).toNat + (ey + 1074).toNat)
  by_cases h0 : N = 0
  · rw [if_pos h0, if_pos (by rw [hT, h0, Nat.zero_mul])]
  · have h1 : aV x * aV y ≠ 0 := by rw [hT]; have := Nat.mul_pos (show 0 < N by omega) hp; omega
    rw [if_neg h0, if_neg h1, hT]
    have hEE : E = ex + ey := by
      rcases hE with h | ⟨_, h⟩
      · exact h
      · exact absurd h h0
    have := nearR_scale h0 ((ex + 1074).toNat + (ey + 1074).toNat) (ex + ey)
    rw [show ex + ey - (((ex + 1074).toNat + (ey + 1074).toNat : Nat) : Int) = -2148 by omega] at this
    rw [this, hEE]

theorem bits_class {x : Nat} {u : Int} (hu : u = (x : Int)) : szI u = ((x % 9223372036854775808 : Nat) : Int) := by rw [hu]; exact szI_nat x
theorem num_of {x : Nat} {u : Int} (hu : u = (x : Int)) (h1 : nanB u = false) (h2 : infB u = false) : NumB x := by
  have := bits_class hu
  unfold nanB at h1
  unfold infB at h2
  unfold NumB
  rw [decide_eq_false_iff_not] at h1
  have h3 : szI u ≠ 9218868437227405312 := by simpa using h2
  omega
theorem inf_of {x : Nat} {u : Int} (hu : u = (x : Int)) (h2 : infB u = true) : x % 9223372036854775808 = 9218868437227405312 := by
  have := bits_class hu
  unfold infB at h2
  have h3 : szI u = 9218868437227405312 := by simpa using h2
  omega
theorem mul_inf_zero {x y : Nat} (hx : x % 9223372036854775808 = 9218868437227405312) (hy : y % 9223372036854775808 = 0) : floatBits .mul .f64 x y = none ∧ floatBits .mul .f64 y x = none := by
  have e : Ieee.double.read y = .number (y / 9223372036854775808 % 2 == 1) 0 (-1074) := by rw [read_num (by omega), hy]; rfl
  constructor
  · show ((Ieee.double.read x).product (Ieee.double.read y)).map Ieee.double.write = _
    rw [read_inf hx, e]; rfl
  · show ((Ieee.double.read y).product (Ieee.double.read x)).map Ieee.double.write = _
    rw [read_inf hx, e]; rfl
theorem write_inf (s : Bool) : Ieee.double.write (.infinity s) = wrd s 9218868437227405312 := by cases s <;> decide +kernel
theorem mg_pos {r : Nat} (h : r ≠ 0) : mg r ≠ 0 := by unfold mg; split <;> omega
theorem mul_inf_num {x y : Nat} (hx : x % 9223372036854775808 = 9218868437227405312) (hy : NumB y) (h0 : y % 9223372036854775808 ≠ 0) : floatBits .mul .f64 x y = some (wrd (sB x ^^ sB y) 9218868437227405312) ∧ floatBits .mul .f64 y x = some (wrd (sB y ^^ sB x) 9218868437227405312) := by
  have hm := mg_pos h0
  constructor
  · show ((Ieee.double.read x).product (Ieee.double.read y)).map Ieee.double.write = _
    rw [read_inf hx, read_num hy]
    show (if mg (y % 9223372036854775808) = 0 then none else some (Ieee.Datum.infinity (_ ^^ _))).map Ieee.double.write = _
    rw [if_neg hm]
    show some (Ieee.double.write (.infinity _)) = _
    rw [write_inf]; rfl
  · show ((Ieee.double.read y).product (Ieee.double.read x)).map Ieee.double.write = _
    rw [read_inf hx, read_num hy]
    show (if mg (y % 9223372036854775808) = 0 then none else some (Ieee.Datum.infinity (_ ^^ _))).map Ieee.double.write = _
    rw [if_neg hm]
    show some (Ieee.double.write (.infinity _)) = _
    rw [write_inf, Bool.xor_comm]; rfl
theorem mul_inf_inf {x y : Nat} (hx : x % 9223372036854775808 = 9218868437227405312) (hy : y % 9223372036854775808 = 9218868437227405312) : floatBits .mul .f64 x y = some (wrd (sB x ^^ sB y) 9218868437227405312) := by
  show ((Ieee.double.read x).product (Ieee.double.read y)).map Ieee.double.write = _
  rw [read_inf hx, read_inf hy]
  show some (Ieee.double.write (.infinity _)) = _
  rw [write_inf]; rfl

set_option maxHeartbeats 1600000 in
theorem refMul_nan (u v : Int) (w : World) (h : U64 u) (h' : U64 v) (hc : nanB u = true ∨ (nanB u = false ∧ nanB v = true) ∨ (nanB u = false ∧ nanB v = false ∧ infB u = true ∧ (szI v == 0) = true) ∨ (nanB u = false ∧ nanB v = false ∧ infB u = false ∧ infB v = true ∧ (szI u == 0) = true)) :
    Calls Try.prog 26 #[.int .u64 u, .int .u64 v] w fun e w' => e = .returned (.int .u64 9221120237041090561) ∧ w' = w := by
  have hS := xor_sg h h'
  rcases hc with h1 | ⟨h1, h2⟩ | ⟨h1, h2, h3, h4⟩ | ⟨h1, h2, h3, h4, h5⟩
  all_goals
    go_enter Try.func26, Try.ntmps26
    go_wp2_with (first | (go_at_call_of 47 (Value.int IntKind.u64 u); refine (refNaN_any u _ h).mono ?_; rintro e w' ⟨rfl, rfl⟩) | (go_at_call_of 47 (Value.int IntKind.u64 v); refine (refNaN_any v _ h').mono ?_; rintro e w' ⟨rfl, rfl⟩) | (go_at_call_of 48 (Value.int IntKind.u64 u); refine (refInf_any u _ h).mono ?_; rintro e w' ⟨rfl, rfl⟩) | (go_at_call_of 48 (Value.int IntKind.u64 v); refine (refInf_any v _ h').mono ?_; rintro e w' ⟨rfl, rfl⟩) | (go_at_call_of 32 (Value.int IntKind.u64 u); refine (refSize_any u _ h).mono ?_; rintro e w' ⟨rfl, rfl⟩) | (go_at_call_of 32 (Value.int IntKind.u64 v); refine (refSize_any v _ h').mono ?_; rintro e w' ⟨rfl, rfl⟩))
    go_ret
    exact ⟨rfl, rfl⟩

set_option maxHeartbeats 1600000 in
theorem refMul_inf (u v S : Int) (w : World) (h : U64 u) (h' : U64 v) (hS : bits .and .u64 (bits .xor .u64 u v) 9223372036854775808 = S) (hS0 : 0 ≤ S) (hS1 : S ≤ 9223372036854775808) (hn : nanB u = false) (hn' : nanB v = false) (hc : (infB u = true ∧ infB v = true ∧ (szI v == 0) = false ∧ (szI u == 0) = false) ∨ (infB u = true ∧ infB v = false ∧ (szI v == 0) = false) ∨ (infB u = false ∧ infB v = true ∧ (szI u == 0) = false)) :
    Calls Try.prog 26 #[.int .u64 u, .int .u64 v] w fun e w' => e = .returned (.int .u64 (S + 9218868437227405312)) ∧ w' = w := by
  rcases hc with ⟨h1, h2, h3, h4⟩ | ⟨h1, h2, h3⟩ | ⟨h1, h2, h3⟩
  all_goals
    go_enter Try.func26, Try.ntmps26
    go_wp2_with (first | (go_at_call_of 47 (Value.int IntKind.u64 u); refine (refNaN_any u _ h).mono ?_; rintro e w' ⟨rfl, rfl⟩) | (go_at_call_of 47 (Value.int IntKind.u64 v); refine (refNaN_any v _ h').mono ?_; rintro e w' ⟨rfl, rfl⟩) | (go_at_call_of 48 (Value.int IntKind.u64 u); refine (refInf_any u _ h).mono ?_; rintro e w' ⟨rfl, rfl⟩) | (go_at_call_of 48 (Value.int IntKind.u64 v); refine (refInf_any v _ h').mono ?_; rintro e w' ⟨rfl, rfl⟩) | (go_at_call_of 32 (Value.int IntKind.u64 u); refine (refSize_any u _ h).mono ?_; rintro e w' ⟨rfl, rfl⟩) | (go_at_call_of 32 (Value.int IntKind.u64 v); refine (refSize_any v _ h').mono ?_; rintro e w' ⟨rfl, rfl⟩))
    go_ret
    exact ⟨rfl, rfl⟩

theorem turnedR {P : Program} {f : Nat} {args : Array Value} {w : World} {Q : Ending → Prop} (h : Calls P f args w fun e w' => Q e ∧ w' = w) : Calls P f args w fun e w' => Q e ∧ w = w' :=
  h.mono fun _ _ ⟨a, b⟩ => ⟨a, b.symm⟩
theorem refSize_at (u r : Int) (w : World) (h : U64 u) (hr : szI u = r) :
    Calls Try.prog 32 #[.int .u64 u] w fun e w' => e = .returned (.int .u64 r) ∧ w = w' := by
  rw [← hr]; exact (refSize_any u w h).mono fun _ _ ⟨a, b⟩ => ⟨a, b.symm⟩

set_option maxHeartbeats 1600000 in
theorem refMul_num (x y : Nat) (u v S R : Int) (w : World) (hu : Hid (u = (x : Int))) (hv : Hid (v = (y : Int))) (h : U64 u) (h' : U64 v) (hx : NumB x) (hy : NumB y) (hS : bits .and .u64 (bits .xor .u64 u v) 9223372036854775808 = S) (hS0 : 0 ≤ S) (hS1 : S ≤ 9223372036854775808) (hR : Hid (sizeM (aV x * aV y) = R)) (hn : nanB u = false) (hn' : nanB v = false) (hi : infB u = false) (hi' : infB v = false) :
    Calls Try.prog 26 #[.int .u64 u, .int .u64 v] w fun e w' => e = .returned (.int .u64 (S + R)) ∧ Below w.heap.size w w' := by
  have HX := hide hx
  have HY := hide hy
  obtain ⟨hR0, hR1⟩ := sizeM_le (aV x * aV y)
  rw [hR.out] at hR0 hR1
  have HN1 := hide (refNaN_any u · h)
  have HN2 := hide (refNaN_any v · h')
  have HI1 := hide (refInf_any u · h)
  have HI2 := hide (refInf_any v · h')
  rw [hn] at HN1
  rw [hn'] at HN2
  rw [hi] at HI1
  rw [hi'] at HI2
  have HO1 := hide fun w => of_num x u w hu h hx
  have HO2 := hide fun w => of_num y v w hv h' hy
  clear hx hy hn hn' hi hi' h h'
  go_enter Try.func26, Try.ntmps26
  go_wp2_with fail
  refine (turnedR (HN1.out _)).mono ?_
  rintro e w' ⟨rfl, rfl⟩
  go_wp2_with fail
  refine (turnedR (HN2.out _)).mono ?_
  rintro e w' ⟨rfl, rfl⟩
  go_wp2_with fail
  refine (turnedR (HI1.out _)).mono ?_
  rintro e w' ⟨rfl, rfl⟩
  go_wp2_with fail
  refine (turnedR (HI2.out _)).mono ?_
  rintro e w' ⟨rfl, rfl⟩
  go_wp2_with fail
  refine (turnedR (HI1.out _)).mono ?_
  rintro e w' ⟨rfl, rfl⟩
  go_wp2_with fail
  refine (turnedR (HI2.out _)).mono ?_
  rintro e w' ⟨rfl, rfl⟩
  go_wp2_with fail
  refine (HO1.out _).mono ?_
  rintro r w1 ⟨nx, vx, X, ex, rfl, hdx, hX, hb1⟩
  have HB1 := hide hb1
  have HDx := hide hdx
  have HX := hide hX
  clear hb1 hdx hX
  go_wp2_with fail
  refine (HO2.out _).mono ?_
  rintro r w2 ⟨ny, vy, Y, ey, rfl, hdy, hY, hb2⟩
  have HB2 := hide (HB1.out.trans (hb2.mono HB1.out.size))
  have HDx2 := hide (HDx.out.below hb2)
  have HDy := hide hdy
  have HY := hide hY
  clear hb2 hdy hY HB1 HDx
  have HT := hide (times_any nx ny vx vy ex ey X Y w2 HDx2.out HDy.out (by have := nd_two HX.out.lt; omega) (by have := nd_two HY.out.lt; omega) (by have := HX.out.lo; omega) (by have := HX.out.hi; omega) (by have := HY.out.lo; omega) (by have := HY.out.hi; omega))
  go_wp2_with fail
  refine HT.out.mono ?_
  rintro r w3 ⟨neg, vs, N, E, rfl, hds, hfs, hs, hE, hb3⟩
  have HB3 := hide (HB2.out.trans (hb3.mono HB2.out.size))
  obtain ⟨q1, q2, q3, q4, q5⟩ := mul_val HX.out HY.out hs hE
  rw [hR.out] at q2
  have HNr := hide (near_agg neg vs E N w3 hds q3 q4 q5)
  obtain ⟨Z, hZ⟩ : ∃ Z, nearM neg N E false = Z := ⟨_, rfl⟩
  rw [hZ] at HNr q1 q2
  have HSz : Hid (∀ w, Calls Try.prog 32 #[.int .u64 Z] w fun e w' => e = .returned (.int .u64 R) ∧ w = w') := fun w => refSize_at Z R w q1 q2
  clear hds hfs hs hE hb3 HB2 q1 q2 q3 q4 q5 hZ HT HDx2 HDy HX HY
  go_wp2_with fail
  refine HNr.out.mono ?_
  rintro r w4 ⟨rfl, hb4⟩
  have HB4 := hide (HB3.out.trans (hb4.mono HB3.out.size))
  clear hb4 HNr HB3
  go_wp2_with fail
  refine (HSz.out _).mono ?_
  rintro r w5 ⟨rfl, rfl⟩
  go_wp2_with fail
  go_ret
  exact ⟨rfl, HB4.out⟩

theorem sbit_le (s : Bool) : 0 ≤ sbit s ∧ sbit s ≤ 9223372036854775808 := by unfold sbit; split <;> omega
theorem wrd_sbit (s : Bool) (r : Nat) : (wrd s r : Int) = sbit s + r := by unfold wrd sbit; cases s <;> simp
theorem nan_bits {x : Nat} {u : Int} (hu : u = (x : Int)) : nanB u = nanB (x : Int) := by rw [hu]
/-- The document's Mul is the model's. -/
theorem refMul_any (x y : Nat) (u v : Int) (w : World) (hu : Hid (u = (x : Int))) (hv : Hid (v = (y : Int))) (h : U64 u) (h' : U64 v) :
    Calls Try.prog 26 #[.int .u64 u, .int .u64 v] w fun e w' => e = .returned (.int .u64 (cn (floatBits .mul .f64 x y) : Int)) ∧ Below w.heap.size w w' := by
  have hS := xor_sg h h'
  obtain ⟨s0, s1⟩ := sbit_le (sgB u ^^ sgB v)
  have hx64 : x < 18446744073709551616 := by have := h.2; rw [hu.out] at this; omega
  have hy64 : y < 18446744073709551616 := by have := h'.2; rw [hv.out] at this; omega
  have hsx : sgB u = sB x := by rw [hu.out]; exact sgB_nat hx64
  have hsy : sgB v = sB y := by rw [hv.out]; exact sgB_nat hy64
  have cx := bits_class hu.out
  have cy := bits_class hv.out
  have same : ∀ {r : Int}, (Calls Try.prog 26 #[.int .u64 u, .int .u64 v] w fun e w' => e = .returned (.int .u64 r) ∧ w' = w) → (cn (floatBits .mul .f64 x y) : Int) = r → Calls Try.prog 26 #[.int .u64 u, .int .u64 v] w fun e w' => e = .returned (.int .u64 (cn (floatBits .mul .f64 x y) : Int)) ∧ Below w.heap.size w w' := fun hc e => by
    rw [e]
    exact hc.mono fun _ _ ⟨a, b⟩ => ⟨a, by rw [b]; exact Below.refl _ _⟩
  cases hn : nanB u with
  | true =>
    refine same (refMul_nan u v w h h' (Or.inl hn)) ?_
    rw [nan_left (by rw [← hu.out]; exact hn)]; rfl
  | false =>
    cases hn' : nanB v with
    | true =>
      refine same (refMul_nan u v w h h' (Or.inr (Or.inl ⟨hn, hn'⟩))) ?_
      rw [nan_right (by rw [← hv.out]; exact hn')]; rfl
    | false =>
      cases hi : infB u with
      | true =>
        have ix := inf_of hu.out hi
        cases hi' : infB v with
        | true =>
          have iy := inf_of hv.out hi'
          refine same (refMul_inf u v _ w h h' hS s0 s1 hn hn' (Or.inl ⟨hi, hi', by rw [cy, iy]; rfl, by rw [cx, ix]; rfl⟩)) ?_
          rw [mul_inf_inf ix iy, cn_some, wrd_sbit, hsx, hsy]; rfl
        | false =>
          have ny := num_of hv.out hn' hi'
          by_cases hz : y % 9223372036854775808 = 0
          · refine same (refMul_nan u v w h h' (Or.inr (Or.inr (Or.inl ⟨hn, hn', hi, by rw [cy, hz]; rfl⟩)))) ?_
            rw [(mul_inf_zero ix hz).1]; rfl
          · refine same (refMul_inf u v _ w h h' hS s0 s1 hn hn' (Or.inr (Or.inl ⟨hi, hi', by rw [cy]; simp; omega⟩))) ?_
            rw [(mul_inf_num ix ny hz).1, cn_some, wrd_sbit, hsx, hsy]; rfl
      | false =>
        have nx := num_of hu.out hn hi
        cases hi' : infB v with
        | true =>
          have iy := inf_of hv.out hi'
          by_cases hz : x % 9223372036854775808 = 0
          · refine same (refMul_nan u v w h h' (Or.inr (Or.inr (Or.inr ⟨hn, hn', hi, hi', by rw [cx, hz]; rfl⟩)))) ?_
            rw [(mul_inf_zero iy hz).2]; rfl
          · refine same (refMul_inf u v _ w h h' hS s0 s1 hn hn' (Or.inr (Or.inr ⟨hi, hi', by rw [cx]; simp; omega⟩))) ?_
            rw [(mul_inf_num iy nx hz).2, cn_some, wrd_sbit, hsx, hsy]; rfl
        | false =>
          have ny := num_of hv.out hn' hi'
          have e : (cn (floatBits .mul .f64 x y) : Int) = sbit (sgB u ^^ sgB v) + sizeM (aV x * aV y) := by rw [mul_num nx ny, cn_some, mulR_sz, hsx, hsy]
          rw [e]
          exact refMul_num x y u v _ _ w hu hv h h' nx ny hS s0 s1 rfl hn hn' hi hi'
end Go.Proofs.Ytbkmbdbjeiffpaa
