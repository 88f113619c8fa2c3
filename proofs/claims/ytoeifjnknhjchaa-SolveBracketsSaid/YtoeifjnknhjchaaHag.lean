/- Rows of floats: what came in, and rows of one's own. The contracts of the document's Kind, times, above, long: rates. NaNs, infinities, numbers: math.IsNaN, math.IsInf; comparisons by ranks. The contract of Horner: steps from the right, each rounded. The contract of ShiftUp. The contracts of expTerms and lnTerms: new rows of fixed floats. The contracts of whole and Pow where every product is exact; of Pow at 0 and 1. The contract of math.Floor, of numbers below 2^52. The contracts of logs and Exp, step by step. The contracts of about1 and Ln, step by step. The law's awake: what the document fixes. -/
import Derived.Test.YtoeifjnknhjchaaHaf
import Derived.WalkKit
import Derived.LoopTactic
import Derived.BigCall
import Derived.BigQuiet
import Derived.Maps.AppendAt
import Derived.Laws.OwnMore
import Derived.Deep.OwnRows
import Derived.Test.YtoeifjnknhjchaaFlt
import Derived.Test.YtoeifjnknhjchaaHae
import Derived.Test.YtoeifjnknhjchaaHad
namespace Go.Proofs.Ytoeifjnknhjchaa
open Go.RowKit

theorem hideS {p : Prop} (h : p) : Hid p := h
/-- The same, with the elder world's name kept. -/
theorem turned {P : Program} {f : Nat} {args : Array Value} {w : World} {Q : Ending → Prop} (h : Calls P f args w fun e w' => Q e ∧ w' = w) : Calls P f args w fun e w' => Q e ∧ w = w' :=
  h.mono fun _ _ ⟨a, b⟩ => ⟨a, b.symm⟩
theorem infoU : (Try.prog.info? 28).map (fun i => (i.zero, i.size, i.bytes)) = some (some (.int .u64 0), 1, 8) := by kernel_rfl
theorem own_below {w w' : World} {B e size n : Nat} {v : Value} {xs : List Value} (h : w.ownsRow B e size v n xs) (hb : Below w.heap.size w w') : w'.ownsRow B e size v n xs := by
  refine ⟨h.1, ?_⟩
  rcases h.2 with hn | ⟨g, cap, cur, rfl, hg, hgg, rest⟩
  · exact .inl hn
  · exact .inr ⟨g, cap, cur, rfl, hg, by rw [hb.block g (Array.getElem?_eq_some_iff.1 hgg).1]; exact hgg, rest⟩

def uV (x : Nat) : Value := .int .u64 (x : Int)
theorem getD_some {l : List Nat} {i : Nat} (hi : i < l.length) : l[i]? = some (l.getD i 0) := by simp [List.getD, List.getElem?_eq_getElem hi]
/-- The first k, as values. -/
def rowOf (f : Nat → Value) (l : List Nat) (k : Nat) : List Value := (l.take k).map f
theorem take_next {f : Nat → Value} {l : List Nat} {k : Nat} (hk : k < l.length) : rowOf f l (k + 1) = rowOf f l k ++ [f (l.getD k 0)] := by
  unfold rowOf
  rw [List.take_add_one, getD_some hk, List.map_append]; rfl
theorem rowOf_all (f : Nat → Value) (l : List Nat) : rowOf f l l.length = l.map f := by unfold rowOf; rw [List.take_length]

/-- A slice that reads as a list of floats, wherever it lies. -/
structure Src (w : World) (p : Option Addr) (b off : Nat) (xs : List Nat) : Prop where
  at_ : 0 < xs.length → p = some ⟨b, off, none⟩
  lt : 0 < xs.length → b < w.heap.size
  cell : ∀ j, j < xs.length → w.cell? ⟨b, off + j, none⟩ = some (.float .f64 (xs.getD j 0))
theorem Src.below {w w' : World} {p : Option Addr} {b off : Nat} {xs : List Nat} (h : Src w p b off xs) (hb : Below w.heap.size w w') : Src w' p b off xs :=
  ⟨h.at_, fun hx => Nat.lt_of_lt_of_le (h.lt hx) hb.size, fun j hj => (hb.cell (p := ⟨b, off + j, none⟩) (h.lt (by omega))).trans (h.cell j hj)⟩

/-- A row of one's own, with where it lies. -/
structure OwnF (w : World) (B t : Nat) (f : Nat → Value) (v : Value) (xs : List Nat) : Prop where
  own : w.ownsRow B t 1 v xs.length (xs.map f)
theorem OwnF.below {w w' : World} {B t : Nat} {f : Nat → Value} {v : Value} {xs : List Nat} (h : OwnF w B t f v xs) (hb : Below w.heap.size w w') : OwnF w' B t f v xs := ⟨own_below h.own hb⟩
theorem OwnF.shape {w : World} {B t : Nat} {f : Nat → Value} {v : Value} {xs : List Nat} (h : OwnF w B t f v xs) :
    ∃ p g c, v = .slice p xs.length c ∧ (0 < xs.length → p = some ⟨g, 0, none⟩ ∧ B ≤ g ∧ g < w.heap.size) ∧ ∀ j, j < xs.length → w.cell? ⟨g, j, none⟩ = some (f (xs.getD j 0)) := by
  rcases h.own.2 with ⟨hv, hn⟩ | ⟨g, cap, cur, hv, hb, hg, _⟩
  · exact ⟨none, 0, 0, by rw [hv, hn], fun h0 => by omega, fun j hj => by omega⟩
  · refine ⟨some ⟨g, 0, none⟩, g, cap, hv, fun _ => ⟨rfl, hb, (Array.getElem?_eq_some_iff.1 hg).1⟩, fun j hj => ?_⟩
    have h2 := h.own
    rw [hv] at h2
    rw [h2.cellAt j (by omega), List.getElem?_map, getD_some hj]; rfl
end Go.Proofs.Ytoeifjnknhjchaa
namespace Go.Proofs.Ytoeifjnknhjchaa
open Go.RowKit

def ltB (u v : Int) : Bool := !nanB u && !nanB v && decide (rankI u < rankI v)
/-- A number (neither NaN nor infinite). -/
def finB (u : Int) : Bool := decide (szI u < 9218868437227405312)
set_option maxHeartbeats 800000 in
theorem refLt_any (u v : Int) (w : World) (h : U64 u) (h' : U64 v) :
    Calls Try.prog 32 #[.int .u64 u, .int .u64 v] w fun e w' => e = .returned (.bool (ltB u v)) ∧ w' = w := by
  have H1 := hideS fun w => refRank_any u w h
  have H2 := hideS fun w => refRank_any v w h'
  unfold ltB
  generalize rankI u = a at *
  generalize rankI v = c at *
  generalize nanB u = m at *
  generalize nanB v = n at *
  clear h h'
  go_enter Try.func32, Try.ntmps32
  go_wp2_with fail
  refine (H1.out _).mono ?_
  rintro e w' ⟨rfl, rfl⟩
  go_wp2_with fail
  refine (H2.out _).mono ?_
  rintro e w' ⟨rfl, rfl⟩
  cases m <;> cases n
  all_goals go_wp2_with fail
  all_goals go_ret
  all_goals exact ⟨by simp, rfl⟩

set_option maxHeartbeats 400000 in
theorem refNum_any (u : Int) (w : World) (h : U64 u) :
    Calls Try.prog 31 #[.int .u64 u] w fun e w' => e = .returned (.bool (finB u)) ∧ w' = w := by
  have hz := andNot_sz h
  unfold finB
  go_enter Try.func31, Try.ntmps31
  go_wp2
  go_ret
  exact ⟨rfl, rfl⟩

end Go.Proofs.Ytoeifjnknhjchaa
namespace Go.Proofs.Ytoeifjnknhjchaa
open Go.RowKit

set_option maxHeartbeats 400000 in
theorem isNaN_math (b : Nat) (w : World) (h : U64 b) :
    Calls Try.prog 28 #[.float .f64 b] w fun e w' => e = .returned (.bool (nanB b)) ∧ w' = w := by
  have h1 : (FloatKind.f64.format.order b b != some .eq) = nanB b := by rw [bne, eq_self h, Bool.not_not]
  clear h
  go_enter Try.func28, Try.ntmps28
  go_wp2
  go_ret
  exact ⟨rfl, rfl⟩

theorem compare_gt_iff (x y : Int) : (compare x y == .gt) = decide (y < x) := by
  show (compareOfLessAndEq x y == .gt) = _
  unfold compareOfLessAndEq
  by_cases a : x < y
  · have : ¬ y < x := by omega
    simp [a, this]
  · by_cases b : x = y
    · simp [b]
    · have : y < x := by omega
      simp [a, b, this]
theorem gt_rank {a b : Nat} (ha : U64 a) (hb : U64 b) (hna : nanB a = false) (hnb : nanB b = false) : (FloatKind.f64.format.order a b == some .gt) = decide (rankI b < rankI a) := by
  rw [order_rank (by have := ha.2; omega) (by have := hb.2; omega) hna hnb, ← compare_gt_iff]; rfl

theorem rkp_nan {r : Nat} (h : r ≤ 9218868437227405312) : nanB (r : Int) = false := by unfold nanB szI; rw [decide_eq_false_iff_not]; omega
theorem rkp_rank {r : Nat} (h : r ≤ 9218868437227405312) : rankI (r : Int) = r := by
  unfold rankI
  have hs : sgB (r : Int) = false := by unfold sgB; rw [decide_eq_false_iff_not]; omega
  rw [rkp_nan h, hs]
  show szI (r : Int) = r
  unfold szI; omega
theorem szN (x : Nat) : szI (x : Int) = ((x % 9223372036854775808 : Nat) : Int) := by unfold szI; omega
theorem inf_gt {x : Nat} (h : nanB (x : Int) = false) : (FloatKind.f64.format.order (x % 9223372036854775808) 9218868437227405311 == some .gt) = !finB (x : Int) := by
  have h1 := nan_false h
  have e : finB (x : Int) = decide (x % 9223372036854775808 < 9218868437227405312) := by
    unfold finB; rw [szN]; exact decide_eq_decide.2 (by omega)
  rw [e]
  generalize x % 9223372036854775808 = a at *
  rw [gt_rank (u64_of_nat (by omega)) (u64_of_nat (by omega)) (rkp_nan h1) (rkp_nan (r := 9218868437227405311) (by omega)), rkp_rank h1, rkp_rank (r := 9218868437227405311) (by omega)]
  by_cases c : a < 9218868437227405312
  · rw [decide_eq_true c]; exact decide_eq_false (by omega)
  · rw [decide_eq_false c]; exact decide_eq_true (by omega)

theorem fin_nan {x : Nat} (h : nanB (x : Int) = true) : finB (x : Int) = false := by
  unfold nanB at h; unfold finB
  have := of_decide_eq_true h
  exact decide_eq_false (by omega)

set_option maxHeartbeats 400000 in
theorem abs_math (x : Nat) (w : World) (h : U64 x) :
    Calls Try.prog 57 #[.float .f64 x] w fun e w' => e = .returned (.float .f64 (x % 9223372036854775808)) ∧ w' = w := by
  have h1 := call_bits
  have h2 := call_frombits
  have h3 := andNot_sz h
  have h4 : (szI (x : Int)).toNat = x % 9223372036854775808 := by rw [szN]; rfl
  clear h
  go_enter Try.func57, Try.ntmps57
  go_wp2
  go_ret
  exact ⟨rfl, rfl⟩

set_option maxHeartbeats 400000 in
theorem isInf_both (x : Nat) (g : Bool) (w : World) (h : U64 x) (hg : (FloatKind.f64.format.order (x % 9223372036854775808) 9218868437227405311 == some .gt) = g) :
    Calls Try.prog 42 #[.float .f64 x, .int .i64 0] w fun e w' => e = .returned (.bool g) ∧ w' = w := by
  have H := hideS fun w => abs_math x w h
  clear h
  generalize x % 9223372036854775808 = a at *
  go_enter Try.func42, Try.ntmps42
  go_wp2_with fail
  refine (H.out _).mono ?_
  rintro e w' ⟨rfl, rfl⟩
  go_wp2_with fail
  go_ret
  exact ⟨rfl, rfl⟩

theorem lt_ltB {x c : Nat} (h : U64 (x : Int)) (hc : U64 (c : Int)) : (FloatKind.f64.format.order x c == some .lt) = ltB (x : Int) (c : Int) := by
  unfold ltB
  cases hn : nanB (x : Int) with
  | true => rw [order_nan_left hn]; rfl
  | false =>
    cases hm : nanB (c : Int) with
    | true => rw [order_nan_right hm]; rfl
    | false => rw [lt_rank h hc hn hm]; rfl
end Go.Proofs.Ytoeifjnknhjchaa
namespace Go.Proofs.Ytoeifjnknhjchaa
open Go.RowKit

/-- The NaN that the tape gives. -/
def nanAns (x y : Nat) (w : World) : Nat := (Question.nanBits .f64 x y).cut (w.tape w.drawn (.nanBits .f64 x y))
theorem nanAns_nan (x y : Nat) (w : World) : nanB (nanAns x y w) = true ∧ nanAns x y w < 18446744073709551616 := by
  unfold nanAns
  generalize w.tape w.drawn (.nanBits .f64 x y) = t
  show nanB (((t % 2) * 2 ^ 63 + 0x7ff0000000000000 + 1 + (t / 2) % (2 ^ 52 - 1) : Nat) : Int) = true ∧ ((t % 2) * 2 ^ 63 + 0x7ff0000000000000 + 1 + (t / 2) % (2 ^ 52 - 1) : Nat) < _
  have h1 : t % 2 < 2 := Nat.mod_lt _ (by decide)
  have h2 : (t / 2) % (2 ^ 52 - 1) < 2 ^ 52 - 1 := Nat.mod_lt _ (by decide)
  generalize t % 2 = a at *
  generalize (t / 2) % (2 ^ 52 - 1) = b at *
  unfold nanB szI
  refine ⟨?_, by omega⟩
  rw [decide_eq_true_eq]; omega
theorem run_arith_nan {P : Program} (op : BinOp) (ho : op = .add ∨ op = .sub ∨ op = .mul ∨ op = .quo) (t : TypeId) (x y : Nat) (h : floatBits op .f64 x y = none) (w : World) : (binOp op t (.float .f64 x) (.float .f64 y)).run P w = .ok (.float .f64 (nanAns x y w)) w.drew := by
  rcases ho with rfl | rfl | rfl | rfl <;> unfold floatBits at h <;> simp only at h <;> simp [binOp, Op.floatArith, h, Question.forced, nanAns]
theorem nan_left {op : BinOp} {x y : Nat} (h : nanB x = true) : floatBits op .f64 x y = none := by
  obtain ⟨f, e⟩ := read_nan (nan_true h)
  unfold floatBits
  cases op <;> dsimp only <;> first | rfl | skip
  · show ((Ieee.double.read x).sum (Ieee.double.read y)).map Ieee.double.write = _; rw [e]; rfl
  · show ((Ieee.double.read x).sum (Ieee.double.read y).opposite).map Ieee.double.write = _; rw [e]; rfl
  · show ((Ieee.double.read x).product (Ieee.double.read y)).map Ieee.double.write = _; rw [e]; rfl
  · show ((Ieee.double.read x).quotient 54 (Ieee.double.read y)).map Ieee.double.write = _; rw [e]; rfl
theorem nan_right {op : BinOp} {x y : Nat} (h : nanB y = true) : floatBits op .f64 x y = none := by
  obtain ⟨f, e⟩ := read_nan (nan_true h)
  unfold floatBits
  cases op <;> dsimp only <;> first | rfl | skip
  · show ((Ieee.double.read x).sum (Ieee.double.read y)).map Ieee.double.write = _; rw [e]; cases Ieee.double.read x <;> rfl
  · show ((Ieee.double.read x).sum (Ieee.double.read y).opposite).map Ieee.double.write = _; rw [e]; cases Ieee.double.read x <;> rfl
  · show ((Ieee.double.read x).product (Ieee.double.read y)).map Ieee.double.write = _; rw [e]; cases Ieee.double.read x <;> rfl
  · show ((Ieee.double.read x).quotient 54 (Ieee.double.read y)).map Ieee.double.write = _; rw [e]; cases Ieee.double.read x <;> rfl

/-- Bits that are what is told; where nothing is told, a NaN. -/
def Ag (o : Option Nat) (b : Nat) : Prop := match o with | some r => b = r | none => nanB b = true ∧ b < 18446744073709551616
theorem ag_some {r b : Nat} (h : Ag (some r) b) : b = r := h
theorem ag_none {b : Nat} (h : Ag none b) : nanB b = true ∧ b < 18446744073709551616 := h
def stepO (x : Nat) (p : Option Nat) (c : Nat) : Option Nat := (p.bind fun p => floatBits .mul .f64 p x).bind fun q => floatBits .add .f64 q c
def hornAt (cs : List Nat) (x : Nat) : Nat → Option Nat
  | 0 => some (cs.getD (cs.length - 1) 0)
  | i + 1 => stepO x (hornAt cs x i) (cs.getD (cs.length - 2 - i) 0)
def hornO (cs : List Nat) (x : Nat) : Option Nat := if cs.length = 0 then some 0 else hornAt cs x (cs.length - 1)

theorem bind_ag {o : Option Nat} {a : Nat} (h : Ag o a) (op : BinOp) (x : Nat) : (o.bind fun p => floatBits op .f64 p x) = floatBits op .f64 a x := by
  cases o with
  | some r => rw [ag_some h]; rfl
  | none => rw [nan_left (ag_none h).1]; rfl
theorem stepO_ag {o : Option Nat} {a : Nat} (h : Ag o a) (x y : Nat) : stepO x o y = (floatBits .mul .f64 a x).bind fun q => floatBits .add .f64 q y := by
  unfold stepO; rw [bind_ag h]
theorem drew_one {w wr : World} (h : ∃ q, wr = w.drewN q) : ∃ q, wr.drew = w.drewN q := by
  obtain ⟨q, e⟩ := h; exact ⟨q + 1, by rw [e]; rfl⟩

set_option maxHeartbeats 800000 in
theorem horner_any (p : Option Addr) (g off c x n : Nat) (cs : List Nat) (w : World) (hs : Src w p g off cs) (hN : cs.length = n) (hn : n ≤ 1000000) :
    Calls Try.prog 14 #[.slice p n c, .float .f64 x] w fun e w' => ∃ r, e = .returned (.float .f64 r) ∧ Ag (hornO cs x) r ∧ ∃ q, w' = w.drewN q := by
  have HS := hideS hs
  have HN := hideS hN
  by_cases h0 : n = 0
  · subst h0
    have HR : Hid (hornO cs x = some 0) := by show _ = _; unfold hornO; rw [if_pos hN]
    clear hs hN HS HN
    go_enter Try.func14, Try.ntmps14
    go_wp2
    go_ret
    exact ⟨_, rfl, by rw [HR.out]; rfl, 0, rfl⟩
  obtain ⟨m, rfl⟩ : ∃ m, n = m + 1 := ⟨n - 1, by omega⟩
  obtain rfl := hs.at_ (by omega)
  have hc0 := hs.cell m (by omega)
  have HR : Hid (hornO cs x = hornAt cs x m) := by show _ = _; unfold hornO; rw [if_neg (by omega), hN]; rfl
  have HA0 : Hid (hornAt cs x 0 = some (cs.getD m 0)) := by show _ = _; unfold hornAt; rw [hN]; rfl
  have HA1 : Hid (∀ i, hornAt cs x (i + 1) = stepO x (hornAt cs x i) (cs.getD (m - 1 - i) 0)) := fun i => by
    show stepO x (hornAt cs x i) (cs.getD (cs.length - 2 - i) 0) = _
    rw [hN]; rfl
  generalize cs.getD m 0 = p0 at hc0 HA0
  clear hs hN h0
  go_enter Try.func14, Try.ntmps14
  go_wp2_with fail
  go_loopw [6, 19] (fun s i wr => ∃ k a : Nat, k ≤ m ∧ i = .int .i64 k ∧ s = .float .f64 a ∧ Hid (Ag (hornAt cs x k) a) ∧ Hid (∃ q, wr = w.drewN q)) (fun _ i _ => m - (intOf i).toNat)
  case atStart => exact ⟨0, p0, Nat.zero_le _, rfl, rfl, by rw [HA0.out]; rfl, ⟨0, rfl⟩⟩
  case round =>
    obtain ⟨k, a, hk, rfl, rfl, HA, HQ⟩ := hrel
    by_cases hlt : k < m
    · have hcx : wr.cell? ⟨g, off + (m - 1 - k), none⟩ = some (.float .f64 (cs.getD (m - 1 - k) 0)) := by
        obtain ⟨q, e⟩ := HQ.out
        rw [e]; exact HS.out.cell (m - 1 - k) (by rw [HN.out]; omega)
      have HA2 := hideS (HA1.out k)
      obtain ⟨j, hj⟩ : ∃ j : Nat, m - 1 - k = j := ⟨_, rfl⟩
      have hj2 : (m : Int) - 1 - k = j := by omega
      rw [hj] at hcx HA2
      clear hj
      generalize cs.getD j 0 = y at hcx HA2
      rw [stepO_ag HA.out] at HA2
      clear HA HA1 HA0
      cases hq : floatBits .mul .f64 a x with
      | some q =>
        have r1 := fun w => run_float_arith (P := Try.prog) w .mul 23 .f64 a x q hq
        cases hr : floatBits .add .f64 q y with
        | some r =>
          have r2 := fun w => run_float_arith (P := Try.prog) w .add 23 .f64 q y r hr
          have HE : Hid (Ag (hornAt cs x (k + 1)) r) := by rw [HA2.out, hq]; show Ag (floatBits .add .f64 q y) r; rw [hr]; rfl
          clear hq hr HA2
          go_wp2
          go_roundw
          case rel => exact ⟨k + 1, r, by omega, by simp, rfl, HE, HQ⟩
          case measure => simp [intOf]; omega
        | none =>
          have r2 := run_arith_nan (P := Try.prog) .add (by simp) 23 q y hr
          have HE : Hid (∀ z, Ag (hornAt cs x (k + 1)) (nanAns q y z)) := fun z => by rw [HA2.out, hq]; show Ag (floatBits .add .f64 q y) _; rw [hr]; exact nanAns_nan q y z
          clear hq hr HA2
          go_wp2
          go_roundw
          case rel => exact ⟨k + 1, _, by omega, by simp, rfl, HE.out _, drew_one HQ.out⟩
          case measure => simp [intOf]; omega
      | none =>
        have r1 := run_arith_nan (P := Try.prog) .mul (by simp) 23 a x hq
        have r2 := fun z => run_arith_nan (P := Try.prog) .add (by simp) 23 (nanAns a x z) y (nan_left (nanAns_nan a x z).1)
        have HE : Hid (∀ z z', Ag (hornAt cs x (k + 1)) (nanAns (nanAns a x z) y z')) := fun z z' => by rw [HA2.out, hq]; exact nanAns_nan _ y z'
        clear hq HA2
        go_wp2
        go_roundw
        case rel => exact ⟨k + 1, _, by omega, by simp, rfl, HE.out _ _, drew_one (drew_one HQ.out)⟩
        case measure => simp [intOf]; omega
    · obtain rfl : k = m := by omega
      go_wp2
      go_ret
      exact ⟨_, rfl, by rw [HR.out]; exact HA.out, HQ.out⟩
end Go.Proofs.Ytoeifjnknhjchaa
namespace Go.Proofs.Ytoeifjnknhjchaa
open Go.RowKit

theorem info_u64 : (Try.prog.info? 28).map (fun i => (i.zero, i.size, i.bytes)) = some (some (.int .u64 0), 1, 8) := by kernel_rfl

set_option maxHeartbeats 400000 in
theorem shiftUp_nil (p : Option Addr) (c : Nat) (n : Int) (w : World) :
    Calls Try.prog 69 #[.slice p 0 c, .int .i64 n] w fun e w' => e = .returned (.slice none 0 0) ∧ w' = w := by
  go_enter Try.func69, Try.ntmps69
  go_wp2
  go_ret
  exact ⟨rfl, rfl⟩

/-- A row of the call's own whose cells are M's digits. -/
def Own (w : World) (b n M : Nat) : Prop := w.rowIs b 28 n (fun i => .int .u64 (dgt M i : Int))
theorem Own.row {w : World} {b n M : Nat} (h : Own w b n M) : RowIs w b n M := fun _ hi => h.cell hi
theorem own_made (w : World) (n : Nat) : Own (w.alloc (.cells (madeCells #[.int .u64 0] n) 28)) w.heap.size n 0 :=
  (World.rowIs_made w (.int .u64 0) n 28).congr (fun i _ => by rw [dgt_zero]; rfl)

theorem shift_step {w : World} {b L N q r k n D X : Nat} (h : Own w b L ((N % 2 ^ (32 * k)) * 2 ^ n)) (hn : n = 32 * q + r) (hr : r < 32) (hD : D = dgt N k) (hX : X = D * 2 ^ r) (_hL : k + q + 1 < L) :
    Own ((w.setCell ⟨b, k + q, none⟩ (.int .u64 ((dgt ((N % 2 ^ (32 * k)) * 2 ^ n) (k + q) : Int) + (X : Int) % 4294967296))).setCell ⟨b, k + q + 1, none⟩ (.int .u64 ((X : Int) / 4294967296))) b L ((N % 2 ^ (32 * (k + 1))) * 2 ^ n) := by
  have h2 := (h.set (k + q) (.int .u64 ((dgt ((N % 2 ^ (32 * k)) * 2 ^ n) (k + q) : Int) + (X : Int) % 4294967296))).set (k + q + 1) (.int .u64 ((X : Int) / 4294967296))
  refine h2.congr fun j _ => ?_
  have hM : N % 2 ^ (32 * k) * 2 ^ n < 2 ^ r * 2 ^ (32 * (k + q)) := by
    have h1 : N % 2 ^ (32 * k) < 2 ^ (32 * k) := Nat.mod_lt _ (Nat.two_pow_pos _)
    have e : 2 ^ r * 2 ^ (32 * (k + q)) = 2 ^ (32 * k) * 2 ^ n := by rw [← Nat.pow_add, ← Nat.pow_add]; congr 1; omega
    rw [e]; exact Nat.mul_lt_mul_of_pos_right h1 (Nat.two_pow_pos _)
  have hx63 : X < 2 ^ 63 := by
    have h1 := dgt_lt N k
    have h3 : (2 : Nat) ^ r ≤ 2 ^ 31 := Nat.pow_le_pow_right (by decide) (by omega)
    rw [hX, hD]
    calc dgt N k * 2 ^ r ≤ dgt N k * 2 ^ 31 := Nat.mul_le_mul_left _ h3
      _ < 2 ^ 63 := by omega
  have es : N % 2 ^ (32 * (k + 1)) * 2 ^ n = N % 2 ^ (32 * k) * 2 ^ n + X * 2 ^ (32 * (k + q)) := by
    rw [mod_succ, Nat.add_mul, hX, hD]
    congr 1
    rw [Nat.mul_assoc, Nat.mul_assoc, ← Nat.pow_add, ← Nat.pow_add]; congr 2; omega
  have key := add_at (j := j) hM hx63 (by rw [hX, Nat.mul_mod_left]) (by omega)
  rw [← es] at key
  rw [key]
  by_cases c1 : j = k + q + 1
  · rw [if_pos c1, if_neg (by omega), if_neg (by omega), if_pos c1]; congr 1
  · rw [if_neg c1]
    by_cases c2 : j = k + q
    · rw [if_pos c2, if_neg (by omega), if_pos c2]; congr 1
    · rw [if_neg c2]
      by_cases c3 : j < k + q
      · rw [if_pos c3]
      · rw [if_neg c3, if_neg c2, if_neg c1]
        rw [dgt_ge]
        refine Nat.lt_of_lt_of_le hM ?_
        rw [← Nat.pow_add]; exact Nat.pow_le_pow_right (by decide) (by omega)

set_option maxRecDepth 10000 in
set_option maxHeartbeats 800000 in
theorem shiftUp_row (g c N m n q r : Nat) (w : World) (hm : 1 ≤ m) (hm' : m ≤ 10000000) (hn : n ≤ 100000000) (hq : (n : Int) / 32 = q) (hr : (n : Int) % 32 = r) (hrow : Hid (RowIs w g m N)) (hg : g < w.heap.size) (hN : Hid (N < 2 ^ (32 * m))) :
    Calls Try.prog 69 #[.slice (some ⟨g, 0, none⟩) m c, .int .i64 n] w fun e w' => ∃ v, e = .returned v ∧ DN w' v (N * 2 ^ n) ∧ From w.heap.size v ∧ Below w.heap.size w w' := by
  have hq1 : q ≤ 3125000 := by omega
  have hr1 : r < 32 := by omega
  have HN : Hid (n = 32 * q + r) := by show _ = _; omega
  have hmk := fun w => run_make_row' (P := Try.prog) 32 28 (.int .u64 0) 8 Try.underlying32 info_u64 rfl .i64 .i64 (m + q + 1) (by omega) (by omega) w
  have ec : ((m + q + 1 : Nat) : Int) = (m : Int) + (q : Int) + 1 := by omega
  rw [ec] at hmk
  clear ec
  have HO := hide (own_made w (m + q + 1))
  go_enter Try.func69, Try.ntmps69
  go_wp2
  go_loopw [6] (fun i wr => ∃ k : Nat, k ≤ m ∧ i = .int .i64 k ∧ Hid (Own wr w.heap.size (m + q + 1) ((N % 2 ^ (32 * k)) * 2 ^ n)) ∧ Hid (Below w.heap.size w wr)) (fun i _ => m - (intOf i).toNat)
  case atStart => exact ⟨0, Nat.zero_le _, rfl, by rw [Nat.mul_zero, Nat.pow_zero, Nat.mod_one, Nat.zero_mul]; exact HO, (Below.refl _ _).alloc (Nat.le_refl _) _⟩
  case round =>
    clear HO hmk
    obtain ⟨k, hk, rfl, HOwn, HB⟩ := hrel
    by_cases hlt : k < m
    · have hc : wr.cell? ⟨g, k, none⟩ = some (.int .u64 (dgt N k : Int)) := (HB.out.cell (p := ⟨g, k, none⟩) hg).trans (hrow.out k hlt)
      have h1 := HOwn.out.cell (i := k + q) (by omega)
      have h2 := HOwn.out.cell (i := k + q + 1) (by omega)
      have f1 := HOwn.out.frozen (k + q)
      have f2 := HOwn.out.frozen (k + q + 1)
      have b1 := dgt_lt ((N % 2 ^ (32 * k)) * 2 ^ n) (k + q)
      have b2 := dgt_lt N k
      have HS := fun D X (hD : D = dgt N k) (hX : X = D * 2 ^ r) => shift_step HOwn.out HN.out hr1 hD hX (by omega)
      have HS := hide HS
      generalize hA : dgt ((N % 2 ^ (32 * k)) * 2 ^ n) (k + q) = A at h1 b1 HS
      generalize hE : dgt ((N % 2 ^ (32 * k)) * 2 ^ n) (k + q + 1) = E at h2
      generalize hD : dgt N k = D at hc b2
      have HD := hide hD
      clear hA hE hD
      have hX : IntKind.u64.wrap ((D : Int) * 2 ^ r) = ((D * 2 ^ r : Nat) : Int) := by
        have e1 : ((D : Int) * 2 ^ r) = ((D * 2 ^ r : Nat) : Int) := by rw [Int.natCast_mul, Int.natCast_pow]; rfl
        have h3 : (2 : Nat) ^ r ≤ 2 ^ 31 := Nat.pow_le_pow_right (by decide) (by omega)
        have h4 : D * 2 ^ r ≤ D * 2 ^ 31 := Nat.mul_le_mul_left _ h3
        rw [e1, IntKind.wrap_u64]; omega
      have hXb : D * 2 ^ r < 9223372036854775808 := by
        have h3 : (2 : Nat) ^ r ≤ 2 ^ 31 := Nat.pow_le_pow_right (by decide) (by omega)
        have h4 : D * 2 ^ r ≤ D * 2 ^ 31 := Nat.mul_le_mul_left _ h3
        omega
      generalize hXX : D * 2 ^ r = X at hX hXb
      have HXX := hide hXX
      clear hXX
      go_wp2
      go_roundw
      case rel => exact ⟨k + 1, by omega, by go_num, HS.out D X HD.out.symm HXX.out.symm, (HB.out.setCell (Nat.le_refl _) _).setCell (Nat.le_refl _) _⟩
      case measure => simp [intOf]; omega
    · obtain rfl : k = m := by omega
      have e : N % 2 ^ (32 * k) = N := Nat.mod_eq_of_lt hN.out
      rw [e] at HOwn
      have hM : Hid (N * 2 ^ n < 2 ^ (32 * (k + q + 1))) := by
        show _ < _
        have h1 : N * 2 ^ n < 2 ^ (32 * k) * 2 ^ n := Nat.mul_lt_mul_of_pos_right hN.out (Nat.two_pow_pos _)
        rw [← Nat.pow_add] at h1
        refine Nat.lt_of_lt_of_le h1 (Nat.pow_le_pow_right (by decide) ?_)
        have := HN.out; omega
      have hlt2 := HOwn.out.lt
      have HD := hide (dn_mk HOwn.out.row hM.out (Nat.le_refl _) hlt2)
      clear e
      go_wp2_with fail
      refine (trim_row _ _ _ _ _ HOwn.out.row hM.out (Nat.le_refl _) (by omega)).mono ?_
      rintro e w' ⟨rfl, rfl⟩
      go_wp2_with fail
      go_ret
      exact ⟨_, rfl, HD.out, from_at _ _ _ _ (Nat.le_refl _), HB.out⟩

theorem shiftUp_new (v : Value) (N n : Nat) (w : World) (h : DN w v N) (hb : nd N ≤ 10000000) (hn : n ≤ 100000000) :
    Calls Try.prog 69 #[v, .int .i64 n] w fun e w' => ∃ v, e = .returned v ∧ DN w' v (N * 2 ^ n) ∧ From w.heap.size v ∧ Below w.heap.size w w' := by
  rcases h with ⟨h0, p, c, rfl⟩ | ⟨h0, g, c, rfl, hc, hg, hr⟩
  · refine (shiftUp_nil p c n w).mono ?_
    rintro e w' ⟨rfl, rfl⟩
    exact ⟨_, rfl, Or.inl ⟨by rw [h0, Nat.zero_mul], none, 0, rfl⟩, from_nil _, Below.refl _ _⟩
  · exact shiftUp_row g c N (nd N) n (n / 32) (n % 32) w (nd_pos h0) hb hn (by omega) (by omega) hr hg (nd_lt N)
theorem shiftUp_any (v : Value) (N n : Nat) (w : World) (h : DN w v N) (hb : nd N ≤ 10000000) (hn : n ≤ 100000000) :
    Calls Try.prog 69 #[v, .int .i64 n] w fun e w' => ∃ v, e = .returned v ∧ DN w' v (N * 2 ^ n) ∧ Below w.heap.size w w' :=
  (shiftUp_new v N n w h hb hn).mono fun _ _ ⟨v, a, b, _, d⟩ => ⟨v, a, b, d⟩

end Go.Proofs.Ytoeifjnknhjchaa
namespace Go.Proofs.Ytoeifjnknhjchaa
open Go.RowKit

end Go.Proofs.Ytoeifjnknhjchaa
namespace Go.Proofs.Ytoeifjnknhjchaa
open Go.RowKit

end Go.Proofs.Ytoeifjnknhjchaa
namespace Go.Proofs.Ytoeifjnknhjchaa
open Go.RowKit

end Go.Proofs.Ytoeifjnknhjchaa
namespace Go.Proofs.Ytoeifjnknhjchaa
open Go.RowKit

end Go.Proofs.Ytoeifjnknhjchaa
namespace Go.Proofs.Ytoeifjnknhjchaa
open Go.RowKit

end Go.Proofs.Ytoeifjnknhjchaa
namespace Go.Proofs.Ytoeifjnknhjchaa
open Go.RowKit

end Go.Proofs.Ytoeifjnknhjchaa
