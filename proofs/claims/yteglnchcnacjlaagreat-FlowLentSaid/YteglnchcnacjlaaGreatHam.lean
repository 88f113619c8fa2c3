/- Rows of floats: what came in, and rows of one's own. The contracts of the document's Kind, times, above, long: rates. NaNs, infinities, numbers: math.IsNaN, math.IsInf; comparisons by ranks. Tables as whole numbers and lists: no word of the program. Slices of plain values that are only read. The contract of Horner: steps from the right, each rounded. Steps of floats over what may be a NaN. What floats tell fits 64 bits. The contract of ShiftUp. -/
import Derived.Test.YteglnchcnacjlaaGreatHal
import Derived.WalkKit
import Derived.LoopTactic
import Derived.BigCall
import Derived.BigQuiet
import Derived.Maps.AppendAt
import Derived.Laws.OwnMore
import Derived.Deep.OwnRows
import Derived.Test.YteglnchcnacjlaaGreatFlt
namespace Go.Proofs.YteglnchcnacjlaaGreat
open Go.RowKit

theorem hideS {p : Prop} (h : p) : Hid p := h
theorem turned {P : Program} {f : Nat} {args : Array Value} {w : World} {Q : Ending → Prop} (h : Calls P f args w fun e w' => Q e ∧ w' = w) : Calls P f args w fun e w' => Q e ∧ w = w' :=
  h.mono fun _ _ ⟨a, b⟩ => ⟨a, b.symm⟩
theorem infoU : (Tryz.prog.info? 40).map (fun i => (i.zero, i.size, i.bytes)) = some (some (.int .u64 0), 1, 8) := by kernel_rfl
def uV (x : Nat) : Value := .int .u64 (x : Int)
theorem getD_some {l : List Nat} {i : Nat} (hi : i < l.length) : l[i]? = some (l.getD i 0) := by simp [List.getD, List.getElem?_eq_getElem hi]
end Go.Proofs.YteglnchcnacjlaaGreat
namespace Go.Proofs.YteglnchcnacjlaaGreat
open Go.RowKit

def finB (u : Int) : Bool := decide (szI u < 9218868437227405312)
set_option maxHeartbeats 400000 in
theorem refNum_any (u : Int) (w : World) (h : U64 u) :
    Calls Tryz.prog 26 #[.int .u64 u] w fun e w' => e = .returned (.bool (finB u)) ∧ w' = w := by
  have hz := andNot_sz h
  unfold finB
  go_enter Tryz.func26, Tryz.ntmps26
  go_wp2
  go_ret
  exact ⟨rfl, rfl⟩

end Go.Proofs.YteglnchcnacjlaaGreat
namespace Go.Proofs.YteglnchcnacjlaaGreat
open Go.RowKit

set_option maxHeartbeats 400000 in
theorem isNaN_math (b : Nat) (w : World) (h : U64 b) :
    Calls Tryz.prog 35 #[.float .f64 b] w fun e w' => e = .returned (.bool (nanB b)) ∧ w' = w := by
  have h1 : (FloatKind.f64.format.order b b != some .eq) = nanB b := by rw [bne, eq_self h, Bool.not_not]
  clear h
  go_enter Tryz.func35, Tryz.ntmps35
  go_wp2
  go_ret
  exact ⟨rfl, rfl⟩

theorem compare_gt_iff (x y : Int) : (compare x y == .gt) = decide (y < x) := by
  show (compareOfLessAndEq x y == .gt) = _
  unfold compareOfLessAndEq
  by_cases a : x < y
  · have : ¬ y < x := by omega
    simp [a, this]
  · by_cases b : x = y
    · simp [b]
    · have : y < x := by omega
      simp [a, b, this]
theorem gt_rank {a b : Nat} (ha : U64 a) (hb : U64 b) (hna : nanB a = false) (hnb : nanB b = false) : (FloatKind.f64.format.order a b == some .gt) = decide (rankI b < rankI a) := by
  rw [order_rank (by have := ha.2; omega) (by have := hb.2; omega) hna hnb, ← compare_gt_iff]; rfl

theorem rkp_nan {r : Nat} (h : r ≤ 9218868437227405312) : nanB (r : Int) = false := by unfold nanB szI; rw [decide_eq_false_iff_not]; omega
theorem rkp_rank {r : Nat} (h : r ≤ 9218868437227405312) : rankI (r : Int) = r := by
  unfold rankI
  have hs : sgB (r : Int) = false := by unfold sgB; rw [decide_eq_false_iff_not]; omega
  rw [rkp_nan h, hs]
  show szI (r : Int) = r
  unfold szI; omega
theorem szN (x : Nat) : szI (x : Int) = ((x % 9223372036854775808 : Nat) : Int) := by unfold szI; omega
theorem inf_gt {x : Nat} (h : nanB (x : Int) = false) : (FloatKind.f64.format.order (x % 9223372036854775808) 9218868437227405311 == some .gt) = !finB (x : Int) := by
  have h1 := nan_false h
  have e : finB (x : Int) = decide (x % 9223372036854775808 < 9218868437227405312) := by
    unfold finB; rw [szN]; exact decide_eq_decide.2 (by omega)
  rw [e]
  generalize x % 9223372036854775808 = a at *
  rw [gt_rank (u64_of_nat (by omega)) (u64_of_nat (by omega)) (rkp_nan h1) (rkp_nan (r := 9218868437227405311) (by omega)), rkp_rank h1, rkp_rank (r := 9218868437227405311) (by omega)]
  by_cases c : a < 9218868437227405312
  · rw [decide_eq_true c]; exact decide_eq_false (by omega)
  · rw [decide_eq_false c]; exact decide_eq_true (by omega)

theorem fin_nan {x : Nat} (h : nanB (x : Int) = true) : finB (x : Int) = false := by
  unfold nanB at h; unfold finB
  have := of_decide_eq_true h
  exact decide_eq_false (by omega)

set_option maxHeartbeats 400000 in
theorem abs_math (x : Nat) (w : World) (h : U64 x) :
    Calls Tryz.prog 65 #[.float .f64 x] w fun e w' => e = .returned (.float .f64 (x % 9223372036854775808)) ∧ w' = w := by
  have h1 := call_bits
  have h2 := call_frombits
  have h3 := andNot_sz h
  have h4 : (szI (x : Int)).toNat = x % 9223372036854775808 := by rw [szN]; rfl
  clear h
  go_enter Tryz.func65, Tryz.ntmps65
  go_wp2
  go_ret
  exact ⟨rfl, rfl⟩

set_option maxHeartbeats 400000 in
theorem isInf_both (x : Nat) (g : Bool) (w : World) (h : U64 x) (hg : (FloatKind.f64.format.order (x % 9223372036854775808) 9218868437227405311 == some .gt) = g) :
    Calls Tryz.prog 36 #[.float .f64 x, .int .i64 0] w fun e w' => e = .returned (.bool g) ∧ w' = w := by
  have H := hideS fun w => abs_math x w h
  clear h
  generalize x % 9223372036854775808 = a at *
  go_enter Tryz.func36, Tryz.ntmps36
  go_wp2_with fail
  refine (H.out _).mono ?_
  rintro e w' ⟨rfl, rfl⟩
  go_wp2_with fail
  go_ret
  exact ⟨rfl, rfl⟩

end Go.Proofs.YteglnchcnacjlaaGreat
namespace Go.Proofs.YteglnchcnacjlaaGreat
open Go.RowKit

end Go.Proofs.YteglnchcnacjlaaGreat
namespace Go.Proofs.YteglnchcnacjlaaGreat
open Go.RowKit

end Go.Proofs.YteglnchcnacjlaaGreat
namespace Go.Proofs.YteglnchcnacjlaaGreat
open Go.RowKit

def nanAns (x y : Nat) (w : World) : Nat := (Question.nanBits .f64 x y).cut (w.tape w.drawn (.nanBits .f64 x y))
theorem nanAns_nan (x y : Nat) (w : World) : nanB (nanAns x y w) = true ∧ nanAns x y w < 18446744073709551616 := by
  unfold nanAns
  generalize w.tape w.drawn (.nanBits .f64 x y) = t
  show nanB (((t % 2) * 2 ^ 63 + 0x7ff0000000000000 + 1 + (t / 2) % (2 ^ 52 - 1) : Nat) : Int) = true ∧ ((t % 2) * 2 ^ 63 + 0x7ff0000000000000 + 1 + (t / 2) % (2 ^ 52 - 1) : Nat) < _
  have h1 : t % 2 < 2 := Nat.mod_lt _ (by decide)
  have h2 : (t / 2) % (2 ^ 52 - 1) < 2 ^ 52 - 1 := Nat.mod_lt _ (by decide)
  generalize t % 2 = a at *
  generalize (t / 2) % (2 ^ 52 - 1) = b at *
  unfold nanB szI
  refine ⟨?_, by omega⟩
  rw [decide_eq_true_eq]; omega
theorem run_arith_nan {P : Program} (op : BinOp) (ho : op = .add ∨ op = .sub ∨ op = .mul ∨ op = .quo) (t : TypeId) (x y : Nat) (h : floatBits op .f64 x y = none) (w : World) : (binOp op t (.float .f64 x) (.float .f64 y)).run P w = .ok (.float .f64 (nanAns x y w)) w.drew := by
  rcases ho with rfl | rfl | rfl | rfl <;> unfold floatBits at h <;> simp only at h <;> simp [binOp, Op.floatArith, h, Question.forced, nanAns]
theorem nan_left {op : BinOp} {x y : Nat} (h : nanB x = true) : floatBits op .f64 x y = none := by
  obtain ⟨f, e⟩ := read_nan (nan_true h)
  unfold floatBits
  cases op <;> dsimp only <;> first | rfl | skip
  · show ((Ieee.double.read x).sum (Ieee.double.read y)).map Ieee.double.write = _; rw [e]; rfl
  · show ((Ieee.double.read x).sum (Ieee.double.read y).opposite).map Ieee.double.write = _; rw [e]; rfl
  · show ((Ieee.double.read x).product (Ieee.double.read y)).map Ieee.double.write = _; rw [e]; rfl
  · show ((Ieee.double.read x).quotient 54 (Ieee.double.read y)).map Ieee.double.write = _; rw [e]; rfl
theorem nan_right {op : BinOp} {x y : Nat} (h : nanB y = true) : floatBits op .f64 x y = none := by
  obtain ⟨f, e⟩ := read_nan (nan_true h)
  unfold floatBits
  cases op <;> dsimp only <;> first | rfl | skip
  · show ((Ieee.double.read x).sum (Ieee.double.read y)).map Ieee.double.write = _; rw [e]; cases Ieee.double.read x <;> rfl
  · show ((Ieee.double.read x).sum (Ieee.double.read y).opposite).map Ieee.double.write = _; rw [e]; cases Ieee.double.read x <;> rfl
  · show ((Ieee.double.read x).product (Ieee.double.read y)).map Ieee.double.write = _; rw [e]; cases Ieee.double.read x <;> rfl
  · show ((Ieee.double.read x).quotient 54 (Ieee.double.read y)).map Ieee.double.write = _; rw [e]; cases Ieee.double.read x <;> rfl

def Ag (o : Option Nat) (b : Nat) : Prop := match o with | some r => b = r | none => nanB b = true ∧ b < 18446744073709551616
theorem ag_some {r b : Nat} (h : Ag (some r) b) : b = r := h
theorem ag_none {b : Nat} (h : Ag none b) : nanB b = true ∧ b < 18446744073709551616 := h
end Go.Proofs.YteglnchcnacjlaaGreat
namespace Go.Proofs.YteglnchcnacjlaaGreat
open Go.RowKit

theorem run_op_ag (op : BinOp) (ho : op = .add ∨ op = .sub ∨ op = .mul ∨ op = .quo) (t : TypeId) (a c : Nat) (w : World) : ∃ r, (∃ q, (binOp op t (.float .f64 a) (.float .f64 c)).run Tryz.prog w = .ok (.float .f64 r) (w.drewN q)) ∧ Ag (floatBits op .f64 a c) r := by
  cases h : floatBits op .f64 a c with
  | some r => exact ⟨r, ⟨0, run_float_arith (P := Tryz.prog) w op t .f64 a c r h⟩, rfl⟩
  | none => exact ⟨_, ⟨1, run_arith_nan (P := Tryz.prog) op ho t a c h w⟩, nanAns_nan a c w⟩
end Go.Proofs.YteglnchcnacjlaaGreat
namespace Go.Proofs.YteglnchcnacjlaaGreat
open Go.RowKit

theorem wrd_lt {s : Bool} {r : Nat} (h : r ≤ 9218868437227405312) : wrd s r < 18446744073709551616 := by unfold wrd; split <;> omega
theorem write_lt (d : Ieee.Datum) (h : ∀ s f, d ≠ .nan s f) : Ieee.double.write d < 18446744073709551616 := by
  cases d with
  | nan s f => exact absurd rfl (h s f)
  | infinity s => rw [show Ieee.double.write (.infinity s) = wrd s 9218868437227405312 by cases s <;> decide +kernel]; exact wrd_lt (Nat.le_refl _)
  | number s m i =>
    show Ieee.double.nearest s m i < _
    by_cases h0 : m = 0
    · rw [h0, nearest_zero, word_eq]; exact wrd_lt (Nat.zero_le _)
    · rw [nearest_eq s h0, word_eq]; exact wrd_lt (Nat.min_le_right _ _)
theorem sum_ok {a b d : Ieee.Datum} (h : a.sum b = some d) : ∀ s f, d ≠ .nan s f := by
  intro s f e
  subst e
  cases a <;> cases b <;> simp [Ieee.Datum.sum] at h
theorem product_ok {a b d : Ieee.Datum} (h : a.product b = some d) : ∀ s f, d ≠ .nan s f := by
  intro s f e
  subst e
  cases a <;> cases b <;> simp [Ieee.Datum.product] at h
theorem quotient_ok {a b d : Ieee.Datum} {k : Nat} (h : a.quotient k b = some d) : ∀ s f, d ≠ .nan s f := by
  intro s f e
  subst e
  cases a <;> cases b <;> simp [Ieee.Datum.quotient] at h
  split at h
  · split at h <;> cases h
  · cases h
theorem map_lt {o : Option Ieee.Datum} {r : Nat} (ho : ∀ d, o = some d → ∀ s f, d ≠ .nan s f) (h : o.map Ieee.double.write = some r) : r < 18446744073709551616 := by
  cases o with
  | none => cases h
  | some d =>
    have : Ieee.double.write d = r := Option.some.inj h
    rw [← this]; exact write_lt d (ho d rfl)
theorem float_lt {op : BinOp} (ho : op = .add ∨ op = .sub ∨ op = .mul ∨ op = .quo) {x y r : Nat} (h : floatBits op .f64 x y = some r) : r < 18446744073709551616 := by
  rcases ho with rfl | rfl | rfl | rfl
  · exact map_lt (o := (Ieee.double.read x).sum (Ieee.double.read y)) (fun d hd => sum_ok hd) h
  · exact map_lt (o := (Ieee.double.read x).sum (Ieee.double.read y).opposite) (fun d hd => sum_ok hd) h
  · exact map_lt (o := (Ieee.double.read x).product (Ieee.double.read y)) (fun d hd => product_ok hd) h
  · exact map_lt (o := (Ieee.double.read x).quotient 54 (Ieee.double.read y)) (fun d hd => quotient_ok hd) h
end Go.Proofs.YteglnchcnacjlaaGreat
namespace Go.Proofs.YteglnchcnacjlaaGreat
open Go.RowKit

theorem info_u64 : (Tryz.prog.info? 40).map (fun i => (i.zero, i.size, i.bytes)) = some (some (.int .u64 0), 1, 8) := by kernel_rfl

set_option maxHeartbeats 400000 in
theorem shiftUp_nil (p : Option Addr) (c : Nat) (n : Int) (w : World) :
    Calls Tryz.prog 132 #[.slice p 0 c, .int .i64 n] w fun e w' => e = .returned (.slice none 0 0) ∧ w' = w := by
  go_enter Tryz.func132, Tryz.ntmps132
  go_wp2
  go_ret
  exact ⟨rfl, rfl⟩

def Own (w : World) (b n M : Nat) : Prop := w.rowIs b 40 n (fun i => .int .u64 (dgt M i : Int))
theorem Own.row {w : World} {b n M : Nat} (h : Own w b n M) : RowIs w b n M := fun _ hi => h.cell hi
theorem own_made (w : World) (n : Nat) : Own (w.alloc (.cells (madeCells #[.int .u64 0] n) 40)) w.heap.size n 0 :=
  (World.rowIs_made w (.int .u64 0) n 40).congr (fun i _ => by rw [dgt_zero]; rfl)

theorem shift_step {w : World} {b L N q r k n D X : Nat} (h : Own w b L ((N % 2 ^ (32 * k)) * 2 ^ n)) (hn : n = 32 * q + r) (hr : r < 32) (hD : D = dgt N k) (hX : X = D * 2 ^ r) (_hL : k + q + 1 < L) :
    Own ((w.setCell ⟨b, k + q, none⟩ (.int .u64 ((dgt ((N % 2 ^ (32 * k)) * 2 ^ n) (k + q) : Int) + (X : Int) % 4294967296))).setCell ⟨b, k + q + 1, none⟩ (.int .u64 ((X : Int) / 4294967296))) b L ((N % 2 ^ (32 * (k + 1))) * 2 ^ n) := by
  have h2 := (h.set (k + q) (.int .u64 ((dgt ((N % 2 ^ (32 * k)) * 2 ^ n) (k + q) : Int) + (X : Int) % 4294967296))).set (k + q + 1) (.int .u64 ((X : Int) / 4294967296))
  refine h2.congr fun j _ => ?_
  have hM : N % 2 ^ (32 * k) * 2 ^ n < 2 ^ r * 2 ^ (32 * (k + q)) := by
    have h1 : N % 2 ^ (32 * k) < 2 ^ (32 * k) := Nat.mod_lt _ (Nat.two_pow_pos _)
    have e : 2 ^ r * 2 ^ (32 * (k + q)) = 2 ^ (32 * k) * 2 ^ n := by rw [← Nat.pow_add, ← Nat.pow_add]; congr 1; omega
    rw [e]; exact Nat.mul_lt_mul_of_pos_right h1 (Nat.two_pow_pos _)
  have hx63 : X < 2 ^ 63 := by
    have h1 := dgt_lt N k
    have h3 : (2 : Nat) ^ r ≤ 2 ^ 31 := Nat.pow_le_pow_right (by decide) (by omega)
    rw [hX, hD]
    calc dgt N k * 2 ^ r ≤ dgt N k * 2 ^ 31 := Nat.mul_le_mul_left _ h3
      _ < 2 ^ 63 := by omega
  have es : N % 2 ^ (32 * (k + 1)) * 2 ^ n = N % 2 ^ (32 * k) * 2 ^ n + X * 2 ^ (32 * (k + q)) := by
    rw [mod_succ, Nat.add_mul, hX, hD]
    congr 1
    rw [Nat.mul_assoc, Nat.mul_assoc, ← Nat.pow_add, ← Nat.pow_add]; congr 2; omega
  have key := add_at (j := j) hM hx63 (by rw [hX, Nat.mul_mod_left]) (by omega)
  rw [← es] at key
  rw [key]
  by_cases c1 : j = k + q + 1
  · rw [if_pos c1, if_neg (by omega), if_neg (by omega), if_pos c1]; congr 1
  · rw [if_neg c1]
    by_cases c2 : j = k + q
    · rw [if_pos c2, if_neg (by omega), if_pos c2]; congr 1
    · rw [if_neg c2]
      by_cases c3 : j < k + q
      · rw [if_pos c3]
      · rw [if_neg c3, if_neg c2, if_neg c1]
        rw [dgt_ge]
        refine Nat.lt_of_lt_of_le hM ?_
        rw [← Nat.pow_add]; exact Nat.pow_le_pow_right (by decide) (by omega)

set_option maxRecDepth 10000 in
set_option maxHeartbeats 800000 in
theorem shiftUp_row (g c N m n q r : Nat) (w : World) (hm : 1 ≤ m) (hm' : m ≤ 10000000) (hn : n ≤ 100000000) (hq : (n : Int) / 32 = q) (hr : (n : Int) % 32 = r) (hrow : Hid (RowIs w g m N)) (hg : g < w.heap.size) (hN : Hid (N < 2 ^ (32 * m))) :
    Calls Tryz.prog 132 #[.slice (some ⟨g, 0, none⟩) m c, .int .i64 n] w fun e w' => ∃ v, e = .returned v ∧ DN w' v (N * 2 ^ n) ∧ From w.heap.size v ∧ Below w.heap.size w w' := by
  have hq1 : q ≤ 3125000 := by omega
  have hr1 : r < 32 := by omega
  have HN : Hid (n = 32 * q + r) := by show _ = _; omega
  have hmk := fun w => run_make_row' (P := Tryz.prog) 71 40 (.int .u64 0) 8 Tryz.underlying71 info_u64 rfl .i64 .i64 (m + q + 1) (by omega) (by omega) w
  have ec : ((m + q + 1 : Nat) : Int) = (m : Int) + (q : Int) + 1 := by omega
  rw [ec] at hmk
  clear ec
  have HO := hide (own_made w (m + q + 1))
  go_enter Tryz.func132, Tryz.ntmps132
  go_wp2
  go_loopw [6] (fun i wr => ∃ k : Nat, k ≤ m ∧ i = .int .i64 k ∧ Hid (Own wr w.heap.size (m + q + 1) ((N % 2 ^ (32 * k)) * 2 ^ n)) ∧ Hid (Below w.heap.size w wr)) (fun i _ => m - (intOf i).toNat)
  case atStart => exact ⟨0, Nat.zero_le _, rfl, by rw [Nat.mul_zero, Nat.pow_zero, Nat.mod_one, Nat.zero_mul]; exact HO, (Below.refl _ _).alloc (Nat.le_refl _) _⟩
  case round =>
    clear HO hmk
    obtain ⟨k, hk, rfl, HOwn, HB⟩ := hrel
    by_cases hlt : k < m
    · have hc : wr.cell? ⟨g, k, none⟩ = some (.int .u64 (dgt N k : Int)) := (HB.out.cell (p := ⟨g, k, none⟩) hg).trans (hrow.out k hlt)
      have h1 := HOwn.out.cell (i := k + q) (by omega)
      have h2 := HOwn.out.cell (i := k + q + 1) (by omega)
      have f1 := HOwn.out.frozen (k + q)
      have f2 := HOwn.out.frozen (k + q + 1)
      have b1 := dgt_lt ((N % 2 ^ (32 * k)) * 2 ^ n) (k + q)
      have b2 := dgt_lt N k
      have HS := fun D X (hD : D = dgt N k) (hX : X = D * 2 ^ r) => shift_step HOwn.out HN.out hr1 hD hX (by omega)
      have HS := hide HS
      generalize hA : dgt ((N % 2 ^ (32 * k)) * 2 ^ n) (k + q) = A at h1 b1 HS
      generalize hE : dgt ((N % 2 ^ (32 * k)) * 2 ^ n) (k + q + 1) = E at h2
      generalize hD : dgt N k = D at hc b2
      have HD := hide hD
      clear hA hE hD
      have hX : IntKind.u64.wrap ((D : Int) * 2 ^ r) = ((D * 2 ^ r : Nat) : Int) := by
        have e1 : ((D : Int) * 2 ^ r) = ((D * 2 ^ r : Nat) : Int) := by rw [Int.natCast_mul, Int.natCast_pow]; rfl
        have h3 : (2 : Nat) ^ r ≤ 2 ^ 31 := Nat.pow_le_pow_right (by decide) (by omega)
        have h4 : D * 2 ^ r ≤ D * 2 ^ 31 := Nat.mul_le_mul_left _ h3
        rw [e1, IntKind.wrap_u64]; omega
      have hXb : D * 2 ^ r < 9223372036854775808 := by
        have h3 : (2 : Nat) ^ r ≤ 2 ^ 31 := Nat.pow_le_pow_right (by decide) (by omega)
        have h4 : D * 2 ^ r ≤ D * 2 ^ 31 := Nat.mul_le_mul_left _ h3
        omega
      generalize hXX : D * 2 ^ r = X at hX hXb
      have HXX := hide hXX
      clear hXX
      go_wp2
      go_roundw
      case rel => exact ⟨k + 1, by omega, by go_num, HS.out D X HD.out.symm HXX.out.symm, (HB.out.setCell (Nat.le_refl _) _).setCell (Nat.le_refl _) _⟩
      case measure => simp [intOf]; omega
    · obtain rfl : k = m := by omega
      have e : N % 2 ^ (32 * k) = N := Nat.mod_eq_of_lt hN.out
      rw [e] at HOwn
      have hM : Hid (N * 2 ^ n < 2 ^ (32 * (k + q + 1))) := by
        show _ < _
        have h1 : N * 2 ^ n < 2 ^ (32 * k) * 2 ^ n := Nat.mul_lt_mul_of_pos_right hN.out (Nat.two_pow_pos _)
        rw [← Nat.pow_add] at h1
        refine Nat.lt_of_lt_of_le h1 (Nat.pow_le_pow_right (by decide) ?_)
        have := HN.out; omega
      have hlt2 := HOwn.out.lt
      have HD := hide (dn_mk HOwn.out.row hM.out (Nat.le_refl _) hlt2)
      clear e
      go_wp2_with fail
      refine (trim_row _ _ _ _ _ HOwn.out.row hM.out (Nat.le_refl _) (by omega)).mono ?_
      rintro e w' ⟨rfl, rfl⟩
      go_wp2_with fail
      go_ret
      exact ⟨_, rfl, HD.out, from_at _ _ _ _ (Nat.le_refl _), HB.out⟩

theorem shiftUp_new (v : Value) (N n : Nat) (w : World) (h : DN w v N) (hb : nd N ≤ 10000000) (hn : n ≤ 100000000) :
    Calls Tryz.prog 132 #[v, .int .i64 n] w fun e w' => ∃ v, e = .returned v ∧ DN w' v (N * 2 ^ n) ∧ From w.heap.size v ∧ Below w.heap.size w w' := by
  rcases h with ⟨h0, p, c, rfl⟩ | ⟨h0, g, c, rfl, hc, hg, hr⟩
  · refine (shiftUp_nil p c n w).mono ?_
    rintro e w' ⟨rfl, rfl⟩
    exact ⟨_, rfl, Or.inl ⟨by rw [h0, Nat.zero_mul], none, 0, rfl⟩, from_nil _, Below.refl _ _⟩
  · exact shiftUp_row g c N (nd N) n (n / 32) (n % 32) w (nd_pos h0) hb hn (by omega) (by omega) hr hg (nd_lt N)
theorem shiftUp_any (v : Value) (N n : Nat) (w : World) (h : DN w v N) (hb : nd N ≤ 10000000) (hn : n ≤ 100000000) :
    Calls Tryz.prog 132 #[v, .int .i64 n] w fun e w' => ∃ v, e = .returned v ∧ DN w' v (N * 2 ^ n) ∧ Below w.heap.size w w' :=
  (shiftUp_new v N n w h hb hn).mono fun _ _ ⟨v, a, b, _, d⟩ => ⟨v, a, b, d⟩

end Go.Proofs.YteglnchcnacjlaaGreat
