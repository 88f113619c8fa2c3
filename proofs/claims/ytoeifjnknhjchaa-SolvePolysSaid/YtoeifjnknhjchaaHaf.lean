/- The closed look of every statement of this layer: the document's fixed answers. The contracts of shiftNear, near and Join: the nearest number. A great whole number rounded by its leading bits: what is behind them counts but as one bit. Sums of floats, by whole numbers; whole numbers as floats. Products of floats, by whole numbers; rounding keeps order. Exact products: whole numbers, and powers of 2. Contracts of the document's digits: trim, Digits, Len, digit. The contract of Split. -/
import Derived.Test.YtoeifjnknhjchaaHae
import Derived.Test.YtoeifjnknhjchaaHad
import Derived.BigQuiet
import Derived.Test.YtoeifjnknhjchaaHac
import Derived.LoopTactic
namespace Go.Proofs.Ytoeifjnknhjchaa
open Go.RowKit

theorem u64_of_wf {b : Nat} (h : (Lit.float .f64 b).wf = true) : U64 b := by
  simp only [Lit.wf, decide_eq_true_eq] at h
  exact ⟨by omega, by omega⟩
end Go.Proofs.Ytoeifjnknhjchaa
namespace Go.Proofs.Ytoeifjnknhjchaa
open Go.RowKit

/-- What Join tells, as bits. -/
def joinN (m e : Int) : Nat := if m = 0 then 0 else if m < 0 then 9223372036854775808 + nearR m.natAbs e else nearR m.natAbs e

end Go.Proofs.Ytoeifjnknhjchaa
namespace Go.Proofs.Ytoeifjnknhjchaa

theorem nearR_scale {M : Nat} (h0 : M ≠ 0) (k : Nat) (p : Int) : nearR (M * 2 ^ k) (p - k) = nearR M p := by
  have hlog : (M * 2 ^ k).log2 = M.log2 + k := by
    have a := Nat.log2_self_le h0
    have b : M < 2 ^ (M.log2 + 1) := Nat.lt_log2_self
    have hp := Nat.two_pow_pos k
    refine (Nat.log2_eq_iff (by have := Nat.mul_pos (show 0 < M by omega) hp; omega)).2 ⟨?_, ?_⟩
    · rw [Nat.pow_add]; exact Nat.mul_le_mul_right _ a
    · rw [show M.log2 + k + 1 = (M.log2 + 1) + k by omega, Nat.pow_add]; exact Nat.mul_lt_mul_of_pos_right b hp
  have hL : lastP (M * 2 ^ k) (p - k) = lastP M p := by unfold lastP; rw [hlog]; congr 1; omega
  unfold nearR
  rw [hL]
  generalize lastP M p = L
  congr 2
  by_cases hc : p ≤ L
  · have e1 : (p - (k : Int) - L).toNat = 0 := by omega
    have e2 : (p - L).toNat = 0 := by omega
    have e3 : (L - (p - (k : Int))).toNat = (L - p).toNat + k := by omega
    rw [e1, e2, e3, Nat.pow_zero, Nat.mul_one, Nat.mul_one, rne_scale]
  · obtain ⟨q, hq⟩ : ∃ q : Nat, p = L + q := ⟨(p - L).toNat, by omega⟩
    have e2 : (p - L).toNat = q := by omega
    have e4 : (L - p).toNat = 0 := by omega
    rw [e2, e4, rne_zero]
    by_cases hk : k ≤ q
    · have e1 : (p - (k : Int) - L).toNat = q - k := by omega
      have e3 : (L - (p - (k : Int))).toNat = 0 := by omega
      rw [e1, e3, rne_zero, Nat.mul_assoc, ← Nat.pow_add]; congr 2; omega
    · have e1 : (p - (k : Int) - L).toNat = 0 := by omega
      have e3 : (L - (p - (k : Int))).toNat = 0 + (k - q) := by omega
      rw [e1, e3, Nat.pow_zero, Nat.mul_one, show M * 2 ^ k = (M * 2 ^ q) * 2 ^ (k - q) by rw [Nat.mul_assoc, ← Nat.pow_add]; congr 2; omega, rne_scale, rne_zero]

end Go.Proofs.Ytoeifjnknhjchaa
namespace Go.Proofs.Ytoeifjnknhjchaa

/-- A number's worth in units of the least one. -/
def vI (b : Nat) : Int := if b / 9223372036854775808 % 2 == 1 then -(V (b % 9223372036854775808) : Int) else (V (b % 9223372036854775808) : Int)
def sgZ (s : Bool) (n : Nat) : Int := if s then -(n : Int) else (n : Int)
theorem sgZ_mul (s : Bool) (n k : Nat) : sgZ s (n * k) = sgZ s n * k := by
  unfold sgZ; cases s <;> simp [Int.neg_mul]
theorem signed_eq (s : Bool) (m k : Nat) : Ieee.signed s m k = sgZ s (m * 2 ^ k) := by
  unfold Ieee.signed sgZ; rw [Nat.shiftLeft_eq]
theorem word_true (r : Nat) : Ieee.double.word true r = 9223372036854775808 + r := rfl
theorem word_false (r : Nat) : Ieee.double.word false r = r := rfl
/-- What is told of a sum of units. -/
def addR (s t : Bool) (T : Int) : Nat := if T = 0 then (if s && t then 9223372036854775808 else 0) else joinN T (-1074)
theorem sum_write (s t : Bool) (m n p q : Nat) :
    ((Ieee.Datum.number s m (-1074 + (p : Int))).sum (.number t n (-1074 + (q : Int)))).map Ieee.double.write = some (addR s t (sgZ s (m * 2 ^ p) + sgZ t (n * 2 ^ q))) := by
  obtain ⟨e, he⟩ : ∃ e, min p q = e := ⟨_, rfl⟩
  have hb : min (-1074 + (p : Int)) (-1074 + (q : Int)) = -1074 + (e : Int) := by omega
  have h1 : (-1074 + (p : Int) - (-1074 + (e : Int))).toNat = p - e := by omega
  have h2 : (-1074 + (q : Int) - (-1074 + (e : Int))).toNat = q - e := by omega
  obtain ⟨T, hT⟩ : ∃ T, sgZ s (m * 2 ^ (p - e)) + sgZ t (n * 2 ^ (q - e)) = T := ⟨_, rfl⟩
  have hTT : sgZ s (m * 2 ^ p) + sgZ t (n * 2 ^ q) = T * ((2 ^ e : Nat) : Int) := by
    rw [← hT, Int.add_mul, ← sgZ_mul, ← sgZ_mul, Nat.mul_assoc, Nat.mul_assoc, ← Nat.pow_add, ← Nat.pow_add, show p - e + e = p by omega, show q - e + e = q by omega]
  have key : ((Ieee.Datum.number s m (-1074 + (p : Int))).sum (.number t n (-1074 + (q : Int)))).map Ieee.double.write = some (Ieee.double.nearest (if T = 0 then s && t else decide (T < 0)) T.natAbs (-1074 + (e : Int))) := by
    show some (Ieee.double.write (.number (if Ieee.signed s m (-1074 + (p : Int) - min (-1074 + (p : Int)) (-1074 + (q : Int))).toNat + Ieee.signed t n (-1074 + (q : Int) - min (-1074 + (p : Int)) (-1074 + (q : Int))).toNat = 0 then s && t else decide (Ieee.signed s m (-1074 + (p : Int) - min (-1074 + (p : Int)) (-1074 + (q : Int))).toNat + Ieee.signed t n (-1074 + (q : Int) - min (-1074 + (p : Int)) (-1074 + (q : Int))).toNat < 0)) (Ieee.signed s m (-1074 + (p : Int) - min (-1074 + (p : Int)) (-1074 + (q : Int))).toNat + Ieee.signed t n (-1074 + (q : Int) - min (-1074 + (p : Int)) (-1074 + (q : Int))).toNat).natAbs (min (-1074 + (p : Int)) (-1074 + (q : Int))))) = _
    rw [hb, h1, h2, signed_eq, signed_eq, hT]
    rfl
  rw [key, hTT]
  have hp : (0 : Int) < ((2 ^ e : Nat) : Int) := by have := Nat.two_pow_pos e; omega
  unfold addR
  by_cases h0 : T = 0
  · subst h0
    rw [if_pos rfl, Int.zero_mul, if_pos rfl]
    show some (Ieee.double.nearest (s && t) 0 _) = _
    rw [nearest_zero]
    cases s <;> cases t <;> rfl
  · rw [if_neg h0]
    have h3 : T * ((2 ^ e : Nat) : Int) ≠ 0 := Int.mul_ne_zero h0 (by omega)
    rw [if_neg h3, nearest_eq _ (by omega)]
    have h4 : nearR (T * ((2 ^ e : Nat) : Int)).natAbs (-1074) = nearR T.natAbs (-1074 + (e : Int)) := by
      have := nearR_scale (M := T.natAbs) (by omega) e (-1074 + (e : Int))
      rw [show -1074 + (e : Int) - (e : Int) = -1074 by omega] at this
      rw [Int.natAbs_mul, Int.natAbs_natCast]; exact this
    unfold joinN
    rw [if_neg h3, h4]
    have h5 : T * ((2 ^ e : Nat) : Int) < 0 ↔ T < 0 := by
      constructor
      · intro h
        by_cases h6 : T < 0
        · exact h6
        · have := Int.mul_nonneg (by omega : 0 ≤ T) (by omega : (0 : Int) ≤ ((2 ^ e : Nat) : Int)); omega
      · intro h; exact Int.mul_neg_of_neg_of_pos h hp
    by_cases h6 : T < 0
    · rw [if_pos (h5.2 h6)]
      simp only [h6, decide_true]
      rw [word_true]
    · rw [if_neg (fun h => h6 (h5.1 h))]
      simp only [h6, decide_false]
      rw [word_false]
theorem vI_eq (b : Nat) : vI b = sgZ (b / 9223372036854775808 % 2 == 1) (mg (b % 9223372036854775808) * 2 ^ pl (b % 9223372036854775808)) := rfl
theorem add_num {x y : Nat} (hx : x % 9223372036854775808 < 9218868437227405312) (hy : y % 9223372036854775808 < 9218868437227405312) :
    floatBits .add .f64 x y = some (addR (x / 9223372036854775808 % 2 == 1) (y / 9223372036854775808 % 2 == 1) (vI x + vI y)) := by
  show ((Ieee.double.read x).sum (Ieee.double.read y)).map Ieee.double.write = _
  rw [read_num hx, read_num hy, sum_write, vI_eq, vI_eq]
theorem sub_num {x y : Nat} (hx : x % 9223372036854775808 < 9218868437227405312) (hy : y % 9223372036854775808 < 9218868437227405312) :
    floatBits .sub .f64 x y = some (addR (x / 9223372036854775808 % 2 == 1) (!(y / 9223372036854775808 % 2 == 1)) (vI x - vI y)) := by
  show ((Ieee.double.read x).sum (Ieee.double.read y).opposite).map Ieee.double.write = _
  rw [read_num hx, read_num hy]
  show ((Ieee.Datum.number _ _ _).sum (Ieee.Datum.number _ _ _)).map Ieee.double.write = _
  rw [sum_write, vI_eq, vI_eq, Int.sub_eq_add_neg]
  congr 3
  unfold sgZ
  cases (y / 9223372036854775808 % 2 == 1) <;> simp

end Go.Proofs.Ytoeifjnknhjchaa
namespace Go.Proofs.Ytoeifjnknhjchaa

/-- A sign and a rung, as bits. -/
def wrd (s : Bool) (r : Nat) : Nat := if s then 9223372036854775808 + r else r
theorem word_eq (s : Bool) (r : Nat) : Ieee.double.word s r = wrd s r := by cases s <;> rfl
def sB (x : Nat) : Bool := x / 9223372036854775808 % 2 == 1
/-- A number's size in units of the least one. -/
def aV (x : Nat) : Nat := V (x % 9223372036854775808)
def NumB (x : Nat) : Prop := x % 9223372036854775808 < 9218868437227405312
def mulR (s : Bool) (T : Nat) : Nat := if T = 0 then wrd s 0 else wrd s (nearR T (-2148))
theorem mul_write (s : Bool) (m n p q : Nat) :
    Ieee.double.nearest s (m * n) (-1074 + (p : Int) + (-1074 + (q : Int))) = mulR s (m * 2 ^ p * (n * 2 ^ q)) := by
  have e : m * 2 ^ p * (n * 2 ^ q) = m * n * 2 ^ (p + q) := by rw [Nat.pow_add, Nat.mul_mul_mul_comm]
  rw [e]
  unfold mulR
  by_cases h0 : m * n = 0
  · rw [h0, Nat.zero_mul, if_pos rfl, nearest_zero, word_eq]
  · have hp := Nat.two_pow_pos (p + q)
    have h1 : m * n * 2 ^ (p + q) ≠ 0 := by have := Nat.mul_pos (show 0 < m * n by omega) hp; omega
    rw [if_neg h1, nearest_eq _ h0, word_eq]
    have := nearR_scale h0 (p + q) (-1074 + (p : Int) + (-1074 + (q : Int)))
    rw [← this]
    congr 2
    omega
theorem mul_num {x y : Nat} (hx : NumB x) (hy : NumB y) : floatBits .mul .f64 x y = some (mulR (sB x ^^ sB y) (aV x * aV y)) := by
  show ((Ieee.double.read x).product (Ieee.double.read y)).map Ieee.double.write = _
  rw [read_num hx, read_num hy]
  show some (Ieee.double.nearest (_ ^^ _) _ _) = _
  rw [mul_write]; rfl

/-- Worths that a number has. -/
def Rep (A : Int) : Prop := ∃ r, r < 9218868437227405312 ∧ A.natAbs = V r
theorem Rep.neg {A : Int} (h : Rep A) : Rep (-A) := by obtain ⟨r, a, b⟩ := h; exact ⟨r, a, by rw [Int.natAbs_neg]; exact b⟩
theorem natAbs_mul_pow (A : Int) (k : Nat) : (A * ((2 ^ k : Nat) : Int)).natAbs = A.natAbs * 2 ^ k := by rw [Int.natAbs_mul, Int.natAbs_natCast]
end Go.Proofs.Ytoeifjnknhjchaa
namespace Go.Proofs.Ytoeifjnknhjchaa

end Go.Proofs.Ytoeifjnknhjchaa
namespace Go.Proofs.Ytoeifjnknhjchaa
open Go.RowKit

theorem hide {p : Prop} (h : p) : Hid p := h
theorem unhide {p : Prop} (h : Hid p) : p := h

/-- A block's first n cells are M's first n digits. -/
def RowIs (w : World) (g n M : Nat) : Prop := ∀ i, i < n → w.cell? ⟨g, i, none⟩ = some (.int .u64 (dgt M i : Int))

theorem ret_slice {g a b c : Nat} (h : a = b) : Ending.returned (.slice (some ⟨g, 0, none⟩) a c) = .returned (.slice (some ⟨g, 0, none⟩) b c) := by rw [h]

set_option maxHeartbeats 400000 in
theorem trim_row (g n c M : Nat) (w : World) (hrow : RowIs w g n M) (hM : M < 2 ^ (32 * n)) (hn : n ≤ c) (hb : n ≤ 4611686018427387904) :
    Calls Try.prog 71 #[.slice (some ⟨g, 0, none⟩) n c] w fun e w' => e = .returned (.slice (some ⟨g, 0, none⟩) (nd M) c) ∧ w' = w := by
  have HR := hide hrow
  have HM := hide hM
  clear hrow hM
  go_enter Try.func71, Try.ntmps71
  go_wp2
  go_loop [3] (fun t => ∃ k : Nat, k ≤ n ∧ t = .int .i64 k ∧ Hid (M < 2 ^ (32 * k))) (fun t => (intOf t).toNat)
  case atStart => exact ⟨n, Nat.le_refl _, rfl, HM⟩
  case round =>
    obtain ⟨k, hk, rfl, HK⟩ := hrel
    cases k with
    | zero =>
      go_wp2
      go_ret
      exact ⟨ret_slice (by have h1 := HK.out; rw [Nat.mul_zero, Nat.pow_zero] at h1; rw [show M = 0 by omega]; rfl), rfl⟩
    | succ j =>
      have hc := unhide HR j (by omega)
      by_cases h0 : dgt M j = 0
      · rw [h0] at hc
        go_wp2
        go_round
        case rel => exact ⟨j, by omega, rfl, trim_step HK.out h0⟩
        case measure => simp [intOf]
      · have H0 := hide h0
        have h1 : ((dgt M j : Int) == 0) = false := by simpa using h0
        clear h0
        generalize (dgt M j : Int) = q at h1 hc
        go_wp2
        go_ret
        exact ⟨ret_slice (trim_end HK.out H0.out).symm, rfl⟩

/-- A slice value that reads as a number's digits, without noughts at their end. -/
def DN (w : World) (v : Value) (N : Nat) : Prop :=
  (N = 0 ∧ ∃ p c, v = .slice p 0 c) ∨ (N ≠ 0 ∧ ∃ g c, v = .slice (some ⟨g, 0, none⟩) (nd N) c ∧ nd N ≤ c ∧ g < w.heap.size ∧ RowIs w g (nd N) N)

theorem RowIs.mono {w : World} {g n m M : Nat} (h : RowIs w g n M) (hm : m ≤ n) : RowIs w g m M := fun i hi => h i (by omega)
theorem RowIs.below {w w' : World} {g n M : Nat} (h : RowIs w g n M) (hg : g < w.heap.size) (hb : Below w.heap.size w w') : RowIs w' g n M :=
  fun i hi => (hb.cell (p := ⟨g, i, none⟩) hg).trans (h i hi)
theorem DN.below {w w' : World} {v : Value} {N : Nat} (h : DN w v N) (hb : Below w.heap.size w w') : DN w' v N := by
  rcases h with h | ⟨h0, g, c, hv, hc, hg, hr⟩
  · exact Or.inl h
  · exact Or.inr ⟨h0, g, c, hv, hc, Nat.lt_of_lt_of_le hg hb.size, hr.below hg hb⟩
/-- What trim hands back. -/
theorem dn_mk {w : World} {g c n M : Nat} (hr : RowIs w g n M) (hM : M < 2 ^ (32 * n)) (hc : n ≤ c) (hg : g < w.heap.size) : DN w (.slice (some ⟨g, 0, none⟩) (nd M) c) M := by
  by_cases h0 : M = 0
  · exact Or.inl ⟨h0, some ⟨g, 0, none⟩, c, by rw [h0]; rfl⟩
  · have := nd_mono hM
    exact Or.inr ⟨h0, g, c, rfl, by omega, hg, hr.mono this⟩

theorem row_two (n : Nat) (w : World) (h : n < 18446744073709551616) : RowIs (w.alloc (.cells #[.int .u64 ((n : Int) % 4294967296), .int .u64 ((n : Int) / 4294967296)] 28)) w.heap.size 2 n := by
  intro i hi
  have e0 : (dgt n 0 : Int) = (n : Int) % 4294967296 := by unfold dgt; rw [Nat.mul_zero, Nat.pow_zero, Nat.div_one]; omega
  have e1 : (dgt n 1 : Int) = (n : Int) / 4294967296 := by unfold dgt; rw [show (2 : Nat) ^ (32 * 1) = 4294967296 from rfl]; omega
  match i, hi with
  | 0, _ => rw [e0]; simp
  | 1, _ => rw [e1]; simp

/-- A slice value that lies in a block from B on. -/
def From (B : Nat) (v : Value) : Prop := ∀ a l c, v = .slice (some a) l c → B ≤ a.block
theorem from_nil (B : Nat) : From B (.slice none 0 0) := fun a l c h => by cases h
theorem from_at (B g l c : Nat) (h : B ≤ g) : From B (.slice (some ⟨g, 0, none⟩) l c) := fun a l' c' e => by cases e; exact h
theorem DN.set {w : World} {v : Value} {N B : Nat} (h : DN w v N) (hf : From B v) {a : Addr} (ha : a.block < B) (x : Value) : DN (w.setCell a x) v N := by
  rcases h with h | ⟨h0, g, c, rfl, hc, hg, hr⟩
  · exact Or.inl h
  · have := hf _ _ _ rfl
    refine Or.inr ⟨h0, g, c, rfl, hc, by simpa using hg, fun i hi => ?_⟩
    exact (World.cell?_of_block (a := ⟨g, i, none⟩) (Below.heap_setCell w a x g (by have h9 : B ≤ g := this; omega))).trans (hr i hi)

set_option maxHeartbeats 400000 in
theorem digits_new (n : Nat) (w : World) (h : n < 18446744073709551616) :
    Calls Try.prog 66 #[.int .u64 n] w fun e w' => ∃ v, e = .returned v ∧ DN w' v n ∧ From w.heap.size v ∧ Below w.heap.size w w' := by
  have HR := hide (row_two n w h)
  have HD := hide (dn_mk HR.out (by omega) (Nat.le_refl 2) (by simp))
  go_enter Try.func66, Try.ntmps66
  go_wp2_with fail
  refine (trim_row _ 2 2 n _ HR.out (by omega) (Nat.le_refl 2) (by omega)).mono ?_
  rintro e w' ⟨rfl, rfl⟩
  go_wp2_with fail
  go_ret
  exact ⟨_, rfl, HD.out, from_at _ _ _ _ (Nat.le_refl _), (Below.refl _ _).alloc (Nat.le_refl _) _⟩
theorem digits_as (u : Int) (n : Nat) (w : World) (hu : Hid (u = n)) (h : n < 18446744073709551616) :
    Calls Try.prog 66 #[.int .u64 u] w fun e w' => ∃ v, e = .returned v ∧ DN w' v n ∧ From w.heap.size v ∧ Below w.heap.size w w' := by
  rw [hu.out]; exact digits_new n w h

theorem bl_le64 {x : Nat} (h : x < 18446744073709551616) : bl x ≤ 64 := by
  unfold bl
  by_cases h0 : x = 0
  · rw [if_pos h0]; omega
  · rw [if_neg h0]; have := (Nat.log2_lt h0).2 (show x < 2 ^ 64 from h); omega

set_option maxHeartbeats 400000 in
theorem len_nil (p : Option Addr) (c : Nat) (w : World) :
    Calls Try.prog 73 #[.slice p 0 c] w fun e w' => e = .returned (.int .i64 0) ∧ w' = w := by
  go_enter Try.func73, Try.ntmps73
  go_wp2
  go_ret
  exact ⟨rfl, rfl⟩

set_option maxHeartbeats 400000 in
theorem len_row (g n c N : Nat) (w : World) (hN : N ≠ 0) (hn : Hid (n + 1 = nd N)) (hb : n ≤ 100000000) (hcell : w.cell? ⟨g, n, none⟩ = some (.int .u64 (dgt N n : Int))) :
    Calls Try.prog 73 #[.slice (some ⟨g, 0, none⟩) (n + 1 : Nat) c] w fun e w' => e = .returned (.int .i64 (bl N : Int)) ∧ w' = w := by
  have HB : Hid (bl N = 32 * n + bl (dgt N n)) := by
    have := bl_top hN
    rw [← hn.out, Nat.add_sub_cancel] at this; exact this
  have hd := dgt_lt N n
  generalize dgt N n = d at hcell HB hd
  rw [HB.out]
  clear HB
  go_enter Try.func73, Try.ntmps73
  go_wp2
  go_loop [3, 4] (fun s t => ∃ a x : Nat, s = .int .i64 a ∧ t = .int .u64 x ∧ x < 4294967296 ∧ Hid (a + bl x = 32 * n + bl d)) (fun _ t => (intOf t).toNat)
  case atStart => exact ⟨32 * n, d, by go_num, rfl, hd, rfl⟩
  case round =>
    obtain ⟨a, x, rfl, rfl, hx, HA⟩ := hrel
    have ha : a ≤ 3200000064 := by
      have h1 := HA.out
      have h2 : bl d ≤ 64 := bl_le64 (by omega)
      omega
    by_cases h0 : x = 0
    · subst h0
      go_wp2
      go_ret
      exact ⟨ret_int (by have := HA.out; rw [show bl 0 = 0 from rfl] at this; omega), rfl⟩
    · have HB := hide (bl_half h0)
      have h1 : 0 < x := by omega
      clear h0
      go_wp2
      go_round
      case rel => exact ⟨a + 1, x / 2, by go_num, by go_num, by omega, by have h2 := HA.out; rw [HB.out] at h2; show _ = _; omega⟩
      case measure => simp [intOf]; omega

theorem len_any (v : Value) (N : Nat) (w : World) (h : DN w v N) (hb : nd N ≤ 100000000) :
    Calls Try.prog 73 #[v] w fun e w' => e = .returned (.int .i64 (bl N : Int)) ∧ w' = w := by
  rcases h with ⟨h0, p, c, rfl⟩ | ⟨h0, g, c, rfl, hc, hg, hr⟩
  · rw [h0]; exact len_nil p c w
  · have h1 := nd_pos h0
    obtain ⟨n, hn⟩ : ∃ n, n + 1 = nd N := ⟨nd N - 1, by omega⟩
    rw [← hn]
    exact len_row g n c N w h0 hn (by omega) (hr n (by omega))

set_option maxHeartbeats 400000 in
theorem digit_out (p : Option Addr) (n c : Nat) (i : Int) (w : World) (hi : i < 0 ∨ (n : Int) ≤ i) :
    Calls Try.prog 70 #[.slice p n c, .int .i64 i] w fun e w' => e = .returned (.int .u64 0) ∧ w' = w := by
  by_cases h : i < 0
  · go_enter Try.func70, Try.ntmps70
    go_wp2
    go_ret
    exact ⟨rfl, rfl⟩
  · have h2 : (n : Int) ≤ i := by omega
    go_enter Try.func70, Try.ntmps70
    go_wp2
    go_ret
    exact ⟨rfl, rfl⟩

set_option maxHeartbeats 400000 in
theorem digit_in (g n c k : Nat) (q : Int) (w : World) (hk : k < n) (hcell : w.cell? ⟨g, k, none⟩ = some (.int .u64 q)) :
    Calls Try.prog 70 #[.slice (some ⟨g, 0, none⟩) n c, .int .i64 k] w fun e w' => e = .returned (.int .u64 q) ∧ w' = w := by
  go_enter Try.func70, Try.ntmps70
  go_wp2
  go_ret
  exact ⟨rfl, rfl⟩

theorem digit_any (v : Value) (N k : Nat) (w : World) (h : DN w v N) :
    Calls Try.prog 70 #[v, .int .i64 k] w fun e w' => e = .returned (.int .u64 (dgt N k : Int)) ∧ w' = w := by
  rcases h with ⟨h0, p, c, rfl⟩ | ⟨h0, g, c, rfl, hc, hg, hr⟩
  · rw [h0, dgt_zero]; exact digit_out p 0 c k w (by omega)
  · by_cases hk : k < nd N
    · exact digit_in g (nd N) c k _ w hk (hr k hk)
    · rw [dgt_past (by omega)]; exact digit_out _ _ c k w (by omega)

end Go.Proofs.Ytoeifjnknhjchaa
namespace Go.Proofs.Ytoeifjnknhjchaa
open Go.RowKit

theorem and_mask52 {z : Int} (h0 : 0 ≤ z) (h : z < 18446744073709551616) : bits .and .u64 z 4503599627370495 = z % 4503599627370496 := by
  obtain ⟨b, rfl⟩ := Int.eq_ofNat_of_zero_le h0
  have := bits_and_u64_nat b 4503599627370495 (by omega) (by decide)
  rw [show ((4503599627370495 : Nat) : Int) = 4503599627370495 from rfl] at this
  rw [this]
  have e := Nat.and_two_pow_sub_one_eq_mod b 52
  rw [show (2 : Nat) ^ 52 - 1 = 4503599627370495 from rfl, show (2 : Nat) ^ 52 = 4503599627370496 from rfl] at e
  rw [e]; omega
/-- The parts, by the rung. -/
def magI (z : Int) : Int := if z < 4503599627370496 then z else 4503599627370496 + z % 4503599627370496
def plcI (z : Int) : Int := if z < 4503599627370496 then -1074 else z / 4503599627370496 - 1075
end Go.Proofs.Ytoeifjnknhjchaa
