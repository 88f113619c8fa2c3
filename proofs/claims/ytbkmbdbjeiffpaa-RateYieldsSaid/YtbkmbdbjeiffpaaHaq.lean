/- Rows of floats: what came in, and rows of one's own. Exact products: whole numbers, and powers of 2. -/
import Derived.Test.YtbkmbdbjeiffpaaHaf
import Derived.WalkKit
import Derived.LoopTactic
import Derived.BigCall
import Derived.BigQuiet
import Derived.Maps.AppendAt
import Derived.Laws.OwnMore
import Derived.Deep.OwnRows
import Derived.Test.YtbkmbdbjeiffpaaHap
namespace Go.Proofs.Ytbkmbdbjeiffpaa
open Go.RowKit

theorem hideS {p : Prop} (h : p) : Hid p := h
/-- The same, with the elder world's name kept. -/
theorem turned {P : Program} {f : Nat} {args : Array Value} {w : World} {Q : Ending → Prop} (h : Calls P f args w fun e w' => Q e ∧ w' = w) : Calls P f args w fun e w' => Q e ∧ w = w' :=
  h.mono fun _ _ ⟨a, b⟩ => ⟨a, b.symm⟩
theorem infoU : (Try.prog.info? 26).map (fun i => (i.zero, i.size, i.bytes)) = some (some (.int .u64 0), 1, 8) := by kernel_rfl
theorem infoF : (Try.prog.info? 22).map (fun i => (i.zero, i.size, i.bytes)) = some (some (.float .f64 0), 1, 8) := by kernel_rfl

theorem own_below {w w' : World} {B e size n : Nat} {v : Value} {xs : List Value} (h : w.ownsRow B e size v n xs) (hb : Below w.heap.size w w') : w'.ownsRow B e size v n xs := by
  refine ⟨h.1, ?_⟩
  rcases h.2 with hn | ⟨g, cap, cur, rfl, hg, hgg, rest⟩
  · exact .inl hn
  · exact .inr ⟨g, cap, cur, rfl, hg, by rw [hb.block g (Array.getElem?_eq_some_iff.1 hgg).1]; exact hgg, rest⟩

def uV (x : Nat) : Value := .int .u64 (x : Int)
def fV (x : Nat) : Value := .float .f64 x
theorem getD_some {l : List Nat} {i : Nat} (hi : i < l.length) : l[i]? = some (l.getD i 0) := by simp [List.getD, List.getElem?_eq_getElem hi]
/-- The first k, as values. -/
def rowOf (f : Nat → Value) (l : List Nat) (k : Nat) : List Value := (l.take k).map f
theorem take_next {f : Nat → Value} {l : List Nat} {k : Nat} (hk : k < l.length) : rowOf f l (k + 1) = rowOf f l k ++ [f (l.getD k 0)] := by
  unfold rowOf
  rw [List.take_add_one, getD_some hk, List.map_append]; rfl
theorem rowOf_all (f : Nat → Value) (l : List Nat) : rowOf f l l.length = l.map f := by unfold rowOf; rw [List.take_length]

/-- A slice that reads as a list of floats, wherever it lies. -/
structure Src (w : World) (p : Option Addr) (b off : Nat) (xs : List Nat) : Prop where
  at_ : 0 < xs.length → p = some ⟨b, off, none⟩
  lt : 0 < xs.length → b < w.heap.size
  cell : ∀ j, j < xs.length → w.cell? ⟨b, off + j, none⟩ = some (.float .f64 (xs.getD j 0))
theorem Src.below {w w' : World} {p : Option Addr} {b off : Nat} {xs : List Nat} (h : Src w p b off xs) (hb : Below w.heap.size w w') : Src w' p b off xs :=
  ⟨h.at_, fun hx => Nat.lt_of_lt_of_le (h.lt hx) hb.size, fun j hj => (hb.cell (p := ⟨b, off + j, none⟩) (h.lt (by omega))).trans (h.cell j hj)⟩

/-- A row of one's own, with where it lies. -/
structure OwnF (w : World) (B t : Nat) (f : Nat → Value) (v : Value) (xs : List Nat) : Prop where
  own : w.ownsRow B t 1 v xs.length (xs.map f)
theorem OwnF.below {w w' : World} {B t : Nat} {f : Nat → Value} {v : Value} {xs : List Nat} (h : OwnF w B t f v xs) (hb : Below w.heap.size w w') : OwnF w' B t f v xs := ⟨own_below h.own hb⟩
theorem OwnF.shape {w : World} {B t : Nat} {f : Nat → Value} {v : Value} {xs : List Nat} (h : OwnF w B t f v xs) :
    ∃ p g c, v = .slice p xs.length c ∧ (0 < xs.length → p = some ⟨g, 0, none⟩ ∧ B ≤ g ∧ g < w.heap.size) ∧ ∀ j, j < xs.length → w.cell? ⟨g, j, none⟩ = some (f (xs.getD j 0)) := by
  rcases h.own.2 with ⟨hv, hn⟩ | ⟨g, cap, cur, hv, hb, hg, _⟩
  · exact ⟨none, 0, 0, by rw [hv, hn], fun h0 => by omega, fun j hj => by omega⟩
  · refine ⟨some ⟨g, 0, none⟩, g, cap, hv, fun _ => ⟨rfl, hb, (Array.getElem?_eq_some_iff.1 hg).1⟩, fun j hj => ?_⟩
    have h2 := h.own
    rw [hv] at h2
    rw [h2.cellAt j (by omega), List.getElem?_map, getD_some hj]; rfl
theorem OwnF.cell1 {w : World} {B t g n c : Nat} {f : Nat → Value} {xs : List Nat} (h : OwnF w B t f (.slice (some ⟨g, 0, none⟩) n c) xs) (hn : xs.length = n) (j : Nat) (hj : j < xs.length) : w.cell? ⟨g, j, none⟩ = some (f (xs.getD j 0)) := by
  have h2 := h.own
  rw [hn] at h2
  rw [h2.cellAt j (by omega), List.getElem?_map, getD_some hj]; rfl

end Go.Proofs.Ytbkmbdbjeiffpaa
namespace Go.Proofs.Ytbkmbdbjeiffpaa

theorem vI_sgZ (x : Nat) : vI x = sgZ (sB x) (aV x) := rfl
theorem aV_fi {a : Int} {K : Nat} (hK : K = 1074) (h1 : -9007199254740992 ≤ a) (h2 : a ≤ 9007199254740992) : aV (fi a) = a.natAbs * 2 ^ K ∧ sB (fi a) = decide (a < 0) ∧ NumB (fi a) ∧ fi a < 18446744073709551616 := by
  obtain ⟨b1, b2, b3, b4⟩ := vI_fi hK h1 h2
  refine ⟨?_, b3, b2, b4⟩
  have h3 : (vI (fi a)).natAbs = aV (fi a) := by
    rw [vI_sgZ]; unfold sgZ; cases sB (fi a) <;> simp
  rw [← h3, b1, natAbs_mul_pow]
theorem mul_fi {a b : Int} (h1 : -9007199254740992 ≤ a) (h2 : a ≤ 9007199254740992) (h3 : -9007199254740992 ≤ b) (h4 : b ≤ 9007199254740992) (hs : a * b ≠ 0 ∨ (0 ≤ a ∧ 0 ≤ b)) : floatBits .mul .f64 (fi a) (fi b) = some (fi (a * b)) := by
  obtain ⟨K, hK⟩ : ∃ K, K = 1074 := ⟨_, rfl⟩
  obtain ⟨a1, a2, a3, _⟩ := aV_fi hK h1 h2
  obtain ⟨b1, b2, b3, _⟩ := aV_fi hK h3 h4
  rw [mul_num a3 b3, a1, b1, a2, b2]
  congr 1
  have hp := Nat.two_pow_pos K
  have e : a.natAbs * 2 ^ K * (b.natAbs * 2 ^ K) = (a * b).natAbs * 2 ^ (K + K) := by rw [Nat.mul_mul_mul_comm, ← Nat.pow_add, Int.natAbs_mul]
  rw [e]
  unfold mulR fi joinN
  by_cases h0 : a * b = 0
  · rw [h0, Int.natAbs_zero, Nat.zero_mul, if_pos rfl, if_pos rfl]
    rcases hs with hs | ⟨p, q⟩
    · exact absurd h0 hs
    · rw [show decide (a < 0) = false by simp; omega, show decide (b < 0) = false by simp; omega]; rfl
  · have h5 : (a * b).natAbs ≠ 0 := by omega
    have h6 : (a * b).natAbs * 2 ^ (K + K) ≠ 0 := by have := Nat.mul_pos (show 0 < (a * b).natAbs by omega) (Nat.two_pow_pos (K + K)); omega
    have h7 := nearR_scale h5 (K + K) 0
    rw [show (0 : Int) - ((K + K : Nat) : Int) = -2148 by omega] at h7
    rw [if_neg h6, if_neg h0, h7]
    have hsg : (decide (a < 0) ^^ decide (b < 0)) = decide (a * b < 0) := by
      have ha : a ≠ 0 := fun h => h0 (by rw [h, Int.zero_mul])
      have hb : b ≠ 0 := fun h => h0 (by rw [h, Int.mul_zero])
      rcases Int.lt_or_lt_of_ne ha with pa | pa <;> rcases Int.lt_or_lt_of_ne hb with pb | pb
      · have := Int.mul_pos_of_neg_of_neg pa pb; simp [pa, pb]; omega
      · have := Int.mul_neg_of_neg_of_pos pa pb; simp [pa, this]; omega
      · have := Int.mul_neg_of_pos_of_neg pa pb; simp [pb, this]; omega
      · have := Int.mul_pos pa pb
        rw [decide_eq_false (show ¬ a < 0 by omega), decide_eq_false (show ¬ b < 0 by omega), decide_eq_false (show ¬ a * b < 0 by omega)]; rfl
    rw [hsg]
    unfold wrd
    by_cases hn : a * b < 0
    · rw [if_pos hn, if_pos (by simpa using hn)]
    · rw [if_neg hn, if_neg (by simpa using hn)]

/-- 2^k as bits. -/
def P2 (k : Int) : Nat := nearR 1 k
theorem P2_eq {k : Int} (h1 : -1022 ≤ k) (h2 : k ≤ 1023) : P2 k = (k + 1023).toNat * 4503599627370496 := by
  unfold P2
  have hl : Nat.log2 1 = 0 := by decide
  rw [nearR_normal (by decide) (by decide) (by rw [hl]; omega) (by rw [hl]; omega), hl, show rne (1 * 2 ^ (63 - 0)) 11 = 4503599627370496 by decide]
  omega
theorem P2_num {k : Int} (h1 : -1022 ≤ k) (h2 : k ≤ 1023) : NumB (P2 k) ∧ sB (P2 k) = false ∧ P2 k < 9218868437227405312 ∧ mg (P2 k % 9223372036854775808) = 4503599627370496 ∧ pl (P2 k % 9223372036854775808) = (k + 1022).toNat := by
  rw [P2_eq h1 h2]
  obtain ⟨n, hn⟩ : ∃ n : Nat, (k + 1023).toNat = n := ⟨_, rfl⟩
  have hk : k = (n : Int) - 1023 := by omega
  subst hk
  rw [hn]
  have hn1 : 1 ≤ n := by omega
  have hn2 : n ≤ 2046 := by omega
  have e : n * 4503599627370496 % 9223372036854775808 = n * 4503599627370496 := by omega
  refine ⟨by unfold NumB; omega, ?_, by omega, ?_, ?_⟩
  · unfold sB; rw [show n * 4503599627370496 / 9223372036854775808 = 0 by omega]; rfl
  · rw [e]; unfold mg; rw [if_neg (by omega)]; omega
  · rw [e]; unfold pl; omega
theorem pow_52 {a b : Nat} (h : 52 + a = b) : 4503599627370496 * 2 ^ a = 2 ^ b := by
  subst h
  have := Nat.pow_add 2 52 a
  rw [this]
theorem aV_P2 {k : Int} (h1 : -1022 ≤ k) (h2 : k ≤ 1023) : aV (P2 k) = 2 ^ (k + 1074).toNat := by
  obtain ⟨_, _, _, a, b⟩ := P2_num h1 h2
  unfold aV V
  rw [a, b]
  exact pow_52 (by omega)
theorem mul_P2 {i j : Int} (h1 : -1022 ≤ i) (h2 : i ≤ 1023) (h3 : -1022 ≤ j) (h4 : j ≤ 1023) : floatBits .mul .f64 (P2 i) (P2 j) = some (P2 (i + j)) := by
  obtain ⟨a1, a2, _⟩ := P2_num h1 h2
  obtain ⟨b1, b2, _⟩ := P2_num h3 h4
  rw [mul_num a1 b1, aV_P2 h1 h2, aV_P2 h3 h4, a2, b2, ← Nat.pow_add]
  congr 1
  obtain ⟨n, hn⟩ : ∃ n, (i + 1074).toNat + (j + 1074).toNat = n := ⟨_, rfl⟩
  rw [hn]
  have hp := Nat.two_pow_pos n
  have h7 := nearR_scale (M := 1) (by decide) n (i + j)
  rw [Nat.one_mul, show i + j - (n : Int) = -2148 by omega] at h7
  unfold mulR
  rw [if_neg (Nat.pos_iff_ne_zero.1 hp), h7]
  unfold wrd P2
  rw [if_neg (by decide)]
theorem div_P2 {k : Int} (h1 : -1022 ≤ k) (h2 : k ≤ 1022) : floatBits .quo .f64 4607182418800017408 (P2 k) = some (P2 (-k)) := by
  obtain ⟨b1, b2, _, b4, b5⟩ := P2_num h1 (show k ≤ 1023 by omega)
  show ((Ieee.double.read 4607182418800017408).quotient 54 (Ieee.double.read (P2 k))).map Ieee.double.write = _
  have e1 : Ieee.double.read 4607182418800017408 = .number false 4503599627370496 (-52) := by rw [read_num (by decide)]; rfl
  have e2 : Ieee.double.read (P2 k) = .number false 4503599627370496 (k - 52) := by
    rw [read_num b1, b4, b5]
    have : (P2 k / 9223372036854775808 % 2 == 1) = false := b2
    rw [this]; congr 1; omega
  rw [e1, e2]
  have e3 : Ieee.Datum.quotient 54 (.number false 4503599627370496 (-52)) (.number false 4503599627370496 (k - 52)) = some (.number false 36028797018963968 (-52 - (k - 52) - ((54 : Nat) : Int) - 1)) := by
    have l : Nat.log2 4503599627370496 = 52 := by decide
    show some (Ieee.Datum.number (false ^^ false) (2 * ((4503599627370496 <<< (54 + Nat.log2 4503599627370496 - Nat.log2 4503599627370496)) / 4503599627370496) + ((4503599627370496 <<< (54 + Nat.log2 4503599627370496 - Nat.log2 4503599627370496)) % 4503599627370496 != 0).toNat) (-52 - (k - 52) - ((54 + Nat.log2 4503599627370496 - Nat.log2 4503599627370496 : Nat) : Int) - 1)) = _
    rw [l]
    rfl
  rw [e3]
  show some (Ieee.double.nearest false 36028797018963968 _) = _
  rw [nearest_eq _ (by decide), word_false]
  have h7 := nearR_scale (M := 1) (by decide) 55 (-k)
  rw [show (1 : Nat) * 2 ^ 55 = 36028797018963968 from rfl] at h7
  rw [show (-52 - (k - 52) - ((54 : Nat) : Int) - 1) = -k - ((55 : Nat) : Int) by omega, h7]
  rfl
theorem P2_zero : P2 0 = 4607182418800017408 := by rw [P2_eq (by decide) (by decide)]; rfl
theorem P2_one : P2 1 = 4611686018427387904 := by rw [P2_eq (by decide) (by decide)]; rfl
theorem fi_one : fi 1 = 4607182418800017408 := by
  show joinN 1 0 = _
  exact P2_zero
end Go.Proofs.Ytbkmbdbjeiffpaa
