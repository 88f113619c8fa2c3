/- The contract of Split. Contracts of the document's Whole, Join, Of and Split. -/
import Derived.Test.YtcbbbkngjdlcjaaGaw
namespace Go.Proofs.Ytcbbbkngjdlcjaa
open Go.RowKit

theorem and_mask52 {z : Int} (h0 : 0 ≤ z) (h : z < 18446744073709551616) : bits .and .u64 z 4503599627370495 = z % 4503599627370496 := by
  obtain ⟨b, rfl⟩ := Int.eq_ofNat_of_zero_le h0
  have := bits_and_u64_nat b 4503599627370495 (by omega) (by decide)
  rw [show ((4503599627370495 : Nat) : Int) = 4503599627370495 from rfl] at this
  rw [this]
  have e := Nat.and_two_pow_sub_one_eq_mod b 52
  rw [show (2 : Nat) ^ 52 - 1 = 4503599627370495 from rfl, show (2 : Nat) ^ 52 = 4503599627370496 from rfl] at e
  rw [e]; omega
theorem or_hidden {z : Int} (h0 : 0 ≤ z) (h : z < 4503599627370496) : bits .or .u64 z 4503599627370496 = 4503599627370496 + z := by
  obtain ⟨b, rfl⟩ := Int.eq_ofNat_of_zero_le h0
  have := bits_or_u64_nat b 4503599627370496 (by omega) (by decide)
  rw [show ((4503599627370496 : Nat) : Int) = 4503599627370496 from rfl] at this
  rw [this]
  have h2 := Nat.two_pow_add_eq_or_of_lt (i := 52) (b := b) (by omega) 1
  rw [Nat.or_comm, show (4503599627370496 : Nat) = 2 ^ 52 * 1 from rfl, ← h2]
  omega

/-- The parts, by the rung. -/
def magI (z : Int) : Int := if z < 4503599627370496 then z else 4503599627370496 + z % 4503599627370496
def plcI (z : Int) : Int := if z < 4503599627370496 then -1074 else z / 4503599627370496 - 1075
def splOk (u : Int) : Bool := decide (szI u < 9218868437227405312)
def splM (u : Int) : Int := if splOk u then (if sgB u then -magI (szI u) else magI (szI u)) else 0
def splE (u : Int) : Int := if splOk u && decide (szI u ≠ 0) then plcI (szI u) else 0

theorem ret3 {a b c d : Int} {x : Bool} (h : a = c) (h' : b = d) : Ending.returned (.tuple #[.int .i64 a, .int .i64 b, .bool x]) = .returned (.tuple #[.int .i64 c, .int .i64 d, .bool x]) := by rw [h, h']
end Go.Proofs.Ytcbbbkngjdlcjaa
namespace Go.Proofs.Ytcbbbkngjdlcjaa
open Go.RowKit

theorem nearR_tiny {N : Nat} {e : Int} (h0 : N ≠ 0) (h : (bl N : Int) + e < -1200) : nearR N e = 0 := by
  have hb := bl_pos h0
  have e3 : lastP N e = -1074 := by unfold lastP; omega
  unfold nearR
  rw [e3, show (e - -1074).toNat = 0 by omega, Nat.pow_zero, Nat.mul_one, rne_small]
  · rfl
  · have h1 := lt_bl N
    have h2 : (2 : Nat) ^ (bl N + 1) ≤ 2 ^ (-1074 - e).toNat := Nat.pow_le_pow_right (by decide) (by omega)
    rw [Nat.pow_succ] at h2; omega
theorem nearM_eq (neg : Bool) {N : Nat} (e : Int) (h0 : N ≠ 0) : nearM neg N e false = (if neg then 9223372036854775808 else 0) + (nearR N e : Int) := by
  have hb := bl_pos h0
  unfold nearM
  rw [if_neg h0]
  have key : (if farB N e = true then if 0 < e ∨ 0 < (bl N : Int) + e then madeI neg 9218868437227405312 else madeI neg 0 else madeI neg (rnd53 N e false)) = madeI neg (nearR N e) := by
    cases hf : farB N e
    · simp only [Bool.false_eq_true, if_false]
      rw [← rnd_near e h0]
      unfold madeI
      cases neg <;> simp only [Bool.false_eq_true, if_true, if_false] <;> omega
    · simp only [if_true]
      unfold farB at hf
      rw [Bool.or_eq_true, decide_eq_true_eq, decide_eq_true_eq] at hf
      rcases hf with hf | hf
      · rw [if_pos (Or.inr (by omega)), nearR_big h0 (by omega)]; rfl
      · rw [if_neg (by omega), nearR_tiny h0 hf]; rfl
  rw [key]
  have hle : nearR N e ≤ 9218868437227405312 := Nat.min_le_right _ _
  unfold madeI
  cases neg <;> simp only [Bool.false_eq_true, if_true, if_false] <;> omega

theorem DN.shape {w : World} {v : Value} {N : Nat} (h : DN w v N) : ∃ p l c, v = .slice p l c := by
  rcases h with ⟨_, p, c, rfl⟩ | ⟨_, g, c, rfl, _⟩
  · exact ⟨p, 0, c, rfl⟩
  · exact ⟨_, _, _, rfl⟩

set_option maxHeartbeats 400000 in
theorem whole_pos (n : Int) (w : World) (h0 : 0 ≤ n) (h1 : n ≤ 9223372036854775807) :
    Calls Try.prog 21 #[.int .i64 n] w fun x w' => ∃ v, x = .returned (NumV false v 0) ∧ DN w' v n.toNat ∧ Below w.heap.size w w' := by
  have hu : Hid (n = (n.toNat : Int)) := by show _ = _; omega
  unfold NumV
  go_enter Try.func21, Try.ntmps21
  go_wp2_with fail
  refine (digits_as n n.toNat _ hu (by omega)).mono ?_
  rintro x w1 ⟨v1, rfl, hd1, hfr, hb1⟩
  obtain ⟨p, l, c, rfl⟩ := hd1.shape
  have HB := hide hb1
  obtain ⟨hc, hf⟩ := bcell hb1
  have hz : w.heap.size < w1.heap.size := by have := hb1.size; simp at this; omega
  have HD := fun a b c => ((hd1.set hfr (a := ⟨w.heap.size, 0, none⟩) (by simp) a).set hfr (a := ⟨w.heap.size, 1, none⟩) (by simp) b).set hfr (a := ⟨w.heap.size, 2, none⟩) (by simp) c
  have HD := hide HD
  clear hd1 hb1 hfr
  go_wp2_with fail
  refine bodyPost_ret (v := .agg #[.bool false, .slice p l c, .int .i64 0]) (by simp [results, Try.results21, go_sem, hc]) rfl ⟨_, rfl, HD.out _ _ _, ?_⟩
  exact ((((Below.refl w.heap.size w).alloc (Nat.le_refl _) _).trans (HB.out.mono (by simp))).setCell (Nat.le_refl _) _).setCell (Nat.le_refl _) _ |>.setCell (Nat.le_refl _) _

set_option maxHeartbeats 400000 in
theorem whole_neg (n : Int) (w : World) (h0 : n < 0) (h1 : -9223372036854775808 ≤ n) :
    Calls Try.prog 21 #[.int .i64 n] w fun x w' => ∃ v, x = .returned (NumV true v 0) ∧ DN w' v n.natAbs ∧ Below w.heap.size w w' := by
  have hu : Hid (-(n + 1) + 1 = (n.natAbs : Int)) := by show _ = _; omega
  unfold NumV
  go_enter Try.func21, Try.ntmps21
  go_wp2_with fail
  refine (digits_as _ n.natAbs _ hu (by omega)).mono ?_
  rintro x w1 ⟨v1, rfl, hd1, hfr, hb1⟩
  obtain ⟨p, l, c, rfl⟩ := hd1.shape
  have HB := hide hb1
  obtain ⟨hc, hf⟩ := bcell hb1
  have hz : w.heap.size < w1.heap.size := by have := hb1.size; simp at this; omega
  have HD := fun a b c => ((hd1.set hfr (a := ⟨w.heap.size, 0, none⟩) (by simp) a).set hfr (a := ⟨w.heap.size, 1, none⟩) (by simp) b).set hfr (a := ⟨w.heap.size, 2, none⟩) (by simp) c
  have HD := hide HD
  clear hd1 hb1 hfr
  go_wp2_with fail
  refine bodyPost_ret (v := .agg #[.bool true, .slice p l c, .int .i64 0]) (by simp [results, Try.results21, go_sem, hc]) rfl ⟨_, rfl, HD.out _ _ _, ?_⟩
  exact ((((Below.refl w.heap.size w).alloc (Nat.le_refl _) _).trans (HB.out.mono (by simp))).setCell (Nat.le_refl _) _).setCell (Nat.le_refl _) _ |>.setCell (Nat.le_refl _) _

theorem whole_any (n : Int) (w : World) (h0 : -9223372036854775808 ≤ n) (h1 : n ≤ 9223372036854775807) :
    Calls Try.prog 21 #[.int .i64 n] w fun x w' => ∃ v, x = .returned (NumV (decide (n < 0)) v 0) ∧ DN w' v n.natAbs ∧ Below w.heap.size w w' := by
  by_cases h : n < 0
  · rw [decide_eq_true h]; exact whole_neg n w h h0
  · rw [decide_eq_false h, show n.natAbs = n.toNat by omega]; exact whole_pos n w (by omega) h1

def clampE (e : Int) : Int := min (max e (-1048576)) 1048576

theorem near_clamp {N : Nat} (e : Int) (h0 : N ≠ 0) (h : N < 18446744073709551616) : nearR N (clampE e) = nearR N e := by
  unfold clampE
  by_cases h1 : 1048576 < e
  · rw [show min (max e (-1048576)) 1048576 = 1048576 by omega, nearR_big h0 (by omega), nearR_big h0 (by omega)]
  · by_cases h2 : e < -1048576
    · rw [show min (max e (-1048576)) 1048576 = -1048576 by omega, nearR_small h (by omega), nearR_small h (by omega)]
    · rw [show min (max e (-1048576)) 1048576 = e by omega]

theorem and_mant {u : Int} (h : U64 u) : bits .and .u64 u 4503599627370495 = szI u % 4503599627370496 := by
  rw [and_mask52 h.1 h.2]; unfold szI; omega
theorem and_2047 {z : Int} (h0 : 0 ≤ z) (h : z < 18446744073709551616) : bits .and .u64 z 2047 = z % 2048 := by
  obtain ⟨b, rfl⟩ := Int.eq_ofNat_of_zero_le h0
  have := bits_and_u64_nat b 2047 (by omega) (by decide)
  rw [show ((2047 : Nat) : Int) = 2047 from rfl] at this
  rw [this]
  have e := Nat.and_two_pow_sub_one_eq_mod b 11
  rw [show (2 : Nat) ^ 11 - 1 = 2047 from rfl, show (2 : Nat) ^ 11 = 2048 from rfl] at e
  rw [e]; omega

end Go.Proofs.Ytcbbbkngjdlcjaa
