/- The document's Of at any number's bits, and what its answers are worth. -/
import Derived.Test.YtdmldggjgaaliaaGreatRefJoin
import Derived.Test.YtdmldggjgaaliaaGreatTimesD
import Derived.Test.YtdmldggjgaaliaaGreatFlo
namespace Go.Proofs.YtdmldggjgaaliaaGreat
open Go.RowKit

def infB (u : Int) : Bool := szI u == 9218868437227405312

set_option maxHeartbeats 400000 in
theorem refInf_any (u : Int) (w : World) (h : U64 u) :
    Calls Tryz.prog 51 #[.int .u64 u] w fun e w' => e = .returned (.bool (infB u)) ∧ w' = w := by
  have hz := andNot_sz h
  go_enter Tryz.func51, Tryz.ntmps51
  go_wp2
  go_ret
  exact ⟨rfl, rfl⟩

set_option maxHeartbeats 400000 in
theorem of_zero (u : Int) (w : World) (h : U64 u) (h0 : szI u = 0) :
    Calls Tryz.prog 49 #[.int .u64 u] w fun x w' => ∃ v, x = .returned (NumV false v 0) ∧ DN w' v 0 ∧ Below w.heap.size w w' := by
  have hm : bits .and .u64 u 4503599627370495 = 0 := by rw [and_mant h, h0]; rfl
  have hE : bits .and .u64 (u / 4503599627370496) 2047 = 0 := by
    have := h.1; have := h.2
    rw [and_2047 (by omega) (by omega)]; unfold szI at h0; omega
  unfold NumV
  clear h h0
  go_enter Tryz.func49, Tryz.ntmps49
  go_wp2_with fail
  refine bodyPost_ret (v := .agg #[.bool false, .slice none 0 0, .int .i64 0]) (by simp [results, Tryz.results49, go_sem]) rfl ⟨_, rfl, Or.inl ⟨rfl, _, _, rfl⟩, ?_⟩
  exact (Below.refl w.heap.size w).alloc (Nat.le_refl _) _

/-- What Of tells of a number: N * 2^e is its size. -/
structure OfR (x : Nat) (neg : Bool) (N : Nat) (e : Int) : Prop where
  lt : N < 9007199254740992
  lo : -1074 ≤ e
  hi : e ≤ 971
  val : N * 2 ^ (e + 1074).toNat = aV x
  sgn : N ≠ 0 → neg = sB x
  mag : N ≠ 0 → N = mg (x % 9223372036854775808) ∧ e = -1074 + (pl (x % 9223372036854775808) : Int)
theorem sgB_nat {x : Nat} (h : x < 18446744073709551616) : sgB (x : Int) = sB x := by
  unfold sgB sB
  rcases (show x / 9223372036854775808 = 0 ∨ x / 9223372036854775808 = 1 by omega) with e | e
  · rw [e]; show _ = false; rw [decide_eq_false_iff_not]; omega
  · rw [e]; show _ = true; rw [decide_eq_true_eq]; omega
theorem szI_nat (x : Nat) : szI (x : Int) = ((x % 9223372036854775808 : Nat) : Int) := by unfold szI; omega
theorem of_num (x : Nat) (u : Int) (w : World) (hu : Hid (u = (x : Int))) (h : U64 u) (hx : NumB x) :
    Calls Tryz.prog 49 #[.int .u64 u] w fun r w' => ∃ neg v N e, r = .returned (.agg #[.bool neg, v, .int .i64 e]) ∧ DN w' v N ∧ OfR x neg N e ∧ Below w.heap.size w w' := by
  have hx64 : x < 18446744073709551616 := by have := h.2; rw [hu.out] at this; omega
  have hs : szI u = ((x % 9223372036854775808 : Nat) : Int) := by rw [hu.out]; exact szI_nat x
  unfold NumB at hx
  by_cases h0 : szI u = 0
  · refine (of_zero u w h h0).mono ?_
    rintro r w' ⟨v, rfl, hd, hb⟩
    refine ⟨false, v, 0, 0, rfl, hd, ⟨by decide, by decide, by decide, ?_, fun h => absurd rfl h, fun h => absurd rfl h⟩, hb⟩
    unfold aV
    rw [show x % 9223372036854775808 = 0 by omega, V_zero, Nat.zero_mul]
  · refine (of_any u w h (by omega) (by omega)).mono ?_
    rintro r w' ⟨v, rfl, hd, hb⟩
    have hn : (magI (szI u)).toNat = mg (x % 9223372036854775808) := by
      rw [hs]; generalize x % 9223372036854775808 = r at *
      unfold magI mg
      by_cases c : r < 4503599627370496
      · rw [if_pos c, if_pos (by omega)]; omega
      · rw [if_neg c, if_neg (by omega)]; omega
    have he : plcI (szI u) = -1074 + (pl (x % 9223372036854775808) : Int) := by
      rw [hs]; generalize x % 9223372036854775808 = r at *
      unfold plcI pl
      by_cases c : r < 4503599627370496
      · rw [if_pos (by omega)]; omega
      · rw [if_neg (by omega)]; omega
    have hp : pl (x % 9223372036854775808) ≤ 2045 := by unfold pl; omega
    rw [hn] at hd
    refine ⟨sgB u, v, _, plcI (szI u), rfl, hd, ⟨mg_lt _, by omega, by omega, ?_, fun _ => ?_, fun _ => ⟨rfl, he⟩⟩, hb⟩
    · rw [he]
      unfold aV V
      congr 2
      omega
    · rw [hu.out]; exact sgB_nat hx64
theorem nd_two {N : Nat} (h : N < 9007199254740992) : nd N ≤ 2 := nd_mono (k := 2) (by omega)
end Go.Proofs.YtdmldggjgaaliaaGreat
