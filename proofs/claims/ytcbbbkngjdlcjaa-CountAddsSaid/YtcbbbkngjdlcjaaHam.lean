/- The contract of the document's MulDigits. The contract of the document's Times. -/
import Derived.Test.YtcbbbkngjdlcjaaHak
import Derived.Deep.LoopGhost
import Derived.Test.YtcbbbkngjdlcjaaHal
namespace Go.Proofs.Ytcbbbkngjdlcjaa
open Go.RowKit

/-- R with another digit at place j. -/
def setD (R j d : Nat) : Nat := R / 2 ^ (32 * (j + 1)) * 2 ^ (32 * (j + 1)) + d * 2 ^ (32 * j) + R % 2 ^ (32 * j)
theorem setD_sum (R j d : Nat) : setD R j d + dgt R j * 2 ^ (32 * j) = R + d * 2 ^ (32 * j) := by
  unfold setD
  have h1 := Nat.div_add_mod R (2 ^ (32 * (j + 1)))
  have h2 := mod_succ R j
  rw [Nat.mul_comm] at h1
  omega
theorem low_lt (R j d : Nat) (hd : d < 4294967296) : d * 2 ^ (32 * j) + R % 2 ^ (32 * j) < 2 ^ (32 * (j + 1)) := by
  have h1 : R % 2 ^ (32 * j) < 2 ^ (32 * j) := Nat.mod_lt _ (Nat.two_pow_pos _)
  have h2 : (d + 1) * 2 ^ (32 * j) ≤ 4294967296 * 2 ^ (32 * j) := Nat.mul_le_mul_right _ hd
  rw [Nat.add_mul, Nat.one_mul] at h2
  rw [pow32, Nat.mul_comm (2 ^ (32 * j))]
  omega
theorem setD_div (R j d : Nat) (hd : d < 4294967296) : setD R j d / 2 ^ (32 * (j + 1)) = R / 2 ^ (32 * (j + 1)) := by
  unfold setD
  rw [Nat.add_assoc, Nat.add_comm, Nat.add_mul_div_right _ _ (Nat.two_pow_pos _), Nat.div_eq_of_lt (low_lt R j d hd), Nat.zero_add]
theorem setD_lt {R j d T : Nat} (hR : R < 2 ^ (32 * T)) (hj : j < T) (hd : d < 4294967296) : setD R j d < 2 ^ (32 * T) := by
  have e : (2 : Nat) ^ (32 * T) = 2 ^ (32 * (T - (j + 1))) * 2 ^ (32 * (j + 1)) := by rw [← Nat.pow_add]; congr 1; omega
  rw [e] at hR ⊢
  rw [← Nat.div_lt_iff_lt_mul (Nat.two_pow_pos _)] at hR ⊢
  rw [setD_div R j d hd]; exact hR
theorem dgt_far {R S j i : Nat} (h : R / 2 ^ (32 * (j + 1)) = S / 2 ^ (32 * (j + 1))) (hi : j < i) : dgt R i = dgt S i := by
  unfold dgt
  have e : (2 : Nat) ^ (32 * i) = 2 ^ (32 * (j + 1)) * 2 ^ (32 * (i - (j + 1))) := by rw [← Nat.pow_add]; congr 1; omega
  rw [e, ← Nat.div_div_eq_div_mul, ← Nat.div_div_eq_div_mul, h]
theorem dgt_setD (R j d i : Nat) (hd : d < 4294967296) : dgt (setD R j d) i = if i = j then d else dgt R i := by
  have hp := Nat.two_pow_pos (32 * j)
  by_cases h : i = j
  · subst h
    rw [if_pos rfl]
    have h1 := div_step (setD R i d) i
    rw [setD_div R i d hd] at h1
    have h2 : setD R i d / 2 ^ (32 * i) = R / 2 ^ (32 * (i + 1)) * 4294967296 + d := by
      unfold setD
      generalize R / 2 ^ (32 * (i + 1)) = q
      have e : q * 2 ^ (32 * (i + 1)) + d * 2 ^ (32 * i) = (q * 4294967296 + d) * 2 ^ (32 * i) := by rw [pow32, Nat.add_mul, Nat.mul_assoc, Nat.mul_comm 4294967296]
      rw [e, Nat.add_comm, Nat.add_mul_div_right _ _ hp, Nat.div_eq_of_lt (Nat.mod_lt _ hp), Nat.zero_add]
    omega
  · rw [if_neg h]
    rcases Nat.lt_or_gt_of_ne h with h1 | h1
    · have e1 := dgt_mod (setD R j d) j i
      have e2 := dgt_mod R j i
      rw [if_pos h1] at e1 e2
      rw [← e1, ← e2]
      congr 1
      unfold setD
      rw [pow32, Nat.mul_comm (2 ^ (32 * j)) 4294967296, ← Nat.mul_assoc, ← Nat.add_mul, Nat.mul_add_mod', Nat.mod_mod]
    · exact dgt_far (setD_div R j d hd) h1
theorem Own.put {w : World} {b n R j d : Nat} {x : Int} (h : Own w b n R) (hx : x = (d : Int)) (hd : d < 4294967296) : Own (w.setCell ⟨b, j, none⟩ (.int .u64 x)) b n (setD R j d) := by
  refine (h.set j (.int .u64 x)).congr fun i _ => ?_
  rw [dgt_setD R j d i hd]
  by_cases c : i = j
  · rw [if_pos c, if_pos c, hx]
  · rw [if_neg c, if_neg c]

/-- One round of the inner loop. -/
theorem mul_round {M B R i k a b c o s : Nat} (hR : R + c * 2 ^ (32 * (i + k)) = M + a * (B % 2 ^ (32 * k)) * 2 ^ (32 * i)) (hb : b = dgt B k) (ho : o = dgt R (i + k)) (hs : s = o + a * b + c) :
    setD R (i + k) (s % 4294967296) + s / 4294967296 * 2 ^ (32 * (i + (k + 1))) = M + a * (B % 2 ^ (32 * (k + 1))) * 2 ^ (32 * i) := by
  have h1 := setD_sum R (i + k) (s % 4294967296)
  rw [← ho] at h1
  rw [show i + (k + 1) = i + k + 1 by omega, pow32, mod_succ, ← hb, Nat.mul_add a, Nat.add_mul (a * _)]
  have e1 : a * (b * 2 ^ (32 * k)) * 2 ^ (32 * i) = a * b * 2 ^ (32 * (i + k)) := by
    rw [← Nat.mul_assoc, Nat.mul_assoc, ← Nat.pow_add]; congr 2; omega
  rw [e1]
  generalize 2 ^ (32 * (i + k)) = W at *
  have e2 : s / 4294967296 * (W * 4294967296) + s % 4294967296 * W = s * W := by
    rw [Nat.mul_comm W, ← Nat.mul_assoc, ← Nat.add_mul, Nat.div_add_mod']
  have e3 : s * W = o * W + a * b * W + c * W := by rw [hs, Nat.add_mul, Nat.add_mul]
  generalize s / 4294967296 * (W * 4294967296) = t1 at *
  generalize s % 4294967296 * W = t2 at *
  generalize s * W = t3 at *
  generalize o * W = t4 at *
  generalize a * b * W = t5 at *
  generalize c * W = t6 at *
  generalize a * (B % 2 ^ (32 * k)) * 2 ^ (32 * i) = t7 at *
  omega
theorem mul_small {o a b c : Nat} (ho : o < 4294967296) (ha : a < 4294967296) (hb : b < 4294967296) (hc : c < 4294967296) : a * b ≤ 18446744065119617025 ∧ o + a * b + c < 18446744073709551616 := by
  have : a * b ≤ 4294967295 * 4294967295 := Nat.mul_le_mul (by omega) (by omega)
  omega
theorem mul_end {A B R i n a c : Nat} (hR : R + c * 2 ^ (32 * (i + n)) = (A % 2 ^ (32 * i)) * B + a * (B % 2 ^ (32 * n)) * 2 ^ (32 * i)) (hB : B < 2 ^ (32 * n)) (ha : a = dgt A i) (hlt : R < 2 ^ (32 * (i + n))) :
    setD R (i + n) c = (A % 2 ^ (32 * (i + 1))) * B := by
  have h1 := setD_sum R (i + n) c
  rw [dgt_ge hlt, Nat.zero_mul] at h1
  rw [Nat.mod_eq_of_lt hB] at hR
  rw [mod_succ, Nat.add_mul, ← ha]
  have : a * B * 2 ^ (32 * i) = a * 2 ^ (32 * i) * B := by rw [Nat.mul_assoc, Nat.mul_comm B, Nat.mul_assoc]
  omega
theorem prod_lt {A B m n : Nat} (hA : A < 2 ^ (32 * m)) (hB : B < 2 ^ (32 * n)) : A * B < 2 ^ (32 * (m + n)) := by
  rw [Nat.mul_add, Nat.pow_add]
  exact Nat.mul_lt_mul'' hA hB

end Go.Proofs.Ytcbbbkngjdlcjaa
namespace Go.Proofs.Ytcbbbkngjdlcjaa
open Go.RowKit

theorem sg_mul (nx ny : Bool) (X Y : Nat) : sg (nx != ny) (X * Y) = sg nx X * sg ny Y := by
  cases nx <;> cases ny <;> simp [sg, Int.natCast_mul, Int.neg_mul, Int.mul_neg]
theorem six_set {w : World} {B : Nat} {nx ny : Bool} {vx vy : Value} {ex ey : Int} (h : Six w B nx vx ex ny vy ey) (i : Nat) (x : Value) : Six (w.setCell ⟨B + 1 + 1, i, none⟩ x) B nx vx ex ny vy ey := by
  obtain ⟨a, b, c, d, e, f⟩ := h
  have n0 : B + 1 + 1 ≠ B := by omega
  have n1 : B + 1 + 1 ≠ B + 1 := by omega
  exact ⟨(World.cell?_setCell_far w ⟨B + 1 + 1, i, none⟩ ⟨B, 0, none⟩ x n0).trans a, (World.cell?_setCell_far w ⟨B + 1 + 1, i, none⟩ ⟨B, 1, none⟩ x n0).trans b, (World.cell?_setCell_far w ⟨B + 1 + 1, i, none⟩ ⟨B, 2, none⟩ x n0).trans c, (World.cell?_setCell_far w ⟨B + 1 + 1, i, none⟩ ⟨B + 1, 0, none⟩ x n1).trans d, (World.cell?_setCell_far w ⟨B + 1 + 1, i, none⟩ ⟨B + 1, 1, none⟩ x n1).trans e, (World.cell?_setCell_far w ⟨B + 1 + 1, i, none⟩ ⟨B + 1, 2, none⟩ x n1).trans f⟩

end Go.Proofs.Ytcbbbkngjdlcjaa
