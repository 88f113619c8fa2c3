/- Division of words by a word; the contract of package acc's Over. -/
import Derived.Test.YtjfldlllofjnbaaGreatAccL
namespace Go.Proofs.YtjfldlllofjnbaaGreat.A
open Go.RowKit

theorem ps_set {zs : List Nat} {j q : Nat} (hj : j < zs.length) (h0 : zs.getD j 0 = 0) : ∀ n, ps (fun i => (zs.set j q).getD i 0) n = ps (fun i => zs.getD i 0) n + (if j < n then q * 2 ^ (64 * j) else 0)
  | 0 => by simp [ps]
  | n + 1 => by
    rw [ps, ps, ps_set hj h0 n]
    show _ + (zs.set j q).getD n 0 * _ = _
    rw [getD_set hj]
    by_cases hn : n = j
    · subst hn
      rw [if_neg (by omega), if_pos rfl, if_pos (by omega)]
      show _ = _ + zs.getD n 0 * _ + _
      rw [h0]; omega
    · rw [if_neg hn]
      by_cases h1 : j < n
      · rw [if_pos h1, if_pos (by omega)]; omega
      · rw [if_neg h1, if_neg (by omega)]; omega
/-- The words from a place on, and the word at it. -/
theorem ps_div {F : Nat → Nat} (hF : FitF F) {j n : Nat} (hj : j < n) : ps F n / 2 ^ (64 * j) = ps F n / 2 ^ (64 * (j + 1)) * 18446744073709551616 + F j := by
  have key : ∀ n, j < n → ps F n / 2 ^ (64 * j) % 18446744073709551616 = F j := by
    intro n
    induction n with
    | zero => intro h; omega
    | succ n ih =>
      intro h
      rw [ps]
      by_cases e : j = n
      · subst e
        rw [Nat.add_mul_div_right _ _ (pow64_pos j), Nat.div_eq_of_lt (ps_lt hF j), Nat.zero_add, Nat.mod_eq_of_lt (hF j)]
      · have e2 : F n * 2 ^ (64 * n) = F n * 2 ^ (64 * (n - j - 1)) * 18446744073709551616 * 2 ^ (64 * j) := by
          rw [Nat.mul_assoc, Nat.mul_assoc, ← pow64, ← Nat.pow_add]; congr 2; omega
        rw [e2, Nat.add_mul_div_right _ _ (pow64_pos j), Nat.add_mul_mod_self_right]
        exact ih (by omega)
  have h1 := key n hj
  have h2 : ps F n / 2 ^ (64 * (j + 1)) = ps F n / 2 ^ (64 * j) / 18446744073709551616 := by rw [pow64, Nat.mul_comm, Nat.div_div_eq_div_mul]
  rw [h2]
  generalize ps F n / 2 ^ (64 * j) = X at *
  omega
theorem div_step {F : Nat → Nat} (hF : FitF F) {j n d : Nat} (hj : j < n) : (ps F n / 2 ^ (64 * (j + 1)) % d * 18446744073709551616 + F j) % d = ps F n / 2 ^ (64 * j) % d := by
  rw [ps_div hF hj, Nat.add_mod, Nat.mul_mod, Nat.mod_mod, ← Nat.mul_mod, ← Nat.add_mod]

/-- What is divided so far: words from k on. -/
structure Div (wr w : World) (n c d : Nat) (F : Nat → Nat) (zs : List Nat) (rest k : Nat) : Prop where
  own : OwnW wr w.heap.size (.slice (some ⟨w.heap.size, 0, none⟩) n c) zs
  len : zs.length = n
  eq : d * ps (fun i => zs.getD i 0) n + rest * 2 ^ (64 * k) + ps F k = ps F n
  low : ∀ j, j < k → zs.getD j 0 = 0
  res : rest = ps F n / 2 ^ (64 * k) % d
  bl : Below w.heap.size w wr
theorem Div.step {wr w : World} {n c d : Nat} {F : Nat → Nat} {zs : List Nat} {rest j : Nat} (h : Div wr w n c d F zs rest (j + 1)) (hF : FitF F) (hj : j < n) (hq : (rest * 18446744073709551616 + F j) / d < 18446744073709551616) :
    Div (wr.setCell ⟨w.heap.size, j, none⟩ (.int .u64 (((rest * 18446744073709551616 + F j) / d : Nat) : Int))) w n c d F (zs.set j ((rest * 18446744073709551616 + F j) / d)) ((rest * 18446744073709551616 + F j) % d) j := by
  have hl := h.len
  have h1 := h.own.set h.len j _ hq
  refine ⟨h1.1, by rw [List.length_set]; exact h.len, ?_, ?_, ?_, h.bl.setCell (Nat.le_refl _) _⟩
  · rw [ps_set (by omega) (h.low j (by omega)), if_pos hj]
    have he := h.eq
    rw [pow64, ps] at he
    have hdm := Nat.div_add_mod (rest * 18446744073709551616 + F j) d
    have h2 : (d * ((rest * 18446744073709551616 + F j) / d) + (rest * 18446744073709551616 + F j) % d) * 2 ^ (64 * j) = (rest * 18446744073709551616 + F j) * 2 ^ (64 * j) := by rw [hdm]
    rw [Nat.add_mul, Nat.add_mul, Nat.mul_assoc d, Nat.mul_assoc rest] at h2
    rw [Nat.mul_add]
    omega
  · intro i hi
    rw [getD_set (by omega), if_neg (by omega)]
    exact h.low i (by omega)
  · rw [h.res, div_step hF hj]

end Go.Proofs.YtjfldlllofjnbaaGreat.A
