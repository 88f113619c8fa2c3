/- The contracts of package acc's Turn, Copy, Merge, Same. Division of words by a word; the contract of package acc's Over. The contracts of package acc's Sum and Dot (of numbers). -/
import Derived.Test.YteglnchcnacjlaaGreatHaz
import Derived.Test.YteglnchcnacjlaaGreatCShelf
namespace Go.Proofs.YteglnchcnacjlaaGreat.A
open Go.RowKit

end Go.Proofs.YteglnchcnacjlaaGreat.A
namespace Go.Proofs.YteglnchcnacjlaaGreat.A
open Go.RowKit

theorem ps_div {F : Nat → Nat} (hF : FitF F) {j n : Nat} (hj : j < n) : ps F n / 2 ^ (64 * j) = ps F n / 2 ^ (64 * (j + 1)) * 18446744073709551616 + F j := by
  have key : ∀ n, j < n → ps F n / 2 ^ (64 * j) % 18446744073709551616 = F j := by
    intro n
    induction n with
    | zero => intro h; omega
    | succ n ih =>
      intro h
      rw [ps]
      by_cases e : j = n
      · subst e
        rw [Nat.add_mul_div_right _ _ (pow64_pos j), Nat.div_eq_of_lt (ps_lt hF j), Nat.zero_add, Nat.mod_eq_of_lt (hF j)]
      · have e2 : F n * 2 ^ (64 * n) = F n * 2 ^ (64 * (n - j - 1)) * 18446744073709551616 * 2 ^ (64 * j) := by
          rw [Nat.mul_assoc, Nat.mul_assoc, ← pow64, ← Nat.pow_add]; congr 2; omega
        rw [e2, Nat.add_mul_div_right _ _ (pow64_pos j), Nat.add_mul_mod_self_right]
        exact ih (by omega)
  have h1 := key n hj
  have h2 : ps F n / 2 ^ (64 * (j + 1)) = ps F n / 2 ^ (64 * j) / 18446744073709551616 := by rw [pow64, Nat.mul_comm, Nat.div_div_eq_div_mul]
  rw [h2]
  generalize ps F n / 2 ^ (64 * j) = X at *
  omega
theorem div_step {F : Nat → Nat} (hF : FitF F) {j n d : Nat} (hj : j < n) : (ps F n / 2 ^ (64 * (j + 1)) % d * 18446744073709551616 + F j) % d = ps F n / 2 ^ (64 * j) % d := by
  rw [ps_div hF hj, Nat.add_mod, Nat.mul_mod, Nat.mod_mod, ← Nat.mul_mod, ← Nat.add_mod]

end Go.Proofs.YteglnchcnacjlaaGreat.A
namespace Go.Proofs.YteglnchcnacjlaaGreat.A
open Go.RowKit

end Go.Proofs.YteglnchcnacjlaaGreat.A
