/- The contract of Few. -/
import Derived.Test.YtglkhoekpafddaaQAwake
import Derived.Test.YtglkhoekpafddaaFCal
namespace Go.Proofs.Ytglkhoekpafddaa
open Go.RowKit

theorem few_any (W : Int) (p : Option Addr) (N c : Nat) (w : World) (hN : N ≤ 9223372036854775807) :
    Calls Try.prog 21 #[.agg #[.int .i64 W, .slice p N c]] w fun e w' => e = .returned (.bool (decide (N ≤ 12))) ∧ Below w.heap.size w w' := by
  by_cases h : N ≤ 12
  · rw [decide_eq_true h]
    have h' : (N : Int) ≤ 12 := by omega
    go_enter Try.func21, Try.ntmps21
    go_wp2_with fail
    go_ret
    exact ⟨rfl, (Below.refl w.heap.size w).alloc (Nat.le_refl _) _⟩
  · rw [decide_eq_false h]
    have h' : ¬ (N : Int) ≤ 12 := by omega
    go_enter Try.func21, Try.ntmps21
    go_wp2_with fail
    go_ret
    exact ⟨rfl, (Below.refl w.heap.size w).alloc (Nat.le_refl _) _⟩
end Go.Proofs.Ytglkhoekpafddaa
