/- The contracts of the document's in, fit and Check. -/
import Derived.Test.YtglkhoekpafddabCRefC
namespace Go.Proofs.Ytglkhoekpafddab
open Go.RowKit

theorem retB {a b : Bool} (h : a = b) : Ending.returned (.bool a) = .returned (.bool b) := by rw [h]
theorem fit4 (mon day nth wd off fr to mv : Int) : fitB ⟨4, mon, day, nth, wd, off, fr, to, mv⟩ = decide (mon = 0 ∧ nth = 0 ∧ wd = 0 ∧ off = 0 ∧ fr = 0 ∧ to = 0 ∧ mv = 0 ∧ 0 ≤ day ∧ day ≤ 109572) := by
  unfold fitB; dsimp only; rw [if_pos rfl]
def RngR (fr to mv : Int) : Prop := 1900 ≤ fr ∧ fr ≤ 2199 ∧ fr ≤ to ∧ to ≤ 2199 ∧ 0 ≤ mv ∧ mv ≤ 2
theorem fit_rng {kind mon day nth wd off fr to mv : Int} (h4 : kind ≠ 4) (h : ¬ RngR fr to mv) : fitB ⟨kind, mon, day, nth, wd, off, fr, to, mv⟩ = false := by
  unfold fitB; dsimp only; rw [if_neg h4, show decide (1900 ≤ fr ∧ fr ≤ 2199 ∧ fr ≤ to ∧ to ≤ 2199 ∧ 0 ≤ mv ∧ mv ≤ 2) = false from decide_eq_false h, Bool.false_and]
theorem fit1 {mon day nth wd off fr to mv : Int} (h : RngR fr to mv) : fitB ⟨1, mon, day, nth, wd, off, fr, to, mv⟩ = decide (nth = 0 ∧ wd = 0 ∧ off = 0 ∧ 1 ≤ mon ∧ mon ≤ 12 ∧ 1 ≤ day ∧ day ≤ mostI mon) := by
  unfold fitB; dsimp only
  rw [if_neg (by decide), show decide (1900 ≤ fr ∧ fr ≤ 2199 ∧ fr ≤ to ∧ to ≤ 2199 ∧ 0 ≤ mv ∧ mv ≤ 2) = true from decide_eq_true h, Bool.true_and, if_pos rfl]
theorem fit2 {mon day nth wd off fr to mv : Int} (h : RngR fr to mv) : fitB ⟨2, mon, day, nth, wd, off, fr, to, mv⟩ = decide (day = 0 ∧ off = 0 ∧ 1 ≤ mon ∧ mon ≤ 12 ∧ 0 ≤ wd ∧ wd ≤ 6 ∧ 1 ≤ nth ∧ nth ≤ 5) := by
  unfold fitB; dsimp only
  rw [if_neg (by decide), show decide (1900 ≤ fr ∧ fr ≤ 2199 ∧ fr ≤ to ∧ to ≤ 2199 ∧ 0 ≤ mv ∧ mv ≤ 2) = true from decide_eq_true h, Bool.true_and, if_neg (by decide), if_pos rfl]
theorem fit3 {mon day nth wd off fr to mv : Int} (h : RngR fr to mv) : fitB ⟨3, mon, day, nth, wd, off, fr, to, mv⟩ = decide (mon = 0 ∧ day = 0 ∧ nth = 0 ∧ wd = 0 ∧ -100 ≤ off ∧ off ≤ 100) := by
  unfold fitB; dsimp only
  rw [if_neg (by decide), show decide (1900 ≤ fr ∧ fr ≤ 2199 ∧ fr ≤ to ∧ to ≤ 2199 ∧ 0 ≤ mv ∧ mv ≤ 2) = true from decide_eq_true h, Bool.true_and, if_neg (by decide), if_neg (by decide), if_pos rfl]
theorem fit_no {kind mon day nth wd off fr to mv : Int} (h1 : kind ≠ 1) (h2 : kind ≠ 2) (h3 : kind ≠ 3) (h4 : kind ≠ 4) : fitB ⟨kind, mon, day, nth, wd, off, fr, to, mv⟩ = false := by
  unfold fitB; dsimp only
  rw [if_neg h4, if_neg h1, if_neg h2, if_neg h3, Bool.and_false]
