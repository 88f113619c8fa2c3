/- A slice of ops that came in, as a list. -/
import Derived.Test.YtiiajhomdpfafaaGreatDoorHax
import Derived.Test.YtiiajhomdpfafaaGreatDoorRows
import Derived.ProofKit
import Derived.OpenShut
import Derived.Carry
import Derived.Deep.Slices
import Derived.SizedLaws
namespace Go.Proofs.YtiiajhomdpfafaaGreatDoor
open Go.ChangeShapes Go.WideShapes Go.ChangeAt Go.RowKit

theorem ops_laid : laidOutB Tryz.prog = true := by kernel_rfl
theorem ops_f64 {H : Type} {enc : TypeId × Value → H} {P : Program} {w : World} {base n : Nat} {spare : Nat → Bool} {held : Bool} {e : TypeId} {v : Value} {x : DataW H × List MemPlace} (ht : P.underlying e = some (.float .f64)) (h : DataW.trod enc P w base spare held n e [v] = some x) :
    ∃ b, v = .float .f64 b ∧ b < 18446744073709551616 := by
  cases n with
  | zero => simp [DataW.trod] at h
  | succ n =>
    cases v with
    | float k b =>
      simp only [DataW.trod, ht] at h
      by_cases hw : k = .f64 ∧ (Lit.float .f64 b).wf = true
      · obtain ⟨rfl, hw⟩ := hw
        exact ⟨b, rfl, by simpa [Lit.wf] using hw⟩
      · rw [if_neg hw] at h; cases h
    | _ => simp [DataW.trod, ht] at h
end Go.Proofs.YtiiajhomdpfafaaGreatDoor
