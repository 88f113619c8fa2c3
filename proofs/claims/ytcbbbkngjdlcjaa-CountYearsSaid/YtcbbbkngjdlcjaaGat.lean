/- The closed look of every statement of this layer: the document's fixed answers. -/
import Derived.Test.YtcbbbkngjdlcjaaGas
import Derived.BigQuiet

namespace Go.Proofs.Ytcbbbkngjdlcjaa
open Go.RowKit

theorem u64_of_wf {b : Nat} (h : (Lit.float .f64 b).wf = true) : U64 b := by
  simp only [Lit.wf, decide_eq_true_eq] at h
  exact ⟨by omega, by omega⟩
theorem grown_drewN (w : World) (n : Nat) : Grown w (w.drewN n) := Grown.refl w
end Go.Proofs.Ytcbbbkngjdlcjaa
