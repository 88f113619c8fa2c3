/- The contract of the document's Of: years and months added up. -/
import Derived.Test.YtglkhoekpafddabDOf
namespace Go.Proofs.Ytglkhoekpafddab
open Go.RowKit

theorem lp_true {y : Int} (h : leapB y = true) : lpI y = 1 := by unfold lpI; rw [h]; rfl
theorem lp_false {y : Int} (h : leapB y = false) : lpI y = 0 := by unfold lpI; rw [h]; rfl
