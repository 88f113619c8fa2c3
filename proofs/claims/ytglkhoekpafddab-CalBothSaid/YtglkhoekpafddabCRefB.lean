/- The contract of the document's day. -/
import Derived.Test.YtglkhoekpafddabCRule
import Derived.Test.YtglkhoekpafddabCRefA
namespace Go.Proofs.Ytglkhoekpafddab
open Go.RowKit

theorem day_none {W : Int} {r : Rul} {y : Int} (h : y < r.fr ∨ r.to < y) : dayO W r y = none := by unfold dayO baseO; rw [if_pos h]; rfl
