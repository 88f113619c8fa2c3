/- The lists of names' numbers: what errs, limits and kinds hand back. -/
import Derived.Test.YtfonoonngdblpaaDoorRows
import Derived.WalkKit
import Derived.WalkSpells
import Derived.WalkLawsBesides
import Derived.Handy
namespace Go.Proofs.YtfonoonngdblpaaDoor
open Go.RowKit

@[go_sem] theorem build_pair (a b : Int) (w : World) : (Instr.build 25 #[(0, .int .i64 a), (1, .int .i64 b)]).run Tryd.prog w = .ok (.agg #[.int .i64 a, .int .i64 b]) w := run_build w 25 _ _ (by kernel_rfl)

/-- Each number twice. -/
def dbl : List Int → List Value
  | [] => []
  | n :: r => .int .i64 n :: .int .i64 n :: dbl r

set_option maxHeartbeats 800000 in
theorem errs_any (w : World) :
    Calls Tryd.prog 4 #[] w fun e w' => e = .returned (.slice (some ⟨w.heap.size, 0, none⟩) 31 31) ∧ w' = w.alloc (.cells (dbl [0, 1, 2, 20, 50, 51, 60, 70, 80, 81, 90, 91, 100, 120, 130, 131, 140, 170, 171, 172, 180, 190, 200, 201, 202, 210, 230, 231, 240, 260, 261]).toArray 25) := by
  go_enter Tryd.func4, Tryd.ntmps4
  go_wp2
  go_ret
  exact ⟨rfl, rfl⟩
end Go.Proofs.YtfonoonngdblpaaDoor
