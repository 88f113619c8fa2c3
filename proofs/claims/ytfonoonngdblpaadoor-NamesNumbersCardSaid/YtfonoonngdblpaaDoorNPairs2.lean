/- What limits hands back. -/
import Derived.Test.YtfonoonngdblpaaDoorNPairs
namespace Go.Proofs.YtfonoonngdblpaaDoor
open Go.RowKit

set_option maxRecDepth 10000 in
set_option maxHeartbeats 4000000 in
theorem limits_any (w : World) :
    Calls Tryd.prog 5 #[] w fun e w' => e = .returned (.slice (some ⟨w.heap.size, 0, none⟩) 26 26) ∧ w' = w.alloc (.cells (dbl [109572, 1900, 2199, 64, 1200, 1200, 30, 256, 64, 4096, 65536, 64, 1024, 8192, 256, 8, 400, 30, 1048576, 1000000, 70000, 28, 256, 256, 1000000, 16777216]).toArray 25) := by
  go_enter Tryd.func5, Tryd.ntmps5
  go_wp2
  go_ret
  exact ⟨rfl, rfl⟩
end Go.Proofs.YtfonoonngdblpaaDoor
