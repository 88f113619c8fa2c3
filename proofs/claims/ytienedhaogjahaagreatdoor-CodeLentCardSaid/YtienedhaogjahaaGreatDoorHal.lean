/- The contracts of the small functions of package ieee and of the document's answer: classes, ranks, At. The contracts of Class, Negative, Same, Rank, At, Mid, Gap, Up and Down, of the program and of the document's answer. The contracts of At, Up, Down, Mid, Gap, of the program and of the document's answer. The contracts of Mid, Gap, Up, Down, of the program and of the document's answer. -/
import Derived.Test.YtienedhaogjahaaGreatDoorRows
import Derived.Test.YtienedhaogjahaaGreatDoorPlain
import Derived.WalkKit
import Derived.WalkSpells
import Derived.WalkLawsBesides
import Derived.Handy
namespace Go.Proofs.YtienedhaogjahaaGreatDoor
open Go.RowKit

theorem call_bits (b : Nat) (w : World) : (callFunc 46 #[.float .f64 b]).run Tryz.prog w = .ok (.value (.int .u64 b)) w :=
  (run_callFunc_extern (e := Extern.MathFloatBits.float64bits) Tryz.func46 (by kernel_rfl) (by kernel_rfl) (by kernel_rfl) (by kernel_rfl) _ w).trans rfl

theorem call_frombits (n : Int) (w : World) : (callFunc 186 #[.int .u64 n]).run Tryz.prog w = .ok (.value (.float .f64 n.toNat)) w :=
  (run_callFunc_extern (e := Extern.MathFloatBits.float64frombits) Tryz.func186 (by kernel_rfl) (by kernel_rfl) (by kernel_rfl) (by kernel_rfl) _ w).trans rfl

set_option maxHeartbeats 400000 in
theorem bits_any (b : Nat) (w : World) :
    Calls Tryz.prog 25 #[.float .f64 b] w fun e w' => e = .returned (.int .u64 b) ∧ w' = w := by
  have hb := call_bits
  go_enter Tryz.func25, Tryz.ntmps25
  go_wp2
  go_ret
  exact ⟨rfl, rfl⟩

end Go.Proofs.YtienedhaogjahaaGreatDoor
namespace Go.Proofs.YtienedhaogjahaaGreatDoor
open Go.RowKit

end Go.Proofs.YtienedhaogjahaaGreatDoor
namespace Go.Proofs.YtienedhaogjahaaGreatDoor
open Go.RowKit

end Go.Proofs.YtienedhaogjahaaGreatDoor
namespace Go.Proofs.YtienedhaogjahaaGreatDoor
open Go.RowKit

end Go.Proofs.YtienedhaogjahaaGreatDoor
