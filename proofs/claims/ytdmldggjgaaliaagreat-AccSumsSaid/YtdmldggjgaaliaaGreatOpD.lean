/- The document's steps over what may be a NaN. -/
import Derived.Test.YtdmldggjgaaliaaGreatOpO
import Derived.Test.YtdmldggjgaaliaaGreatRefSub
namespace Go.Proofs.YtdmldggjgaaliaaGreat
open Go.RowKit

theorem opO_cn (op : BinOp) (o o' : Option Nat) : floatBits op .f64 (cn o) (cn o') = opO op o o' := (opO_ag (ag_cn o) (ag_cn o')).symm

theorem opO_lt {op : BinOp} (ho : op = .add ∨ op = .sub ∨ op = .mul ∨ op = .quo) (o o' : Option Nat) : cn (opO op o o') < 18446744073709551616 := by rw [← opO_cn]; exact cn_lt ho _ _

theorem mul_cn {o o' : Option Nat} {u v z : Int} (hu : u = (cn o : Int)) (hv : v = (cn o' : Int)) (h : U64 u) (h' : U64 v) (hz : z = (cn (opO .mul o o') : Int)) (w : World) :
    Calls Tryz.prog 46 #[.int .u64 u, .int .u64 v] w fun e w' => e = .returned (.int .u64 z) ∧ Below w.heap.size w w' := by
  have := refMul_any (cn o) (cn o') u v w hu hv h h'
  rw [opO_cn, ← hz] at this; exact this

theorem add_cn {o o' : Option Nat} {u v z : Int} (hu : u = (cn o : Int)) (hv : v = (cn o' : Int)) (h : U64 u) (h' : U64 v) (hz : z = (cn (opO .add o o') : Int)) (w : World) :
    Calls Tryz.prog 28 #[.int .u64 u, .int .u64 v] w fun e w' => e = .returned (.int .u64 z) ∧ Below w.heap.size w w' := by
  have := refAdd_any (cn o) (cn o') u v w hu hv h h'
  rw [opO_cn, ← hz] at this; exact this

theorem sub_cn {o o' : Option Nat} {u v z : Int} (hu : u = (cn o : Int)) (hv : v = (cn o' : Int)) (h : U64 u) (h' : U64 v) (hz : z = (cn (opO .sub o o') : Int)) (w : World) :
    Calls Tryz.prog 33 #[.int .u64 u, .int .u64 v] w fun e w' => e = .returned (.int .u64 z) ∧ Below w.heap.size w w' := by
  have := refSub_any (cn o) (cn o') u v w hu hv h h'
  rw [opO_cn, ← hz] at this; exact this

theorem u64_opO {op : BinOp} (ho : op = .add ∨ op = .sub ∨ op = .mul ∨ op = .quo) (o o' : Option Nat) {z : Int} (hz : z = (cn (opO op o o') : Int)) : U64 z := by rw [hz]; exact u64_of_nat (opO_lt ho o o')

end Go.Proofs.YtdmldggjgaaliaaGreat
