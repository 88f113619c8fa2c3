/- Steps of floats over what may be a NaN. -/
import Derived.Test.YtdmldggjgaaliaaGreatFHorner
namespace Go.Proofs.YtdmldggjgaaliaaGreat
open Go.RowKit

def opO (op : BinOp) (a b : Option Nat) : Option Nat := a.bind fun a => b.bind fun b => floatBits op .f64 a b
theorem opO_ag {op : BinOp} {o o' : Option Nat} {a c : Nat} (h : Ag o a) (h' : Ag o' c) : opO op o o' = floatBits op .f64 a c := by
  unfold opO
  cases o with
  | none => rw [nan_left (ag_none h).1]; rfl
  | some r =>
    rw [ag_some h]
    cases o' with
    | none => rw [nan_right (ag_none h').1]; rfl
    | some r' => rw [ag_some h']; rfl
theorem run_op_ag (op : BinOp) (ho : op = .add ∨ op = .sub ∨ op = .mul ∨ op = .quo) (t : TypeId) (a c : Nat) (w : World) : ∃ r, (∃ q, (binOp op t (.float .f64 a) (.float .f64 c)).run Tryz.prog w = .ok (.float .f64 r) (w.drewN q)) ∧ Ag (floatBits op .f64 a c) r := by
  cases h : floatBits op .f64 a c with
  | some r => exact ⟨r, ⟨0, run_float_arith (P := Tryz.prog) w op t .f64 a c r h⟩, rfl⟩
  | none => exact ⟨_, ⟨1, run_arith_nan (P := Tryz.prog) op ho t a c h w⟩, nanAns_nan a c w⟩
end Go.Proofs.YtdmldggjgaaliaaGreat
