/- Steps of floats over what may be a NaN. Contracts of the library at this program, laid in plain words by the kit's tool. -/
import Derived.Test.YtbkmbdbjeiffpaaGreatHar
import Derived.Shelf.Small.Bits
import Derived.Test.YtbkmbdbjeiffpaaGreatProg
namespace Go.Proofs.YtbkmbdbjeiffpaaGreat
open Go.RowKit

def opO (op : BinOp) (a b : Option Nat) : Option Nat := a.bind fun a => b.bind fun b => floatBits op .f64 a b
theorem opO_ag {op : BinOp} {o o' : Option Nat} {a c : Nat} (h : Ag o a) (h' : Ag o' c) : opO op o o' = floatBits op .f64 a c := by
  unfold opO
  cases o with
  | none => rw [nan_left (ag_none h).1]; rfl
  | some r =>
    rw [ag_some h]
    cases o' with
    | none => rw [nan_right (ag_none h').1]; rfl
    | some r' => rw [ag_some h']; rfl
theorem run_op_ag (op : BinOp) (ho : op = .add ∨ op = .sub ∨ op = .mul ∨ op = .quo) (t : TypeId) (a c : Nat) (w : World) : ∃ r, (∃ q, (binOp op t (.float .f64 a) (.float .f64 c)).run Tryz.prog w = .ok (.float .f64 r) (w.drewN q)) ∧ Ag (floatBits op .f64 a c) r := by
  cases h : floatBits op .f64 a c with
  | some r => exact ⟨r, ⟨0, run_float_arith (P := Tryz.prog) w op t .f64 a c r h⟩, rfl⟩
  | none => exact ⟨_, ⟨1, run_arith_nan (P := Tryz.prog) op ho t a c h w⟩, nanAns_nan a c w⟩
end Go.Proofs.YtbkmbdbjeiffpaaGreat
namespace Go.Proofs
open Go.Shelf
def Tryz.lenL_ren : Go.Shelf.Ren := ⟨fun | 125 => 96 | 128 => 101 | 129 => 102 | n => n, fun | 46 => 66 | 3 => 3 | 51 => 102 | 53 => 26 | 4 => 4 | 5 => 5 | 9 => 9 | n => n, fun | n => n⟩
theorem Tryz.lenL : Go.Proofs.Lays.n125 Tryz.prog Tryz.lenL_ren := {
  mixed := by kernel_rfl
  f125 := Tryz.func96.trans (congrArg some (by kernel_rfl))
  f128 := Tryz.func101.trans (congrArg some (by kernel_rfl))
  f129 := Tryz.func102.trans (congrArg some (by kernel_rfl))
  t3 := Tryz.underlying3
  a3 := Tryz.isAgg3
  z3 := Tryz.sizeOf3
  v3 := Tryz.zeroValue3
  t4 := Tryz.underlying4
  a4 := Tryz.isAgg4
  z4 := Tryz.sizeOf4
  v4 := Tryz.zeroValue4
  t5 := Tryz.underlying5
  a5 := Tryz.isAgg5
  z5 := Tryz.sizeOf5
  v5 := Tryz.zeroValue5
  t9 := Tryz.underlying9
  a9 := Tryz.isAgg9
  z9 := Tryz.sizeOf9
  v9 := Tryz.zeroValue9
  t46 := Tryz.underlying66
  a46 := Tryz.isAgg66
  z46 := Tryz.sizeOf66
  v46 := Tryz.zeroValue66
  t51 := Tryz.underlying102
  a51 := Tryz.isAgg102
  z51 := Tryz.sizeOf102
  v51 := Tryz.zeroValue102
  t53 := Tryz.underlying26
  a53 := Tryz.isAgg26
  z53 := Tryz.sizeOf26
  v53 := Tryz.zeroValue26 }
theorem Tryz.bits_Len (x : Int) (w : World) (h0 : 0 ≤ x) (h1 : x ≤ 18446744073709551615) :
    Calls Tryz.prog 96 #[.int .u64 x] w fun e w' => e = .returned (.int .i64 (Lib.bitLen x.toNat : Int)) ∧ w' = w := Any.bits_Len Tryz.lenL x w h0 h1
end Go.Proofs
