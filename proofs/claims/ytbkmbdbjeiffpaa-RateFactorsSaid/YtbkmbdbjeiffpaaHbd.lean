/- Steps of floats over what may be a NaN. Contracts of the library at this program, laid in plain words by the kit's tool. -/
import Derived.Test.YtbkmbdbjeiffpaaHar
import Derived.Shelf.Small.Bits
import Derived.Test.YtbkmbdbjeiffpaaProg
namespace Go.Proofs.Ytbkmbdbjeiffpaa
open Go.RowKit

def opO (op : BinOp) (a b : Option Nat) : Option Nat := a.bind fun a => b.bind fun b => floatBits op .f64 a b
theorem opO_ag {op : BinOp} {o o' : Option Nat} {a c : Nat} (h : Ag o a) (h' : Ag o' c) : opO op o o' = floatBits op .f64 a c := by
  unfold opO
  cases o with
  | none => rw [nan_left (ag_none h).1]; rfl
  | some r =>
    rw [ag_some h]
    cases o' with
    | none => rw [nan_right (ag_none h').1]; rfl
    | some r' => rw [ag_some h']; rfl
theorem run_op_ag (op : BinOp) (ho : op = .add ∨ op = .sub ∨ op = .mul ∨ op = .quo) (t : TypeId) (a c : Nat) (w : World) : ∃ r, (∃ q, (binOp op t (.float .f64 a) (.float .f64 c)).run Try.prog w = .ok (.float .f64 r) (w.drewN q)) ∧ Ag (floatBits op .f64 a c) r := by
  cases h : floatBits op .f64 a c with
  | some r => exact ⟨r, ⟨0, run_float_arith (P := Try.prog) w op t .f64 a c r h⟩, rfl⟩
  | none => exact ⟨_, ⟨1, run_arith_nan (P := Try.prog) op ho t a c h w⟩, nanAns_nan a c w⟩
end Go.Proofs.Ytbkmbdbjeiffpaa
namespace Go.Proofs
open Go.Shelf
def Try.lenL_ren : Go.Shelf.Ren := ⟨fun | 125 => 97 | 128 => 102 | 129 => 103 | n => n, fun | 46 => 73 | 3 => 3 | 51 => 100 | 53 => 26 | 4 => 4 | 5 => 5 | 9 => 9 | n => n, fun | n => n⟩
theorem Try.lenL : Go.Proofs.Lays.n125 Try.prog Try.lenL_ren := {
  mixed := by kernel_rfl
  f125 := Try.func97.trans (congrArg some (by kernel_rfl))
  f128 := Try.func102.trans (congrArg some (by kernel_rfl))
  f129 := Try.func103.trans (congrArg some (by kernel_rfl))
  t3 := Try.underlying3
  a3 := Try.isAgg3
  z3 := Try.sizeOf3
  v3 := Try.zeroValue3
  t4 := Try.underlying4
  a4 := Try.isAgg4
  z4 := Try.sizeOf4
  v4 := Try.zeroValue4
  t5 := Try.underlying5
  a5 := Try.isAgg5
  z5 := Try.sizeOf5
  v5 := Try.zeroValue5
  t9 := Try.underlying9
  a9 := Try.isAgg9
  z9 := Try.sizeOf9
  v9 := Try.zeroValue9
  t46 := Try.underlying73
  a46 := Try.isAgg73
  z46 := Try.sizeOf73
  v46 := Try.zeroValue73
  t51 := Try.underlying100
  a51 := Try.isAgg100
  z51 := Try.sizeOf100
  v51 := Try.zeroValue100
  t53 := Try.underlying26
  a53 := Try.isAgg26
  z53 := Try.sizeOf26
  v53 := Try.zeroValue26 }
theorem Try.bits_Len (x : Int) (w : World) (h0 : 0 ≤ x) (h1 : x ≤ 18446744073709551615) :
    Calls Try.prog 97 #[.int .u64 x] w fun e w' => e = .returned (.int .i64 (Lib.bitLen x.toNat : Int)) ∧ w' = w := Any.bits_Len Try.lenL x w h0 h1
end Go.Proofs
