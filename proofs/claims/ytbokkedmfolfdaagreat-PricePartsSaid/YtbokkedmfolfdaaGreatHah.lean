/-  -/
import Derived.Test.YtbokkedmfolfdaaGreatRows
import Derived.Test.YtbokkedmfolfdaaGreatHaa
import Derived.WalkKit
import Derived.WalkSpells
import Derived.WalkLawsBesides
import Derived.Handy
namespace Go.Proofs.YtbokkedmfolfdaaGreat
open Go.RowKit

theorem vC {k:IntKind} {a b:Int} (h:a=b):Ending.returned (.int k a)=.returned (.int k b):=by rw [h]
theorem cG {a b:Bool} (h:a=b):Ending.returned (.bool a)=.returned (.bool b):=by rw [h]
theorem bP {a b:Nat} (h:a=b):Ending.returned (.float .f64 a)=.returned (.float .f64 b):=by rw [h]

theorem jB (b:Nat) (w:World):(callFunc 25 #[.float .f64 b]).run Tryz.prog w=.ok (.value (.int .u64 b)) w:=
 (run_callFunc_extern (e:=Extern.MathFloatBits.float64bits) Tryz.func25 (by kernel_rfl) (by kernel_rfl) (by kernel_rfl) (by kernel_rfl) _ w).trans rfl

theorem aQ (n:Int) (w:World):(callFunc 70 #[.int .u64 n]).run Tryz.prog w=.ok (.value (.float .f64 n.toNat)) w:=
 (run_callFunc_extern (e:=Extern.MathFloatBits.float64frombits) Tryz.func70 (by kernel_rfl) (by kernel_rfl) (by kernel_rfl) (by kernel_rfl) _ w).trans rfl

set_option maxHeartbeats 400000 in
theorem cH (b:Nat) (w:World) :
  Calls Tryz.prog 11 #[.float .f64 b] w fun e w'=>e=.returned (.int .u64 b)∧w'=w:=by
 have hb:=jB
 go_enter Tryz.func11,Tryz.ntmps11
 go_wp2
 go_ret
 exact⟨rfl,rfl⟩

set_option maxHeartbeats 400000 in
theorem jC (n:Int) (w:World) :
  Calls Tryz.prog 86 #[.int .u64 n] w fun e w'=>e=.returned (.float .f64 n.toNat)∧w'=w:=by
 have hb:=aQ
 go_enter Tryz.func86,Tryz.ntmps86
 go_wp2
 go_ret
 exact⟨rfl,rfl⟩

set_option maxHeartbeats 400000 in
theorem lB (b:Nat) (w:World) (h:U64 b) :
  Calls Tryz.prog 59 #[.float .f64 b] w fun e w'=>e=.returned (.int .u64 (szI b))∧w'=w:=by
 go_enter Tryz.func59,Tryz.ntmps59
 go_wp2_with (go_at_call 11;refine (cH _ _).mono ?_;rintro e w' ⟨rfl,rfl⟩)
 go_ret
 exact⟨vC (jA h),rfl⟩

set_option maxHeartbeats 400000 in
theorem gP (b:Nat) (w:World) (h:U64 b) :
  Calls Tryz.prog 60 #[.float .f64 b] w fun e w'=>e=.returned (.bool (sgB b))∧w'=w:=by
 go_enter Tryz.func60,Tryz.ntmps60
 go_wp2_with (go_at_call 11;refine (cH _ _).mono ?_;rintro e w' ⟨rfl,rfl⟩)
 go_ret
 refine⟨cG ?_,rfl⟩
 rw [xw h]
 cases sgB b<;>rfl

theorem ss (u:Int):decide ((9218868437227405312:Int)<szI u)=af u:=rfl

set_option maxHeartbeats 400000 in
theorem qg (b:Nat) (w:World) (h:U64 b) :
  Calls Tryz.prog 92 #[.float .f64 b] w fun e w'=>e=.returned (.bool (af b))∧w'=w:=by
 go_enter Tryz.func92,Tryz.ntmps92
 go_wp2_with (go_at_call 59;refine (lB _ _ h).mono ?_;rintro e w' ⟨rfl,rfl⟩)
 go_ret
 exact⟨cG (ss b),rfl⟩

end Go.Proofs.YtbokkedmfolfdaaGreat
namespace Go.Proofs.YtbokkedmfolfdaaGreat
open Go.RowKit

theorem eB (b:Nat) (u:Int) (w:World) (hu:Hid (u=b)) (h:U64 u) :
  Calls Tryz.prog 59 #[.float .f64 b] w fun e w'=>e=.returned (.int .u64 (szI u))∧w'=w:=by
 have e:=hu.out;subst e;exact lB b w h

set_option maxHeartbeats 400000 in
theorem su (b:Nat) (u:Int) (w:World) (hu:Hid (u=b)) (h:U64 u) :
  Calls Tryz.prog 81 #[.float .f64 b] w fun e w'=>e=.returned (.int .i64 (kq u))∧w'=w:=by
 rcases cls_cases u with⟨hz,hc⟩| ⟨⟨h1,h2⟩,hc⟩| ⟨⟨h1,h2⟩,hc⟩| ⟨hz,hc⟩| ⟨h1,hc⟩
 all_goals
  rw [hc];clear hc
  go_enter Tryz.func81,Tryz.ntmps81
  go_wp2_with (go_at_call 59;refine (eB _ _ _ hu h).mono ?_;rintro e w' ⟨rfl,rfl⟩)
  go_ret
  exact⟨rfl,rfl⟩
set_option maxHeartbeats 400000 in
theorem kt (b:Nat) (w:World) (h:U64 b) :
  Calls Tryz.prog 82 #[.float .f64 b] w fun e w'=>e=.returned (.bool (sgB b&&!af b))∧w'=w:=by
 cases h1:sgB b<;>cases h2:af b
 all_goals
  go_enter Tryz.func82,Tryz.ntmps82
  go_wp2_with (first | (go_at_call 60;refine (gP _ _ h).mono ?_;rintro e w' ⟨rfl,rfl⟩) | (go_at_call 92;refine (qg _ _ h).mono ?_;rintro e w' ⟨rfl,rfl⟩))
  go_ret
  exact⟨rfl,rfl⟩


theorem rank_pos {u:Int} (h:af u=false) (h':sgB u=false):aa u=szI u:=by simp [aa,h,h']

theorem jD (b:Nat) (u:Int) (w:World) (hu:Hid (u=b)) (h:U64 u) :
  Calls Tryz.prog 60 #[.float .f64 b] w fun e w'=>e=.returned (.bool (sgB u))∧w'=w:=by
 have e:=hu.out;subst e;exact gP b w h

end Go.Proofs.YtbokkedmfolfdaaGreat
namespace Go.Proofs.YtbokkedmfolfdaaGreat
open Go.RowKit

theorem xx {u:Int} (h0:0≤u) (h:u<9223372036854775808):(bits .or .u64 u 9223372036854775808).toNat=(9223372036854775808+u).toNat:=by rw [yv h0 h]

set_option maxHeartbeats 400000 in
theorem ku (u:Int) (w:World) :
  Calls Tryz.prog 73 #[.int .u64 u,.bool false] w fun e w'=>e=.returned (.float .f64 u.toNat)∧w'=w:=by
 go_enter Tryz.func73,Tryz.ntmps73
 go_wp2_with (go_at_call 86;refine (jC _ _).mono ?_;rintro e w' ⟨rfl,rfl⟩)
 go_ret
 exact⟨rfl,rfl⟩

set_option maxHeartbeats 400000 in
theorem kv (u:Int) (w:World) (h0:0≤u) (h:u<9223372036854775808) :
  Calls Tryz.prog 73 #[.int .u64 u,.bool true] w fun e w'=>e=.returned (.float .f64 (9223372036854775808+u).toNat)∧w'=w:=by
 go_enter Tryz.func73,Tryz.ntmps73
 go_wp2_with (go_at_call 86;refine (jC _ _).mono ?_;rintro e w' ⟨rfl,rfl⟩)
 go_ret
 exact⟨bP (xx h0 h),rfl⟩

end Go.Proofs.YtbokkedmfolfdaaGreat
namespace Go.Proofs.YtbokkedmfolfdaaGreat
open Go.RowKit

end Go.Proofs.YtbokkedmfolfdaaGreat
namespace Go.Proofs.YtbokkedmfolfdaaGreat
open Go.RowKit

end Go.Proofs.YtbokkedmfolfdaaGreat
