/-  -/
import Derived.Test.YtpddmnmhdahnlabGreatRows
import Derived.Test.YtpddmnmhdahnlabGreatHaa
import Derived.WalkKit
import Derived.WalkSpells
import Derived.WalkLawsBesides
import Derived.Handy
namespace Go.Proofs.YtpddmnmhdahnlabGreat
open Go.RowKit

theorem bR {k:IntKind} {a b:Int} (h:a=b):Ending.returned (.int k a)=.returned (.int k b):=by rw [h]
theorem eN {a b:Bool} (h:a=b):Ending.returned (.bool a)=.returned (.bool b):=by rw [h]
theorem cR {a b:Nat} (h:a=b):Ending.returned (.float .f64 a)=.returned (.float .f64 b):=by rw [h]

theorem pQ (b:Nat) (w:World):(callFunc 27 #[.float .f64 b]).run Tryz.prog w=.ok (.value (.int .u64 b)) w:=
 (run_callFunc_extern (e:=Extern.MathFloatBits.float64bits) Tryz.func27 (by kernel_rfl) (by kernel_rfl) (by kernel_rfl) (by kernel_rfl) _ w).trans rfl

theorem bI (n:Int) (w:World):(callFunc 51 #[.int .u64 n]).run Tryz.prog w=.ok (.value (.float .f64 n.toNat)) w:=
 (run_callFunc_extern (e:=Extern.MathFloatBits.float64frombits) Tryz.func51 (by kernel_rfl) (by kernel_rfl) (by kernel_rfl) (by kernel_rfl) _ w).trans rfl

set_option maxHeartbeats 400000 in
theorem sV (b:Nat) (w:World) :
  Calls Tryz.prog 9 #[.float .f64 b] w fun e w'=>e=.returned (.int .u64 b)∧w'=w:=by
 have hb:=pQ
 go_enter Tryz.func9,Tryz.ntmps9
 go_wp2
 go_ret
 exact⟨rfl,rfl⟩

set_option maxHeartbeats 400000 in
theorem pR (n:Int) (w:World) :
  Calls Tryz.prog 79 #[.int .u64 n] w fun e w'=>e=.returned (.float .f64 n.toNat)∧w'=w:=by
 have hb:=bI
 go_enter Tryz.func79,Tryz.ntmps79
 go_wp2
 go_ret
 exact⟨rfl,rfl⟩

set_option maxHeartbeats 400000 in
theorem sW (b:Nat) (w:World) (h:U64 b) :
  Calls Tryz.prog 54 #[.float .f64 b] w fun e w'=>e=.returned (.int .u64 (szI b))∧w'=w:=by
 go_enter Tryz.func54,Tryz.ntmps54
 go_wp2_with (go_at_call 9;refine (sV _ _).mono ?_;rintro e w' ⟨rfl,rfl⟩)
 go_ret
 exact⟨bR (eM h),rfl⟩

set_option maxHeartbeats 400000 in
theorem mz (b:Nat) (w:World) (h:U64 b) :
  Calls Tryz.prog 55 #[.float .f64 b] w fun e w'=>e=.returned (.bool (sgB b))∧w'=w:=by
 go_enter Tryz.func55,Tryz.ntmps55
 go_wp2_with (go_at_call 9;refine (sV _ _).mono ?_;rintro e w' ⟨rfl,rfl⟩)
 go_ret
 refine⟨eN ?_,rfl⟩
 rw [CK h]
 cases sgB b<;>rfl

theorem sX (u:Int):decide ((9218868437227405312:Int)<szI u)=ag u:=rfl

set_option maxHeartbeats 400000 in
theorem An (b:Nat) (w:World) (h:U64 b) :
  Calls Tryz.prog 200 #[.float .f64 b] w fun e w'=>e=.returned (.bool (ag b))∧w'=w:=by
 go_enter Tryz.func200,Tryz.ntmps200
 go_wp2_with (go_at_call 54;refine (sW _ _ h).mono ?_;rintro e w' ⟨rfl,rfl⟩)
 go_ret
 exact⟨eN (sX b),rfl⟩

set_option maxHeartbeats 400000 in
theorem aj (b:Int) (w:World) (h:U64 b) :
  Calls Tryz.prog 73 #[.int .u64 b] w fun e w'=>e=.returned (.bool (ag b))∧w'=w:=by
 have hz:=eM h
 have hn:=sX b
 go_enter Tryz.func73,Tryz.ntmps73
 go_wp2
 go_ret
 exact⟨rfl,rfl⟩

set_option maxHeartbeats 400000 in
theorem ch (b:Int) (w:World) :
  Calls Tryz.prog 161 #[.int .u64 b] w fun e w'=>e=.returned (.bool (sgB b))∧w'=w:=by
 go_enter Tryz.func161,Tryz.ntmps161
 go_wp2
 go_ret
 exact⟨rfl,rfl⟩

set_option maxHeartbeats 400000 in
theorem ax (b:Int) (w:World) (h:U64 b) :
  Calls Tryz.prog 92 #[.int .u64 b] w fun e w'=>e=.returned (.int .u64 (szI b))∧w'=w:=by
 have hz:=eM h
 go_enter Tryz.func92,Tryz.ntmps92
 go_wp2
 go_ret
 exact⟨rfl,rfl⟩

end Go.Proofs.YtpddmnmhdahnlabGreat
namespace Go.Proofs.YtpddmnmhdahnlabGreat
open Go.RowKit

theorem jv (b:Nat) (u:Int) (w:World) (hu:Hid (u=b)) (h:U64 u) :
  Calls Tryz.prog 54 #[.float .f64 b] w fun e w'=>e=.returned (.int .u64 (szI u))∧w'=w:=by
 have e:=hu.out;subst e;exact sW b w h

set_option maxHeartbeats 400000 in
theorem CL (b:Nat) (u:Int) (w:World) (hu:Hid (u=b)) (h:U64 u) :
  Calls Tryz.prog 181 #[.float .f64 b] w fun e w'=>e=.returned (.int .i64 (rx u))∧w'=w:=by
 rcases cls_cases u with⟨hz,hc⟩| ⟨⟨h1,h2⟩,hc⟩| ⟨⟨h1,h2⟩,hc⟩| ⟨hz,hc⟩| ⟨h1,hc⟩
 all_goals
  rw [hc];clear hc
  go_enter Tryz.func181,Tryz.ntmps181
  go_wp2_with (go_at_call 54;refine (jv _ _ _ hu h).mono ?_;rintro e w' ⟨rfl,rfl⟩)
  go_ret
  exact⟨rfl,rfl⟩
set_option maxHeartbeats 400000 in
theorem rz (b:Nat) (w:World) (h:U64 b) :
  Calls Tryz.prog 182 #[.float .f64 b] w fun e w'=>e=.returned (.bool (sgB b&&!ag b))∧w'=w:=by
 cases h1:sgB b<;>cases h2:ag b
 all_goals
  go_enter Tryz.func182,Tryz.ntmps182
  go_wp2_with (first | (go_at_call 55;refine (mz _ _ h).mono ?_;rintro e w' ⟨rfl,rfl⟩) | (go_at_call 200;refine (An _ _ h).mono ?_;rintro e w' ⟨rfl,rfl⟩))
  go_ret
  exact⟨rfl,rfl⟩


theorem CM {u:Int} (h:ag u=true):aa u=0:=by simp [aa,h]
theorem CN {u:Int} (h:ag u=false) (h':sgB u=true):aa u= -szI u:=by simp [aa,h,h']
theorem rank_pos {u:Int} (h:ag u=false) (h':sgB u=false):aa u=szI u:=by simp [aa,h,h']

theorem pS (b:Nat) (u:Int) (w:World) (hu:Hid (u=b)) (h:U64 u) :
  Calls Tryz.prog 55 #[.float .f64 b] w fun e w'=>e=.returned (.bool (sgB u))∧w'=w:=by
 have e:=hu.out;subst e;exact mz b w h

set_option maxHeartbeats 400000 in
theorem lh (u:Int) (w:World) (h:U64 u) :
  Calls Tryz.prog 84 #[.int .u64 u] w fun e w'=>e=.returned (.tuple #[.int .i64 (aa u),.bool (!ag u)])∧w'=w:=by
 cases h1:ag u
 ·cases h2:sgB u
  ·have h3:u<9223372036854775808:=by simpa [sgB] using h2
   have h4:0≤u:=h.1
   rw [rank_pos h1 h2,wH h h2]
   clear h2
   go_enter Tryz.func84,Tryz.ntmps84
   go_wp2_with (go_at_call 73;refine (aj _ _ h).mono ?_;rintro e w' ⟨rfl,rfl⟩)
   go_ret2
   exact⟨rfl,rfl⟩
  ·have h3:9223372036854775808≤u:=by simpa [sgB] using h2
   have h4:u<18446744073709551616:=h.2
   rw [CN h1 h2,wG h h2]
   clear h2
   go_enter Tryz.func84,Tryz.ntmps84
   go_wp2_with (go_at_call 73;refine (aj _ _ h).mono ?_;rintro e w' ⟨rfl,rfl⟩)
   go_ret2
   exact⟨rfl,rfl⟩
 ·rw [CM h1]
  go_enter Tryz.func84,Tryz.ntmps84
  go_wp2_with (go_at_call 73;refine (aj _ _ h).mono ?_;rintro e w' ⟨rfl,rfl⟩)
  go_ret2
  exact⟨rfl,rfl⟩

end Go.Proofs.YtpddmnmhdahnlabGreat
namespace Go.Proofs.YtpddmnmhdahnlabGreat
open Go.RowKit

theorem JR {u:Int} (h0:0≤u) (h:u<9223372036854775808):(bits .or .u64 u 9223372036854775808).toNat=(9223372036854775808+u).toNat:=by rw [Lk h0 h]

set_option maxHeartbeats 400000 in
theorem rC (u:Int) (w:World) :
  Calls Tryz.prog 56 #[.int .u64 u,.bool false] w fun e w'=>e=.returned (.float .f64 u.toNat)∧w'=w:=by
 go_enter Tryz.func56,Tryz.ntmps56
 go_wp2_with (go_at_call 79;refine (pR _ _).mono ?_;rintro e w' ⟨rfl,rfl⟩)
 go_ret
 exact⟨rfl,rfl⟩

set_option maxHeartbeats 400000 in
theorem rD (u:Int) (w:World) (h0:0≤u) (h:u<9223372036854775808) :
  Calls Tryz.prog 56 #[.int .u64 u,.bool true] w fun e w'=>e=.returned (.float .f64 (9223372036854775808+u).toNat)∧w'=w:=by
 go_enter Tryz.func56,Tryz.ntmps56
 go_wp2_with (go_at_call 79;refine (pR _ _).mono ?_;rintro e w' ⟨rfl,rfl⟩)
 go_ret
 exact⟨cR (JR h0 h),rfl⟩

end Go.Proofs.YtpddmnmhdahnlabGreat
namespace Go.Proofs.YtpddmnmhdahnlabGreat
open Go.RowKit

end Go.Proofs.YtpddmnmhdahnlabGreat
namespace Go.Proofs.YtpddmnmhdahnlabGreat
open Go.RowKit

end Go.Proofs.YtpddmnmhdahnlabGreat
