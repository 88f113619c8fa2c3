/-  -/
import Derived.Test.YtpddmnmhdahnlaaGreatRows
import Derived.Test.YtpddmnmhdahnlaaGreatHaa
import Derived.WalkKit
import Derived.WalkSpells
import Derived.WalkLawsBesides
import Derived.Handy
namespace Go.Proofs.YtpddmnmhdahnlaaGreat
open Go.RowKit

theorem bO {k:IntKind} {a b:Int} (h:a=b):Ending.returned (.int k a)=.returned (.int k b):=by rw [h]
theorem eL {a b:Bool} (h:a=b):Ending.returned (.bool a)=.returned (.bool b):=by rw [h]
theorem cQ {a b:Nat} (h:a=b):Ending.returned (.float .f64 a)=.returned (.float .f64 b):=by rw [h]

theorem pY (b:Nat) (w:World):(callFunc 40 #[.float .f64 b]).run Tryz.prog w=.ok (.value (.int .u64 b)) w:=
 (run_callFunc_extern (e:=Extern.MathFloatBits.float64bits) Tryz.func40 (by kernel_rfl) (by kernel_rfl) (by kernel_rfl) (by kernel_rfl) _ w).trans rfl

theorem bE (n:Int) (w:World):(callFunc 174 #[.int .u64 n]).run Tryz.prog w=.ok (.value (.float .f64 n.toNat)) w:=
 (run_callFunc_extern (e:=Extern.MathFloatBits.float64frombits) Tryz.func174 (by kernel_rfl) (by kernel_rfl) (by kernel_rfl) (by kernel_rfl) _ w).trans rfl

set_option maxHeartbeats 400000 in
theorem eM (b:Nat) (w:World) :
  Calls Tryz.prog 13 #[.float .f64 b] w fun e w'=>e=.returned (.int .u64 b)∧w'=w:=by
 have hb:=pY
 go_enter Tryz.func13,Tryz.ntmps13
 go_wp2
 go_ret
 exact⟨rfl,rfl⟩

set_option maxHeartbeats 400000 in
theorem pZ (n:Int) (w:World) :
  Calls Tryz.prog 221 #[.int .u64 n] w fun e w'=>e=.returned (.float .f64 n.toNat)∧w'=w:=by
 have hb:=bE
 go_enter Tryz.func221,Tryz.ntmps221
 go_wp2
 go_ret
 exact⟨rfl,rfl⟩

set_option maxHeartbeats 400000 in
theorem tf (b:Nat) (w:World) (h:U64 b) :
  Calls Tryz.prog 177 #[.float .f64 b] w fun e w'=>e=.returned (.int .u64 (szI b))∧w'=w:=by
 go_enter Tryz.func177,Tryz.ntmps177
 go_wp2_with (go_at_call 13;refine (eM _ _).mono ?_;rintro e w' ⟨rfl,rfl⟩)
 go_ret
 exact⟨bO (eK h),rfl⟩

set_option maxHeartbeats 400000 in
theorem mA (b:Nat) (w:World) (h:U64 b) :
  Calls Tryz.prog 178 #[.float .f64 b] w fun e w'=>e=.returned (.bool (sgB b))∧w'=w:=by
 go_enter Tryz.func178,Tryz.ntmps178
 go_wp2_with (go_at_call 13;refine (eM _ _).mono ?_;rintro e w' ⟨rfl,rfl⟩)
 go_ret
 refine⟨eL ?_,rfl⟩
 rw [CK h]
 cases sgB b<;>rfl

theorem tg (u:Int):decide ((9218868437227405312:Int)<szI u)=ag u:=rfl

set_option maxHeartbeats 400000 in
theorem Ak (b:Nat) (w:World) (h:U64 b) :
  Calls Tryz.prog 281 #[.float .f64 b] w fun e w'=>e=.returned (.bool (ag b))∧w'=w:=by
 go_enter Tryz.func281,Tryz.ntmps281
 go_wp2_with (go_at_call 177;refine (tf _ _ h).mono ?_;rintro e w' ⟨rfl,rfl⟩)
 go_ret
 exact⟨eL (tg b),rfl⟩

set_option maxHeartbeats 400000 in
theorem aj (b:Int) (w:World) (h:U64 b) :
  Calls Tryz.prog 88 #[.int .u64 b] w fun e w'=>e=.returned (.bool (ag b))∧w'=w:=by
 have hz:=eK h
 have hn:=tg b
 go_enter Tryz.func88,Tryz.ntmps88
 go_wp2
 go_ret
 exact⟨rfl,rfl⟩

set_option maxHeartbeats 400000 in
theorem ca (b:Int) (w:World) :
  Calls Tryz.prog 148 #[.int .u64 b] w fun e w'=>e=.returned (.bool (sgB b))∧w'=w:=by
 go_enter Tryz.func148,Tryz.ntmps148
 go_wp2
 go_ret
 exact⟨rfl,rfl⟩

set_option maxHeartbeats 400000 in
theorem ax (b:Int) (w:World) (h:U64 b) :
  Calls Tryz.prog 98 #[.int .u64 b] w fun e w'=>e=.returned (.int .u64 (szI b))∧w'=w:=by
 have hz:=eK h
 go_enter Tryz.func98,Tryz.ntmps98
 go_wp2
 go_ret
 exact⟨rfl,rfl⟩

end Go.Proofs.YtpddmnmhdahnlaaGreat
namespace Go.Proofs.YtpddmnmhdahnlaaGreat
open Go.RowKit

theorem js (b:Nat) (u:Int) (w:World) (hu:Hid (u=b)) (h:U64 u) :
  Calls Tryz.prog 177 #[.float .f64 b] w fun e w'=>e=.returned (.int .u64 (szI u))∧w'=w:=by
 have e:=hu.out;subst e;exact tf b w h

set_option maxHeartbeats 400000 in
theorem CL (b:Nat) (u:Int) (w:World) (hu:Hid (u=b)) (h:U64 u) :
  Calls Tryz.prog 248 #[.float .f64 b] w fun e w'=>e=.returned (.int .i64 (rD u))∧w'=w:=by
 rcases cls_cases u with⟨hz,hc⟩| ⟨⟨h1,h2⟩,hc⟩| ⟨⟨h1,h2⟩,hc⟩| ⟨hz,hc⟩| ⟨h1,hc⟩
 all_goals
  rw [hc];clear hc
  go_enter Tryz.func248,Tryz.ntmps248
  go_wp2_with (go_at_call 177;refine (js _ _ _ hu h).mono ?_;rintro e w' ⟨rfl,rfl⟩)
  go_ret
  exact⟨rfl,rfl⟩
set_option maxHeartbeats 400000 in
theorem rF (b:Nat) (w:World) (h:U64 b) :
  Calls Tryz.prog 249 #[.float .f64 b] w fun e w'=>e=.returned (.bool (sgB b&&!ag b))∧w'=w:=by
 cases h1:sgB b<;>cases h2:ag b
 all_goals
  go_enter Tryz.func249,Tryz.ntmps249
  go_wp2_with (first | (go_at_call 178;refine (mA _ _ h).mono ?_;rintro e w' ⟨rfl,rfl⟩) | (go_at_call 281;refine (Ak _ _ h).mono ?_;rintro e w' ⟨rfl,rfl⟩))
  go_ret
  exact⟨rfl,rfl⟩


theorem CM {u:Int} (h:ag u=true):aa u=0:=by simp [aa,h]
theorem CN {u:Int} (h:ag u=false) (h':sgB u=true):aa u= -szI u:=by simp [aa,h,h']
theorem rank_pos {u:Int} (h:ag u=false) (h':sgB u=false):aa u=szI u:=by simp [aa,h,h']

theorem qe (b:Nat) (u:Int) (w:World) (hu:Hid (u=b)) (h:U64 u) :
  Calls Tryz.prog 178 #[.float .f64 b] w fun e w'=>e=.returned (.bool (sgB u))∧w'=w:=by
 have e:=hu.out;subst e;exact mA b w h

set_option maxHeartbeats 400000 in
theorem lf (u:Int) (w:World) (h:U64 u) :
  Calls Tryz.prog 126 #[.int .u64 u] w fun e w'=>e=.returned (.tuple #[.int .i64 (aa u),.bool (!ag u)])∧w'=w:=by
 cases h1:ag u
 ·cases h2:sgB u
  ·have h3:u<9223372036854775808:=by simpa [sgB] using h2
   have h4:0≤u:=h.1
   rw [rank_pos h1 h2,wK h h2]
   clear h2
   go_enter Tryz.func126,Tryz.ntmps126
   go_wp2_with (go_at_call 88;refine (aj _ _ h).mono ?_;rintro e w' ⟨rfl,rfl⟩)
   go_ret2
   exact⟨rfl,rfl⟩
  ·have h3:9223372036854775808≤u:=by simpa [sgB] using h2
   have h4:u<18446744073709551616:=h.2
   rw [CN h1 h2,wJ h h2]
   clear h2
   go_enter Tryz.func126,Tryz.ntmps126
   go_wp2_with (go_at_call 88;refine (aj _ _ h).mono ?_;rintro e w' ⟨rfl,rfl⟩)
   go_ret2
   exact⟨rfl,rfl⟩
 ·rw [CM h1]
  go_enter Tryz.func126,Tryz.ntmps126
  go_wp2_with (go_at_call 88;refine (aj _ _ h).mono ?_;rintro e w' ⟨rfl,rfl⟩)
  go_ret2
  exact⟨rfl,rfl⟩

end Go.Proofs.YtpddmnmhdahnlaaGreat
namespace Go.Proofs.YtpddmnmhdahnlaaGreat
open Go.RowKit

theorem Ka {u:Int} (h0:0≤u) (h:u<9223372036854775808):(bits .or .u64 u 9223372036854775808).toNat=(9223372036854775808+u).toNat:=by rw [Lx h0 h]

set_option maxHeartbeats 400000 in
theorem rG (u:Int) (w:World) :
  Calls Tryz.prog 179 #[.int .u64 u,.bool false] w fun e w'=>e=.returned (.float .f64 u.toNat)∧w'=w:=by
 go_enter Tryz.func179,Tryz.ntmps179
 go_wp2_with (go_at_call 221;refine (pZ _ _).mono ?_;rintro e w' ⟨rfl,rfl⟩)
 go_ret
 exact⟨rfl,rfl⟩

set_option maxHeartbeats 400000 in
theorem rH (u:Int) (w:World) (h0:0≤u) (h:u<9223372036854775808) :
  Calls Tryz.prog 179 #[.int .u64 u,.bool true] w fun e w'=>e=.returned (.float .f64 (9223372036854775808+u).toNat)∧w'=w:=by
 go_enter Tryz.func179,Tryz.ntmps179
 go_wp2_with (go_at_call 221;refine (pZ _ _).mono ?_;rintro e w' ⟨rfl,rfl⟩)
 go_ret
 exact⟨cQ (Ka h0 h),rfl⟩

end Go.Proofs.YtpddmnmhdahnlaaGreat
namespace Go.Proofs.YtpddmnmhdahnlaaGreat
open Go.RowKit

end Go.Proofs.YtpddmnmhdahnlaaGreat
namespace Go.Proofs.YtpddmnmhdahnlaaGreat
open Go.RowKit

end Go.Proofs.YtpddmnmhdahnlaaGreat
