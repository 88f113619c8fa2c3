/-  -/
import Derived.Test.YtpddmnmhdahnlaaGreatRows
import Derived.Test.YtpddmnmhdahnlaaGreatHaa
import Derived.WalkKit
import Derived.WalkSpells
import Derived.WalkLawsBesides
import Derived.Handy
namespace Go.Proofs.YtpddmnmhdahnlaaGreat
open Go.RowKit

theorem bV {k:IntKind} {a b:Int} (h:a=b):Ending.returned (.int k a)=.returned (.int k b):=by rw [h]
theorem eX {a b:Bool} (h:a=b):Ending.returned (.bool a)=.returned (.bool b):=by rw [h]
theorem de {a b:Nat} (h:a=b):Ending.returned (.float .f64 a)=.returned (.float .f64 b):=by rw [h]

theorem qC (b:Nat) (w:World):(callFunc 40 #[.float .f64 b]).run Tryz.prog w=.ok (.value (.int .u64 b)) w:=
 (run_callFunc_extern (e:=Extern.MathFloatBits.float64bits) Tryz.func40 (by kernel_rfl) (by kernel_rfl) (by kernel_rfl) (by kernel_rfl) _ w).trans rfl

theorem bK (n:Int) (w:World):(callFunc 174 #[.int .u64 n]).run Tryz.prog w=.ok (.value (.float .f64 n.toNat)) w:=
 (run_callFunc_extern (e:=Extern.MathFloatBits.float64frombits) Tryz.func174 (by kernel_rfl) (by kernel_rfl) (by kernel_rfl) (by kernel_rfl) _ w).trans rfl

set_option maxHeartbeats 400000 in
theorem eY (b:Nat) (w:World) :
  Calls Tryz.prog 13 #[.float .f64 b] w fun e w'=>e=.returned (.int .u64 b)∧w'=w:=by
 have hb:=qC
 go_enter Tryz.func13,Tryz.ntmps13
 go_wp2
 go_ret
 exact⟨rfl,rfl⟩

set_option maxHeartbeats 400000 in
theorem qD (n:Int) (w:World) :
  Calls Tryz.prog 221 #[.int .u64 n] w fun e w'=>e=.returned (.float .f64 n.toNat)∧w'=w:=by
 have hb:=bK
 go_enter Tryz.func221,Tryz.ntmps221
 go_wp2
 go_ret
 exact⟨rfl,rfl⟩

set_option maxHeartbeats 400000 in
theorem tG (b:Nat) (w:World) (h:U64 b) :
  Calls Tryz.prog 177 #[.float .f64 b] w fun e w'=>e=.returned (.int .u64 (szI b))∧w'=w:=by
 go_enter Tryz.func177,Tryz.ntmps177
 go_wp2_with (go_at_call 13;refine (eY _ _).mono ?_;rintro e w' ⟨rfl,rfl⟩)
 go_ret
 exact⟨bV (dJ h),rfl⟩

set_option maxHeartbeats 400000 in
theorem mU (b:Nat) (w:World) (h:U64 b) :
  Calls Tryz.prog 178 #[.float .f64 b] w fun e w'=>e=.returned (.bool (sgB b))∧w'=w:=by
 go_enter Tryz.func178,Tryz.ntmps178
 go_wp2_with (go_at_call 13;refine (eY _ _).mono ?_;rintro e w' ⟨rfl,rfl⟩)
 go_ret
 refine⟨eX ?_,rfl⟩
 rw [Dk h]
 cases sgB b<;>rfl

theorem tH (u:Int):decide ((9218868437227405312:Int)<szI u)=ag u:=rfl

set_option maxHeartbeats 400000 in
theorem AN (b:Nat) (w:World) (h:U64 b) :
  Calls Tryz.prog 281 #[.float .f64 b] w fun e w'=>e=.returned (.bool (ag b))∧w'=w:=by
 go_enter Tryz.func281,Tryz.ntmps281
 go_wp2_with (go_at_call 177;refine (tG _ _ h).mono ?_;rintro e w' ⟨rfl,rfl⟩)
 go_ret
 exact⟨eX (tH b),rfl⟩

set_option maxHeartbeats 400000 in
theorem aj (b:Int) (w:World) (h:U64 b) :
  Calls Tryz.prog 88 #[.int .u64 b] w fun e w'=>e=.returned (.bool (ag b))∧w'=w:=by
 have hz:=dJ h
 have hn:=tH b
 go_enter Tryz.func88,Tryz.ntmps88
 go_wp2
 go_ret
 exact⟨rfl,rfl⟩

set_option maxHeartbeats 400000 in
theorem ct (b:Int) (w:World) :
  Calls Tryz.prog 148 #[.int .u64 b] w fun e w'=>e=.returned (.bool (sgB b))∧w'=w:=by
 go_enter Tryz.func148,Tryz.ntmps148
 go_wp2
 go_ret
 exact⟨rfl,rfl⟩

set_option maxHeartbeats 400000 in
theorem ay (b:Int) (w:World) (h:U64 b) :
  Calls Tryz.prog 98 #[.int .u64 b] w fun e w'=>e=.returned (.int .u64 (szI b))∧w'=w:=by
 have hz:=dJ h
 go_enter Tryz.func98,Tryz.ntmps98
 go_wp2
 go_ret
 exact⟨rfl,rfl⟩

end Go.Proofs.YtpddmnmhdahnlaaGreat
namespace Go.Proofs.YtpddmnmhdahnlaaGreat
open Go.RowKit

theorem jD (b:Nat) (u:Int) (w:World) (hu:Hid (u=b)) (h:U64 u) :
  Calls Tryz.prog 177 #[.float .f64 b] w fun e w'=>e=.returned (.int .u64 (szI u))∧w'=w:=by
 have e:=hu.out;subst e;exact tG b w h

set_option maxHeartbeats 400000 in
theorem Dl (b:Nat) (u:Int) (w:World) (hu:Hid (u=b)) (h:U64 u) :
  Calls Tryz.prog 248 #[.float .f64 b] w fun e w'=>e=.returned (.int .i64 (sd u))∧w'=w:=by
 rcases cls_cases u with⟨hz,hc⟩| ⟨⟨h1,h2⟩,hc⟩| ⟨⟨h1,h2⟩,hc⟩| ⟨hz,hc⟩| ⟨h1,hc⟩
 all_goals
  rw [hc];clear hc
  go_enter Tryz.func248,Tryz.ntmps248
  go_wp2_with (go_at_call 177;refine (jD _ _ _ hu h).mono ?_;rintro e w' ⟨rfl,rfl⟩)
  go_ret
  exact⟨rfl,rfl⟩
set_option maxHeartbeats 400000 in
theorem sj (b:Nat) (w:World) (h:U64 b) :
  Calls Tryz.prog 249 #[.float .f64 b] w fun e w'=>e=.returned (.bool (sgB b&&!ag b))∧w'=w:=by
 cases h1:sgB b<;>cases h2:ag b
 all_goals
  go_enter Tryz.func249,Tryz.ntmps249
  go_wp2_with (first | (go_at_call 178;refine (mU _ _ h).mono ?_;rintro e w' ⟨rfl,rfl⟩) | (go_at_call 281;refine (AN _ _ h).mono ?_;rintro e w' ⟨rfl,rfl⟩))
  go_ret
  exact⟨rfl,rfl⟩


theorem Dm {u:Int} (h:ag u=true):aa u=0:=by simp [aa,h]
theorem Dn {u:Int} (h:ag u=false) (h':sgB u=true):aa u= -szI u:=by simp [aa,h,h']
theorem rank_pos {u:Int} (h:ag u=false) (h':sgB u=false):aa u=szI u:=by simp [aa,h,h']

theorem qE (b:Nat) (u:Int) (w:World) (hu:Hid (u=b)) (h:U64 u) :
  Calls Tryz.prog 178 #[.float .f64 b] w fun e w'=>e=.returned (.bool (sgB u))∧w'=w:=by
 have e:=hu.out;subst e;exact mU b w h

set_option maxHeartbeats 400000 in
theorem eG (u:Int) (w:World) (h:U64 u) :
  Calls Tryz.prog 126 #[.int .u64 u] w fun e w'=>e=.returned (.tuple #[.int .i64 (aa u),.bool (!ag u)])∧w'=w:=by
 cases h1:ag u
 ·cases h2:sgB u
  ·have h3:u<9223372036854775808:=by simpa [sgB] using h2
   have h4:0≤u:=h.1
   rw [rank_pos h1 h2,xl h h2]
   clear h2
   go_enter Tryz.func126,Tryz.ntmps126
   go_wp2_with (go_at_call 88;refine (aj _ _ h).mono ?_;rintro e w' ⟨rfl,rfl⟩)
   go_ret2
   exact⟨rfl,rfl⟩
  ·have h3:9223372036854775808≤u:=by simpa [sgB] using h2
   have h4:u<18446744073709551616:=h.2
   rw [Dn h1 h2,xk h h2]
   clear h2
   go_enter Tryz.func126,Tryz.ntmps126
   go_wp2_with (go_at_call 88;refine (aj _ _ h).mono ?_;rintro e w' ⟨rfl,rfl⟩)
   go_ret2
   exact⟨rfl,rfl⟩
 ·rw [Dm h1]
  go_enter Tryz.func126,Tryz.ntmps126
  go_wp2_with (go_at_call 88;refine (aj _ _ h).mono ?_;rintro e w' ⟨rfl,rfl⟩)
  go_ret2
  exact⟨rfl,rfl⟩

end Go.Proofs.YtpddmnmhdahnlaaGreat
namespace Go.Proofs.YtpddmnmhdahnlaaGreat
open Go.RowKit

theorem KD {u:Int} (h0:0≤u) (h:u<9223372036854775808):(bits .or .u64 u 9223372036854775808).toNat=(9223372036854775808+u).toNat:=by rw [Mf h0 h]

set_option maxHeartbeats 400000 in
theorem sk (u:Int) (w:World) :
  Calls Tryz.prog 179 #[.int .u64 u,.bool false] w fun e w'=>e=.returned (.float .f64 u.toNat)∧w'=w:=by
 go_enter Tryz.func179,Tryz.ntmps179
 go_wp2_with (go_at_call 221;refine (qD _ _).mono ?_;rintro e w' ⟨rfl,rfl⟩)
 go_ret
 exact⟨rfl,rfl⟩

set_option maxHeartbeats 400000 in
theorem sl (u:Int) (w:World) (h0:0≤u) (h:u<9223372036854775808) :
  Calls Tryz.prog 179 #[.int .u64 u,.bool true] w fun e w'=>e=.returned (.float .f64 (9223372036854775808+u).toNat)∧w'=w:=by
 go_enter Tryz.func179,Tryz.ntmps179
 go_wp2_with (go_at_call 221;refine (qD _ _).mono ?_;rintro e w' ⟨rfl,rfl⟩)
 go_ret
 exact⟨de (KD h0 h),rfl⟩

end Go.Proofs.YtpddmnmhdahnlaaGreat
namespace Go.Proofs.YtpddmnmhdahnlaaGreat
open Go.RowKit

end Go.Proofs.YtpddmnmhdahnlaaGreat
namespace Go.Proofs.YtpddmnmhdahnlaaGreat
open Go.RowKit

end Go.Proofs.YtpddmnmhdahnlaaGreat
