/-  -/
import Derived.Test.YtjjlnmihkadlmaaGreatRows
import Derived.Test.YtjjlnmihkadlmaaGreatHaa
import Derived.WalkKit
import Derived.WalkSpells
import Derived.WalkLawsBesides
import Derived.Handy
namespace Go.Proofs.YtjjlnmihkadlmaaGreat
open Go.RowKit

theorem bW {k:IntKind} {a b:Int} (h:a=b):Ending.returned (.int k a)=.returned (.int k b):=by rw [h]
theorem eH {a b:Bool} (h:a=b):Ending.returned (.bool a)=.returned (.bool b):=by rw [h]
theorem de {a b:Nat} (h:a=b):Ending.returned (.float .f64 a)=.returned (.float .f64 b):=by rw [h]

theorem nV (b:Nat) (w:World):(callFunc 72 #[.float .f64 b]).run Tryz.prog w=.ok (.value (.int .u64 b)) w:=
 (run_callFunc_extern (e:=Extern.MathFloatBits.float64bits) Tryz.func72 (by kernel_rfl) (by kernel_rfl) (by kernel_rfl) (by kernel_rfl) _ w).trans rfl

theorem bN (n:Int) (w:World):(callFunc 137 #[.int .u64 n]).run Tryz.prog w=.ok (.value (.float .f64 n.toNat)) w:=
 (run_callFunc_extern (e:=Extern.MathFloatBits.float64frombits) Tryz.func137 (by kernel_rfl) (by kernel_rfl) (by kernel_rfl) (by kernel_rfl) _ w).trans rfl

set_option maxHeartbeats 400000 in
theorem iP (b:Nat) (w:World) :
  Calls Tryz.prog 32 #[.float .f64 b] w fun e w'=>e=.returned (.int .u64 b)∧w'=w:=by
 have hb:=nV
 go_enter Tryz.func32,Tryz.ntmps32
 go_wp2
 go_ret
 exact⟨rfl,rfl⟩

set_option maxHeartbeats 400000 in
theorem nW (n:Int) (w:World) :
  Calls Tryz.prog 181 #[.int .u64 n] w fun e w'=>e=.returned (.float .f64 n.toNat)∧w'=w:=by
 have hb:=bN
 go_enter Tryz.func181,Tryz.ntmps181
 go_wp2
 go_ret
 exact⟨rfl,rfl⟩

set_option maxHeartbeats 400000 in
theorem rk (b:Nat) (w:World) (h:U64 b) :
  Calls Tryz.prog 104 #[.float .f64 b] w fun e w'=>e=.returned (.int .u64 (szI b))∧w'=w:=by
 go_enter Tryz.func104,Tryz.ntmps104
 go_wp2_with (go_at_call 32;refine (iP _ _).mono ?_;rintro e w' ⟨rfl,rfl⟩)
 go_ret
 exact⟨bW (dE h),rfl⟩

set_option maxHeartbeats 400000 in
theorem lg (b:Nat) (w:World) (h:U64 b) :
  Calls Tryz.prog 105 #[.float .f64 b] w fun e w'=>e=.returned (.bool (sgB b))∧w'=w:=by
 go_enter Tryz.func105,Tryz.ntmps105
 go_wp2_with (go_at_call 32;refine (iP _ _).mono ?_;rintro e w' ⟨rfl,rfl⟩)
 go_ret
 refine⟨eH ?_,rfl⟩
 rw [Am h]
 cases sgB b<;>rfl

theorem rl (u:Int):decide ((9218868437227405312:Int)<szI u)=ag u:=rfl

set_option maxHeartbeats 400000 in
theorem xO (b:Nat) (w:World) (h:U64 b) :
  Calls Tryz.prog 149 #[.float .f64 b] w fun e w'=>e=.returned (.bool (ag b))∧w'=w:=by
 go_enter Tryz.func149,Tryz.ntmps149
 go_wp2_with (go_at_call 104;refine (rk _ _ h).mono ?_;rintro e w' ⟨rfl,rfl⟩)
 go_ret
 exact⟨eH (rl b),rfl⟩

set_option maxHeartbeats 400000 in
theorem ah (b:Int) (w:World) (h:U64 b) :
  Calls Tryz.prog 84 #[.int .u64 b] w fun e w'=>e=.returned (.bool (ag b))∧w'=w:=by
 have hz:=dE h
 have hn:=rl b
 go_enter Tryz.func84,Tryz.ntmps84
 go_wp2
 go_ret
 exact⟨rfl,rfl⟩

set_option maxHeartbeats 400000 in
theorem bJ (b:Int) (w:World) :
  Calls Tryz.prog 87 #[.int .u64 b] w fun e w'=>e=.returned (.bool (sgB b))∧w'=w:=by
 go_enter Tryz.func87,Tryz.ntmps87
 go_wp2
 go_ret
 exact⟨rfl,rfl⟩

set_option maxHeartbeats 400000 in
theorem ay (b:Int) (w:World) (h:U64 b) :
  Calls Tryz.prog 66 #[.int .u64 b] w fun e w'=>e=.returned (.int .u64 (szI b))∧w'=w:=by
 have hz:=dE h
 go_enter Tryz.func66,Tryz.ntmps66
 go_wp2
 go_ret
 exact⟨rfl,rfl⟩

end Go.Proofs.YtjjlnmihkadlmaaGreat
namespace Go.Proofs.YtjjlnmihkadlmaaGreat
open Go.RowKit

theorem iQ (b:Nat) (u:Int) (w:World) (hu:Hid (u=b)) (h:U64 u) :
  Calls Tryz.prog 104 #[.float .f64 b] w fun e w'=>e=.returned (.int .u64 (szI u))∧w'=w:=by
 have e:=hu.out;subst e;exact rk b w h

set_option maxHeartbeats 400000 in
theorem An (b:Nat) (u:Int) (w:World) (hu:Hid (u=b)) (h:U64 u) :
  Calls Tryz.prog 107 #[.float .f64 b] w fun e w'=>e=.returned (.int .i64 (pw u))∧w'=w:=by
 rcases cls_cases u with⟨hz,hc⟩| ⟨⟨h1,h2⟩,hc⟩| ⟨⟨h1,h2⟩,hc⟩| ⟨hz,hc⟩| ⟨h1,hc⟩
 all_goals
  rw [hc];clear hc
  go_enter Tryz.func107,Tryz.ntmps107
  go_wp2_with (go_at_call 104;refine (iQ _ _ _ hu h).mono ?_;rintro e w' ⟨rfl,rfl⟩)
  go_ret
  exact⟨rfl,rfl⟩
set_option maxHeartbeats 400000 in
theorem pB (b:Nat) (w:World) (h:U64 b) :
  Calls Tryz.prog 108 #[.float .f64 b] w fun e w'=>e=.returned (.bool (sgB b&&!ag b))∧w'=w:=by
 cases h1:sgB b<;>cases h2:ag b
 all_goals
  go_enter Tryz.func108,Tryz.ntmps108
  go_wp2_with (first | (go_at_call 105;refine (lg _ _ h).mono ?_;rintro e w' ⟨rfl,rfl⟩) | (go_at_call 149;refine (xO _ _ h).mono ?_;rintro e w' ⟨rfl,rfl⟩))
  go_ret
  exact⟨rfl,rfl⟩


set_option maxHeartbeats 400000 in
theorem rm (a b:Int) (w:World) (h:U64 a) (h':U64 b) :
  Calls Tryz.prog 51 #[.int .u64 a,.int .u64 b] w fun e w'=>e=.returned (.bool (dA a b))∧w'=w:=by
 by_cases h0:a=b
 ·have hb:(a==b)=true:=by simpa using h0
  clear h0
  have hs:Hid (dA a b=true):=by
   have:a=b:=by simpa using hb
   subst this;exact io a
  rw [hs.out]
  go_enter Tryz.func51,Tryz.ntmps51
  go_wp2
  go_ret
  exact⟨rfl,rfl⟩
 ·have hb:(a==b)=false:=by simpa using h0
  have hs:Hid (dA a b=(ag a&&ag b)):=by show dA a b=_;simp [dA,h0]
  clear h0
  rw [hs.out]
  cases h1:ag a<;>cases h2:ag b
  all_goals
   go_enter Tryz.func51,Tryz.ntmps51
   go_wp2_with fail
   refine (ah _ _ h).mono ?_
   rintro e w' ⟨rfl,rfl⟩
   go_wp2_with (go_at_call 84;refine (ah _ _ h').mono ?_;rintro e w' ⟨rfl,rfl⟩)
   go_ret
   exact⟨rfl,rfl⟩

theorem Ao {u:Int} (h:ag u=true):ae u=0:=by simp [ae,h]
theorem Ap {u:Int} (h:ag u=false) (h':sgB u=true):ae u= -szI u:=by simp [ae,h,h']
theorem rank_pos {u:Int} (h:ag u=false) (h':sgB u=false):ae u=szI u:=by simp [ae,h,h']

theorem nX (b:Nat) (u:Int) (w:World) (hu:Hid (u=b)) (h:U64 u) :
  Calls Tryz.prog 105 #[.float .f64 b] w fun e w'=>e=.returned (.bool (sgB u))∧w'=w:=by
 have e:=hu.out;subst e;exact lg b w h

set_option maxHeartbeats 400000 in
theorem kn (u:Int) (w:World) (h:U64 u) :
  Calls Tryz.prog 134 #[.int .u64 u] w fun e w'=>e=.returned (.tuple #[.int .i64 (ae u),.bool (!ag u)])∧w'=w:=by
 cases h1:ag u
 ·cases h2:sgB u
  ·have h3:u<9223372036854775808:=by simpa [sgB] using h2
   have h4:0≤u:=h.1
   rw [rank_pos h1 h2,ul h h2]
   clear h2
   go_enter Tryz.func134,Tryz.ntmps134
   go_wp2_with (go_at_call 84;refine (ah _ _ h).mono ?_;rintro e w' ⟨rfl,rfl⟩)
   go_ret2
   exact⟨rfl,rfl⟩
  ·have h3:9223372036854775808≤u:=by simpa [sgB] using h2
   have h4:u<18446744073709551616:=h.2
   rw [Ap h1 h2,uk h h2]
   clear h2
   go_enter Tryz.func134,Tryz.ntmps134
   go_wp2_with (go_at_call 84;refine (ah _ _ h).mono ?_;rintro e w' ⟨rfl,rfl⟩)
   go_ret2
   exact⟨rfl,rfl⟩
 ·rw [Ao h1]
  go_enter Tryz.func134,Tryz.ntmps134
  go_wp2_with (go_at_call 84;refine (ah _ _ h).mono ?_;rintro e w' ⟨rfl,rfl⟩)
  go_ret2
  exact⟨rfl,rfl⟩

end Go.Proofs.YtjjlnmihkadlmaaGreat
namespace Go.Proofs.YtjjlnmihkadlmaaGreat
open Go.RowKit

theorem FH {u:Int} (h0:0≤u) (h:u<9223372036854775808):(bits .or .u64 u 9223372036854775808).toNat=(9223372036854775808+u).toNat:=by rw [Hi h0 h]

set_option maxHeartbeats 400000 in
theorem pC (u:Int) (w:World) :
  Calls Tryz.prog 155 #[.int .u64 u,.bool false] w fun e w'=>e=.returned (.float .f64 u.toNat)∧w'=w:=by
 go_enter Tryz.func155,Tryz.ntmps155
 go_wp2_with (go_at_call 181;refine (nW _ _).mono ?_;rintro e w' ⟨rfl,rfl⟩)
 go_ret
 exact⟨rfl,rfl⟩

set_option maxHeartbeats 400000 in
theorem pD (u:Int) (w:World) (h0:0≤u) (h:u<9223372036854775808) :
  Calls Tryz.prog 155 #[.int .u64 u,.bool true] w fun e w'=>e=.returned (.float .f64 (9223372036854775808+u).toNat)∧w'=w:=by
 go_enter Tryz.func155,Tryz.ntmps155
 go_wp2_with (go_at_call 181;refine (nW _ _).mono ?_;rintro e w' ⟨rfl,rfl⟩)
 go_ret
 exact⟨de (FH h0 h),rfl⟩

end Go.Proofs.YtjjlnmihkadlmaaGreat
namespace Go.Proofs.YtjjlnmihkadlmaaGreat
open Go.RowKit

end Go.Proofs.YtjjlnmihkadlmaaGreat
namespace Go.Proofs.YtjjlnmihkadlmaaGreat
open Go.RowKit

end Go.Proofs.YtjjlnmihkadlmaaGreat
