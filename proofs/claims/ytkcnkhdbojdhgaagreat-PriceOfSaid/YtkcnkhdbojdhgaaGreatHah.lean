/-  -/
import Derived.Test.YtkcnkhdbojdhgaaGreatRows
import Derived.Test.YtkcnkhdbojdhgaaGreatHaa
import Derived.WalkKit
import Derived.WalkSpells
import Derived.WalkLawsBesides
import Derived.Handy
namespace Go.Proofs.YtkcnkhdbojdhgaaGreat
open Go.RowKit

theorem aW {k:IntKind} {a b:Int} (h:a=b):Ending.returned (.int k a)=.returned (.int k b):=by rw [h]
theorem da {a b:Bool} (h:a=b):Ending.returned (.bool a)=.returned (.bool b):=by rw [h]
theorem cX {a b:Nat} (h:a=b):Ending.returned (.float .f64 a)=.returned (.float .f64 b):=by rw [h]

theorem on (b:Nat) (w:World):(callFunc 70 #[.float .f64 b]).run Tryz.prog w=.ok (.value (.int .u64 b)) w:=
 (run_callFunc_extern (e:=Extern.MathFloatBits.float64bits) Tryz.func70 (by kernel_rfl) (by kernel_rfl) (by kernel_rfl) (by kernel_rfl) _ w).trans rfl

theorem bL (n:Int) (w:World):(callFunc 152 #[.int .u64 n]).run Tryz.prog w=.ok (.value (.float .f64 n.toNat)) w:=
 (run_callFunc_extern (e:=Extern.MathFloatBits.float64frombits) Tryz.func152 (by kernel_rfl) (by kernel_rfl) (by kernel_rfl) (by kernel_rfl) _ w).trans rfl

set_option maxHeartbeats 400000 in
theorem gk (b:Nat) (w:World) :
  Calls Tryz.prog 30 #[.float .f64 b] w fun e w'=>e=.returned (.int .u64 b)∧w'=w:=by
 have hb:=on
 go_enter Tryz.func30,Tryz.ntmps30
 go_wp2
 go_ret
 exact⟨rfl,rfl⟩

set_option maxHeartbeats 400000 in
theorem oq (n:Int) (w:World) :
  Calls Tryz.prog 213 #[.int .u64 n] w fun e w'=>e=.returned (.float .f64 n.toNat)∧w'=w:=by
 have hb:=bL
 go_enter Tryz.func213,Tryz.ntmps213
 go_wp2
 go_ret
 exact⟨rfl,rfl⟩

set_option maxHeartbeats 400000 in
theorem rD (b:Nat) (w:World) (h:U64 b) :
  Calls Tryz.prog 132 #[.float .f64 b] w fun e w'=>e=.returned (.int .u64 (szI b))∧w'=w:=by
 go_enter Tryz.func132,Tryz.ntmps132
 go_wp2_with (go_at_call 30;refine (gk _ _).mono ?_;rintro e w' ⟨rfl,rfl⟩)
 go_ret
 exact⟨aW (cK h),rfl⟩

set_option maxHeartbeats 400000 in
theorem lA (b:Nat) (w:World) (h:U64 b) :
  Calls Tryz.prog 133 #[.float .f64 b] w fun e w'=>e=.returned (.bool (sgB b))∧w'=w:=by
 go_enter Tryz.func133,Tryz.ntmps133
 go_wp2_with (go_at_call 30;refine (gk _ _).mono ?_;rintro e w' ⟨rfl,rfl⟩)
 go_ret
 refine⟨da ?_,rfl⟩
 rw [Bm h]
 cases sgB b<;>rfl

theorem rE (u:Int):decide ((9218868437227405312:Int)<szI u)=ag u:=rfl

set_option maxHeartbeats 400000 in
theorem yH (b:Nat) (w:World) (h:U64 b) :
  Calls Tryz.prog 248 #[.float .f64 b] w fun e w'=>e=.returned (.bool (ag b))∧w'=w:=by
 go_enter Tryz.func248,Tryz.ntmps248
 go_wp2_with (go_at_call 132;refine (rD _ _ h).mono ?_;rintro e w' ⟨rfl,rfl⟩)
 go_ret
 exact⟨da (rE b),rfl⟩

set_option maxHeartbeats 400000 in
theorem aj (b:Int) (w:World) (h:U64 b) :
  Calls Tryz.prog 93 #[.int .u64 b] w fun e w'=>e=.returned (.bool (ag b))∧w'=w:=by
 have hz:=cK h
 have hn:=rE b
 go_enter Tryz.func93,Tryz.ntmps93
 go_wp2
 go_ret
 exact⟨rfl,rfl⟩

set_option maxHeartbeats 400000 in
theorem bH (b:Int) (w:World) :
  Calls Tryz.prog 143 #[.int .u64 b] w fun e w'=>e=.returned (.bool (sgB b))∧w'=w:=by
 go_enter Tryz.func143,Tryz.ntmps143
 go_wp2
 go_ret
 exact⟨rfl,rfl⟩

set_option maxHeartbeats 400000 in
theorem az (b:Int) (w:World) (h:U64 b) :
  Calls Tryz.prog 96 #[.int .u64 b] w fun e w'=>e=.returned (.int .u64 (szI b))∧w'=w:=by
 have hz:=cK h
 go_enter Tryz.func96,Tryz.ntmps96
 go_wp2
 go_ret
 exact⟨rfl,rfl⟩

end Go.Proofs.YtkcnkhdbojdhgaaGreat
namespace Go.Proofs.YtkcnkhdbojdhgaaGreat
open Go.RowKit

theorem iR (b:Nat) (u:Int) (w:World) (hu:Hid (u=b)) (h:U64 u) :
  Calls Tryz.prog 132 #[.float .f64 b] w fun e w'=>e=.returned (.int .u64 (szI u))∧w'=w:=by
 have e:=hu.out;subst e;exact rD b w h

set_option maxHeartbeats 400000 in
theorem Bn (b:Nat) (u:Int) (w:World) (hu:Hid (u=b)) (h:U64 u) :
  Calls Tryz.prog 199 #[.float .f64 b] w fun e w'=>e=.returned (.int .i64 (pO u))∧w'=w:=by
 rcases cls_cases u with⟨hz,hc⟩| ⟨⟨h1,h2⟩,hc⟩| ⟨⟨h1,h2⟩,hc⟩| ⟨hz,hc⟩| ⟨h1,hc⟩
 all_goals
  rw [hc];clear hc
  go_enter Tryz.func199,Tryz.ntmps199
  go_wp2_with (go_at_call 132;refine (iR _ _ _ hu h).mono ?_;rintro e w' ⟨rfl,rfl⟩)
  go_ret
  exact⟨rfl,rfl⟩
set_option maxHeartbeats 400000 in
theorem pQ (b:Nat) (w:World) (h:U64 b) :
  Calls Tryz.prog 200 #[.float .f64 b] w fun e w'=>e=.returned (.bool (sgB b&&!ag b))∧w'=w:=by
 cases h1:sgB b<;>cases h2:ag b
 all_goals
  go_enter Tryz.func200,Tryz.ntmps200
  go_wp2_with (first | (go_at_call 133;refine (lA _ _ h).mono ?_;rintro e w' ⟨rfl,rfl⟩) | (go_at_call 248;refine (yH _ _ h).mono ?_;rintro e w' ⟨rfl,rfl⟩))
  go_ret
  exact⟨rfl,rfl⟩


set_option maxHeartbeats 400000 in
theorem rF (a b:Int) (w:World) (h:U64 a) (h':U64 b) :
  Calls Tryz.prog 49 #[.int .u64 a,.int .u64 b] w fun e w'=>e=.returned (.bool (dB a b))∧w'=w:=by
 by_cases h0:a=b
 ·have hb:(a==b)=true:=by simpa using h0
  clear h0
  have hs:Hid (dB a b=true):=by
   have:a=b:=by simpa using hb
   subst this;exact fe a
  rw [hs.out]
  go_enter Tryz.func49,Tryz.ntmps49
  go_wp2
  go_ret
  exact⟨rfl,rfl⟩
 ·have hb:(a==b)=false:=by simpa using h0
  have hs:Hid (dB a b=(ag a&&ag b)):=by show dB a b=_;simp [dB,h0]
  clear h0
  rw [hs.out]
  cases h1:ag a<;>cases h2:ag b
  all_goals
   go_enter Tryz.func49,Tryz.ntmps49
   go_wp2_with fail
   refine (aj _ _ h).mono ?_
   rintro e w' ⟨rfl,rfl⟩
   go_wp2_with (go_at_call 93;refine (aj _ _ h').mono ?_;rintro e w' ⟨rfl,rfl⟩)
   go_ret
   exact⟨rfl,rfl⟩

set_option maxHeartbeats 400000 in
theorem GW (a:Nat) (b:Int) (w:World) (h:U64 a) (h':U64 b) :
  Calls Tryz.prog 19 #[.float .f64 a,.int .u64 b] w fun e w'=>e=.returned (.bool (dB a b))∧w'=w:=by
 go_enter Tryz.func19,Tryz.ntmps19
 go_wp2_with (first | (go_at_call 30;refine (gk _ _).mono ?_;rintro e w' ⟨rfl,rfl⟩) | (go_at_call 49;refine (rF _ _ _ h h').mono ?_;rintro e w' ⟨rfl,rfl⟩))
 go_ret
 exact⟨rfl,rfl⟩

theorem Bo {u:Int} (h:ag u=true):ae u=0:=by simp [ae,h]
theorem Bp {u:Int} (h:ag u=false) (h':sgB u=true):ae u= -szI u:=by simp [ae,h,h']
theorem rank_pos {u:Int} (h:ag u=false) (h':sgB u=false):ae u=szI u:=by simp [ae,h,h']

theorem ot (b:Nat) (u:Int) (w:World) (hu:Hid (u=b)) (h:U64 u) :
  Calls Tryz.prog 133 #[.float .f64 b] w fun e w'=>e=.returned (.bool (sgB u))∧w'=w:=by
 have e:=hu.out;subst e;exact lA b w h

set_option maxHeartbeats 400000 in
theorem ef (u:Int) (w:World) (h:U64 u) :
  Calls Tryz.prog 114 #[.int .u64 u] w fun e w'=>e=.returned (.tuple #[.int .i64 (ae u),.bool (!ag u)])∧w'=w:=by
 cases h1:ag u
 ·cases h2:sgB u
  ·have h3:u<9223372036854775808:=by simpa [sgB] using h2
   have h4:0≤u:=h.1
   rw [rank_pos h1 h2,uW h h2]
   clear h2
   go_enter Tryz.func114,Tryz.ntmps114
   go_wp2_with (go_at_call 93;refine (aj _ _ h).mono ?_;rintro e w' ⟨rfl,rfl⟩)
   go_ret2
   exact⟨rfl,rfl⟩
  ·have h3:9223372036854775808≤u:=by simpa [sgB] using h2
   have h4:u<18446744073709551616:=h.2
   rw [Bp h1 h2,uU h h2]
   clear h2
   go_enter Tryz.func114,Tryz.ntmps114
   go_wp2_with (go_at_call 93;refine (aj _ _ h).mono ?_;rintro e w' ⟨rfl,rfl⟩)
   go_ret2
   exact⟨rfl,rfl⟩
 ·rw [Bo h1]
  go_enter Tryz.func114,Tryz.ntmps114
  go_wp2_with (go_at_call 93;refine (aj _ _ h).mono ?_;rintro e w' ⟨rfl,rfl⟩)
  go_ret2
  exact⟨rfl,rfl⟩

end Go.Proofs.YtkcnkhdbojdhgaaGreat
namespace Go.Proofs.YtkcnkhdbojdhgaaGreat
open Go.RowKit

theorem GX {u:Int} (h0:0≤u) (h:u<9223372036854775808):(bits .or .u64 u 9223372036854775808).toNat=(9223372036854775808+u).toNat:=by rw [IO h0 h]

set_option maxHeartbeats 400000 in
theorem pR (u:Int) (w:World) :
  Calls Tryz.prog 155 #[.int .u64 u,.bool false] w fun e w'=>e=.returned (.float .f64 u.toNat)∧w'=w:=by
 go_enter Tryz.func155,Tryz.ntmps155
 go_wp2_with (go_at_call 213;refine (oq _ _).mono ?_;rintro e w' ⟨rfl,rfl⟩)
 go_ret
 exact⟨rfl,rfl⟩

set_option maxHeartbeats 400000 in
theorem pS (u:Int) (w:World) (h0:0≤u) (h:u<9223372036854775808) :
  Calls Tryz.prog 155 #[.int .u64 u,.bool true] w fun e w'=>e=.returned (.float .f64 (9223372036854775808+u).toNat)∧w'=w:=by
 go_enter Tryz.func155,Tryz.ntmps155
 go_wp2_with (go_at_call 213;refine (oq _ _).mono ?_;rintro e w' ⟨rfl,rfl⟩)
 go_ret
 exact⟨cX (GX h0 h),rfl⟩

end Go.Proofs.YtkcnkhdbojdhgaaGreat
namespace Go.Proofs.YtkcnkhdbojdhgaaGreat
open Go.RowKit

end Go.Proofs.YtkcnkhdbojdhgaaGreat
namespace Go.Proofs.YtkcnkhdbojdhgaaGreat
open Go.RowKit

end Go.Proofs.YtkcnkhdbojdhgaaGreat
