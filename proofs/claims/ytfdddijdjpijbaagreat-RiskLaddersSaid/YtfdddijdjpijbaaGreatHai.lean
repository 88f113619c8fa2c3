/-  -/
import Derived.Test.YtfdddijdjpijbaaGreatRows
import Derived.Test.YtfdddijdjpijbaaGreatHaa
import Derived.WalkKit
import Derived.WalkSpells
import Derived.WalkLawsBesides
import Derived.Handy
set_option maxHeartbeats 400000
namespace Go.Proofs.YtfdddijdjpijbaaGreat
open Go.RowKit
theorem bu {k:IntKind} {a b:Int} (h:a=b):Ending.returned (.int k a)=.returned (.int k b):=by rw [h]
theorem gk {a b:Bool} (h:a=b):Ending.returned (.bool a)=.returned (.bool b):=by rw [h]
theorem dP {a b:Nat} (h:a=b):Ending.returned (.float .f64 a)=.returned (.float .f64 b):=by rw [h]
theorem sA (b:Nat) (w:World):(callFunc 28 #[.float .f64 b]).run Tryz.prog w=.ok (.value (.int .u64 b)) w:=
 (run_callFunc_extern (e:=Extern.MathFloatBits.float64bits) Tryz.func28 (by kernel_rfl) (by kernel_rfl) (by kernel_rfl) (by kernel_rfl) _ w).trans rfl
theorem bY (n:Int) (w:World):(callFunc 118 #[.int .u64 n]).run Tryz.prog w=.ok (.value (.float .f64 n.toNat)) w:=
 (run_callFunc_extern (e:=Extern.MathFloatBits.float64frombits) Tryz.func118 (by kernel_rfl) (by kernel_rfl) (by kernel_rfl) (by kernel_rfl) _ w).trans rfl
theorem gn (b:Nat) (w:World) :
  Calls Tryz.prog 11 #[.float .f64 b] w fun e a=>e=.returned (.int .u64 b)/\a=w:=by
 have c:=sA
 go_enter Tryz.func11,Tryz.ntmps11
 go_wp2
 go_ret
 exact⟨rfl,rfl⟩
theorem sC (n:Int) (w:World) :
  Calls Tryz.prog 157 #[.int .u64 n] w fun e a=>e=.returned (.float .f64 n.toNat)/\a=w:=by
 have b:=bY
 go_enter Tryz.func157,Tryz.ntmps157
 go_wp2
 go_ret
 exact⟨rfl,rfl⟩
theorem wi (b:Nat) (w:World) (h:U64 b) :
  Calls Tryz.prog 121 #[.float .f64 b] w fun e a=>e=.returned (.int .u64 (szI b))/\a=w:=by
 go_enter Tryz.func121,Tryz.ntmps121
 go_wp2_with (go_at_call 11;refine (gn _ _).mono ?_;rintro e a ⟨rfl,rfl⟩)
 go_ret
 exact⟨bu (dD h),rfl⟩
theorem oS (b:Nat) (w:World) (h:U64 b) :
  Calls Tryz.prog 122 #[.float .f64 b] w fun e a=>e=.returned (.bool (sgB b))/\a=w:=by
 go_enter Tryz.func122,Tryz.ntmps122
 go_wp2_with (go_at_call 11;refine (gn _ _).mono ?_;rintro e a ⟨rfl,rfl⟩)
 go_ret
 refine⟨gk ?_,rfl⟩
 rw [Gx h];cases sgB b<;>rfl
theorem wu (u:Int):decide ((9218868437227405312:Int)<szI u)=ah u:=rfl
theorem DD (b:Nat) (w:World) (h:U64 b) :
  Calls Tryz.prog 202 #[.float .f64 b] w fun e a=>e=.returned (.bool (ah b))/\a=w:=by
 go_enter Tryz.func202,Tryz.ntmps202
 go_wp2_with (go_at_call 121;refine (wi _ _ h).mono ?_;rintro e a ⟨rfl,rfl⟩)
 go_ret
 exact⟨gk (wu b),rfl⟩
theorem aj (b:Int) (w:World) (h:U64 b) :
  Calls Tryz.prog 49 #[.int .u64 b] w fun e a=>e=.returned (.bool (ah b))/\a=w:=by
 have d:=dD h;have c:=wu b
 go_enter Tryz.func49,Tryz.ntmps49
 go_wp2
 go_ret
 exact⟨rfl,rfl⟩
theorem bV (b:Int) (w:World) :
  Calls Tryz.prog 151 #[.int .u64 b] w fun e a=>e=.returned (.bool (sgB b))/\a=w:=by
 go_enter Tryz.func151,Tryz.ntmps151
 go_wp2
 go_ret
 exact⟨rfl,rfl⟩
theorem aI (b:Int) (w:World) (h:U64 b) :
  Calls Tryz.prog 76 #[.int .u64 b] w fun e a=>e=.returned (.int .u64 (szI b))/\a=w:=by
 have c:=dD h
 go_enter Tryz.func76,Tryz.ntmps76
 go_wp2
 go_ret
 exact⟨rfl,rfl⟩
theorem kX (b:Nat) (u:Int) (w:World) (c:Hid (u=b)) (h:U64 u) :
  Calls Tryz.prog 121 #[.float .f64 b] w fun e a=>e=.returned (.int .u64 (szI u))/\a=w:=by
 have e:=c.out;subst e;exact wi b w h
theorem Gy (b:Nat) (u:Int) (w:World) (f:Hid (u=b)) (h:U64 u) :
  Calls Tryz.prog 181 #[.float .f64 b] w fun e c=>e=.returned (.int .i64 (tZ u))/\c=w:=by
 rcases cls_cases u with⟨i,a⟩| ⟨⟨d,g⟩,a⟩| ⟨⟨d,g⟩,a⟩| ⟨i,a⟩| ⟨d,a⟩
 all_goals
  rw [a];clear a
  go_enter Tryz.func181,Tryz.ntmps181
  go_wp2_with (go_at_call 121;refine (kX _ _ _ f h).mono ?_;rintro e c ⟨rfl,rfl⟩)
  go_ret
  exact⟨rfl,rfl⟩
theorem ue (b:Nat) (w:World) (h:U64 b) :
  Calls Tryz.prog 182 #[.float .f64 b] w fun e a=>e=.returned (.bool (sgB b&&!ah b))/\a=w:=by
 cases d:sgB b<;>cases c:ah b
 all_goals
  go_enter Tryz.func182,Tryz.ntmps182
  go_wp2_with (first | (go_at_call 122;refine (oS _ _ h).mono ?_;rintro e a ⟨rfl,rfl⟩) | (go_at_call 202;refine (DD _ _ h).mono ?_;rintro e a ⟨rfl,rfl⟩))
  go_ret
  exact⟨rfl,rfl⟩
theorem ww (a b:Int) (w:World) (h:U64 a) (i:U64 b) :
  Calls Tryz.prog 36 #[.int .u64 a,.int .u64 b] w fun e d=>e=.returned (.bool (eV a b))/\d=w:=by
 by_cases c:a=b
 ·have g:(a==b)=true:=by simpa using c
  clear c;have f:Hid (eV a b=true):=by
   have:a=b:=by simpa using g
   subst this;exact gV a
  rw [f.out]
  go_enter Tryz.func36,Tryz.ntmps36
  go_wp2
  go_ret
  exact⟨rfl,rfl⟩
 ·have g:(a==b)=false:=by simpa using c
  have f:Hid (eV a b=(ah a&&ah b)):=by show eV a b=_;simp [eV,c]
  clear c;rw [f.out];cases k:ah a<;>cases j:ah b
  all_goals
   go_enter Tryz.func36,Tryz.ntmps36
   go_wp2_with fail
   refine (aj _ _ h).mono ?_
   rintro e d ⟨rfl,rfl⟩
   go_wp2_with (go_at_call 49;refine (aj _ _ i).mono ?_;rintro e d ⟨rfl,rfl⟩)
   go_ret
   exact⟨rfl,rfl⟩
theorem Oj (a:Nat) (b:Int) (w:World) (h:U64 a) (d:U64 b) :
  Calls Tryz.prog 17 #[.float .f64 a,.int .u64 b] w fun e c=>e=.returned (.bool (eV a b))/\c=w:=by
 go_enter Tryz.func17,Tryz.ntmps17
 go_wp2_with (first | (go_at_call 11;refine (gn _ _).mono ?_;rintro e c ⟨rfl,rfl⟩) | (go_at_call 36;refine (ww _ _ _ h d).mono ?_;rintro e c ⟨rfl,rfl⟩))
 go_ret
 exact⟨rfl,rfl⟩
theorem Gz {u:Int} (h:ah u=true):ae u=0:=by simp [ae,h]
theorem GA {u:Int} (h:ah u=false) (a:sgB u=true):ae u= -szI u:=by simp [ae,h,a]
theorem rank_pos {u:Int} (h:ah u=false) (a:sgB u=false):ae u=szI u:=by simp [ae,h,a]
theorem sD (b:Nat) (u:Int) (w:World) (c:Hid (u=b)) (h:U64 u) :
  Calls Tryz.prog 122 #[.float .f64 b] w fun e a=>e=.returned (.bool (sgB u))/\a=w:=by
 have e:=c.out;subst e;exact oS b w h
theorem fM (u:Int) (w:World) (h:U64 u) :
  Calls Tryz.prog 94 #[.int .u64 u] w fun e b=>e=.returned (.tuple #[.int .i64 (ae u),.bool (!ah u)])/\b=w:=by
 cases c:ah u
 ·cases a:sgB u
  ·have f:u<9223372036854775808:=by simpa [sgB] using a
   have d:0<=u:=h.1;rw [rank_pos c a,Ac h a];clear a
   go_enter Tryz.func94,Tryz.ntmps94
   go_wp2_with (go_at_call 49;refine (aj _ _ h).mono ?_;rintro e b ⟨rfl,rfl⟩)
   go_ret2
   exact⟨rfl,rfl⟩
  ·have f:9223372036854775808<=u:=by simpa [sgB] using a
   have d:u<18446744073709551616:=h.2;rw [GA c a,Ab h a];clear a
   go_enter Tryz.func94,Tryz.ntmps94
   go_wp2_with (go_at_call 49;refine (aj _ _ h).mono ?_;rintro e b ⟨rfl,rfl⟩)
   go_ret2
   exact⟨rfl,rfl⟩
 ·rw [Gz c]
  go_enter Tryz.func94,Tryz.ntmps94
  go_wp2_with (go_at_call 49;refine (aj _ _ h).mono ?_;rintro e b ⟨rfl,rfl⟩)
  go_ret2
  exact⟨rfl,rfl⟩
theorem Ol {u:Int} (a:0<=u) (h:u<9223372036854775808):(bits .or .u64 u 9223372036854775808).toNat=(9223372036854775808+u).toNat:=by rw [Qb a h]
theorem ug (u:Int) (w:World) :
  Calls Tryz.prog 123 #[.int .u64 u,.bool false] w fun e a=>e=.returned (.float .f64 u.toNat)/\a=w:=by
 go_enter Tryz.func123,Tryz.ntmps123
 go_wp2_with (go_at_call 157;refine (sC _ _).mono ?_;rintro e a ⟨rfl,rfl⟩)
 go_ret
 exact⟨rfl,rfl⟩
theorem uh (u:Int) (w:World) (b:0<=u) (h:u<9223372036854775808) :
  Calls Tryz.prog 123 #[.int .u64 u,.bool true] w fun e a=>e=.returned (.float .f64 (9223372036854775808+u).toNat)/\a=w:=by
 go_enter Tryz.func123,Tryz.ntmps123
 go_wp2_with (go_at_call 157;refine (sC _ _).mono ?_;rintro e a ⟨rfl,rfl⟩)
 go_ret
 exact⟨dP (Ol b h),rfl⟩
end Go.Proofs.YtfdddijdjpijbaaGreat
