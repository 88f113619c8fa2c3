/-  -/
import Derived.Test.YtfdddijdjpijbaaGreatRows
import Derived.Test.YtfdddijdjpijbaaGreatHaa
import Derived.WalkKit
import Derived.WalkSpells
import Derived.WalkLawsBesides
import Derived.Handy
set_option maxHeartbeats 400000
namespace Go.Proofs.YtfdddijdjpijbaaGreat
open Go.RowKit
theorem bA {k:IntKind} {a b:Int} (h:a=b):Ending.returned (.int k a)=.returned (.int k b):=by rw [h]
theorem gE {a b:Bool} (h:a=b):Ending.returned (.bool a)=.returned (.bool b):=by rw [h]
theorem dX {a b:Nat} (h:a=b):Ending.returned (.float .f64 a)=.returned (.float .f64 b):=by rw [h]
theorem sU (b:Nat) (w:World):(callFunc 28 #[.float .f64 b]).run Tryz.prog w=.ok (.value (.int .u64 b)) w:=
 (run_callFunc_extern (e:=Extern.MathFloatBits.float64bits) Tryz.func28 (by kernel_rfl) (by kernel_rfl) (by kernel_rfl) (by kernel_rfl) _ w).trans rfl
theorem cg (n:Int) (w:World):(callFunc 118 #[.int .u64 n]).run Tryz.prog w=.ok (.value (.float .f64 n.toNat)) w:=
 (run_callFunc_extern (e:=Extern.MathFloatBits.float64frombits) Tryz.func118 (by kernel_rfl) (by kernel_rfl) (by kernel_rfl) (by kernel_rfl) _ w).trans rfl
theorem fC (b:Nat) (w:World) :
  Calls Tryz.prog 11 #[.float .f64 b] w fun e a=>e=.returned (.int .u64 b)/\a=w:=by
 have c:=sU
 go_enter Tryz.func11,Tryz.ntmps11
 go_wp2
 go_ret
 exact⟨rfl,rfl⟩
theorem sV (n:Int) (w:World) :
  Calls Tryz.prog 157 #[.int .u64 n] w fun e a=>e=.returned (.float .f64 n.toNat)/\a=w:=by
 have b:=cg
 go_enter Tryz.func157,Tryz.ntmps157
 go_wp2
 go_ret
 exact⟨rfl,rfl⟩
theorem wU (b:Nat) (w:World) (h:U64 b) :
  Calls Tryz.prog 121 #[.float .f64 b] w fun e a=>e=.returned (.int .u64 (szI b))/\a=w:=by
 go_enter Tryz.func121,Tryz.ntmps121
 go_wp2_with (go_at_call 11;refine (fC _ _).mono ?_;rintro e a ⟨rfl,rfl⟩)
 go_ret
 exact⟨bA (dK h),rfl⟩
theorem po (b:Nat) (w:World) (h:U64 b) :
  Calls Tryz.prog 122 #[.float .f64 b] w fun e a=>e=.returned (.bool (sgB b))/\a=w:=by
 go_enter Tryz.func122,Tryz.ntmps122
 go_wp2_with (go_at_call 11;refine (fC _ _).mono ?_;rintro e a ⟨rfl,rfl⟩)
 go_ret
 refine⟨gE ?_,rfl⟩
 rw [Hb h];cases sgB b<;>rfl
theorem wV (u:Int):decide ((9218868437227405312:Int)<szI u)=ah u:=rfl
theorem Ej (b:Nat) (w:World) (h:U64 b) :
  Calls Tryz.prog 202 #[.float .f64 b] w fun e a=>e=.returned (.bool (ah b))/\a=w:=by
 go_enter Tryz.func202,Tryz.ntmps202
 go_wp2_with (go_at_call 121;refine (wU _ _ h).mono ?_;rintro e a ⟨rfl,rfl⟩)
 go_ret
 exact⟨gE (wV b),rfl⟩
theorem aj (b:Int) (w:World) (h:U64 b) :
  Calls Tryz.prog 49 #[.int .u64 b] w fun e a=>e=.returned (.bool (ah b))/\a=w:=by
 have c:=dK h;have d:=wV b
 go_enter Tryz.func49,Tryz.ntmps49
 go_wp2
 go_ret
 exact⟨rfl,rfl⟩
theorem bZ (b:Int) (w:World) :
  Calls Tryz.prog 151 #[.int .u64 b] w fun e a=>e=.returned (.bool (sgB b))/\a=w:=by
 go_enter Tryz.func151,Tryz.ntmps151
 go_wp2
 go_ret
 exact⟨rfl,rfl⟩
theorem aH (b:Int) (w:World) (h:U64 b) :
  Calls Tryz.prog 76 #[.int .u64 b] w fun e a=>e=.returned (.int .u64 (szI b))/\a=w:=by
 have c:=dK h
 go_enter Tryz.func76,Tryz.ntmps76
 go_wp2
 go_ret
 exact⟨rfl,rfl⟩
theorem lc (b:Nat) (u:Int) (w:World) (a:Hid (u=b)) (h:U64 u) :
  Calls Tryz.prog 121 #[.float .f64 b] w fun e c=>e=.returned (.int .u64 (szI u))/\c=w:=by
 have e:=a.out;subst e;exact wU b w h
theorem Hc (b:Nat) (u:Int) (w:World) (f:Hid (u=b)) (h:U64 u) :
  Calls Tryz.prog 181 #[.float .f64 b] w fun e c=>e=.returned (.int .i64 (uJ u))/\c=w:=by
 rcases cls_cases u with⟨g,a⟩| ⟨⟨d,i⟩,a⟩| ⟨⟨d,i⟩,a⟩| ⟨g,a⟩| ⟨d,a⟩
 all_goals
  rw [a];clear a
  go_enter Tryz.func181,Tryz.ntmps181
  go_wp2_with (go_at_call 121;refine (lc _ _ _ f h).mono ?_;rintro e c ⟨rfl,rfl⟩)
  go_ret
  exact⟨rfl,rfl⟩
theorem uL (b:Nat) (w:World) (h:U64 b) :
  Calls Tryz.prog 182 #[.float .f64 b] w fun e a=>e=.returned (.bool (sgB b&&!ah b))/\a=w:=by
 cases d:sgB b<;>cases c:ah b
 all_goals
  go_enter Tryz.func182,Tryz.ntmps182
  go_wp2_with (first | (go_at_call 122;refine (po _ _ h).mono ?_;rintro e a ⟨rfl,rfl⟩) | (go_at_call 202;refine (Ej _ _ h).mono ?_;rintro e a ⟨rfl,rfl⟩))
  go_ret
  exact⟨rfl,rfl⟩
theorem wW (a b:Int) (w:World) (h:U64 a) (i:U64 b) :
  Calls Tryz.prog 36 #[.int .u64 a,.int .u64 b] w fun e f=>e=.returned (.bool (fA a b))/\f=w:=by
 by_cases c:a=b
 ·have g:(a==b)=true:=by simpa using c
  clear c;have d:Hid (fA a b=true):=by
   have:a=b:=by simpa using g
   subst this;exact fB a
  rw [d.out]
  go_enter Tryz.func36,Tryz.ntmps36
  go_wp2
  go_ret
  exact⟨rfl,rfl⟩
 ·have g:(a==b)=false:=by simpa using c
  have d:Hid (fA a b=(ah a&&ah b)):=by show fA a b=_;simp [fA,c]
  clear c;rw [d.out];cases k:ah a<;>cases j:ah b
  all_goals
   go_enter Tryz.func36,Tryz.ntmps36
   go_wp2_with fail
   refine (aj _ _ h).mono ?_
   rintro e f ⟨rfl,rfl⟩
   go_wp2_with (go_at_call 49;refine (aj _ _ i).mono ?_;rintro e f ⟨rfl,rfl⟩)
   go_ret
   exact⟨rfl,rfl⟩
theorem He (a:Nat) (b:Int) (w:World) (h:U64 a) (d:U64 b) :
  Calls Tryz.prog 17 #[.float .f64 a,.int .u64 b] w fun e c=>e=.returned (.bool (fA a b))/\c=w:=by
 go_enter Tryz.func17,Tryz.ntmps17
 go_wp2_with (first | (go_at_call 11;refine (fC _ _).mono ?_;rintro e c ⟨rfl,rfl⟩) | (go_at_call 36;refine (wW _ _ _ h d).mono ?_;rintro e c ⟨rfl,rfl⟩))
 go_ret
 exact⟨rfl,rfl⟩
theorem Hf {u:Int} (h:ah u=true):ae u=0:=by simp [ae,h]
theorem Hg {u:Int} (h:ah u=false) (a:sgB u=true):ae u= -szI u:=by simp [ae,h,a]
theorem rank_pos {u:Int} (h:ah u=false) (a:sgB u=false):ae u=szI u:=by simp [ae,h,a]
theorem sW (b:Nat) (u:Int) (w:World) (a:Hid (u=b)) (h:U64 u) :
  Calls Tryz.prog 122 #[.float .f64 b] w fun e c=>e=.returned (.bool (sgB u))/\c=w:=by
 have e:=a.out;subst e;exact po b w h
theorem gc (u:Int) (w:World) (h:U64 u) :
  Calls Tryz.prog 94 #[.int .u64 u] w fun e b=>e=.returned (.tuple #[.int .i64 (ae u),.bool (!ah u)])/\b=w:=by
 cases c:ah u
 ·cases a:sgB u
  ·have f:u<9223372036854775808:=by simpa [sgB] using a
   have d:0<=u:=h.1;rw [rank_pos c a,AD h a];clear a
   go_enter Tryz.func94,Tryz.ntmps94
   go_wp2_with (go_at_call 49;refine (aj _ _ h).mono ?_;rintro e b ⟨rfl,rfl⟩)
   go_ret2
   exact⟨rfl,rfl⟩
  ·have f:9223372036854775808<=u:=by simpa [sgB] using a
   have d:u<18446744073709551616:=h.2;rw [Hg c a,AC h a];clear a
   go_enter Tryz.func94,Tryz.ntmps94
   go_wp2_with (go_at_call 49;refine (aj _ _ h).mono ?_;rintro e b ⟨rfl,rfl⟩)
   go_ret2
   exact⟨rfl,rfl⟩
 ·rw [Hf c]
  go_enter Tryz.func94,Tryz.ntmps94
  go_wp2_with (go_at_call 49;refine (aj _ _ h).mono ?_;rintro e b ⟨rfl,rfl⟩)
  go_ret2
  exact⟨rfl,rfl⟩
theorem OS {u:Int} (a:0<=u) (h:u<9223372036854775808):(bits .or .u64 u 9223372036854775808).toNat=(9223372036854775808+u).toNat:=by rw [Qz a h]
theorem uM (u:Int) (w:World) :
  Calls Tryz.prog 123 #[.int .u64 u,.bool false] w fun e a=>e=.returned (.float .f64 u.toNat)/\a=w:=by
 go_enter Tryz.func123,Tryz.ntmps123
 go_wp2_with (go_at_call 157;refine (sV _ _).mono ?_;rintro e a ⟨rfl,rfl⟩)
 go_ret
 exact⟨rfl,rfl⟩
theorem uN (u:Int) (w:World) (b:0<=u) (h:u<9223372036854775808) :
  Calls Tryz.prog 123 #[.int .u64 u,.bool true] w fun e a=>e=.returned (.float .f64 (9223372036854775808+u).toNat)/\a=w:=by
 go_enter Tryz.func123,Tryz.ntmps123
 go_wp2_with (go_at_call 157;refine (sV _ _).mono ?_;rintro e a ⟨rfl,rfl⟩)
 go_ret
 exact⟨dX (OS b h),rfl⟩
end Go.Proofs.YtfdddijdjpijbaaGreat
