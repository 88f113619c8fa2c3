/-  -/
import Derived.Test.YtkooknagalgfpaaGreatRows
import Derived.Test.YtkooknagalgfpaaGreatHaa
import Derived.WalkKit
import Derived.WalkSpells
import Derived.WalkLawsBesides
import Derived.Handy
namespace Go.Proofs.YtkooknagalgfpaaGreat
open Go.RowKit

theorem ck {k:IntKind} {a b:Int} (h:a=b):Ending.returned (.int k a)=.returned (.int k b):=by rw [h]
theorem fU {a b:Bool} (h:a=b):Ending.returned (.bool a)=.returned (.bool b):=by rw [h]
theorem dI {a b:Nat} (h:a=b):Ending.returned (.float .f64 a)=.returned (.float .f64 b):=by rw [h]

theorem sG (b:Nat) (w:World):(callFunc 44 #[.float .f64 b]).run Tryz.prog w=.ok (.value (.int .u64 b)) w:=
 (run_callFunc_extern (e:=Extern.MathFloatBits.float64bits) Tryz.func44 (by kernel_rfl) (by kernel_rfl) (by kernel_rfl) (by kernel_rfl) _ w).trans rfl

theorem bY (n:Int) (w:World):(callFunc 97 #[.int .u64 n]).run Tryz.prog w=.ok (.value (.float .f64 n.toNat)) w:=
 (run_callFunc_extern (e:=Extern.MathFloatBits.float64frombits) Tryz.func97 (by kernel_rfl) (by kernel_rfl) (by kernel_rfl) (by kernel_rfl) _ w).trans rfl

set_option maxHeartbeats 400000 in
theorem wD (b:Nat) (w:World) :
  Calls Tryz.prog 21 #[.float .f64 b] w fun e w'=>e=.returned (.int .u64 b)∧w'=w:=by
 have hb:=sG
 go_enter Tryz.func21,Tryz.ntmps21
 go_wp2
 go_ret
 exact⟨rfl,rfl⟩

set_option maxHeartbeats 400000 in
theorem sH (n:Int) (w:World) :
  Calls Tryz.prog 186 #[.int .u64 n] w fun e w'=>e=.returned (.float .f64 n.toNat)∧w'=w:=by
 have hb:=bY
 go_enter Tryz.func186,Tryz.ntmps186
 go_wp2
 go_ret
 exact⟨rfl,rfl⟩

set_option maxHeartbeats 400000 in
theorem wF (b:Nat) (w:World) (h:U64 b) :
  Calls Tryz.prog 139 #[.float .f64 b] w fun e w'=>e=.returned (.int .u64 (szI b))∧w'=w:=by
 go_enter Tryz.func139,Tryz.ntmps139
 go_wp2_with (go_at_call 21;refine (wD _ _).mono ?_;rintro e w' ⟨rfl,rfl⟩)
 go_ret
 exact⟨ck (fR h),rfl⟩

set_option maxHeartbeats 400000 in
theorem oQ (b:Nat) (w:World) (h:U64 b) :
  Calls Tryz.prog 140 #[.float .f64 b] w fun e w'=>e=.returned (.bool (sgB b))∧w'=w:=by
 go_enter Tryz.func140,Tryz.ntmps140
 go_wp2_with (go_at_call 21;refine (wD _ _).mono ?_;rintro e w' ⟨rfl,rfl⟩)
 go_ret
 refine⟨fU ?_,rfl⟩
 rw [Gs h]
 cases sgB b<;>rfl

theorem wG (u:Int):decide ((9218868437227405312:Int)<szI u)=af u:=rfl

set_option maxHeartbeats 400000 in
theorem sJ (b:Nat) (w:World) (h:U64 b) :
  Calls Tryz.prog 138 #[.float .f64 b] w fun e w'=>e=.returned (.bool (af b))∧w'=w:=by
 go_enter Tryz.func138,Tryz.ntmps138
 go_wp2_with (go_at_call 139;refine (wF _ _ h).mono ?_;rintro e w' ⟨rfl,rfl⟩)
 go_ret
 exact⟨fU (wG b),rfl⟩

set_option maxHeartbeats 400000 in
theorem aj (b:Int) (w:World) (h:U64 b) :
  Calls Tryz.prog 76 #[.int .u64 b] w fun e w'=>e=.returned (.bool (af b))∧w'=w:=by
 have hz:=fR h
 have hn:=wG b
 go_enter Tryz.func76,Tryz.ntmps76
 go_wp2
 go_ret
 exact⟨rfl,rfl⟩

set_option maxHeartbeats 400000 in
theorem cH (b:Int) (w:World) :
  Calls Tryz.prog 86 #[.int .u64 b] w fun e w'=>e=.returned (.bool (sgB b))∧w'=w:=by
 go_enter Tryz.func86,Tryz.ntmps86
 go_wp2
 go_ret
 exact⟨rfl,rfl⟩

set_option maxHeartbeats 400000 in
theorem ax (b:Int) (w:World) (h:U64 b) :
  Calls Tryz.prog 78 #[.int .u64 b] w fun e w'=>e=.returned (.int .u64 (szI b))∧w'=w:=by
 have hz:=fR h
 go_enter Tryz.func78,Tryz.ntmps78
 go_wp2
 go_ret
 exact⟨rfl,rfl⟩

end Go.Proofs.YtkooknagalgfpaaGreat
namespace Go.Proofs.YtkooknagalgfpaaGreat
open Go.RowKit

theorem gD (b:Nat) (u:Int) (w:World) (hu:Hid (u=b)) (h:U64 u) :
  Calls Tryz.prog 139 #[.float .f64 b] w fun e w'=>e=.returned (.int .u64 (szI u))∧w'=w:=by
 have e:=hu.out;subst e;exact wF b w h

set_option maxHeartbeats 400000 in
theorem Gv (b:Nat) (u:Int) (w:World) (hu:Hid (u=b)) (h:U64 u) :
  Calls Tryz.prog 154 #[.float .f64 b] w fun e w'=>e=.returned (.int .i64 (uh u))∧w'=w:=by
 rcases cls_cases u with⟨hz,hc⟩| ⟨⟨h1,h2⟩,hc⟩| ⟨⟨h1,h2⟩,hc⟩| ⟨hz,hc⟩| ⟨h1,hc⟩
 all_goals
  rw [hc];clear hc
  go_enter Tryz.func154,Tryz.ntmps154
  go_wp2_with (go_at_call 139;refine (gD _ _ _ hu h).mono ?_;rintro e w' ⟨rfl,rfl⟩)
  go_ret
  exact⟨rfl,rfl⟩
set_option maxHeartbeats 400000 in
theorem ul (b:Nat) (w:World) (h:U64 b) :
  Calls Tryz.prog 155 #[.float .f64 b] w fun e w'=>e=.returned (.bool (sgB b&&!af b))∧w'=w:=by
 cases h1:sgB b<;>cases h2:af b
 all_goals
  go_enter Tryz.func155,Tryz.ntmps155
  go_wp2_with (first | (go_at_call 140;refine (oQ _ _ h).mono ?_;rintro e w' ⟨rfl,rfl⟩) | (go_at_call 138;refine (sJ _ _ h).mono ?_;rintro e w' ⟨rfl,rfl⟩))
  go_ret
  exact⟨rfl,rfl⟩


theorem wH {u:Int} (h:af u=true):aa u=0:=by simp [aa,h]
theorem wI {u:Int} (h:af u=false) (h':sgB u=true):aa u= -szI u:=by simp [aa,h,h']
theorem rank_pos {u:Int} (h:af u=false) (h':sgB u=false):aa u=szI u:=by simp [aa,h,h']

theorem oR (b:Nat) (u:Int) (w:World) (hu:Hid (u=b)) (h:U64 u) :
  Calls Tryz.prog 138 #[.float .f64 b] w fun e w'=>e=.returned (.bool (af u))∧w'=w:=by
 have e:=hu.out;subst e;exact sJ b w h

theorem jf (b:Nat) (u:Int) (w:World) (hu:Hid (u=b)) (h:U64 u) :
  Calls Tryz.prog 140 #[.float .f64 b] w fun e w'=>e=.returned (.bool (sgB u))∧w'=w:=by
 have e:=hu.out;subst e;exact oQ b w h

set_option maxHeartbeats 400000 in
theorem kC (b:Nat) (u:Int) (w:World) (hu:Hid (u=b)) (h:U64 u) :
  Calls Tryz.prog 88 #[.float .f64 b] w fun e w'=>e=.returned (.tuple #[.int .i64 (aa u),.bool (!af u)])∧w'=w:=by
 have hlo:=jR u
 have hhi:=Gr u
 cases h1:af u
 ·cases h2:sgB u
  ·rw [rank_pos h1 h2]
   go_enter Tryz.func88,Tryz.ntmps88
   go_wp2_with (first | (go_at_call 138;refine (oR _ _ _ hu h).mono ?_;rintro e w' ⟨rfl,rfl⟩) | (go_at_call 139;refine (gD _ _ _ hu h).mono ?_;rintro e w' ⟨rfl,rfl⟩) | (go_at_call 140;refine (jf _ _ _ hu h).mono ?_;rintro e w' ⟨rfl,rfl⟩))
   go_ret2
   exact⟨rfl,rfl⟩
  ·rw [wI h1 h2]
   go_enter Tryz.func88,Tryz.ntmps88
   go_wp2_with (first | (go_at_call 138;refine (oR _ _ _ hu h).mono ?_;rintro e w' ⟨rfl,rfl⟩) | (go_at_call 139;refine (gD _ _ _ hu h).mono ?_;rintro e w' ⟨rfl,rfl⟩) | (go_at_call 140;refine (jf _ _ _ hu h).mono ?_;rintro e w' ⟨rfl,rfl⟩))
   go_ret2
   exact⟨rfl,rfl⟩
 ·rw [wH h1]
  go_enter Tryz.func88,Tryz.ntmps88
  go_wp2_with (go_at_call 138;refine (oR _ _ _ hu h).mono ?_;rintro e w' ⟨rfl,rfl⟩)
  go_ret2
  exact⟨rfl,rfl⟩
set_option maxHeartbeats 400000 in
theorem nh (u:Int) (w:World) (h:U64 u) :
  Calls Tryz.prog 112 #[.int .u64 u] w fun e w'=>e=.returned (.tuple #[.int .i64 (aa u),.bool (!af u)])∧w'=w:=by
 cases h1:af u
 ·cases h2:sgB u
  ·have h3:u<9223372036854775808:=by simpa [sgB] using h2
   have h4:0≤u:=h.1
   rw [rank_pos h1 h2,zZ h h2]
   clear h2
   go_enter Tryz.func112,Tryz.ntmps112
   go_wp2_with (go_at_call 76;refine (aj _ _ h).mono ?_;rintro e w' ⟨rfl,rfl⟩)
   go_ret2
   exact⟨rfl,rfl⟩
  ·have h3:9223372036854775808≤u:=by simpa [sgB] using h2
   have h4:u<18446744073709551616:=h.2
   rw [wI h1 h2,zY h h2]
   clear h2
   go_enter Tryz.func112,Tryz.ntmps112
   go_wp2_with (go_at_call 76;refine (aj _ _ h).mono ?_;rintro e w' ⟨rfl,rfl⟩)
   go_ret2
   exact⟨rfl,rfl⟩
 ·rw [wH h1]
  go_enter Tryz.func112,Tryz.ntmps112
  go_wp2_with (go_at_call 76;refine (aj _ _ h).mono ?_;rintro e w' ⟨rfl,rfl⟩)
  go_ret2
  exact⟨rfl,rfl⟩

end Go.Proofs.YtkooknagalgfpaaGreat
namespace Go.Proofs.YtkooknagalgfpaaGreat
open Go.RowKit

theorem Om {u:Int} (h0:0≤u) (h:u<9223372036854775808):(bits .or .u64 u 9223372036854775808).toNat=(9223372036854775808+u).toNat:=by rw [PY h0 h]

set_option maxHeartbeats 400000 in
theorem kD (u:Int) (w:World) :
  Calls Tryz.prog 141 #[.int .u64 u,.bool false] w fun e w'=>e=.returned (.float .f64 u.toNat)∧w'=w:=by
 go_enter Tryz.func141,Tryz.ntmps141
 go_wp2_with (go_at_call 186;refine (sH _ _).mono ?_;rintro e w' ⟨rfl,rfl⟩)
 go_ret
 exact⟨rfl,rfl⟩

set_option maxHeartbeats 400000 in
theorem kE (u:Int) (w:World) (h0:0≤u) (h:u<9223372036854775808) :
  Calls Tryz.prog 141 #[.int .u64 u,.bool true] w fun e w'=>e=.returned (.float .f64 (9223372036854775808+u).toNat)∧w'=w:=by
 go_enter Tryz.func141,Tryz.ntmps141
 go_wp2_with (go_at_call 186;refine (sH _ _).mono ?_;rintro e w' ⟨rfl,rfl⟩)
 go_ret
 exact⟨dI (Om h0 h),rfl⟩

theorem On {n:Int} (h:atOk n=false):atI n=0:=by simp [atI,h]
theorem nV {n:Int} (h:atOk n=true) (h':n<0):atI n=9223372036854775808 - n:=by simp [atI,h,h']
theorem nW {n:Int} (h:atOk n=true) (h':0≤n):atI n=n:=by simp [atI,h,Int.not_lt.2 h']
theorem fW (n:Int):atOk n=true↔-9218868437227405312≤n∧n≤9218868437227405312:=by simp [atOk]
theorem Gw {n:Int} (h:atOk n=false):n< -9218868437227405312∨9218868437227405312<n:=by
 simp only [atOk,decide_eq_false_iff_not] at h;omega
theorem Oo {a b:Nat} {c:Bool} (h:a=b):Ending.returned (.tuple #[.float .f64 a,.bool c])=.returned (.tuple #[.float .f64 b,.bool c]):=by rw [h]
set_option maxHeartbeats 400000 in
theorem Ac (n:Int) (w:World) :
  Calls Tryz.prog 89 #[.int .i64 n] w fun e w'=>e=.returned (.tuple #[.float .f64 (atI n).toNat,.bool (atOk n)])∧w'=w:=by
 cases h:atOk n
 ·rw [On h]
  have h1:n< -9218868437227405312∨9218868437227405312<n:=by
   exact Gw h
  clear h
  rcases h1 with h1 | h1
  all_goals
   go_enter Tryz.func89,Tryz.ntmps89
   go_wp2_with fail
   go_ret2
   exact⟨rfl,rfl⟩
 ·obtain⟨h1,h2⟩:=(fW n).1 h
  by_cases h3:n<0
  ·rw [nV h h3]
   clear h
   go_enter Tryz.func89,Tryz.ntmps89
   go_wp2_with (go_at_call 141;refine (kE _ _ (by omega) (by omega)).mono ?_;rintro e w' ⟨rfl,rfl⟩)
   go_ret2
   exact⟨Oo (by omega),rfl⟩
  ·have h4:0≤n:=by omega
   rw [nW h h4]
   clear h h3
   go_enter Tryz.func89,Tryz.ntmps89
   go_wp2_with (go_at_call 141;refine (kD _ _).mono ?_;rintro e w' ⟨rfl,rfl⟩)
   go_ret2
   exact⟨rfl,rfl⟩

def wJ (a b:Int):Int:=wrap64 (a / 2+b / 2+bits .and .i64 (bits .and .i64 a b) 1)
def upI (u d:Int):Int:=if af u then u else if atOk (wrap64 (aa u+d)) then atI (wrap64 (aa u+d)) else u

theorem kF (u:Int): -9218868437227405312≤aa u:=by
 unfold aa af;have:=jR u
 split
 ·omega
 ·rename_i h;simp only [decide_eq_true_eq] at h;split<;>omega
theorem jg (u:Int):aa u≤9218868437227405312:=by
 unfold aa af;have:=jR u
 split
 ·omega
 ·rename_i h;simp only [decide_eq_true_eq] at h;split<;>omega

set_option maxHeartbeats 400000 in
theorem oS (a b:Nat) (u v:Int) (w:World) (hu:Hid (u=a)) (hv:Hid (v=b)) (h:U64 u) (h':U64 v) :
  Calls Tryz.prog 188 #[.float .f64 a,.float .f64 b] w fun e w'=>e=.returned (.tuple #[.int .i64 (aa u),.int .i64 (aa v),.bool (!af u&&!af v)])∧w'=w:=by
 cases h1:af u<;>cases h2:af v
 all_goals
  go_enter Tryz.func188,Tryz.ntmps188
  go_wp2_with fail
  refine (kC _ _ _ hu h).mono ?_
  rintro e w' ⟨rfl,rfl⟩
  go_wp2_with (go_at_call 88;refine (kC _ _ _ hv h').mono ?_;rintro e w' ⟨rfl,rfl⟩)
  go_ret3
  exact⟨rfl,rfl⟩

set_option maxHeartbeats 400000 in
theorem DD (a:Nat) (u d:Int) (w:World) (hu:Hid (u=a)) (h:U64 u) :
  Calls Tryz.prog 43 #[.float .f64 a,.int .i64 d] w fun e w'=>e=.returned (.float .f64 (upI u d).toNat)∧w'=w:=by
 cases h1:af u
 ·cases h2:atOk (wrap64 (aa u+d))
  ·have e:Hid ((upI u d).toNat=a):=by show _=_;have:=hu.out;simp [upI,h1,h2];omega
   rw [e.out]
   go_enter Tryz.func43,Tryz.ntmps43
   go_wp2_with (first | (go_at_call 88;refine (kC _ _ _ hu h).mono ?_;rintro e w' ⟨rfl,rfl⟩) | (go_at_call 89;refine (Ac _ _).mono ?_;rintro e w' ⟨rfl,rfl⟩))
   go_ret
   exact⟨rfl,rfl⟩
  ·have e:Hid (upI u d=atI (wrap64 (aa u+d))):=by show _=_;simp [upI,h1,h2]
   rw [e.out]
   go_enter Tryz.func43,Tryz.ntmps43
   go_wp2_with (first | (go_at_call 88;refine (kC _ _ _ hu h).mono ?_;rintro e w' ⟨rfl,rfl⟩) | (go_at_call 89;refine (Ac _ _).mono ?_;rintro e w' ⟨rfl,rfl⟩))
   go_ret
   exact⟨rfl,rfl⟩
 ·have e:Hid ((upI u d).toNat=a):=by show _=_;have:=hu.out;simp [upI,h1];omega
  rw [e.out]
  go_enter Tryz.func43,Tryz.ntmps43
  go_wp2_with (go_at_call 88;refine (kC _ _ _ hu h).mono ?_;rintro e w' ⟨rfl,rfl⟩)
  go_ret
  exact⟨rfl,rfl⟩

end Go.Proofs.YtkooknagalgfpaaGreat
namespace Go.Proofs.YtkooknagalgfpaaGreat
open Go.RowKit

set_option maxHeartbeats 400000 in
theorem PZ (a:Nat) (u:Int) (w:World) (hu:Hid (u=a)) (h:U64 u) :
  Calls Tryz.prog 20 #[.float .f64 a] w fun e w'=>e=.returned (.float .f64 (upI u 1).toNat)∧w'=w:=by
 go_enter Tryz.func20,Tryz.ntmps20
 go_wp2_with (go_at_call 43;refine (DD _ _ _ _ hu h).mono ?_;rintro e w' ⟨rfl,rfl⟩)
 go_ret
 exact⟨rfl,rfl⟩

def iz (u v:Int):Bool:=!af u&&!af v&&atOk (wJ (aa u) (aa v))
def jE (u v:Int):Int:=if !af u&&!af v then atI (wJ (aa u) (aa v)) else 0

set_option maxHeartbeats 400000 in
theorem Oq (a b:Nat) (u v:Int) (w:World) (hu:Hid (u=a)) (hv:Hid (v=b)) (h:U64 u) (h':U64 v) :
  Calls Tryz.prog 143 #[.float .f64 a,.float .f64 b] w fun e w'=>e=.returned (.tuple #[.float .f64 (jE u v).toNat,.bool (iz u v)])∧w'=w:=by
 have hl:=kF u
 have hh:=jg u
 have hl':=kF v
 have hh':=jg v
 cases h1:af u
 ·cases h2:af v
  ·have e1:Hid (jE u v=atI (wJ (aa u) (aa v))):=by show _=_;simp [jE,h1,h2]
   have e2:Hid (iz u v=atOk (wJ (aa u) (aa v))):=by show _=_;simp [iz,h1,h2]
   rw [e1.out,e2.out]
   go_enter Tryz.func143,Tryz.ntmps143
   go_wp2_with (first | (go_at_call 188;refine (oS _ _ _ _ _ hu hv h h').mono ?_;rintro e w' ⟨rfl,rfl⟩) | (go_at_call 89;refine (Ac _ _).mono ?_;rintro e w' ⟨rfl,rfl⟩))
   go_ret2
   exact⟨rfl,rfl⟩
  ·have e1:Hid (jE u v=0):=by show _=_;simp [jE,h2]
   have e2:Hid (iz u v=false):=by show _=_;simp [iz,h2]
   rw [e1.out,e2.out]
   go_enter Tryz.func143,Tryz.ntmps143
   go_wp2_with (go_at_call 188;refine (oS _ _ _ _ _ hu hv h h').mono ?_;rintro e w' ⟨rfl,rfl⟩)
   go_ret2
   exact⟨rfl,rfl⟩
 ·have e1:Hid (jE u v=0):=by show _=_;simp [jE,h1]
  have e2:Hid (iz u v=false):=by show _=_;simp [iz,h1]
  rw [e1.out,e2.out]
  go_enter Tryz.func143,Tryz.ntmps143
  go_wp2_with (go_at_call 188;refine (oS _ _ _ _ _ hu hv h h').mono ?_;rintro e w' ⟨rfl,rfl⟩)
  go_ret2
  exact⟨rfl,rfl⟩

end Go.Proofs.YtkooknagalgfpaaGreat
namespace Go.Proofs.YtkooknagalgfpaaGreat
open Go.RowKit

theorem Jp (n:Int):bits .and .i64 n 1=n % 2:=by
 have h1:(BitVec.ofInt 64 1).toNat=2^1 - 1:=by decide
 have key:(BitVec.ofInt 64 n&&& BitVec.ofInt 64 1).toNat=(n % ((2^64:Nat):Int)).toNat % 2^1:=by
  rw [BitVec.toNat_and,BitVec.toNat_ofInt,h1,Nat.and_two_pow_sub_one_eq_mod]
 show IntKind.i64.wrap ((BitVec.ofInt 64 n&&& BitVec.ofInt 64 1).toNat:Nat)=n % 2
 rw [key,IntKind.wrap_i64]
 omega

theorem Jq (x y:Nat):(x&&& y) % 2=(x % 2)*(y % 2):=by
 have h:=Nat.and_mod_two_pow (a:=x) (b:=y) (n:=1)
 rw [show (2:Nat)^1=2 from rfl] at h
 rw [h]
 have hx:x % 2=0∨x % 2=1:=by omega
 have hy:y % 2=0∨y % 2=1:=by omega
 rcases hx with hx | hx<;>rcases hy with hy | hy<;>rw [hx,hy]<;>rfl

theorem EW (z:Nat):IntKind.i64.wrap (z:Int) % 2=((z % 2:Nat):Int):=by rw [IntKind.wrap_i64];omega
theorem qG (a:Int):(((BitVec.ofInt 64 a).toNat % 2:Nat):Int)=a % 2:=by rw [BitVec.toNat_ofInt];omega
theorem vt (a b:Int):(bits .and .i64 a b) % 2=(a % 2)*(b % 2):=by
 show (IntKind.i64.wrap ((BitVec.ofInt 64 a&&& BitVec.ofInt 64 b).toNat:Nat)) % 2=_
 rw [EW,BitVec.toNat_and,Jq,Int.natCast_mul,qG,qG]

theorem MS {a b:Int} (ha: -9218868437227405312≤a) (ha':a≤9218868437227405312) (hb: -9218868437227405312≤b) (hb':b≤9218868437227405312):wJ a b=(a+b) / 2:=by
 unfold wJ
 rw [Jp,vt]
 have hx:a % 2=0∨a % 2=1:=by omega
 have hy:b % 2=0∨b % 2=1:=by omega
 have e:a / 2+b / 2+a % 2*(b % 2)=(a+b) / 2:=by
  rcases hx with hx | hx<;>rcases hy with hy | hy<;>rw [hx,hy]<;>omega
 rw [e]
 unfold wrap64
 omega

theorem Bh {n:Int} (h:atOk n=true):af (atI n)=false:=by
 obtain⟨h1,h2⟩:=(fW n).1 h
 unfold af szI
 rw [decide_eq_false_iff_not]
 by_cases h3:n<0
 ·rw [nV h h3];omega
 ·rw [nW h (by omega)];omega
theorem Qy {n:Int} (h:atOk n=true):sgB (atI n)=decide (n<0):=by
 obtain⟨h1,h2⟩:=(fW n).1 h
 unfold sgB
 apply decide_eq_decide.2
 by_cases h3:n<0
 ·rw [nV h h3];omega
 ·rw [nW h (by omega)];omega
theorem CW {n:Int} (h:atOk n=true):aa (atI n)=n:=by
 obtain⟨h1,h2⟩:=(fW n).1 h
 unfold aa
 rw [Bh h,Qy h]
 by_cases h3:n<0
 ·simp only [h3,decide_true,if_true,Bool.false_eq_true,if_false];rw [nV h h3];unfold szI;omega
 ·simp only [h3,decide_false,Bool.false_eq_true,if_false];rw [nW h (by omega)];unfold szI;omega

theorem tG {u v:Int} (h:af u=false) (h':af v=false) :
  iz u v=true∧af (jE u v)=false∧aa (jE u v)=(aa u+aa v) / 2∧U64 (jE u v):=by
 have b1:=kF u
 have b2:=jg u
 have b3:=kF v
 have b4:=jg v
 have hm:=MS b1 b2 b3 b4
 have ho:atOk (wJ (aa u) (aa v))=true:=by rw [hm,fW];omega
 have e1:iz u v=true:=by simp [iz,h,h',ho]
 have e2:jE u v=atI (wJ (aa u) (aa v)):=by simp [jE,h,h']
 rw [e1,e2,Bh ho,CW ho,hm]
 exact⟨rfl,rfl,rfl,Cl _⟩
end Go.Proofs.YtkooknagalgfpaaGreat
namespace Go.Proofs.YtkooknagalgfpaaGreat
open Go.RowKit

structure Gd (a:Nat) (r:Int):Prop where
 u:U64 (a:Int)
 n:af (a:Int)=false
 e:aa (a:Int)=r
theorem Gd.lo {a:Nat} {r:Int} (h:Gd a r): -9218868437227405312≤r:=by rw [← h.e];exact kF _
theorem Gd.hi {a:Nat} {r:Int} (h:Gd a r):r≤9218868437227405312:=by rw [← h.e];exact jg _
def mdN (a b:Nat):Nat:=(jE a b).toNat
theorem Oh {a b:Nat} {r s:Int} (h:Gd a r) (h':Gd b s):Gd (mdN a b) ((r+s) / 2):=by
 obtain⟨_,e2,e3,e4⟩:=tG h.n h'.n
 have e:((jE a b).toNat:Int)=jE a b:=Int.toNat_of_nonneg e4.1
 refine⟨?_,?_,?_⟩
 ·unfold mdN;rw [e];exact e4
 ·unfold mdN;rw [e];exact e2
 ·unfold mdN;rw [e,e3,h.e,h'.e]
theorem No {a b:Nat} {r s:Int} (h:Gd a r) (h':Gd b s):((mdN a b:Nat):Int)=jE a b∧iz a b=true:=by
 obtain⟨e1,_,_,e4⟩:=tG h.n h'.n
 exact⟨Int.toNat_of_nonneg e4.1,e1⟩

def rkO (v:Nat):Option Int:=if af (v:Int)=true then none else some (aa (v:Int))
theorem lL {v:Nat} {r:Int} (h:rkO v=some r):af (v:Int)=false∧aa (v:Int)=r:=by
 unfold rkO at h
 cases hn:af (v:Int) with
 | true=>rw [hn] at h;simp at h
 | false=>rw [hn] at h;simp at h;exact⟨rfl,h⟩
theorem oD {v:Nat} (h:af (v:Int)=true):rkO v=none:=by unfold rkO;rw [if_pos h]
theorem lM {v:Nat} (h:af (v:Int)=false):rkO v=some (aa (v:Int)):=by unfold rkO;rw [if_neg (by rw [h];simp)]
def upB (r:Int):Bool:=decide (0<r)

def bis (F:Nat→Option Int) (up:Bool):Nat→Nat→Nat→Nat×Nat×Int
 | 0,lo,_=>(lo,0,0)
 | f+1,lo,hi=>if aa (mdN lo hi:Int)=aa (lo:Int) then (lo,0,0) else
  match F (mdN lo hi) with
  | none=>(0,1,91)
  | some v=>if v=0 then (mdN lo hi,1,0) else
   if upB v=up then ((bis F up f (mdN lo hi) hi).1,(bis F up f (mdN lo hi) hi).2.1+1,(bis F up f (mdN lo hi) hi).2.2)
   else ((bis F up f lo (mdN lo hi)).1,(bis F up f lo (mdN lo hi)).2.1+1,(bis F up f lo (mdN lo hi)).2.2)

theorem rg {F:Nat→Option Int} {up:Bool} {f a b:Nat} (h:aa (mdN a b:Int)=aa (a:Int)):bis F up f a b=(a,0,0):=by
 cases f with
 | zero=>rfl
 | succ f=>show (if _ then _ else _)=_;rw [if_pos h]
theorem vJ {F:Nat→Option Int} {up:Bool} {f a b:Nat} (h:¬ aa (mdN a b:Int)=aa (a:Int)) (hF:F (mdN a b)=none):bis F up (f+1) a b=(0,1,91):=by
 show (if _ then _ else _)=_;rw [if_neg h,hF]
theorem rh {F:Nat→Option Int} {up:Bool} {f a b:Nat} (h:¬ aa (mdN a b:Int)=aa (a:Int)) (hF:F (mdN a b)=some 0):bis F up (f+1) a b=(mdN a b,1,0):=by
 show (if _ then _ else _)=_;rw [if_neg h,hF];rfl
theorem vK {F:Nat→Option Int} {up:Bool} {f a b:Nat} {v:Int} (h:¬ aa (mdN a b:Int)=aa (a:Int)) (hF:F (mdN a b)=some v) (h0:v≠0) (hu:upB v=up):bis F up (f+1) a b=((bis F up f (mdN a b) b).1,(bis F up f (mdN a b) b).2.1+1,(bis F up f (mdN a b) b).2.2):=by
 show (if _ then _ else _)=_;rw [if_neg h,hF];show (if _ then _ else _)=_;rw [if_neg h0,if_pos hu]
theorem rj {F:Nat→Option Int} {up:Bool} {f a b:Nat} {v:Int} (h:¬ aa (mdN a b:Int)=aa (a:Int)) (hF:F (mdN a b)=some v) (h0:v≠0) (hu:¬ upB v=up):bis F up (f+1) a b=((bis F up f a (mdN a b)).1,(bis F up f a (mdN a b)).2.1+1,(bis F up f a (mdN a b)).2.2):=by
 show (if _ then _ else _)=_;rw [if_neg h,hF];show (if _ then _ else _)=_;rw [if_neg h0,if_neg hu]

theorem lN {f:Nat} {r s:Int} (h:s - r≤(2:Int)^(f+1)):s - (r+s) / 2≤(2:Int)^f∧(r+s) / 2 - r≤(2:Int)^f:=by
 rw [Int.pow_succ] at h
 generalize (2:Int)^f=p at *
 omega

structure BisS (F:Nat→Option Int) (up:Bool) (R S:Int) (X N:Nat) (E:Int) (f a b k:Nat) (r s:Int):Prop where
 ga:Gd a r
 gb:Gd b s
 lt:r<s
 gap:s - r≤(2:Int)^f
 lo:R≤r
 hi:s≤S
 few:k+f≤64
 tells:bis F up f a b=(X,N - k,E)
 cnt:k≤N

theorem BisS.md {F:Nat→Option Int} {up:Bool} {R S:Int} {X N:Nat} {E:Int} {f a b k:Nat} {r s:Int} (h:BisS F up R S X N E f a b k r s):Gd (mdN a b) ((r+s) / 2):=Oh h.ga h.gb
theorem BisS.stop {F:Nat→Option Int} {up:Bool} {R S:Int} {X N:Nat} {E:Int} {f a b k:Nat} {r s:Int} (h:BisS F up R S X N E f a b k r s) (hm:(r+s) / 2=r):X=a∧N=k∧E=0:=by
 have e:=h.tells
 have hc:=h.cnt
 rw [rg (by rw [h.md.e,h.ga.e,hm])] at e
 injection e with e1 e2
 injection e2 with e2 e3
 exact⟨e1.symm,by omega,e3.symm⟩
theorem BisS.fuel {F:Nat→Option Int} {up:Bool} {R S:Int} {X N:Nat} {E:Int} {f a b k:Nat} {r s:Int} (h:BisS F up R S X N E f a b k r s) (hm:¬ (r+s) / 2=r):∃ g,f=g+1:=by
 cases f with
 | zero=>exfalso;have:=h.gap;have:=h.lt;rw [Int.pow_zero] at *;omega
 | succ g=>exact⟨g,rfl⟩
theorem BisS.nan {F:Nat→Option Int} {up:Bool} {R S:Int} {X N:Nat} {E:Int} {f a b k:Nat} {r s:Int} (h:BisS F up R S X N E f a b k r s) (hm:¬ (r+s) / 2=r) (hF:F (mdN a b)=none):X=0∧N=k+1∧E=91:=by
 obtain⟨g,rfl⟩:=h.fuel hm
 have e:=h.tells
 have hc:=h.cnt
 rw [vJ (by rw [h.md.e,h.ga.e];exact hm) hF] at e
 injection e with e1 e2
 injection e2 with e2 e3
 exact⟨e1.symm,by omega,e3.symm⟩
theorem BisS.zero {F:Nat→Option Int} {up:Bool} {R S:Int} {X N:Nat} {E:Int} {f a b k:Nat} {r s:Int} (h:BisS F up R S X N E f a b k r s) (hm:¬ (r+s) / 2=r) (hF:F (mdN a b)=some 0):X=mdN a b∧N=k+1∧E=0:=by
 obtain⟨g,rfl⟩:=h.fuel hm
 have e:=h.tells
 have hc:=h.cnt
 rw [rh (by rw [h.md.e,h.ga.e];exact hm) hF] at e
 injection e with e1 e2
 injection e2 with e2 e3
 exact⟨e1.symm,by omega,e3.symm⟩
theorem BisS.low {F:Nat→Option Int} {up:Bool} {R S:Int} {X N:Nat} {E:Int} {f a b k:Nat} {r s v:Int} (h:BisS F up R S X N E f a b k r s) (hm:¬ (r+s) / 2=r) (hF:F (mdN a b)=some v) (h0:v≠0) (hu:upB v=up):∃ g,f=g+1∧BisS F up R S X N E g (mdN a b) b (k+1) ((r+s) / 2) s:=by
 obtain⟨g,rfl⟩:=h.fuel hm
 have e:=h.tells
 have hc:=h.cnt
 have hlt:=h.lt
 have hR:=h.lo
 have hf:=h.few
 rw [vK (by rw [h.md.e,h.ga.e];exact hm) hF h0 hu] at e
 injection e with e1 e2
 injection e2 with e2 e3
 refine⟨g,rfl,⟨h.md,h.gb,by omega,(lN h.gap).1,by omega,h.hi,by omega,?_,by omega⟩⟩
 refine Prod.ext e1 (Prod.ext ?_ e3)
 show (bis F up g (mdN a b) b).2.1=N - (k+1)
 omega
theorem BisS.high {F:Nat→Option Int} {up:Bool} {R S:Int} {X N:Nat} {E:Int} {f a b k:Nat} {r s v:Int} (h:BisS F up R S X N E f a b k r s) (hm:¬ (r+s) / 2=r) (hF:F (mdN a b)=some v) (h0:v≠0) (hu:¬ upB v=up):∃ g,f=g+1∧BisS F up R S X N E g a (mdN a b) (k+1) r ((r+s) / 2):=by
 obtain⟨g,rfl⟩:=h.fuel hm
 have e:=h.tells
 have hc:=h.cnt
 have hlt:=h.lt
 have hS:=h.hi
 have hf:=h.few
 rw [rj (by rw [h.md.e,h.ga.e];exact hm) hF h0 hu] at e
 injection e with e1 e2
 injection e2 with e2 e3
 refine⟨g,rfl,⟨h.ga,h.md,by omega,(lN h.gap).2,h.lo,by omega,by omega,?_,by omega⟩⟩
 refine Prod.ext e1 (Prod.ext ?_ e3)
 show (bis F up g a (mdN a b)).2.1=N - (k+1)
 omega
theorem BM (F:Nat→Option Int) (up:Bool) {a b:Nat} {r s:Int} (ga:Gd a r) (gb:Gd b s) (lt:r<s):BisS F up r s (bis F up 64 a b).1 (bis F up 64 a b).2.1 (bis F up 64 a b).2.2 64 a b 0 r s:=
 ⟨ga,gb,lt,by have:=ga.lo;have:=gb.hi;omega,Int.le_refl _,Int.le_refl _,by omega,rfl,Nat.zero_le _⟩

def BisX (F:Nat→Option Int) (up:Bool) (r s:Int) (X:Nat):Prop:=
 ∃ x,Gd X x∧r≤x∧x≤s∧(F X=some 0∨∃ v c z,F X=some v∧v≠0∧upB v=up∧Gd c (x+1)∧x+1≤s∧F c=some z∧z≠0∧¬ upB z=up)
theorem BisX.wide {F:Nat→Option Int} {up:Bool} {r s r' s':Int} {X:Nat} (h:BisX F up r s X) (hr:r'≤r) (hs:s≤s'):BisX F up r' s' X:=by
 obtain⟨x,g,h1,h2,h3⟩:=h
 refine⟨x,g,by omega,by omega,?_⟩
 rcases h3 with h3 | ⟨v,c,z,p1,p2,p3,p4,p5,p6⟩
 ·exact Or.inl h3
 ·exact Or.inr ⟨v,c,z,p1,p2,p3,p4,by omega,p6⟩
theorem mL (F:Nat→Option Int) (up:Bool):∀ (f a b:Nat) (r s:Int),Gd a r→Gd b s→r<s→s - r≤(2:Int)^f→(∃ v,F a=some v∧v≠0∧upB v=up)→(∃ z,F b=some z∧z≠0∧¬ upB z=up)→
  (bis F up f a b).2.1≤f∧(((bis F up f a b).2.2=91∧(bis F up f a b).1=0∧∃ c,F c=none)∨((bis F up f a b).2.2=0∧BisX F up r s (bis F up f a b).1)):=by
 intro f
 induction f with
 | zero=>
  intro a b r s ga gb lt gap ⟨v,fa,v0,vu⟩ ⟨z,fb,z0,zu⟩
  rw [Int.pow_zero] at gap
  obtain rfl:s=r+1:=by omega
  exact⟨Nat.le_refl _,Or.inr ⟨rfl,r,ga,by omega,by omega,Or.inr ⟨v,b,z,fa,v0,vu,gb,by omega,fb,z0,zu⟩⟩⟩
 | succ f ih=>
  intro a b r s ga gb lt gap ⟨v,fa,v0,vu⟩ ⟨z,fb,z0,zu⟩
  have gm:=Oh ga gb
  by_cases hm:(r+s) / 2=r
  ·rw [rg (by rw [gm.e,ga.e,hm])]
   obtain rfl:s=r+1:=by omega
   exact⟨Nat.zero_le _,Or.inr ⟨rfl,r,ga,by omega,by omega,Or.inr ⟨v,b,z,fa,v0,vu,gb,by omega,fb,z0,zu⟩⟩⟩
  ·have hm':¬ aa (mdN a b:Int)=aa (a:Int):=by rw [gm.e,ga.e];exact hm
   cases hF:F (mdN a b) with
   | none=>rw [vJ hm' hF];exact⟨by show 1≤f+1;omega,Or.inl ⟨rfl,rfl,_,hF⟩⟩
   | some y=>
    by_cases y0:y=0
    ·subst y0
     rw [rh hm' hF]
     exact⟨by show 1≤f+1;omega,Or.inr ⟨rfl,_,gm,by omega,by omega,Or.inl hF⟩⟩
    ·by_cases hu:upB y=up
     ·rw [vK hm' hF y0 hu]
      obtain⟨h1,h2⟩:=ih (mdN a b) b _ s gm gb (by omega) (lN gap).1 ⟨y,hF,y0,hu⟩ ⟨z,fb,z0,zu⟩
      refine⟨by show _+1≤f+1;omega,?_⟩
      rcases h2 with h2 | ⟨h2,h3⟩
      ·exact Or.inl h2
      ·exact Or.inr ⟨h2,h3.wide (by omega) (Int.le_refl _)⟩
     ·rw [rj hm' hF y0 hu]
      obtain⟨h1,h2⟩:=ih a (mdN a b) r _ ga gm (by omega) (lN gap).2 ⟨v,fa,v0,vu⟩ ⟨y,hF,y0,hu⟩
      refine⟨by show _+1≤f+1;omega,?_⟩
      rcases h2 with h2 | ⟨h2,h3⟩
      ·exact Or.inl h2
      ·exact Or.inr ⟨h2,h3.wide (Int.le_refl _) (by omega)⟩
end Go.Proofs.YtkooknagalgfpaaGreat
