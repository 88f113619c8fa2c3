/-  -/
import Derived.Test.YtkooknagalgfpaaGreatRows
import Derived.Test.YtkooknagalgfpaaGreatHaa
import Derived.WalkKit
import Derived.WalkSpells
import Derived.WalkLawsBesides
import Derived.Handy
namespace Go.Proofs.YtkooknagalgfpaaGreat
open Go.RowKit

theorem ce {k:IntKind} {a b:Int} (h:a=b):Ending.returned (.int k a)=.returned (.int k b):=by rw [h]
theorem fK {a b:Bool} (h:a=b):Ending.returned (.bool a)=.returned (.bool b):=by rw [h]
theorem dA {a b:Nat} (h:a=b):Ending.returned (.float .f64 a)=.returned (.float .f64 b):=by rw [h]

theorem sk (b:Nat) (w:World):(callFunc 44 #[.float .f64 b]).run Tryz.prog w=.ok (.value (.int .u64 b)) w:=
 (run_callFunc_extern (e:=Extern.MathFloatBits.float64bits) Tryz.func44 (by kernel_rfl) (by kernel_rfl) (by kernel_rfl) (by kernel_rfl) _ w).trans rfl

theorem bS (n:Int) (w:World):(callFunc 97 #[.int .u64 n]).run Tryz.prog w=.ok (.value (.float .f64 n.toNat)) w:=
 (run_callFunc_extern (e:=Extern.MathFloatBits.float64frombits) Tryz.func97 (by kernel_rfl) (by kernel_rfl) (by kernel_rfl) (by kernel_rfl) _ w).trans rfl

set_option maxHeartbeats 400000 in
theorem kt (b:Nat) (w:World) :
  Calls Tryz.prog 21 #[.float .f64 b] w fun e w'=>e=.returned (.int .u64 b)∧w'=w:=by
 have hb:=sk
 go_enter Tryz.func21,Tryz.ntmps21
 go_wp2
 go_ret
 exact⟨rfl,rfl⟩

set_option maxHeartbeats 400000 in
theorem sl (n:Int) (w:World) :
  Calls Tryz.prog 186 #[.int .u64 n] w fun e w'=>e=.returned (.float .f64 n.toNat)∧w'=w:=by
 have hb:=bS
 go_enter Tryz.func186,Tryz.ntmps186
 go_wp2
 go_ret
 exact⟨rfl,rfl⟩

set_option maxHeartbeats 400000 in
theorem vU (b:Nat) (w:World) (h:U64 b) :
  Calls Tryz.prog 139 #[.float .f64 b] w fun e w'=>e=.returned (.int .u64 (szI b))∧w'=w:=by
 go_enter Tryz.func139,Tryz.ntmps139
 go_wp2_with (go_at_call 21;refine (kt _ _).mono ?_;rintro e w' ⟨rfl,rfl⟩)
 go_ret
 exact⟨ce (fH h),rfl⟩

set_option maxHeartbeats 400000 in
theorem oC (b:Nat) (w:World) (h:U64 b) :
  Calls Tryz.prog 140 #[.float .f64 b] w fun e w'=>e=.returned (.bool (sgB b))∧w'=w:=by
 go_enter Tryz.func140,Tryz.ntmps140
 go_wp2_with (go_at_call 21;refine (kt _ _).mono ?_;rintro e w' ⟨rfl,rfl⟩)
 go_ret
 refine⟨fK ?_,rfl⟩
 rw [FI h]
 cases sgB b<;>rfl

theorem vV (u:Int):decide ((9218868437227405312:Int)<szI u)=af u:=rfl

set_option maxHeartbeats 400000 in
theorem sn (b:Nat) (w:World) (h:U64 b) :
  Calls Tryz.prog 138 #[.float .f64 b] w fun e w'=>e=.returned (.bool (af b))∧w'=w:=by
 go_enter Tryz.func138,Tryz.ntmps138
 go_wp2_with (go_at_call 139;refine (vU _ _ h).mono ?_;rintro e w' ⟨rfl,rfl⟩)
 go_ret
 exact⟨fK (vV b),rfl⟩

set_option maxHeartbeats 400000 in
theorem aj (b:Int) (w:World) (h:U64 b) :
  Calls Tryz.prog 76 #[.int .u64 b] w fun e w'=>e=.returned (.bool (af b))∧w'=w:=by
 have hz:=fH h
 have hn:=vV b
 go_enter Tryz.func76,Tryz.ntmps76
 go_wp2
 go_ret
 exact⟨rfl,rfl⟩

set_option maxHeartbeats 400000 in
theorem cE (b:Int) (w:World) :
  Calls Tryz.prog 86 #[.int .u64 b] w fun e w'=>e=.returned (.bool (sgB b))∧w'=w:=by
 go_enter Tryz.func86,Tryz.ntmps86
 go_wp2
 go_ret
 exact⟨rfl,rfl⟩

set_option maxHeartbeats 400000 in
theorem aw (b:Int) (w:World) (h:U64 b) :
  Calls Tryz.prog 78 #[.int .u64 b] w fun e w'=>e=.returned (.int .u64 (szI b))∧w'=w:=by
 have hz:=fH h
 go_enter Tryz.func78,Tryz.ntmps78
 go_wp2
 go_ret
 exact⟨rfl,rfl⟩

end Go.Proofs.YtkooknagalgfpaaGreat
namespace Go.Proofs.YtkooknagalgfpaaGreat
open Go.RowKit

theorem gj (b:Nat) (u:Int) (w:World) (hu:Hid (u=b)) (h:U64 u) :
  Calls Tryz.prog 139 #[.float .f64 b] w fun e w'=>e=.returned (.int .u64 (szI u))∧w'=w:=by
 have e:=hu.out;subst e;exact vU b w h

set_option maxHeartbeats 400000 in
theorem FM (b:Nat) (u:Int) (w:World) (hu:Hid (u=b)) (h:U64 u) :
  Calls Tryz.prog 154 #[.float .f64 b] w fun e w'=>e=.returned (.int .i64 (tO u))∧w'=w:=by
 rcases cls_cases u with⟨hz,hc⟩| ⟨⟨h1,h2⟩,hc⟩| ⟨⟨h1,h2⟩,hc⟩| ⟨hz,hc⟩| ⟨h1,hc⟩
 all_goals
  rw [hc];clear hc
  go_enter Tryz.func154,Tryz.ntmps154
  go_wp2_with (go_at_call 139;refine (gj _ _ _ hu h).mono ?_;rintro e w' ⟨rfl,rfl⟩)
  go_ret
  exact⟨rfl,rfl⟩
set_option maxHeartbeats 400000 in
theorem tS (b:Nat) (w:World) (h:U64 b) :
  Calls Tryz.prog 155 #[.float .f64 b] w fun e w'=>e=.returned (.bool (sgB b&&!af b))∧w'=w:=by
 cases h1:sgB b<;>cases h2:af b
 all_goals
  go_enter Tryz.func155,Tryz.ntmps155
  go_wp2_with (first | (go_at_call 140;refine (oC _ _ h).mono ?_;rintro e w' ⟨rfl,rfl⟩) | (go_at_call 138;refine (sn _ _ h).mono ?_;rintro e w' ⟨rfl,rfl⟩))
  go_ret
  exact⟨rfl,rfl⟩


theorem vW {u:Int} (h:af u=true):aa u=0:=by simp [aa,h]
theorem vZ {u:Int} (h:af u=false) (h':sgB u=true):aa u= -szI u:=by simp [aa,h,h']
theorem rank_pos {u:Int} (h:af u=false) (h':sgB u=false):aa u=szI u:=by simp [aa,h,h']

theorem oD (b:Nat) (u:Int) (w:World) (hu:Hid (u=b)) (h:U64 u) :
  Calls Tryz.prog 138 #[.float .f64 b] w fun e w'=>e=.returned (.bool (af u))∧w'=w:=by
 have e:=hu.out;subst e;exact sn b w h

theorem iS (b:Nat) (u:Int) (w:World) (hu:Hid (u=b)) (h:U64 u) :
  Calls Tryz.prog 140 #[.float .f64 b] w fun e w'=>e=.returned (.bool (sgB u))∧w'=w:=by
 have e:=hu.out;subst e;exact oC b w h

set_option maxHeartbeats 400000 in
theorem BN (b:Nat) (u:Int) (w:World) (hu:Hid (u=b)) (h:U64 u) :
  Calls Tryz.prog 88 #[.float .f64 b] w fun e w'=>e=.returned (.tuple #[.int .i64 (aa u),.bool (!af u)])∧w'=w:=by
 have hlo:=jI u
 have hhi:=FH u
 cases h1:af u
 ·cases h2:sgB u
  ·rw [rank_pos h1 h2]
   go_enter Tryz.func88,Tryz.ntmps88
   go_wp2_with (first | (go_at_call 138;refine (oD _ _ _ hu h).mono ?_;rintro e w' ⟨rfl,rfl⟩) | (go_at_call 139;refine (gj _ _ _ hu h).mono ?_;rintro e w' ⟨rfl,rfl⟩) | (go_at_call 140;refine (iS _ _ _ hu h).mono ?_;rintro e w' ⟨rfl,rfl⟩))
   go_ret2
   exact⟨rfl,rfl⟩
  ·rw [vZ h1 h2]
   go_enter Tryz.func88,Tryz.ntmps88
   go_wp2_with (first | (go_at_call 138;refine (oD _ _ _ hu h).mono ?_;rintro e w' ⟨rfl,rfl⟩) | (go_at_call 139;refine (gj _ _ _ hu h).mono ?_;rintro e w' ⟨rfl,rfl⟩) | (go_at_call 140;refine (iS _ _ _ hu h).mono ?_;rintro e w' ⟨rfl,rfl⟩))
   go_ret2
   exact⟨rfl,rfl⟩
 ·rw [vW h1]
  go_enter Tryz.func88,Tryz.ntmps88
  go_wp2_with (go_at_call 138;refine (oD _ _ _ hu h).mono ?_;rintro e w' ⟨rfl,rfl⟩)
  go_ret2
  exact⟨rfl,rfl⟩
set_option maxHeartbeats 400000 in
theorem mP (u:Int) (w:World) (h:U64 u) :
  Calls Tryz.prog 112 #[.int .u64 u] w fun e w'=>e=.returned (.tuple #[.int .i64 (aa u),.bool (!af u)])∧w'=w:=by
 cases h1:af u
 ·cases h2:sgB u
  ·have h3:u<9223372036854775808:=by simpa [sgB] using h2
   have h4:0≤u:=h.1
   rw [rank_pos h1 h2,zC h h2]
   clear h2
   go_enter Tryz.func112,Tryz.ntmps112
   go_wp2_with (go_at_call 76;refine (aj _ _ h).mono ?_;rintro e w' ⟨rfl,rfl⟩)
   go_ret2
   exact⟨rfl,rfl⟩
  ·have h3:9223372036854775808≤u:=by simpa [sgB] using h2
   have h4:u<18446744073709551616:=h.2
   rw [vZ h1 h2,zB h h2]
   clear h2
   go_enter Tryz.func112,Tryz.ntmps112
   go_wp2_with (go_at_call 76;refine (aj _ _ h).mono ?_;rintro e w' ⟨rfl,rfl⟩)
   go_ret2
   exact⟨rfl,rfl⟩
 ·rw [vW h1]
  go_enter Tryz.func112,Tryz.ntmps112
  go_wp2_with (go_at_call 76;refine (aj _ _ h).mono ?_;rintro e w' ⟨rfl,rfl⟩)
  go_ret2
  exact⟨rfl,rfl⟩

end Go.Proofs.YtkooknagalgfpaaGreat
namespace Go.Proofs.YtkooknagalgfpaaGreat
open Go.RowKit

theorem NG {u:Int} (h0:0≤u) (h:u<9223372036854775808):(bits .or .u64 u 9223372036854775808).toNat=(9223372036854775808+u).toNat:=by rw [Pv h0 h]

set_option maxHeartbeats 400000 in
theorem ku (u:Int) (w:World) :
  Calls Tryz.prog 141 #[.int .u64 u,.bool false] w fun e w'=>e=.returned (.float .f64 u.toNat)∧w'=w:=by
 go_enter Tryz.func141,Tryz.ntmps141
 go_wp2_with (go_at_call 186;refine (sl _ _).mono ?_;rintro e w' ⟨rfl,rfl⟩)
 go_ret
 exact⟨rfl,rfl⟩

set_option maxHeartbeats 400000 in
theorem kv (u:Int) (w:World) (h0:0≤u) (h:u<9223372036854775808) :
  Calls Tryz.prog 141 #[.int .u64 u,.bool true] w fun e w'=>e=.returned (.float .f64 (9223372036854775808+u).toNat)∧w'=w:=by
 go_enter Tryz.func141,Tryz.ntmps141
 go_wp2_with (go_at_call 186;refine (sl _ _).mono ?_;rintro e w' ⟨rfl,rfl⟩)
 go_ret
 exact⟨dA (NG h0 h),rfl⟩

theorem NH {n:Int} (h:atOk n=false):atI n=0:=by simp [atI,h]
theorem nJ {n:Int} (h:atOk n=true) (h':n<0):atI n=9223372036854775808 - n:=by simp [atI,h,h']
theorem nK {n:Int} (h:atOk n=true) (h':0≤n):atI n=n:=by simp [atI,h,Int.not_lt.2 h']
theorem ig (n:Int):atOk n=true↔-9218868437227405312≤n∧n≤9218868437227405312:=by simp [atOk]
theorem FN {n:Int} (h:atOk n=false):n< -9218868437227405312∨9218868437227405312<n:=by
 simp only [atOk,decide_eq_false_iff_not] at h;omega
theorem NI {a b:Nat} {c:Bool} (h:a=b):Ending.returned (.tuple #[.float .f64 a,.bool c])=.returned (.tuple #[.float .f64 b,.bool c]):=by rw [h]
set_option maxHeartbeats 400000 in
theorem NJ (n:Int) (w:World) :
  Calls Tryz.prog 89 #[.int .i64 n] w fun e w'=>e=.returned (.tuple #[.float .f64 (atI n).toNat,.bool (atOk n)])∧w'=w:=by
 cases h:atOk n
 ·rw [NH h]
  have h1:n< -9218868437227405312∨9218868437227405312<n:=by
   exact FN h
  clear h
  rcases h1 with h1 | h1
  all_goals
   go_enter Tryz.func89,Tryz.ntmps89
   go_wp2_with fail
   go_ret2
   exact⟨rfl,rfl⟩
 ·obtain⟨h1,h2⟩:=(ig n).1 h
  by_cases h3:n<0
  ·rw [nJ h h3]
   clear h
   go_enter Tryz.func89,Tryz.ntmps89
   go_wp2_with (go_at_call 141;refine (kv _ _ (by omega) (by omega)).mono ?_;rintro e w' ⟨rfl,rfl⟩)
   go_ret2
   exact⟨NI (by omega),rfl⟩
  ·have h4:0≤n:=by omega
   rw [nK h h4]
   clear h h3
   go_enter Tryz.func89,Tryz.ntmps89
   go_wp2_with (go_at_call 141;refine (ku _ _).mono ?_;rintro e w' ⟨rfl,rfl⟩)
   go_ret2
   exact⟨rfl,rfl⟩

def wb (a b:Int):Int:=wrap64 (a / 2+b / 2+bits .and .i64 (bits .and .i64 a b) 1)
theorem kw (u:Int): -9218868437227405312≤aa u:=by
 unfold aa af;have:=jI u
 split
 ·omega
 ·rename_i h;simp only [decide_eq_true_eq] at h;split<;>omega
theorem iT (u:Int):aa u≤9218868437227405312:=by
 unfold aa af;have:=jI u
 split
 ·omega
 ·rename_i h;simp only [decide_eq_true_eq] at h;split<;>omega

set_option maxHeartbeats 400000 in
theorem oE (a b:Nat) (u v:Int) (w:World) (hu:Hid (u=a)) (hv:Hid (v=b)) (h:U64 u) (h':U64 v) :
  Calls Tryz.prog 188 #[.float .f64 a,.float .f64 b] w fun e w'=>e=.returned (.tuple #[.int .i64 (aa u),.int .i64 (aa v),.bool (!af u&&!af v)])∧w'=w:=by
 cases h1:af u<;>cases h2:af v
 all_goals
  go_enter Tryz.func188,Tryz.ntmps188
  go_wp2_with fail
  refine (BN _ _ _ hu h).mono ?_
  rintro e w' ⟨rfl,rfl⟩
  go_wp2_with (go_at_call 88;refine (BN _ _ _ hv h').mono ?_;rintro e w' ⟨rfl,rfl⟩)
  go_ret3
  exact⟨rfl,rfl⟩

end Go.Proofs.YtkooknagalgfpaaGreat
namespace Go.Proofs.YtkooknagalgfpaaGreat
open Go.RowKit

def ii (u v:Int):Bool:=!af u&&!af v&&atOk (wb (aa u) (aa v))
def jv (u v:Int):Int:=if !af u&&!af v then atI (wb (aa u) (aa v)) else 0

set_option maxHeartbeats 400000 in
theorem NK (a b:Nat) (u v:Int) (w:World) (hu:Hid (u=a)) (hv:Hid (v=b)) (h:U64 u) (h':U64 v) :
  Calls Tryz.prog 143 #[.float .f64 a,.float .f64 b] w fun e w'=>e=.returned (.tuple #[.float .f64 (jv u v).toNat,.bool (ii u v)])∧w'=w:=by
 have hl:=kw u
 have hh:=iT u
 have hl':=kw v
 have hh':=iT v
 cases h1:af u
 ·cases h2:af v
  ·have e1:Hid (jv u v=atI (wb (aa u) (aa v))):=by show _=_;simp [jv,h1,h2]
   have e2:Hid (ii u v=atOk (wb (aa u) (aa v))):=by show _=_;simp [ii,h1,h2]
   rw [e1.out,e2.out]
   go_enter Tryz.func143,Tryz.ntmps143
   go_wp2_with (first | (go_at_call 188;refine (oE _ _ _ _ _ hu hv h h').mono ?_;rintro e w' ⟨rfl,rfl⟩) | (go_at_call 89;refine (NJ _ _).mono ?_;rintro e w' ⟨rfl,rfl⟩))
   go_ret2
   exact⟨rfl,rfl⟩
  ·have e1:Hid (jv u v=0):=by show _=_;simp [jv,h2]
   have e2:Hid (ii u v=false):=by show _=_;simp [ii,h2]
   rw [e1.out,e2.out]
   go_enter Tryz.func143,Tryz.ntmps143
   go_wp2_with (go_at_call 188;refine (oE _ _ _ _ _ hu hv h h').mono ?_;rintro e w' ⟨rfl,rfl⟩)
   go_ret2
   exact⟨rfl,rfl⟩
 ·have e1:Hid (jv u v=0):=by show _=_;simp [jv,h1]
  have e2:Hid (ii u v=false):=by show _=_;simp [ii,h1]
  rw [e1.out,e2.out]
  go_enter Tryz.func143,Tryz.ntmps143
  go_wp2_with (go_at_call 188;refine (oE _ _ _ _ _ hu hv h h').mono ?_;rintro e w' ⟨rfl,rfl⟩)
  go_ret2
  exact⟨rfl,rfl⟩

end Go.Proofs.YtkooknagalgfpaaGreat
namespace Go.Proofs.YtkooknagalgfpaaGreat
open Go.RowKit

theorem IH (n:Int):bits .and .i64 n 1=n % 2:=by
 have h1:(BitVec.ofInt 64 1).toNat=2^1 - 1:=by decide
 have key:(BitVec.ofInt 64 n&&& BitVec.ofInt 64 1).toNat=(n % ((2^64:Nat):Int)).toNat % 2^1:=by
  rw [BitVec.toNat_and,BitVec.toNat_ofInt,h1,Nat.and_two_pow_sub_one_eq_mod]
 show IntKind.i64.wrap ((BitVec.ofInt 64 n&&& BitVec.ofInt 64 1).toNat:Nat)=n % 2
 rw [key,IntKind.wrap_i64]
 omega

theorem II (x y:Nat):(x&&& y) % 2=(x % 2)*(y % 2):=by
 have h:=Nat.and_mod_two_pow (a:=x) (b:=y) (n:=1)
 rw [show (2:Nat)^1=2 from rfl] at h
 rw [h]
 have hx:x % 2=0∨x % 2=1:=by omega
 have hy:y % 2=0∨y % 2=1:=by omega
 rcases hx with hx | hx<;>rcases hy with hy | hy<;>rw [hx,hy]<;>rfl

theorem Ev (z:Nat):IntKind.i64.wrap (z:Int) % 2=((z % 2:Nat):Int):=by rw [IntKind.wrap_i64];omega
theorem ql (a:Int):(((BitVec.ofInt 64 a).toNat % 2:Nat):Int)=a % 2:=by rw [BitVec.toNat_ofInt];omega
theorem uT (a b:Int):(bits .and .i64 a b) % 2=(a % 2)*(b % 2):=by
 show (IntKind.i64.wrap ((BitVec.ofInt 64 a&&& BitVec.ofInt 64 b).toNat:Nat)) % 2=_
 rw [Ev,BitVec.toNat_and,II,Int.natCast_mul,ql,ql]

theorem Ml {a b:Int} (ha: -9218868437227405312≤a) (ha':a≤9218868437227405312) (hb: -9218868437227405312≤b) (hb':b≤9218868437227405312):wb a b=(a+b) / 2:=by
 unfold wb
 rw [IH,uT]
 have hx:a % 2=0∨a % 2=1:=by omega
 have hy:b % 2=0∨b % 2=1:=by omega
 have e:a / 2+b / 2+a % 2*(b % 2)=(a+b) / 2:=by
  rcases hx with hx | hx<;>rcases hy with hy | hy<;>rw [hx,hy]<;>omega
 rw [e]
 unfold wrap64
 omega

theorem IJ {n:Int} (h:atOk n=true):af (atI n)=false:=by
 obtain⟨h1,h2⟩:=(ig n).1 h
 unfold af szI
 rw [decide_eq_false_iff_not]
 by_cases h3:n<0
 ·rw [nJ h h3];omega
 ·rw [nK h (by omega)];omega
theorem PU {n:Int} (h:atOk n=true):sgB (atI n)=decide (n<0):=by
 obtain⟨h1,h2⟩:=(ig n).1 h
 unfold sgB
 apply decide_eq_decide.2
 by_cases h3:n<0
 ·rw [nJ h h3];omega
 ·rw [nK h (by omega)];omega
theorem Mm {n:Int} (h:atOk n=true):aa (atI n)=n:=by
 obtain⟨h1,h2⟩:=(ig n).1 h
 unfold aa
 rw [IJ h,PU h]
 by_cases h3:n<0
 ·simp only [h3,decide_true,if_true,Bool.false_eq_true,if_false];rw [nJ h h3];unfold szI;omega
 ·simp only [h3,decide_false,Bool.false_eq_true,if_false];rw [nK h (by omega)];unfold szI;omega

theorem tp {u v:Int} (h:af u=false) (h':af v=false) :
  ii u v=true∧af (jv u v)=false∧aa (jv u v)=(aa u+aa v) / 2∧U64 (jv u v):=by
 have b1:=kw u
 have b2:=iT u
 have b3:=kw v
 have b4:=iT v
 have hm:=Ml b1 b2 b3 b4
 have ho:atOk (wb (aa u) (aa v))=true:=by rw [hm,ig];omega
 have e1:ii u v=true:=by simp [ii,h,h',ho]
 have e2:jv u v=atI (wb (aa u) (aa v)):=by simp [jv,h,h']
 rw [e1,e2,IJ ho,Mm ho,hm]
 exact⟨rfl,rfl,rfl,Kz _⟩
end Go.Proofs.YtkooknagalgfpaaGreat
namespace Go.Proofs.YtkooknagalgfpaaGreat
open Go.RowKit

structure Gd (a:Nat) (r:Int):Prop where
 u:U64 (a:Int)
 n:af (a:Int)=false
 e:aa (a:Int)=r
theorem Gd.lo {a:Nat} {r:Int} (h:Gd a r): -9218868437227405312≤r:=by rw [← h.e];exact kw _
theorem Gd.hi {a:Nat} {r:Int} (h:Gd a r):r≤9218868437227405312:=by rw [← h.e];exact iT _
def mdN (a b:Nat):Nat:=(jv a b).toNat
theorem ND {a b:Nat} {r s:Int} (h:Gd a r) (h':Gd b s):Gd (mdN a b) ((r+s) / 2):=by
 obtain⟨_,e2,e3,e4⟩:=tp h.n h'.n
 have e:((jv a b).toNat:Int)=jv a b:=Int.toNat_of_nonneg e4.1
 refine⟨?_,?_,?_⟩
 ·unfold mdN;rw [e];exact e4
 ·unfold mdN;rw [e];exact e2
 ·unfold mdN;rw [e,e3,h.e,h'.e]
theorem MJ {a b:Nat} {r s:Int} (h:Gd a r) (h':Gd b s):((mdN a b:Nat):Int)=jv a b∧ii a b=true:=by
 obtain⟨e1,_,_,e4⟩:=tp h.n h'.n
 exact⟨Int.toNat_of_nonneg e4.1,e1⟩

def rkO (v:Nat):Option Int:=if af (v:Int)=true then none else some (aa (v:Int))
theorem JF {v:Nat} {r:Int} (h:rkO v=some r):af (v:Int)=false∧aa (v:Int)=r:=by
 unfold rkO at h
 cases hn:af (v:Int) with
 | true=>rw [hn] at h;simp at h
 | false=>rw [hn] at h;simp at h;exact⟨rfl,h⟩
theorem oa {v:Nat} (h:af (v:Int)=true):rkO v=none:=by unfold rkO;rw [if_pos h]
theorem lE {v:Nat} (h:af (v:Int)=false):rkO v=some (aa (v:Int)):=by unfold rkO;rw [if_neg (by rw [h];simp)]
def upB (r:Int):Bool:=decide (0<r)

def bis (F:Nat→Option Int) (up:Bool):Nat→Nat→Nat→Nat×Nat×Int
 | 0,lo,_=>(lo,0,0)
 | f+1,lo,hi=>if aa (mdN lo hi:Int)=aa (lo:Int) then (lo,0,0) else
  match F (mdN lo hi) with
  | none=>(0,1,91)
  | some v=>if v=0 then (mdN lo hi,1,0) else
   if upB v=up then ((bis F up f (mdN lo hi) hi).1,(bis F up f (mdN lo hi) hi).2.1+1,(bis F up f (mdN lo hi) hi).2.2)
   else ((bis F up f lo (mdN lo hi)).1,(bis F up f lo (mdN lo hi)).2.1+1,(bis F up f lo (mdN lo hi)).2.2)

theorem qN {F:Nat→Option Int} {up:Bool} {f a b:Nat} (h:aa (mdN a b:Int)=aa (a:Int)):bis F up f a b=(a,0,0):=by
 cases f with
 | zero=>rfl
 | succ f=>show (if _ then _ else _)=_;rw [if_pos h]
theorem vm {F:Nat→Option Int} {up:Bool} {f a b:Nat} (h:¬ aa (mdN a b:Int)=aa (a:Int)) (hF:F (mdN a b)=none):bis F up (f+1) a b=(0,1,91):=by
 show (if _ then _ else _)=_;rw [if_neg h,hF]
theorem qO {F:Nat→Option Int} {up:Bool} {f a b:Nat} (h:¬ aa (mdN a b:Int)=aa (a:Int)) (hF:F (mdN a b)=some 0):bis F up (f+1) a b=(mdN a b,1,0):=by
 show (if _ then _ else _)=_;rw [if_neg h,hF];rfl
theorem vo {F:Nat→Option Int} {up:Bool} {f a b:Nat} {v:Int} (h:¬ aa (mdN a b:Int)=aa (a:Int)) (hF:F (mdN a b)=some v) (h0:v≠0) (hu:upB v=up):bis F up (f+1) a b=((bis F up f (mdN a b) b).1,(bis F up f (mdN a b) b).2.1+1,(bis F up f (mdN a b) b).2.2):=by
 show (if _ then _ else _)=_;rw [if_neg h,hF];show (if _ then _ else _)=_;rw [if_neg h0,if_pos hu]
theorem qP {F:Nat→Option Int} {up:Bool} {f a b:Nat} {v:Int} (h:¬ aa (mdN a b:Int)=aa (a:Int)) (hF:F (mdN a b)=some v) (h0:v≠0) (hu:¬ upB v=up):bis F up (f+1) a b=((bis F up f a (mdN a b)).1,(bis F up f a (mdN a b)).2.1+1,(bis F up f a (mdN a b)).2.2):=by
 show (if _ then _ else _)=_;rw [if_neg h,hF];show (if _ then _ else _)=_;rw [if_neg h0,if_neg hu]

theorem lF {f:Nat} {r s:Int} (h:s - r≤(2:Int)^(f+1)):s - (r+s) / 2≤(2:Int)^f∧(r+s) / 2 - r≤(2:Int)^f:=by
 rw [Int.pow_succ] at h
 generalize (2:Int)^f=p at *
 omega

structure BisS (F:Nat→Option Int) (up:Bool) (R S:Int) (X N:Nat) (E:Int) (f a b k:Nat) (r s:Int):Prop where
 ga:Gd a r
 gb:Gd b s
 lt:r<s
 gap:s - r≤(2:Int)^f
 lo:R≤r
 hi:s≤S
 few:k+f≤64
 tells:bis F up f a b=(X,N - k,E)
 cnt:k≤N

theorem BisS.md {F:Nat→Option Int} {up:Bool} {R S:Int} {X N:Nat} {E:Int} {f a b k:Nat} {r s:Int} (h:BisS F up R S X N E f a b k r s):Gd (mdN a b) ((r+s) / 2):=ND h.ga h.gb
theorem BisS.stop {F:Nat→Option Int} {up:Bool} {R S:Int} {X N:Nat} {E:Int} {f a b k:Nat} {r s:Int} (h:BisS F up R S X N E f a b k r s) (hm:(r+s) / 2=r):X=a∧N=k∧E=0:=by
 have e:=h.tells
 have hc:=h.cnt
 rw [qN (by rw [h.md.e,h.ga.e,hm])] at e
 injection e with e1 e2
 injection e2 with e2 e3
 exact⟨e1.symm,by omega,e3.symm⟩
theorem BisS.fuel {F:Nat→Option Int} {up:Bool} {R S:Int} {X N:Nat} {E:Int} {f a b k:Nat} {r s:Int} (h:BisS F up R S X N E f a b k r s) (hm:¬ (r+s) / 2=r):∃ g,f=g+1:=by
 cases f with
 | zero=>exfalso;have:=h.gap;have:=h.lt;rw [Int.pow_zero] at *;omega
 | succ g=>exact⟨g,rfl⟩
theorem BisS.nan {F:Nat→Option Int} {up:Bool} {R S:Int} {X N:Nat} {E:Int} {f a b k:Nat} {r s:Int} (h:BisS F up R S X N E f a b k r s) (hm:¬ (r+s) / 2=r) (hF:F (mdN a b)=none):X=0∧N=k+1∧E=91:=by
 obtain⟨g,rfl⟩:=h.fuel hm
 have e:=h.tells
 have hc:=h.cnt
 rw [vm (by rw [h.md.e,h.ga.e];exact hm) hF] at e
 injection e with e1 e2
 injection e2 with e2 e3
 exact⟨e1.symm,by omega,e3.symm⟩
theorem BisS.zero {F:Nat→Option Int} {up:Bool} {R S:Int} {X N:Nat} {E:Int} {f a b k:Nat} {r s:Int} (h:BisS F up R S X N E f a b k r s) (hm:¬ (r+s) / 2=r) (hF:F (mdN a b)=some 0):X=mdN a b∧N=k+1∧E=0:=by
 obtain⟨g,rfl⟩:=h.fuel hm
 have e:=h.tells
 have hc:=h.cnt
 rw [qO (by rw [h.md.e,h.ga.e];exact hm) hF] at e
 injection e with e1 e2
 injection e2 with e2 e3
 exact⟨e1.symm,by omega,e3.symm⟩
theorem BisS.low {F:Nat→Option Int} {up:Bool} {R S:Int} {X N:Nat} {E:Int} {f a b k:Nat} {r s v:Int} (h:BisS F up R S X N E f a b k r s) (hm:¬ (r+s) / 2=r) (hF:F (mdN a b)=some v) (h0:v≠0) (hu:upB v=up):∃ g,f=g+1∧BisS F up R S X N E g (mdN a b) b (k+1) ((r+s) / 2) s:=by
 obtain⟨g,rfl⟩:=h.fuel hm
 have e:=h.tells
 have hc:=h.cnt
 have hlt:=h.lt
 have hR:=h.lo
 have hf:=h.few
 rw [vo (by rw [h.md.e,h.ga.e];exact hm) hF h0 hu] at e
 injection e with e1 e2
 injection e2 with e2 e3
 refine⟨g,rfl,⟨h.md,h.gb,by omega,(lF h.gap).1,by omega,h.hi,by omega,?_,by omega⟩⟩
 refine Prod.ext e1 (Prod.ext ?_ e3)
 show (bis F up g (mdN a b) b).2.1=N - (k+1)
 omega
theorem BisS.high {F:Nat→Option Int} {up:Bool} {R S:Int} {X N:Nat} {E:Int} {f a b k:Nat} {r s v:Int} (h:BisS F up R S X N E f a b k r s) (hm:¬ (r+s) / 2=r) (hF:F (mdN a b)=some v) (h0:v≠0) (hu:¬ upB v=up):∃ g,f=g+1∧BisS F up R S X N E g a (mdN a b) (k+1) r ((r+s) / 2):=by
 obtain⟨g,rfl⟩:=h.fuel hm
 have e:=h.tells
 have hc:=h.cnt
 have hlt:=h.lt
 have hS:=h.hi
 have hf:=h.few
 rw [qP (by rw [h.md.e,h.ga.e];exact hm) hF h0 hu] at e
 injection e with e1 e2
 injection e2 with e2 e3
 refine⟨g,rfl,⟨h.ga,h.md,by omega,(lF h.gap).2,h.lo,by omega,by omega,?_,by omega⟩⟩
 refine Prod.ext e1 (Prod.ext ?_ e3)
 show (bis F up g a (mdN a b)).2.1=N - (k+1)
 omega
theorem Bj (F:Nat→Option Int) (up:Bool) {a b:Nat} {r s:Int} (ga:Gd a r) (gb:Gd b s) (lt:r<s):BisS F up r s (bis F up 64 a b).1 (bis F up 64 a b).2.1 (bis F up 64 a b).2.2 64 a b 0 r s:=
 ⟨ga,gb,lt,by have:=ga.lo;have:=gb.hi;omega,Int.le_refl _,Int.le_refl _,by omega,rfl,Nat.zero_le _⟩

def BisX (F:Nat→Option Int) (up:Bool) (r s:Int) (X:Nat):Prop:=
 ∃ x,Gd X x∧r≤x∧x≤s∧(F X=some 0∨∃ v c z,F X=some v∧v≠0∧upB v=up∧Gd c (x+1)∧x+1≤s∧F c=some z∧z≠0∧¬ upB z=up)
theorem BisX.wide {F:Nat→Option Int} {up:Bool} {r s r' s':Int} {X:Nat} (h:BisX F up r s X) (hr:r'≤r) (hs:s≤s'):BisX F up r' s' X:=by
 obtain⟨x,g,h1,h2,h3⟩:=h
 refine⟨x,g,by omega,by omega,?_⟩
 rcases h3 with h3 | ⟨v,c,z,p1,p2,p3,p4,p5,p6⟩
 ·exact Or.inl h3
 ·exact Or.inr ⟨v,c,z,p1,p2,p3,p4,by omega,p6⟩
theorem tF (F:Nat→Option Int) (up:Bool):∀ (f a b:Nat) (r s:Int),Gd a r→Gd b s→r<s→s - r≤(2:Int)^f→(∃ v,F a=some v∧v≠0∧upB v=up)→(∃ z,F b=some z∧z≠0∧¬ upB z=up)→
  (bis F up f a b).2.1≤f∧(((bis F up f a b).2.2=91∧(bis F up f a b).1=0∧∃ c,F c=none)∨((bis F up f a b).2.2=0∧BisX F up r s (bis F up f a b).1)):=by
 intro f
 induction f with
 | zero=>
  intro a b r s ga gb lt gap ⟨v,fa,v0,vu⟩ ⟨z,fb,z0,zu⟩
  rw [Int.pow_zero] at gap
  obtain rfl:s=r+1:=by omega
  exact⟨Nat.le_refl _,Or.inr ⟨rfl,r,ga,by omega,by omega,Or.inr ⟨v,b,z,fa,v0,vu,gb,by omega,fb,z0,zu⟩⟩⟩
 | succ f ih=>
  intro a b r s ga gb lt gap ⟨v,fa,v0,vu⟩ ⟨z,fb,z0,zu⟩
  have gm:=ND ga gb
  by_cases hm:(r+s) / 2=r
  ·rw [qN (by rw [gm.e,ga.e,hm])]
   obtain rfl:s=r+1:=by omega
   exact⟨Nat.zero_le _,Or.inr ⟨rfl,r,ga,by omega,by omega,Or.inr ⟨v,b,z,fa,v0,vu,gb,by omega,fb,z0,zu⟩⟩⟩
  ·have hm':¬ aa (mdN a b:Int)=aa (a:Int):=by rw [gm.e,ga.e];exact hm
   cases hF:F (mdN a b) with
   | none=>rw [vm hm' hF];exact⟨by show 1≤f+1;omega,Or.inl ⟨rfl,rfl,_,hF⟩⟩
   | some y=>
    by_cases y0:y=0
    ·subst y0
     rw [qO hm' hF]
     exact⟨by show 1≤f+1;omega,Or.inr ⟨rfl,_,gm,by omega,by omega,Or.inl hF⟩⟩
    ·by_cases hu:upB y=up
     ·rw [vo hm' hF y0 hu]
      obtain⟨h1,h2⟩:=ih (mdN a b) b _ s gm gb (by omega) (lF gap).1 ⟨y,hF,y0,hu⟩ ⟨z,fb,z0,zu⟩
      refine⟨by show _+1≤f+1;omega,?_⟩
      rcases h2 with h2 | ⟨h2,h3⟩
      ·exact Or.inl h2
      ·exact Or.inr ⟨h2,h3.wide (by omega) (Int.le_refl _)⟩
     ·rw [qP hm' hF y0 hu]
      obtain⟨h1,h2⟩:=ih a (mdN a b) r _ ga gm (by omega) (lF gap).2 ⟨v,fa,v0,vu⟩ ⟨y,hF,y0,hu⟩
      refine⟨by show _+1≤f+1;omega,?_⟩
      rcases h2 with h2 | ⟨h2,h3⟩
      ·exact Or.inl h2
      ·exact Or.inr ⟨h2,h3.wide (Int.le_refl _) (by omega)⟩
end Go.Proofs.YtkooknagalgfpaaGreat
