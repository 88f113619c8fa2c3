/-  -/
import Derived.Test.YtcmbfflemoccmaaGreatRows
import Derived.Test.YtcmbfflemoccmaaGreatHaa
import Derived.WalkKit
import Derived.WalkSpells
import Derived.WalkLawsBesides
import Derived.Handy
namespace Go.Proofs.YtcmbfflemoccmaaGreat
open Go.RowKit

theorem aZ {k:IntKind} {a b:Int} (h:a=b):Ending.returned (.int k a)=.returned (.int k b):=by rw [h]
theorem gl {a b:Bool} (h:a=b):Ending.returned (.bool a)=.returned (.bool b):=by rw [h]
theorem dQ {a b:Nat} (h:a=b):Ending.returned (.float .f64 a)=.returned (.float .f64 b):=by rw [h]

theorem rL (b:Nat) (w:World):(callFunc 48 #[.float .f64 b]).run Tryz.prog w=.ok (.value (.int .u64 b)) w:=
 (run_callFunc_extern (e:=Extern.MathFloatBits.float64bits) Tryz.func48 (by kernel_rfl) (by kernel_rfl) (by kernel_rfl) (by kernel_rfl) _ w).trans rfl

theorem cK (n:Int) (w:World):(callFunc 130 #[.int .u64 n]).run Tryz.prog w=.ok (.value (.float .f64 n.toNat)) w:=
 (run_callFunc_extern (e:=Extern.MathFloatBits.float64frombits) Tryz.func130 (by kernel_rfl) (by kernel_rfl) (by kernel_rfl) (by kernel_rfl) _ w).trans rfl

set_option maxHeartbeats 400000 in
theorem ky (b:Nat) (w:World) :
  Calls Tryz.prog 28 #[.float .f64 b] w fun e w'=>e=.returned (.int .u64 b)∧w'=w:=by
 have hb:=rL
 go_enter Tryz.func28,Tryz.ntmps28
 go_wp2
 go_ret
 exact⟨rfl,rfl⟩

set_option maxHeartbeats 400000 in
theorem rM (n:Int) (w:World) :
  Calls Tryz.prog 218 #[.int .u64 n] w fun e w'=>e=.returned (.float .f64 n.toNat)∧w'=w:=by
 have hb:=cK
 go_enter Tryz.func218,Tryz.ntmps218
 go_wp2
 go_ret
 exact⟨rfl,rfl⟩

set_option maxHeartbeats 400000 in
theorem vm (b:Nat) (w:World) (h:U64 b) :
  Calls Tryz.prog 195 #[.float .f64 b] w fun e w'=>e=.returned (.int .u64 (szI b))∧w'=w:=by
 go_enter Tryz.func195,Tryz.ntmps195
 go_wp2_with (go_at_call 28;refine (ky _ _).mono ?_;rintro e w' ⟨rfl,rfl⟩)
 go_ret
 exact⟨aZ (dy h),rfl⟩

set_option maxHeartbeats 400000 in
theorem oi (b:Nat) (w:World) (h:U64 b) :
  Calls Tryz.prog 196 #[.float .f64 b] w fun e w'=>e=.returned (.bool (sgB b))∧w'=w:=by
 go_enter Tryz.func196,Tryz.ntmps196
 go_wp2_with (go_at_call 28;refine (ky _ _).mono ?_;rintro e w' ⟨rfl,rfl⟩)
 go_ret
 refine⟨gl ?_,rfl⟩
 rw [Fi h]
 cases sgB b<;>rfl

theorem vn (u:Int):decide ((9218868437227405312:Int)<szI u)=ah u:=rfl

set_option maxHeartbeats 400000 in
theorem CF (b:Nat) (w:World) (h:U64 b) :
  Calls Tryz.prog 236 #[.float .f64 b] w fun e w'=>e=.returned (.bool (ah b))∧w'=w:=by
 go_enter Tryz.func236,Tryz.ntmps236
 go_wp2_with (go_at_call 195;refine (vm _ _ h).mono ?_;rintro e w' ⟨rfl,rfl⟩)
 go_ret
 exact⟨gl (vn b),rfl⟩

set_option maxHeartbeats 400000 in
theorem ak (b:Int) (w:World) (h:U64 b) :
  Calls Tryz.prog 57 #[.int .u64 b] w fun e w'=>e=.returned (.bool (ah b))∧w'=w:=by
 have hz:=dy h
 have hn:=vn b
 go_enter Tryz.func57,Tryz.ntmps57
 go_wp2
 go_ret
 exact⟨rfl,rfl⟩

set_option maxHeartbeats 400000 in
theorem bX (b:Int) (w:World) :
  Calls Tryz.prog 103 #[.int .u64 b] w fun e w'=>e=.returned (.bool (sgB b))∧w'=w:=by
 go_enter Tryz.func103,Tryz.ntmps103
 go_wp2
 go_ret
 exact⟨rfl,rfl⟩

set_option maxHeartbeats 400000 in
theorem aC (b:Int) (w:World) (h:U64 b) :
  Calls Tryz.prog 47 #[.int .u64 b] w fun e w'=>e=.returned (.int .u64 (szI b))∧w'=w:=by
 have hz:=dy h
 go_enter Tryz.func47,Tryz.ntmps47
 go_wp2
 go_ret
 exact⟨rfl,rfl⟩

end Go.Proofs.YtcmbfflemoccmaaGreat
namespace Go.Proofs.YtcmbfflemoccmaaGreat
open Go.RowKit

theorem kz (b:Nat) (u:Int) (w:World) (hu:Hid (u=b)) (h:U64 u) :
  Calls Tryz.prog 195 #[.float .f64 b] w fun e w'=>e=.returned (.int .u64 (szI u))∧w'=w:=by
 have e:=hu.out;subst e;exact vm b w h

set_option maxHeartbeats 400000 in
theorem Fj (b:Nat) (u:Int) (w:World) (hu:Hid (u=b)) (h:U64 u) :
  Calls Tryz.prog 226 #[.float .f64 b] w fun e w'=>e=.returned (.int .i64 (tc u))∧w'=w:=by
 rcases cls_cases u with⟨hz,hc⟩| ⟨⟨h1,h2⟩,hc⟩| ⟨⟨h1,h2⟩,hc⟩| ⟨hz,hc⟩| ⟨h1,hc⟩
 all_goals
  rw [hc];clear hc
  go_enter Tryz.func226,Tryz.ntmps226
  go_wp2_with (go_at_call 195;refine (kz _ _ _ hu h).mono ?_;rintro e w' ⟨rfl,rfl⟩)
  go_ret
  exact⟨rfl,rfl⟩
set_option maxHeartbeats 400000 in
theorem tf (b:Nat) (w:World) (h:U64 b) :
  Calls Tryz.prog 227 #[.float .f64 b] w fun e w'=>e=.returned (.bool (sgB b&&!ah b))∧w'=w:=by
 cases h1:sgB b<;>cases h2:ah b
 all_goals
  go_enter Tryz.func227,Tryz.ntmps227
  go_wp2_with (first | (go_at_call 196;refine (oi _ _ h).mono ?_;rintro e w' ⟨rfl,rfl⟩) | (go_at_call 236;refine (CF _ _ h).mono ?_;rintro e w' ⟨rfl,rfl⟩))
  go_ret
  exact⟨rfl,rfl⟩


set_option maxHeartbeats 400000 in
theorem vp (a b:Int) (w:World) (h:U64 a) (h':U64 b) :
  Calls Tryz.prog 39 #[.int .u64 a,.int .u64 b] w fun e w'=>e=.returned (.bool (eZ a b))∧w'=w:=by
 by_cases h0:a=b
 ·have hb:(a==b)=true:=by simpa using h0
  clear h0
  have hs:Hid (eZ a b=true):=by
   have:a=b:=by simpa using hb
   subst this;exact gP a
  rw [hs.out]
  go_enter Tryz.func39,Tryz.ntmps39
  go_wp2
  go_ret
  exact⟨rfl,rfl⟩
 ·have hb:(a==b)=false:=by simpa using h0
  have hs:Hid (eZ a b=(ah a&&ah b)):=by show eZ a b=_;simp [eZ,h0]
  clear h0
  rw [hs.out]
  cases h1:ah a<;>cases h2:ah b
  all_goals
   go_enter Tryz.func39,Tryz.ntmps39
   go_wp2_with fail
   refine (ak _ _ h).mono ?_
   rintro e w' ⟨rfl,rfl⟩
   go_wp2_with (go_at_call 57;refine (ak _ _ h').mono ?_;rintro e w' ⟨rfl,rfl⟩)
   go_ret
   exact⟨rfl,rfl⟩

set_option maxHeartbeats 400000 in
theorem LT (a:Nat) (b:Int) (w:World) (h:U64 a) (h':U64 b) :
  Calls Tryz.prog 20 #[.float .f64 a,.int .u64 b] w fun e w'=>e=.returned (.bool (eZ a b))∧w'=w:=by
 go_enter Tryz.func20,Tryz.ntmps20
 go_wp2_with (first | (go_at_call 28;refine (ky _ _).mono ?_;rintro e w' ⟨rfl,rfl⟩) | (go_at_call 39;refine (vp _ _ _ h h').mono ?_;rintro e w' ⟨rfl,rfl⟩))
 go_ret
 exact⟨rfl,rfl⟩

theorem Fk {u:Int} (h:ah u=true):ae u=0:=by simp [ae,h]
theorem Fl {u:Int} (h:ah u=false) (h':sgB u=true):ae u= -szI u:=by simp [ae,h,h']
theorem oj {u:Int} (h:ah u=false) (h':sgB u=false):ae u=szI u:=by simp [ae,h,h']

theorem rN (b:Nat) (u:Int) (w:World) (hu:Hid (u=b)) (h:U64 u) :
  Calls Tryz.prog 196 #[.float .f64 b] w fun e w'=>e=.returned (.bool (sgB u))∧w'=w:=by
 have e:=hu.out;subst e;exact oi b w h

set_option maxHeartbeats 400000 in
theorem fS (u:Int) (w:World) (h:U64 u) :
  Calls Tryz.prog 49 #[.int .u64 u] w fun e w'=>e=.returned (.tuple #[.int .i64 (ae u),.bool (!ah u)])∧w'=w:=by
 cases h1:ah u
 ·cases h2:sgB u
  ·have h3:u<9223372036854775808:=by simpa [sgB] using h2
   have h4:0≤u:=h.1
   rw [oj h1 h2,zg h h2]
   clear h2
   go_enter Tryz.func49,Tryz.ntmps49
   go_wp2_with (go_at_call 57;refine (ak _ _ h).mono ?_;rintro e w' ⟨rfl,rfl⟩)
   go_ret2
   exact⟨rfl,rfl⟩
  ·have h3:9223372036854775808≤u:=by simpa [sgB] using h2
   have h4:u<18446744073709551616:=h.2
   rw [Fl h1 h2,zf h h2]
   clear h2
   go_enter Tryz.func49,Tryz.ntmps49
   go_wp2_with (go_at_call 57;refine (ak _ _ h).mono ?_;rintro e w' ⟨rfl,rfl⟩)
   go_ret2
   exact⟨rfl,rfl⟩
 ·rw [Fk h1]
  go_enter Tryz.func49,Tryz.ntmps49
  go_wp2_with (go_at_call 57;refine (ak _ _ h).mono ?_;rintro e w' ⟨rfl,rfl⟩)
  go_ret2
  exact⟨rfl,rfl⟩

end Go.Proofs.YtcmbfflemoccmaaGreat
namespace Go.Proofs.YtcmbfflemoccmaaGreat
open Go.RowKit

theorem LU {u:Int} (h0:0≤u) (h:u<9223372036854775808):(bits .or .u64 u 9223372036854775808).toNat=(9223372036854775808+u).toNat:=by rw [Nq h0 h]

set_option maxHeartbeats 400000 in
theorem th (u:Int) (w:World) :
  Calls Tryz.prog 197 #[.int .u64 u,.bool false] w fun e w'=>e=.returned (.float .f64 u.toNat)∧w'=w:=by
 go_enter Tryz.func197,Tryz.ntmps197
 go_wp2_with (go_at_call 218;refine (rM _ _).mono ?_;rintro e w' ⟨rfl,rfl⟩)
 go_ret
 exact⟨rfl,rfl⟩

set_option maxHeartbeats 400000 in
theorem tj (u:Int) (w:World) (h0:0≤u) (h:u<9223372036854775808) :
  Calls Tryz.prog 197 #[.int .u64 u,.bool true] w fun e w'=>e=.returned (.float .f64 (9223372036854775808+u).toNat)∧w'=w:=by
 go_enter Tryz.func197,Tryz.ntmps197
 go_wp2_with (go_at_call 218;refine (rM _ _).mono ?_;rintro e w' ⟨rfl,rfl⟩)
 go_ret
 exact⟨dQ (LU h0 h),rfl⟩

end Go.Proofs.YtcmbfflemoccmaaGreat
namespace Go.Proofs.YtcmbfflemoccmaaGreat
open Go.RowKit

end Go.Proofs.YtcmbfflemoccmaaGreat
namespace Go.Proofs.YtcmbfflemoccmaaGreat
open Go.RowKit

end Go.Proofs.YtcmbfflemoccmaaGreat
