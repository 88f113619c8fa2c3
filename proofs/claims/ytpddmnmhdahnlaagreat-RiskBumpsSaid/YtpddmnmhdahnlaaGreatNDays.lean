/-  -/
import Derived.Test.YtpddmnmhdahnlaaGreatHal
import Derived.Lib.MinMax
namespace Go.Proofs.YtpddmnmhdahnlaaGreat
open Go.RowKit

theorem wH (a b:Int) (w:World) (ha:an a) (hb:an b) :
  Calls Tryz.prog 216 #[.int .i64 a,.int .i64 b] w fun e w'=>e=.returned (.tuple #[.int .i64 (b - a),.int .i64 0])∧w'=w:=by
 obtain⟨a0,a1⟩:=ha
 obtain⟨b0,b1⟩:=hb
 go_enter Tryz.func216,Tryz.ntmps216
 go_wp2_with fail
 go_ret2
 exact⟨rfl,rfl⟩
theorem rV (a b:Int) (w:World) (hab:a≤b) (h:¬ (an a∧an b)) :
  Calls Tryz.prog 216 #[.int .i64 a,.int .i64 b] w fun e w'=>e=.returned (.tuple #[.int .i64 0,.int .i64 51])∧w'=w:=by
 unfold an at h
 rcases (show a<0∨(0≤a∧109572<b) by omega) with h1 | ⟨h1,h2⟩
 all_goals
  clear h hab
  go_enter Tryz.func216,Tryz.ntmps216
  go_wp2_with fail
  go_ret2
  exact⟨rfl,rfl⟩

def ldI (y n:Int):Int:=366*(nyI y - 365*(y - 1900))+(if leapB y then n - nyI y else 0)
theorem Gz (y n:Int):366*n - ldI y n=pe y n:=by
 unfold ldI pe lpI
 cases leapB y<;>simp<;>omega
theorem KA {y n:Int} (h:1900≤y) (h':y≤2199) (h0:nyI y≤n) (h1:n<nyI (y+1)):0≤ldI y n∧ldI y n≤1000000:=by
 have e1:=lX h
 have e2:=lY (y:=y+1) (by omega)
 have e3:=lY (y:=y) (by omega)
 unfold ldI
 split<;>constructor<;>omega
set_option maxHeartbeats 800000 in
theorem kA (n y m d:Int) (w:World) (h:IsD n y m d) :
  Calls Tryz.prog 259 #[.int .i64 n] w fun e w'=>e=.returned (.int .i64 (ldI y n))∧w'=w:=by
 have HC:=hideS (fun wx=>fL n y m d wx h)
 obtain⟨n0,n1⟩:=h.range
 obtain⟨h1,h2,_,_,_,_⟩:=h.1
 have hy:=h.year
 have ho:okD y 1 1:=⟨h1,h2,by omega,by omega,by omega,by have:=im y 1;omega⟩
 have hd:aL y 1 1=nyI y:=by unfold aL;rw [dP];omega
 have H2:=hideS (fun wx=>by have:=ls y 1 1 wx ho;rw [hd] at this;exact this)
 have H3:=hideS (fun wx=>wj y wx)
 have e1:=lX h1
 have e3:=lY (y:=y) (by omega)
 have hy1:=hy.1
 clear h ho hd hy
 unfold ldI
 generalize nyI y=N at *
 cases hl:leapB y
 all_goals
  rw [hl] at H3
  clear hl
  go_enter Tryz.func259,Tryz.ntmps259
  go_wp2_with (first | (go_at_call 260;refine (HC.out _).mono ?_;rintro e w' ⟨rfl,rfl⟩) | (go_at_call 288;refine (H2.out _).mono ?_;rintro e w' ⟨rfl,rfl⟩) | (go_at_call 289;refine (H3.out _).mono ?_;rintro e w' ⟨rfl,rfl⟩))
  go_ret
  refine⟨?_,rfl⟩
  simp
  try omega
set_option maxHeartbeats 800000 in
theorem yU (a b ya ma da yb mb db:Int) (w:World) (hA:IsD a ya ma da) (hB:IsD b yb mb db) :
  Calls Tryz.prog 217 #[.int .i64 a,.int .i64 b] w fun e w'=>e=.returned (.tuple #[.int .i64 (pe yb b - pe ya a),.int .i64 0])∧w'=w:=by
 have HD:=hideS (fun wx=>wH a b wx hA.range hB.range)
 have H1:=hideS (fun wx=>kA a ya ma da wx hA)
 have H2:=hideS (fun wx=>kA b yb mb db wx hB)
 have ra:=hA.range
 have rb:=hB.range
 obtain⟨a0,a1⟩:=ra
 obtain⟨b0,b1⟩:=rb
 have la:=KA hA.1.1 hA.1.2.1 hA.year.1 hA.year.2
 have lb:=KA hB.1.1 hB.1.2.1 hB.year.1 hB.year.2
 obtain⟨la0,la1⟩:=la
 obtain⟨lb0,lb1⟩:=lb
 have ea:=Gz ya a
 have eb:=Gz yb b
 clear hA hB
 obtain⟨R,hR⟩:∃ R,pe yb b - pe ya a=R:=⟨_,rfl⟩
 have HR:Hid (366*(b - a) - (ldI yb b - ldI ya a)=R):=by show _=_;omega
 rw [hR]
 clear ea eb hR
 generalize ldI ya a=X at *
 generalize ldI yb b=Y at *
 go_enter Tryz.func217,Tryz.ntmps217
 go_wp2_with (first | (go_at_call 216;refine (HD.out _).mono ?_;rintro e w' ⟨rfl,rfl⟩) | (go_at_call_of 259 (Value.int IntKind.i64 b);refine (H2.out _).mono ?_;rintro e w' ⟨rfl,rfl⟩) | (go_at_call_of 259 (Value.int IntKind.i64 a);refine (H1.out _).mono ?_;rintro e w' ⟨rfl,rfl⟩))
 go_ret2
 have e:=HR.out
 rw [show 366*(b - a - (Y - X))+365*(Y - X)=R by omega]
 exact⟨rfl,rfl⟩
theorem wI (a b:Int) (w:World) (hab:a≤b) (h:¬ (an a∧an b)) :
  Calls Tryz.prog 217 #[.int .i64 a,.int .i64 b] w fun e w'=>e=.returned (.tuple #[.int .i64 0,.int .i64 51])∧w'=w:=by
 have HD:=hideS (fun wx=>rV a b wx hab h)
 clear hab h
 go_enter Tryz.func217,Tryz.ntmps217
 go_wp2_with (go_at_call 216;refine (HD.out _).mono ?_;rintro e w' ⟨rfl,rfl⟩)
 go_ret2
 exact⟨rfl,rfl⟩
set_option maxHeartbeats 1600000 in
theorem kB (a b L ya ma da yb mb db D1 D2:Int) (w:World) (hA:IsD a ya ma da) (hB:IsD b yb mb db) (h1:min da 30=D1) (h2:(D1=30∧min db 30=D2)∨(D1≠30∧min db L=D2)) (hL:L=30∨L=31) :
  Calls Tryz.prog 218 #[.int .i64 a,.int .i64 b,.int .i64 L] w fun e w'=>e=.returned (.tuple #[.int .i64 (360*(yb - ya)+30*(mb - ma)+D2 - D1),.int .i64 0])∧w'=w:=by
 have H1:=hideS (fun wx=>fL a ya ma da wx hA)
 have H2:=hideS (fun wx=>fL b yb mb db wx hB)
 obtain⟨a1,a2,a3,a4,a5,a6⟩:=hA.1
 obtain⟨b1,b2,b3,b4,b5,b6⟩:=hB.1
 have l1:=io ya ma
 have l2:=io yb mb
 have d1:D1≤30:=by omega
 have d2:1≤D1:=by omega
 have d3:D2≤31:=by omega
 have d4:1≤D2:=by omega
 have d5:da≤31:=by omega
 have d6:db≤31:=by omega
 clear hA hB l1 l2 a6 b6
 rcases h2 with⟨e1,e2⟩| ⟨e1,e2⟩
 ·subst e1
  go_enter Tryz.func218,Tryz.ntmps218
  go_wp2_with (first | (go_at_call_of 260 (Value.int IntKind.i64 a);refine (H1.out _).mono ?_;rintro e w' ⟨rfl,rfl⟩) | (go_at_call_of 260 (Value.int IntKind.i64 b);refine (H2.out _).mono ?_;rintro e w' ⟨rfl,rfl⟩))
  go_ret2
  exact⟨rfl,rfl⟩
 ·have e3:(D1==30)=false:=beq_false_of_ne e1
  go_enter Tryz.func218,Tryz.ntmps218
  go_wp2_with (first | (go_at_call_of 260 (Value.int IntKind.i64 a);refine (H1.out _).mono ?_;rintro e w' ⟨rfl,rfl⟩) | (go_at_call_of 260 (Value.int IntKind.i64 b);refine (H2.out _).mono ?_;rintro e w' ⟨rfl,rfl⟩))
  go_ret2
  exact⟨rfl,rfl⟩
theorem me (kind a b L ya ma da yb mb db:Int) (w:World) (hA:IsD a ya ma da) (hB:IsD b yb mb db) (hL:(kind=4∧L=31)∨(kind=5∧L=30)) :
  Calls Tryz.prog 218 #[.int .i64 a,.int .i64 b,.int .i64 L] w fun e w'=>e=.returned (.tuple #[.int .i64 (pc kind ya ma da yb mb db),.int .i64 0])∧w'=w:=by
 have hb:db≤31:=by have:=hB.1.2.2.2.2.2;have:=io yb mb;omega
 by_cases h:min da 30=30
 ·have e:pc kind ya ma da yb mb db=360*(yb - ya)+30*(mb - ma)+min db 30 - min da 30:=by
   unfold pc;rw [if_pos (Or.inr h)]
  rw [e]
  exact kB a b L ya ma da yb mb db _ _ w hA hB rfl (Or.inl ⟨h,rfl⟩) (by omega)
 ·have e:pc kind ya ma da yb mb db=360*(yb - ya)+30*(mb - ma)+min db L - min da 30:=by
   unfold pc
   rcases hL with⟨h4,hL⟩| ⟨h5,hL⟩
   ·rw [if_neg (by omega)];omega
   ·rw [if_pos (Or.inl h5),hL]
  rw [e]
  exact kB a b L ya ma da yb mb db _ _ w hA hB rfl (Or.inr ⟨h,rfl⟩) (by omega)
theorem kC (a b L:Int) (w:World) (h:¬ (an a∧an b)) :
  Calls Tryz.prog 218 #[.int .i64 a,.int .i64 b,.int .i64 L] w fun e w'=>e=.returned (.tuple #[.int .i64 0,.int .i64 51])∧w'=w:=by
 by_cases ha:an a
 ·obtain⟨ya,ma,da,hA⟩:=gJ ha.1 ha.2
  have H1:=hideS (fun wx=>fL a ya ma da wx hA)
  have H2:=hideS (fun wx=>rU b wx (fun hb=>h ⟨ha,hb⟩))
  clear h ha hA
  go_enter Tryz.func218,Tryz.ntmps218
  go_wp2_with (first | (go_at_call_of 260 (Value.int IntKind.i64 a);refine (H1.out _).mono ?_;rintro e w' ⟨rfl,rfl⟩) | (go_at_call_of 260 (Value.int IntKind.i64 b);refine (H2.out _).mono ?_;rintro e w' ⟨rfl,rfl⟩))
  go_ret2
  exact⟨rfl,rfl⟩
 ·have H1:=hideS (fun wx=>rU a wx ha)
  clear h ha
  go_enter Tryz.func218,Tryz.ntmps218
  go_wp2_with (go_at_call 260;refine (H1.out _).mono ?_;rintro e w' ⟨rfl,rfl⟩)
  go_ret2
  exact⟨rfl,rfl⟩
end Go.Proofs.YtpddmnmhdahnlaaGreat
