/-  -/
import Derived.Test.YtfdddijdjpijbaaGreatHal
import Derived.Lib.MinMax
set_option maxHeartbeats 1600000
namespace Go.Proofs.YtfdddijdjpijbaaGreat
open Go.RowKit
theorem zm (a b:Int) (w:World) (d:ap a) (f:ap b) :
  Calls Tryz.prog 152 #[.int .i64 a,.int .i64 b] w fun e c=>e=.returned (.tuple #[.int .i64 (b - a),.int .i64 0])/\c=w:=by
 obtain⟨g,h⟩:=d;obtain⟨i,j⟩:=f
 go_enter Tryz.func152,Tryz.ntmps152
 go_wp2_with fail
 go_ret2
 exact⟨rfl,rfl⟩
theorem tS (a b:Int) (w:World) (c:a<=b) (h:¬ (ap a/\ap b)) :
  Calls Tryz.prog 152 #[.int .i64 a,.int .i64 b] w fun e d=>e=.returned (.tuple #[.int .i64 0,.int .i64 51])/\d=w:=by
 unfold ap at h
 rcases (show a<0\/(0<=a/\109572<b) by omega) with f | ⟨f,g⟩
 all_goals
  clear h c
  go_enter Tryz.func152,Tryz.ntmps152
  go_wp2_with fail
  go_ret2
  exact⟨rfl,rfl⟩
def ldI (y n:Int):Int:=366*(nyI y - 365*(y - 1900))+(if leapB y then n - nyI y else 0)
theorem Ky (y n:Int):366*n - ldI y n=re y n:=by
 unfold ldI re lpI;cases leapB y<;>simp<;>omega
theorem Og {y n:Int} (h:1900<=y) (f:y<=2199) (a:nyI y<=n) (c:n<nyI (y+1)):0<=ldI y n/\ldI y n<=1000000:=by
 have d:=nP h;have e:=nQ (y:=y+1) (by omega)
 have b:=nQ (y:=y) (by omega)
 unfold ldI
 split<;>constructor<;>omega
theorem mf (n y m d:Int) (w:World) (h:IsD n y m d) :
  Calls Tryz.prog 169 #[.int .i64 n] w fun e b=>e=.returned (.int .i64 (ldI y n))/\b=w:=by
 have q:=hideS (fun a=>gS n y m d a h)
 obtain⟨s,r⟩:=h.range;obtain⟨g,l,_,_,_,_⟩:=h.1;have f:=h.year;have k:okD y 1 1:=⟨g,l,by omega,by omega,by omega,by have:=jr y 1;omega⟩
 have i:aX y 1 1=nyI y:=by unfold aX;rw [eU];omega
 have o:=hideS (fun a=>by have:=mZ y 1 1 a k;rw [i] at this;exact this)
 have c:=hideS (fun a=>zd y a)
 have u:=nP g;have t:=nQ (y:=y) (by omega)
 have p:=f.1;clear h k i f;unfold ldI;generalize nyI y=N at *
 cases j:leapB y
 all_goals
  rw [j] at c
  clear j
  go_enter Tryz.func169,Tryz.ntmps169
  go_wp2_with (first | (go_at_call 170;refine (q.out _).mono ?_;rintro e b ⟨rfl,rfl⟩) | (go_at_call 187;refine (o.out _).mono ?_;rintro e b ⟨rfl,rfl⟩) | (go_at_call 188;refine (c.out _).mono ?_;rintro e b ⟨rfl,rfl⟩))
  go_ret
  refine⟨?_,rfl⟩
  simp
  try omega
theorem BQ (a b f m j g k n:Int) (w:World) (c:IsD a f m j) (d:IsD b g k n) :
  Calls Tryz.prog 153 #[.int .i64 a,.int .i64 b] w fun e i=>e=.returned (.tuple #[.int .i64 (re g b - re f a),.int .i64 0])/\i=w:=by
 have C:=hideS (fun h=>zm a b h c.range d.range)
 have B:=hideS (fun h=>mf a f m j h c)
 have o:=hideS (fun h=>mf b g k n h d)
 have r:=c.range;have q:=d.range;obtain⟨E,F⟩:=r;obtain⟨G,D⟩:=q;have x:=Og c.1.1 c.1.2.1 c.year.1 c.year.2;have u:=Og d.1.1 d.1.2.1 d.year.1 d.year.2;obtain⟨p,t⟩:=x;obtain⟨y,z⟩:=u;have s:=Ky f a;have v:=Ky g b;clear c d;obtain⟨R,l⟩:∃ R,re g b - re f a=R:=⟨_,rfl⟩;have A:Hid (366*(b - a) - (ldI g b - ldI f a)=R):=by show _=_;omega
 rw [l];clear s v l;generalize ldI f a=X at *
 generalize ldI g b=Y at *
 go_enter Tryz.func153,Tryz.ntmps153
 go_wp2_with (first | (go_at_call 152;refine (C.out _).mono ?_;rintro e i ⟨rfl,rfl⟩) | (go_at_call_of 169 (Value.int IntKind.i64 b);refine (o.out _).mono ?_;rintro e i ⟨rfl,rfl⟩) | (go_at_call_of 169 (Value.int IntKind.i64 a);refine (B.out _).mono ?_;rintro e i ⟨rfl,rfl⟩))
 go_ret2
 have e:=A.out;rw [show 366*(b - a - (Y - X))+365*(Y - X)=R by omega]
 exact⟨rfl,rfl⟩
theorem zo (a b:Int) (w:World) (c:a<=b) (h:¬ (ap a/\ap b)) :
  Calls Tryz.prog 153 #[.int .i64 a,.int .i64 b] w fun e d=>e=.returned (.tuple #[.int .i64 0,.int .i64 51])/\d=w:=by
 have g:=hideS (fun f=>tS a b f c h)
 clear c h
 go_enter Tryz.func153,Tryz.ntmps153
 go_wp2_with (go_at_call 152;refine (g.out _).mono ?_;rintro e d ⟨rfl,rfl⟩)
 go_ret2
 exact⟨rfl,rfl⟩
theorem mh (a b L k j h l i g c f:Int) (w:World) (m:IsD a k j h) (n:IsD b l i g) (I:min h 30=c) (s:(c=30/\min g 30=f)\/(c≠30/\min g L=f)) (S:L=30\/L=31) :
  Calls Tryz.prog 154 #[.int .i64 a,.int .i64 b,.int .i64 L] w fun e d=>e=.returned (.tuple #[.int .i64 (360*(l - k)+30*(i - j)+f - c),.int .i64 0])/\d=w:=by
 have r:=hideS (fun o=>gS a k j h o m)
 have q:=hideS (fun o=>gS b l i g o n)
 obtain⟨Q,z,P,E,A,t⟩:=m.1;obtain⟨F,M,G,C,R,u⟩:=n.1;have x:=js k j;have y:=js l i;have B:c<=30:=by omega
 have N:1<=c:=by omega
 have O:f<=31:=by omega
 have D:1<=f:=by omega
 have K:h<=31:=by omega
 have J:g<=31:=by omega
 clear m n x y t u;rcases s with⟨p,v⟩| ⟨p,v⟩
 ·subst p
  go_enter Tryz.func154,Tryz.ntmps154
  go_wp2_with (first | (go_at_call_of 170 (Value.int IntKind.i64 a);refine (r.out _).mono ?_;rintro e d ⟨rfl,rfl⟩) | (go_at_call_of 170 (Value.int IntKind.i64 b);refine (q.out _).mono ?_;rintro e d ⟨rfl,rfl⟩))
  go_ret2
  exact⟨rfl,rfl⟩
 ·have H:(c==30)=false:=beq_false_of_ne p
  go_enter Tryz.func154,Tryz.ntmps154
  go_wp2_with (first | (go_at_call_of 170 (Value.int IntKind.i64 a);refine (r.out _).mono ?_;rintro e d ⟨rfl,rfl⟩) | (go_at_call_of 170 (Value.int IntKind.i64 b);refine (q.out _).mono ?_;rintro e d ⟨rfl,rfl⟩))
  go_ret2
  exact⟨rfl,rfl⟩
theorem nT (kind a b L j i c f d g:Int) (w:World) (m:IsD a j i c) (l:IsD b f d g) (k:(kind=4/\L=31)\/(kind=5/\L=30)) :
  Calls Tryz.prog 154 #[.int .i64 a,.int .i64 b,.int .i64 L] w fun e o=>e=.returned (.tuple #[.int .i64 (rd kind j i c f d g),.int .i64 0])/\o=w:=by
 have q:g<=31:=by have:=l.1.2.2.2.2.2;have:=js f d;omega
 by_cases h:min c 30=30
 ·have e:rd kind j i c f d g=360*(f - j)+30*(d - i)+min g 30 - min c 30:=by
   unfold rd;rw [if_pos (Or.inr h)]
  rw [e];exact mh a b L j i c f d g _ _ w m l rfl (Or.inl ⟨h,rfl⟩) (by omega)
 ·have e:rd kind j i c f d g=360*(f - j)+30*(d - i)+min g L - min c 30:=by
   unfold rd;rcases k with⟨p,k⟩| ⟨n,k⟩
   ·rw [if_neg (by omega)];omega
   ·rw [if_pos (Or.inl n),k]
  rw [e];exact mh a b L j i c f d g _ _ w m l rfl (Or.inr ⟨h,rfl⟩) (by omega)
theorem mj (a b L:Int) (w:World) (h:¬ (ap a/\ap b)) :
  Calls Tryz.prog 154 #[.int .i64 a,.int .i64 b,.int .i64 L] w fun e f=>e=.returned (.tuple #[.int .i64 0,.int .i64 51])/\f=w:=by
 by_cases c:ap a
 ·obtain⟨j,m,l,i⟩:=iJ c.1 c.2;have g:=hideS (fun d=>gS a j m l d i)
  have k:=hideS (fun d=>tR b d (fun n=>h ⟨c,n⟩))
  clear h c i
  go_enter Tryz.func154,Tryz.ntmps154
  go_wp2_with (first | (go_at_call_of 170 (Value.int IntKind.i64 a);refine (g.out _).mono ?_;rintro e f ⟨rfl,rfl⟩) | (go_at_call_of 170 (Value.int IntKind.i64 b);refine (k.out _).mono ?_;rintro e f ⟨rfl,rfl⟩))
  go_ret2
  exact⟨rfl,rfl⟩
 ·have g:=hideS (fun d=>tR a d c)
  clear h c
  go_enter Tryz.func154,Tryz.ntmps154
  go_wp2_with (go_at_call 170;refine (g.out _).mono ?_;rintro e f ⟨rfl,rfl⟩)
  go_ret2
  exact⟨rfl,rfl⟩
end Go.Proofs.YtfdddijdjpijbaaGreat
