/-  -/
import Derived.Test.YtfdddijdjpijbaaGreatHal
import Derived.Lib.MinMax
set_option maxHeartbeats 1600000
namespace Go.Proofs.YtfdddijdjpijbaaGreat
open Go.RowKit
theorem zm (a b:Int) (w:World) (c:ap a) (f:ap b) :
  Calls Tryz.prog 152 #[.int .i64 a,.int .i64 b] w fun e d=>e=.returned (.tuple #[.int .i64 (b - a),.int .i64 0])/\d=w:=by
 obtain⟨g,h⟩:=c;obtain⟨j,i⟩:=f
 go_enter Tryz.func152,Tryz.ntmps152
 go_wp2_with fail
 go_ret2
 exact⟨rfl,rfl⟩
theorem tS (a b:Int) (w:World) (c:a<=b) (h:¬ (ap a/\ap b)) :
  Calls Tryz.prog 152 #[.int .i64 a,.int .i64 b] w fun e d=>e=.returned (.tuple #[.int .i64 0,.int .i64 51])/\d=w:=by
 unfold ap at h
 rcases (show a<0\/(0<=a/\109572<b) by omega) with f | ⟨f,g⟩
 all_goals
  clear h c
  go_enter Tryz.func152,Tryz.ntmps152
  go_wp2_with fail
  go_ret2
  exact⟨rfl,rfl⟩
def ldI (y n:Int):Int:=366*(nyI y - 365*(y - 1900))+(if leapB y then n - nyI y else 0)
theorem Ky (y n:Int):366*n - ldI y n=re y n:=by
 unfold ldI re lpI;cases leapB y<;>simp<;>omega
theorem Og {y n:Int} (h:1900<=y) (e:y<=2199) (f:nyI y<=n) (a:n<nyI (y+1)):0<=ldI y n/\ldI y n<=1000000:=by
 have c:=nP h;have b:=nQ (y:=y+1) (by omega)
 have d:=nQ (y:=y) (by omega)
 unfold ldI
 split<;>constructor<;>omega
theorem mf (n y m d:Int) (w:World) (h:IsD n y m d) :
  Calls Tryz.prog 169 #[.int .i64 n] w fun e b=>e=.returned (.int .i64 (ldI y n))/\b=w:=by
 have q:=hideS (fun a=>gS n y m d a h)
 obtain⟨s,u⟩:=h.range;obtain⟨i,o,_,_,_,_⟩:=h.1;have c:=h.year;have f:okD y 1 1:=⟨i,o,by omega,by omega,by omega,by have:=jr y 1;omega⟩
 have k:aX y 1 1=nyI y:=by unfold aX;rw [eU];omega
 have p:=hideS (fun a=>by have:=mZ y 1 1 a f;rw [k] at this;exact this)
 have g:=hideS (fun a=>zd y a)
 have r:=nP i;have t:=nQ (y:=y) (by omega)
 have l:=c.1;clear h f k c;unfold ldI;generalize nyI y=N at *
 cases j:leapB y
 all_goals
  rw [j] at g
  clear j
  go_enter Tryz.func169,Tryz.ntmps169
  go_wp2_with (first | (go_at_call 170;refine (q.out _).mono ?_;rintro e b ⟨rfl,rfl⟩) | (go_at_call 187;refine (p.out _).mono ?_;rintro e b ⟨rfl,rfl⟩) | (go_at_call 188;refine (g.out _).mono ?_;rintro e b ⟨rfl,rfl⟩))
  go_ret
  refine⟨?_,rfl⟩
  simp
  try omega
theorem BQ (a b f k l g n j:Int) (w:World) (d:IsD a f k l) (c:IsD b g n j) :
  Calls Tryz.prog 153 #[.int .i64 a,.int .i64 b] w fun e i=>e=.returned (.tuple #[.int .i64 (re g b - re f a),.int .i64 0])/\i=w:=by
 have v:=hideS (fun h=>zm a b h d.range c.range)
 have r:=hideS (fun h=>mf a f k l h d)
 have q:=hideS (fun h=>mf b g n j h c)
 have C:=d.range;have x:=c.range;obtain⟨D,E⟩:=C;obtain⟨G,F⟩:=x;have s:=Og d.1.1 d.1.2.1 d.year.1 d.year.2;have z:=Og c.1.1 c.1.2.1 c.year.1 c.year.2;obtain⟨t,y⟩:=s;obtain⟨A,p⟩:=z;have B:=Ky f a;have o:=Ky g b;clear d c;obtain⟨R,m⟩:∃ R,re g b - re f a=R:=⟨_,rfl⟩;have u:Hid (366*(b - a) - (ldI g b - ldI f a)=R):=by show _=_;omega
 rw [m];clear B o m;generalize ldI f a=X at *
 generalize ldI g b=Y at *
 go_enter Tryz.func153,Tryz.ntmps153
 go_wp2_with (first | (go_at_call 152;refine (v.out _).mono ?_;rintro e i ⟨rfl,rfl⟩) | (go_at_call_of 169 (Value.int IntKind.i64 b);refine (q.out _).mono ?_;rintro e i ⟨rfl,rfl⟩) | (go_at_call_of 169 (Value.int IntKind.i64 a);refine (r.out _).mono ?_;rintro e i ⟨rfl,rfl⟩))
 go_ret2
 have e:=u.out;rw [show 366*(b - a - (Y - X))+365*(Y - X)=R by omega]
 exact⟨rfl,rfl⟩
theorem zo (a b:Int) (w:World) (c:a<=b) (h:¬ (ap a/\ap b)) :
  Calls Tryz.prog 153 #[.int .i64 a,.int .i64 b] w fun e d=>e=.returned (.tuple #[.int .i64 0,.int .i64 51])/\d=w:=by
 have f:=hideS (fun g=>tS a b g c h)
 clear c h
 go_enter Tryz.func153,Tryz.ntmps153
 go_wp2_with (go_at_call 152;refine (f.out _).mono ?_;rintro e d ⟨rfl,rfl⟩)
 go_ret2
 exact⟨rfl,rfl⟩
theorem mh (a b L j h i k l d c g:Int) (w:World) (o:IsD a j h i) (n:IsD b k l d) (O:min i 30=c) (s:(c=30/\min d 30=g)\/(c≠30/\min d L=g)) (E:L=30\/L=31) :
  Calls Tryz.prog 154 #[.int .i64 a,.int .i64 b,.int .i64 L] w fun e f=>e=.returned (.tuple #[.int .i64 (360*(k - j)+30*(l - h)+g - c),.int .i64 0])/\f=w:=by
 have r:=hideS (fun p=>gS a j h i p o)
 have q:=hideS (fun p=>gS b k l d p n)
 obtain⟨M,J,F,D,H,y⟩:=o.1;obtain⟨P,Q,S,C,B,u⟩:=n.1;have t:=js j h;have x:=js k l;have I:c<=30:=by omega
 have z:1<=c:=by omega
 have R:g<=31:=by omega
 have N:1<=g:=by omega
 have A:i<=31:=by omega
 have K:d<=31:=by omega
 clear o n t x y u;rcases s with⟨m,v⟩| ⟨m,v⟩
 ·subst m
  go_enter Tryz.func154,Tryz.ntmps154
  go_wp2_with (first | (go_at_call_of 170 (Value.int IntKind.i64 a);refine (r.out _).mono ?_;rintro e f ⟨rfl,rfl⟩) | (go_at_call_of 170 (Value.int IntKind.i64 b);refine (q.out _).mono ?_;rintro e f ⟨rfl,rfl⟩))
  go_ret2
  exact⟨rfl,rfl⟩
 ·have G:(c==30)=false:=beq_false_of_ne m
  go_enter Tryz.func154,Tryz.ntmps154
  go_wp2_with (first | (go_at_call_of 170 (Value.int IntKind.i64 a);refine (r.out _).mono ?_;rintro e f ⟨rfl,rfl⟩) | (go_at_call_of 170 (Value.int IntKind.i64 b);refine (q.out _).mono ?_;rintro e f ⟨rfl,rfl⟩))
  go_ret2
  exact⟨rfl,rfl⟩
theorem nT (kind a b L j i d f g c:Int) (w:World) (m:IsD a j i d) (l:IsD b f g c) (k:(kind=4/\L=31)\/(kind=5/\L=30)) :
  Calls Tryz.prog 154 #[.int .i64 a,.int .i64 b,.int .i64 L] w fun e o=>e=.returned (.tuple #[.int .i64 (rd kind j i d f g c),.int .i64 0])/\o=w:=by
 have q:c<=31:=by have:=l.1.2.2.2.2.2;have:=js f g;omega
 by_cases h:min d 30=30
 ·have e:rd kind j i d f g c=360*(f - j)+30*(g - i)+min c 30 - min d 30:=by
   unfold rd;rw [if_pos (Or.inr h)]
  rw [e];exact mh a b L j i d f g c _ _ w m l rfl (Or.inl ⟨h,rfl⟩) (by omega)
 ·have e:rd kind j i d f g c=360*(f - j)+30*(g - i)+min c L - min d 30:=by
   unfold rd;rcases k with⟨p,k⟩| ⟨n,k⟩
   ·rw [if_neg (by omega)];omega
   ·rw [if_pos (Or.inl n),k]
  rw [e];exact mh a b L j i d f g c _ _ w m l rfl (Or.inr ⟨h,rfl⟩) (by omega)
theorem mj (a b L:Int) (w:World) (h:¬ (ap a/\ap b)) :
  Calls Tryz.prog 154 #[.int .i64 a,.int .i64 b,.int .i64 L] w fun e f=>e=.returned (.tuple #[.int .i64 0,.int .i64 51])/\f=w:=by
 by_cases c:ap a
 ·obtain⟨k,l,j,i⟩:=iJ c.1 c.2;have g:=hideS (fun d=>gS a k l j d i)
  have m:=hideS (fun d=>tR b d (fun n=>h ⟨c,n⟩))
  clear h c i
  go_enter Tryz.func154,Tryz.ntmps154
  go_wp2_with (first | (go_at_call_of 170 (Value.int IntKind.i64 a);refine (g.out _).mono ?_;rintro e f ⟨rfl,rfl⟩) | (go_at_call_of 170 (Value.int IntKind.i64 b);refine (m.out _).mono ?_;rintro e f ⟨rfl,rfl⟩))
  go_ret2
  exact⟨rfl,rfl⟩
 ·have g:=hideS (fun d=>tR a d c)
  clear h c
  go_enter Tryz.func154,Tryz.ntmps154
  go_wp2_with (go_at_call 170;refine (g.out _).mono ?_;rintro e f ⟨rfl,rfl⟩)
  go_ret2
  exact⟨rfl,rfl⟩
end Go.Proofs.YtfdddijdjpijbaaGreat
