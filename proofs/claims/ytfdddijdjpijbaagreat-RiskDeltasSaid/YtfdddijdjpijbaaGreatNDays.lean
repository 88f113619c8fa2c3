/-  -/
import Derived.Test.YtfdddijdjpijbaaGreatHal
import Derived.Lib.MinMax
set_option maxHeartbeats 1600000
namespace Go.Proofs.YtfdddijdjpijbaaGreat
open Go.RowKit
theorem zQ (a b:Int) (w:World) (f:an a) (c:an b) :
  Calls Tryz.prog 152 #[.int .i64 a,.int .i64 b] w fun e d=>e=.returned (.tuple #[.int .i64 (b - a),.int .i64 0])/\d=w:=by
 obtain⟨g,h⟩:=f;obtain⟨i,j⟩:=c
 go_enter Tryz.func152,Tryz.ntmps152
 go_wp2_with fail
 go_ret2
 exact⟨rfl,rfl⟩
theorem ut (a b:Int) (w:World) (c:a<=b) (h:¬ (an a/\an b)) :
  Calls Tryz.prog 152 #[.int .i64 a,.int .i64 b] w fun e d=>e=.returned (.tuple #[.int .i64 0,.int .i64 51])/\d=w:=by
 unfold an at h
 rcases (show a<0\/(0<=a/\109572<b) by omega) with f | ⟨f,g⟩
 all_goals
  clear h c
  go_enter Tryz.func152,Tryz.ntmps152
  go_wp2_with fail
  go_ret2
  exact⟨rfl,rfl⟩
def ldI (y n:Int):Int:=366*(nyI y - 365*(y - 1900))+(if leapB y then n - nyI y else 0)
theorem Ld (y n:Int):366*n - ldI y n=rx y n:=by
 unfold ldI rx lpI;cases leapB y<;>simp<;>omega
theorem OL {y n:Int} (h:1900<=y) (a:y<=2199) (b:nyI y<=n) (f:n<nyI (y+1)):0<=ldI y n/\ldI y n<=1000000:=by
 have c:=nY h;have d:=nZ (y:=y+1) (by omega)
 have e:=nZ (y:=y) (by omega)
 unfold ldI
 split<;>constructor<;>omega
theorem mp (n y m d:Int) (w:World) (h:IsD n y m d) :
  Calls Tryz.prog 169 #[.int .i64 n] w fun e b=>e=.returned (.int .i64 (ldI y n))/\b=w:=by
 have l:=hideS (fun a=>ie n y m d a h)
 obtain⟨r,t⟩:=h.range;obtain⟨c,o,_,_,_,_⟩:=h.1;have f:=h.year;have k:okD y 1 1:=⟨c,o,by omega,by omega,by omega,by have:=jA y 1;omega⟩
 have j:aW y 1 1=nyI y:=by unfold aW;rw [fy];omega
 have p:=hideS (fun a=>by have:=nv y 1 1 a k;rw [j] at this;exact this)
 have i:=hideS (fun a=>zI y a)
 have u:=nY c;have s:=nZ (y:=y) (by omega)
 have q:=f.1;clear h k j f;unfold ldI;generalize nyI y=N at *
 cases g:leapB y
 all_goals
  rw [g] at i
  clear g
  go_enter Tryz.func169,Tryz.ntmps169
  go_wp2_with (first | (go_at_call 170;refine (l.out _).mono ?_;rintro e b ⟨rfl,rfl⟩) | (go_at_call 187;refine (p.out _).mono ?_;rintro e b ⟨rfl,rfl⟩) | (go_at_call 188;refine (i.out _).mono ?_;rintro e b ⟨rfl,rfl⟩))
  go_ret
  refine⟨?_,rfl⟩
  simp
  try omega
theorem Cn (a b f n k g l j:Int) (w:World) (c:IsD a f n k) (d:IsD b g l j) :
  Calls Tryz.prog 153 #[.int .i64 a,.int .i64 b] w fun e i=>e=.returned (.tuple #[.int .i64 (rx g b - rx f a),.int .i64 0])/\i=w:=by
 have B:=hideS (fun h=>zQ a b h c.range d.range)
 have C:=hideS (fun h=>mp a f n k h c)
 have y:=hideS (fun h=>mp b g l j h d)
 have v:=c.range;have u:=d.range;obtain⟨D,E⟩:=v;obtain⟨F,G⟩:=u;have t:=OL c.1.1 c.1.2.1 c.year.1 c.year.2;have p:=OL d.1.1 d.1.2.1 d.year.1 d.year.2;obtain⟨A,x⟩:=t;obtain⟨z,o⟩:=p;have q:=Ld f a;have r:=Ld g b;clear c d;obtain⟨R,m⟩:∃ R,rx g b - rx f a=R:=⟨_,rfl⟩;have s:Hid (366*(b - a) - (ldI g b - ldI f a)=R):=by show _=_;omega
 rw [m];clear q r m;generalize ldI f a=X at *
 generalize ldI g b=Y at *
 go_enter Tryz.func153,Tryz.ntmps153
 go_wp2_with (first | (go_at_call 152;refine (B.out _).mono ?_;rintro e i ⟨rfl,rfl⟩) | (go_at_call_of 169 (Value.int IntKind.i64 b);refine (y.out _).mono ?_;rintro e i ⟨rfl,rfl⟩) | (go_at_call_of 169 (Value.int IntKind.i64 a);refine (C.out _).mono ?_;rintro e i ⟨rfl,rfl⟩))
 go_ret2
 have e:=s.out;rw [show 366*(b - a - (Y - X))+365*(Y - X)=R by omega]
 exact⟨rfl,rfl⟩
theorem zR (a b:Int) (w:World) (c:a<=b) (h:¬ (an a/\an b)) :
  Calls Tryz.prog 153 #[.int .i64 a,.int .i64 b] w fun e d=>e=.returned (.tuple #[.int .i64 0,.int .i64 51])/\d=w:=by
 have f:=hideS (fun g=>ut a b g c h)
 clear c h
 go_enter Tryz.func153,Tryz.ntmps153
 go_wp2_with (go_at_call 152;refine (f.out _).mono ?_;rintro e d ⟨rfl,rfl⟩)
 go_ret2
 exact⟨rfl,rfl⟩
theorem mq (a b L h l j i k d c f:Int) (w:World) (n:IsD a h l j) (o:IsD b i k d) (E:min j 30=c) (u:(c=30/\min d 30=f)\/(c≠30/\min d L=f)) (P:L=30\/L=31) :
  Calls Tryz.prog 154 #[.int .i64 a,.int .i64 b,.int .i64 L] w fun e g=>e=.returned (.tuple #[.int .i64 (360*(i - h)+30*(k - l)+f - c),.int .i64 0])/\g=w:=by
 have r:=hideS (fun m=>ie a h l j m n)
 have q:=hideS (fun m=>ie b i k d m o)
 obtain⟨A,B,J,F,D,y⟩:=n.1;obtain⟨S,Q,z,O,H,t⟩:=o.1;have s:=jB h l;have v:=jB i k;have C:c<=30:=by omega
 have N:1<=c:=by omega
 have I:f<=31:=by omega
 have K:1<=f:=by omega
 have R:j<=31:=by omega
 have G:d<=31:=by omega
 clear n o s v y t;rcases u with⟨p,x⟩| ⟨p,x⟩
 ·subst p
  go_enter Tryz.func154,Tryz.ntmps154
  go_wp2_with (first | (go_at_call_of 170 (Value.int IntKind.i64 a);refine (r.out _).mono ?_;rintro e g ⟨rfl,rfl⟩) | (go_at_call_of 170 (Value.int IntKind.i64 b);refine (q.out _).mono ?_;rintro e g ⟨rfl,rfl⟩))
  go_ret2
  exact⟨rfl,rfl⟩
 ·have M:(c==30)=false:=beq_false_of_ne p
  go_enter Tryz.func154,Tryz.ntmps154
  go_wp2_with (first | (go_at_call_of 170 (Value.int IntKind.i64 a);refine (r.out _).mono ?_;rintro e g ⟨rfl,rfl⟩) | (go_at_call_of 170 (Value.int IntKind.i64 b);refine (q.out _).mono ?_;rintro e g ⟨rfl,rfl⟩))
  go_ret2
  exact⟨rfl,rfl⟩
theorem oc (kind a b L i j f c g d:Int) (w:World) (m:IsD a i j f) (l:IsD b c g d) (k:(kind=4/\L=31)\/(kind=5/\L=30)) :
  Calls Tryz.prog 154 #[.int .i64 a,.int .i64 b,.int .i64 L] w fun e n=>e=.returned (.tuple #[.int .i64 (rv kind i j f c g d),.int .i64 0])/\n=w:=by
 have q:d<=31:=by have:=l.1.2.2.2.2.2;have:=jB c g;omega
 by_cases h:min f 30=30
 ·have e:rv kind i j f c g d=360*(c - i)+30*(g - j)+min d 30 - min f 30:=by
   unfold rv;rw [if_pos (Or.inr h)]
  rw [e];exact mq a b L i j f c g d _ _ w m l rfl (Or.inl ⟨h,rfl⟩) (by omega)
 ·have e:rv kind i j f c g d=360*(c - i)+30*(g - j)+min d L - min f 30:=by
   unfold rv;rcases k with⟨p,k⟩| ⟨o,k⟩
   ·rw [if_neg (by omega)];omega
   ·rw [if_pos (Or.inl o),k]
  rw [e];exact mq a b L i j f c g d _ _ w m l rfl (Or.inr ⟨h,rfl⟩) (by omega)
theorem mr (a b L:Int) (w:World) (h:¬ (an a/\an b)) :
  Calls Tryz.prog 154 #[.int .i64 a,.int .i64 b,.int .i64 L] w fun e f=>e=.returned (.tuple #[.int .i64 0,.int .i64 51])/\f=w:=by
 by_cases c:an a
 ·obtain⟨l,m,n,i⟩:=iQ c.1 c.2;have g:=hideS (fun d=>ie a l m n d i)
  have k:=hideS (fun d=>us b d (fun j=>h ⟨c,j⟩))
  clear h c i
  go_enter Tryz.func154,Tryz.ntmps154
  go_wp2_with (first | (go_at_call_of 170 (Value.int IntKind.i64 a);refine (g.out _).mono ?_;rintro e f ⟨rfl,rfl⟩) | (go_at_call_of 170 (Value.int IntKind.i64 b);refine (k.out _).mono ?_;rintro e f ⟨rfl,rfl⟩))
  go_ret2
  exact⟨rfl,rfl⟩
 ·have g:=hideS (fun d=>us a d c)
  clear h c
  go_enter Tryz.func154,Tryz.ntmps154
  go_wp2_with (go_at_call 170;refine (g.out _).mono ?_;rintro e f ⟨rfl,rfl⟩)
  go_ret2
  exact⟨rfl,rfl⟩
end Go.Proofs.YtfdddijdjpijbaaGreat
