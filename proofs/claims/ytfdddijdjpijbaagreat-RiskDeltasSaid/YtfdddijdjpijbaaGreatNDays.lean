/-  -/
import Derived.Test.YtfdddijdjpijbaaGreatHal
import Derived.Lib.MinMax
set_option maxHeartbeats 1600000
namespace Go.Proofs.YtfdddijdjpijbaaGreat
open Go.RowKit
theorem zQ (a b:Int) (w:World) (f:an a) (d:an b) :
  Calls Tryz.prog 152 #[.int .i64 a,.int .i64 b] w fun e c=>e=.returned (.tuple #[.int .i64 (b - a),.int .i64 0])/\c=w:=by
 obtain⟨i,j⟩:=f;obtain⟨g,h⟩:=d
 go_enter Tryz.func152,Tryz.ntmps152
 go_wp2_with fail
 go_ret2
 exact⟨rfl,rfl⟩
theorem ut (a b:Int) (w:World) (c:a<=b) (h:¬ (an a/\an b)) :
  Calls Tryz.prog 152 #[.int .i64 a,.int .i64 b] w fun e d=>e=.returned (.tuple #[.int .i64 0,.int .i64 51])/\d=w:=by
 unfold an at h
 rcases (show a<0\/(0<=a/\109572<b) by omega) with f | ⟨f,g⟩
 all_goals
  clear h c
  go_enter Tryz.func152,Tryz.ntmps152
  go_wp2_with fail
  go_ret2
  exact⟨rfl,rfl⟩
def ldI (y n:Int):Int:=366*(nyI y - 365*(y - 1900))+(if leapB y then n - nyI y else 0)
theorem Ld (y n:Int):366*n - ldI y n=rx y n:=by
 unfold ldI rx lpI;cases leapB y<;>simp<;>omega
theorem OL {y n:Int} (h:1900<=y) (b:y<=2199) (a:nyI y<=n) (e:n<nyI (y+1)):0<=ldI y n/\ldI y n<=1000000:=by
 have f:=nY h;have d:=nZ (y:=y+1) (by omega)
 have c:=nZ (y:=y) (by omega)
 unfold ldI
 split<;>constructor<;>omega
theorem mp (n y m d:Int) (w:World) (h:IsD n y m d) :
  Calls Tryz.prog 169 #[.int .i64 n] w fun e b=>e=.returned (.int .i64 (ldI y n))/\b=w:=by
 have q:=hideS (fun a=>ie n y m d a h)
 obtain⟨r,t⟩:=h.range;obtain⟨c,l,_,_,_,_⟩:=h.1;have f:=h.year;have k:okD y 1 1:=⟨c,l,by omega,by omega,by omega,by have:=jA y 1;omega⟩
 have i:aW y 1 1=nyI y:=by unfold aW;rw [fy];omega
 have p:=hideS (fun a=>by have:=nv y 1 1 a k;rw [i] at this;exact this)
 have j:=hideS (fun a=>zI y a)
 have s:=nY c;have u:=nZ (y:=y) (by omega)
 have o:=f.1;clear h k i f;unfold ldI;generalize nyI y=N at *
 cases g:leapB y
 all_goals
  rw [g] at j
  clear g
  go_enter Tryz.func169,Tryz.ntmps169
  go_wp2_with (first | (go_at_call 170;refine (q.out _).mono ?_;rintro e b ⟨rfl,rfl⟩) | (go_at_call 187;refine (p.out _).mono ?_;rintro e b ⟨rfl,rfl⟩) | (go_at_call 188;refine (j.out _).mono ?_;rintro e b ⟨rfl,rfl⟩))
  go_ret
  refine⟨?_,rfl⟩
  simp
  try omega
theorem Cn (a b f k n g j m:Int) (w:World) (c:IsD a f k n) (d:IsD b g j m) :
  Calls Tryz.prog 153 #[.int .i64 a,.int .i64 b] w fun e i=>e=.returned (.tuple #[.int .i64 (rx g b - rx f a),.int .i64 0])/\i=w:=by
 have s:=hideS (fun h=>zQ a b h c.range d.range)
 have t:=hideS (fun h=>mp a f k n h c)
 have u:=hideS (fun h=>mp b g j m h d)
 have x:=c.range;have C:=d.range;obtain⟨D,G⟩:=x;obtain⟨E,F⟩:=C;have p:=OL c.1.1 c.1.2.1 c.year.1 c.year.2;have z:=OL d.1.1 d.1.2.1 d.year.1 d.year.2;obtain⟨y,q⟩:=p;obtain⟨o,A⟩:=z;have r:=Ld f a;have v:=Ld g b;clear c d;obtain⟨R,l⟩:∃ R,rx g b - rx f a=R:=⟨_,rfl⟩;have B:Hid (366*(b - a) - (ldI g b - ldI f a)=R):=by show _=_;omega
 rw [l];clear r v l;generalize ldI f a=X at *
 generalize ldI g b=Y at *
 go_enter Tryz.func153,Tryz.ntmps153
 go_wp2_with (first | (go_at_call 152;refine (s.out _).mono ?_;rintro e i ⟨rfl,rfl⟩) | (go_at_call_of 169 (Value.int IntKind.i64 b);refine (u.out _).mono ?_;rintro e i ⟨rfl,rfl⟩) | (go_at_call_of 169 (Value.int IntKind.i64 a);refine (t.out _).mono ?_;rintro e i ⟨rfl,rfl⟩))
 go_ret2
 have e:=B.out;rw [show 366*(b - a - (Y - X))+365*(Y - X)=R by omega]
 exact⟨rfl,rfl⟩
theorem zR (a b:Int) (w:World) (c:a<=b) (h:¬ (an a/\an b)) :
  Calls Tryz.prog 153 #[.int .i64 a,.int .i64 b] w fun e d=>e=.returned (.tuple #[.int .i64 0,.int .i64 51])/\d=w:=by
 have f:=hideS (fun g=>ut a b g c h)
 clear c h
 go_enter Tryz.func153,Tryz.ntmps153
 go_wp2_with (go_at_call 152;refine (f.out _).mono ?_;rintro e d ⟨rfl,rfl⟩)
 go_ret2
 exact⟨rfl,rfl⟩
theorem mq (a b L j i k l h g c d:Int) (w:World) (o:IsD a j i k) (p:IsD b l h g) (B:min k 30=c) (t:(c=30/\min g 30=d)\/(c≠30/\min g L=d)) (D:L=30\/L=31) :
  Calls Tryz.prog 154 #[.int .i64 a,.int .i64 b,.int .i64 L] w fun e f=>e=.returned (.tuple #[.int .i64 (360*(l - j)+30*(h - i)+d - c),.int .i64 0])/\f=w:=by
 have r:=hideS (fun n=>ie a j i k n o)
 have q:=hideS (fun n=>ie b l h g n p)
 obtain⟨S,H,z,M,Q,u⟩:=o.1;obtain⟨O,F,R,I,J,s⟩:=p.1;have x:=jB j i;have v:=jB l h;have N:c<=30:=by omega
 have K:1<=c:=by omega
 have A:d<=31:=by omega
 have G:1<=d:=by omega
 have C:k<=31:=by omega
 have E:g<=31:=by omega
 clear o p x v u s;rcases t with⟨m,y⟩| ⟨m,y⟩
 ·subst m
  go_enter Tryz.func154,Tryz.ntmps154
  go_wp2_with (first | (go_at_call_of 170 (Value.int IntKind.i64 a);refine (r.out _).mono ?_;rintro e f ⟨rfl,rfl⟩) | (go_at_call_of 170 (Value.int IntKind.i64 b);refine (q.out _).mono ?_;rintro e f ⟨rfl,rfl⟩))
  go_ret2
  exact⟨rfl,rfl⟩
 ·have P:(c==30)=false:=beq_false_of_ne m
  go_enter Tryz.func154,Tryz.ntmps154
  go_wp2_with (first | (go_at_call_of 170 (Value.int IntKind.i64 a);refine (r.out _).mono ?_;rintro e f ⟨rfl,rfl⟩) | (go_at_call_of 170 (Value.int IntKind.i64 b);refine (q.out _).mono ?_;rintro e f ⟨rfl,rfl⟩))
  go_ret2
  exact⟨rfl,rfl⟩
theorem oc (kind a b L j i f g c d:Int) (w:World) (m:IsD a j i f) (l:IsD b g c d) (k:(kind=4/\L=31)\/(kind=5/\L=30)) :
  Calls Tryz.prog 154 #[.int .i64 a,.int .i64 b,.int .i64 L] w fun e n=>e=.returned (.tuple #[.int .i64 (rv kind j i f g c d),.int .i64 0])/\n=w:=by
 have q:d<=31:=by have:=l.1.2.2.2.2.2;have:=jB g c;omega
 by_cases h:min f 30=30
 ·have e:rv kind j i f g c d=360*(g - j)+30*(c - i)+min d 30 - min f 30:=by
   unfold rv;rw [if_pos (Or.inr h)]
  rw [e];exact mq a b L j i f g c d _ _ w m l rfl (Or.inl ⟨h,rfl⟩) (by omega)
 ·have e:rv kind j i f g c d=360*(g - j)+30*(c - i)+min d L - min f 30:=by
   unfold rv;rcases k with⟨p,k⟩| ⟨o,k⟩
   ·rw [if_neg (by omega)];omega
   ·rw [if_pos (Or.inl o),k]
  rw [e];exact mq a b L j i f g c d _ _ w m l rfl (Or.inr ⟨h,rfl⟩) (by omega)
theorem mr (a b L:Int) (w:World) (h:¬ (an a/\an b)) :
  Calls Tryz.prog 154 #[.int .i64 a,.int .i64 b,.int .i64 L] w fun e f=>e=.returned (.tuple #[.int .i64 0,.int .i64 51])/\f=w:=by
 by_cases c:an a
 ·obtain⟨m,n,j,i⟩:=iQ c.1 c.2;have g:=hideS (fun d=>ie a m n j d i)
  have k:=hideS (fun d=>us b d (fun l=>h ⟨c,l⟩))
  clear h c i
  go_enter Tryz.func154,Tryz.ntmps154
  go_wp2_with (first | (go_at_call_of 170 (Value.int IntKind.i64 a);refine (g.out _).mono ?_;rintro e f ⟨rfl,rfl⟩) | (go_at_call_of 170 (Value.int IntKind.i64 b);refine (k.out _).mono ?_;rintro e f ⟨rfl,rfl⟩))
  go_ret2
  exact⟨rfl,rfl⟩
 ·have g:=hideS (fun d=>us a d c)
  clear h c
  go_enter Tryz.func154,Tryz.ntmps154
  go_wp2_with (go_at_call 170;refine (g.out _).mono ?_;rintro e f ⟨rfl,rfl⟩)
  go_ret2
  exact⟨rfl,rfl⟩
end Go.Proofs.YtfdddijdjpijbaaGreat
