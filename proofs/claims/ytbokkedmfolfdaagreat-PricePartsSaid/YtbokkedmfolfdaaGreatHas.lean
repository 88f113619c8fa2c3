/-  -/
import Derived.Test.YtbokkedmfolfdaaGreatHar
import Derived.Test.YtbokkedmfolfdaaGreatHal
import Derived.Test.YtbokkedmfolfdaaGreatHaj
import Derived.Test.YtbokkedmfolfdaaGreatHak
namespace Go.Proofs.YtbokkedmfolfdaaGreat
open Go.RowKit

theorem rl (x:Nat) (h:U64 x):∃ y:Nat,(∀ w,Calls Tryz.prog 102 #[.float .f64 x] w fun e w'=>e=.returned (.float .f64 y)∧Below w.heap.size w w')∧y<18446744073709551616∧(af (x:Int)=true→af (y:Int)=true)∧(af (x:Int)=false→y≤9218868437227405312):=by
 have hx64:x<18446744073709551616:=by have:=h.2;omega
 cases hn:af (x:Int) with
 | true=>exact⟨x,fun w=>iK (wE x w h hn),hx64,fun _=>hn,fun a=>by cases a⟩
 | false=>
  have u1:U64 ((4649456441864749056:Nat):Int):=by unfold U64;omega
  have u2:U64 ((13873145138068324352:Nat):Int):=by unfold U64;omega
  have n1:af ((4649456441864749056:Nat):Int)=false:=by decide+kernel
  have n2:af ((13873145138068324352:Nat):Int)=false:=by decide+kernel
  have g1:=eM h u1 hn n1
  have e1:=cC h u1 hn n1
  have g2:=eE h u2 hn n2
  have e2:=cC h u2 hn n2
  have r1:aa ((4649456441864749056:Nat):Int)=4649456441864749056:=by decide+kernel
  have r2:aa ((13873145138068324352:Nat):Int)= -4649773101213548544:=by decide+kernel
  rw [r1] at g1 e1
  rw [r2] at g2 e2
  by_cases c1:4649456441864749056≤aa (x:Int)
  ·refine⟨9218868437227405312,fun w=>iK (xK x _ _ w h hn g1 e1 ?_),by decide,fun a=>(by cases a),fun _=>Nat.le_refl _⟩
   ·simp only [Bool.or_eq_true,decide_eq_true_eq];omega
  have f1:(FloatKind.f64.format.order x 4649456441864749056==some .gt)=false:=by rw [g1,decide_eq_false_iff_not];omega
  have f2:(FloatKind.f64.format.order x 4649456441864749056==some .eq)=false:=by rw [e1,decide_eq_false_iff_not];omega
  by_cases c2:aa (x:Int)≤-4649773101213548544
  ·refine⟨0,fun w=>iK (xM x _ _ w h hn f1 f2 g2 e2 ?_),by decide,fun a=>(by cases a),fun _=>Nat.zero_le _⟩
   ·simp only [Bool.or_eq_true,decide_eq_true_eq];omega
  have f3:(FloatKind.f64.format.order x 13873145138068324352==some .lt)=false:=by rw [g2,decide_eq_false_iff_not];omega
  have f4:(FloatKind.f64.format.order x 13873145138068324352==some .eq)=false:=by rw [e2,decide_eq_false_iff_not];omega
  obtain⟨K,g,hs⟩:=yN
  have hxn:ab x:=by
   have hl:=bX hn
   rw [← aO hx64 hn] at c1 c2
   unfold ab
   unfold sgn at c1 c2
   generalize x % 9223372036854775808=r at *
   generalize (x / 9223372036854775808 % 2==1)=s at c1 c2
   cases s<;>simp only [Bool.false_eq_true,if_true,if_false] at c1 c2<;>omega
  obtain⟨w1,w2,w3⟩:=eO hs (m:=710) (by decide) (by decide)
  obtain⟨v1,v2,v3⟩:=eO hs (m:=-746) (by decide) (by decide)
  rw [yW] at w1 w2 w3
  rw [yX] at v1 v2 v3
  have b1:=iJ hxn w2 hx64 w3 (by rw [r1];omega)
  have b2:=iJ v2 hxn v3 hx64 (by rw [r2];omega)
  rw [w1] at b1
  rw [v1] at b2
  obtain⟨y,t,hi,lo,d,r,k,q1,q2,tn,q3,kf1,kf2,k1,k2,q4,q5,q6,q7,rn,_,r1,r2⟩:=rd hs hxn (by omega) (by omega)
  obtain⟨p,p0,pn,p64,pv⟩:=tP hs rn r1 r2
  obtain⟨s1,s2,s3,s4⟩:=xN pn p64 pv
  exact⟨aw (ar p) (aB p+k),fun w=>wF x y t (fi k) hi lo d r p k w h hn f1 f2 f3 f4 q1 q2 (fun w=>tJ t _ w tn q3) q4 q5 q6 q7 p0 (aI p64) (tR k1 k2) ⟨k1,k2⟩ ⟨s3,s4⟩ (wG s1 s2),tT _ _,fun a=>(by cases a),fun _=>tQ s1⟩

structure LnOne (x:Nat) (o:Option Nat):Prop where
 prog:∀ w,Calls Tryz.prog 103 #[.float .f64 x] w fun e w'=>∃ y,e=.returned (.float .f64 y)∧Ag o y∧Below w.heap.size w w'
 lt:cn o<18446744073709551616
 nan:af (x:Int)=true→o=none
 fin:ab x→sB x=false→x % 9223372036854775808≠0→∃ y,o=some y∧ab y
theorem mp {x:Nat} {y:Nat} (hp:∀ w,Calls Tryz.prog 103 #[.float .f64 x] w fun e w'=>e=.returned (.float .f64 y)∧w'=w) (hy:U64 (y:Int)) (hn:af (x:Int)=false) (hc:¬ (ab x∧x % 9223372036854775808≠0)):LnOne x (some y):=
 ⟨fun w=>(hp w).mono fun _ _ ⟨a,b⟩=>⟨y,a,rfl,by rw [b];exact Below.refl _ _⟩,by have:=hy.2;rw [ax];omega,fun a=>(by rw [hn] at a;cases a),fun a _ b=>absurd ⟨a,b⟩ hc⟩
theorem kh {x:Nat} {y:Nat} (hp:∀ w,Calls Tryz.prog 103 #[.float .f64 x] w fun e w'=>e=.returned (.float .f64 y)∧w'=w) (hn:af (y:Int)=true:=by first | assumption | decide) (hy:y<18446744073709551616:=by first | assumption | decide) (hc:ab x→sB x=true):LnOne x none:=
 ⟨fun w=>(hp w).mono fun _ _ ⟨a,b⟩=>⟨y,a,⟨hn,hy⟩,by rw [b];exact Below.refl _ _⟩,by rw [kH];omega,fun _=>rfl,fun a b _=>by rw [hc a] at b;cases b⟩

theorem uc (x:Nat) (h:U64 x):∃ o,LnOne x o:=by
 have hx64:x<18446744073709551616:=by have:=h.2;omega
 cases hn:af (x:Int) with
 | true=>exact⟨none,kh (fun w=>xO x w h hn) (hc:=fun a=>by rw [dK a] at hn;cases hn)⟩
 | false=>
  have z0:U64 ((0:Nat):Int):=by unfold U64;omega
  have o1:=eE h z0 hn (by decide)
  have o2:=cC h z0 hn (by decide)
  have hr0:aa ((0:Nat):Int)=0:=by decide
  rw [hr0] at o1 o2
  have hrk:=aO hx64 hn
  have hl:=bX hn
  by_cases hz:x % 9223372036854775808=0
  ·have hrz:aa (x:Int)=0:=by rw [← hrk,hz];unfold sgn;split<;>rfl
   refine⟨some 18442240474082181120,mp (fun w=>wK x w h hn ?_ ?_) (by unfold U64;omega) hn (fun a=>a.2 hz)⟩
   ·rw [o1,hrz];rfl
   ·rw [o2,hrz];rfl
  ·cases hs:sB x with
   | true=>
    have hneg:aa (x:Int)<0:=by
     rw [← hrk]
     have hs':(x / 9223372036854775808 % 2==1)=true:=hs
     rw [hs'];unfold sgn;simp;omega
    refine⟨none,kh (fun w=>xP x w h hn ?_) (hc:=fun _=>hs)⟩
    rw [o1];exact decide_eq_true hneg
   | false=>
    have hs':(x / 9223372036854775808 % 2==1)=false:=hs
    have hpos:aa (x:Int)=((x % 9223372036854775808:Nat):Int):=by rw [← hrk,hs'];rfl
    have a1:(FloatKind.f64.format.order x 0==some .lt)=false:=by rw [o1,hpos,decide_eq_false_iff_not];omega
    have a2:(FloatKind.f64.format.order x 0==some .eq)=false:=by rw [o2,hpos,decide_eq_false_iff_not];omega
    have um:U64 ((9218868437227405311:Nat):Int):=by unfold U64;omega
    have o3:=eM h um hn (by decide)
    have hrm:aa ((9218868437227405311:Nat):Int)=9218868437227405311:=by decide
    rw [hrm,hpos] at o3
    by_cases hinf:x % 9223372036854775808=9218868437227405312
    ·refine⟨some x,?_⟩
     refine mp (y:=x) (fun w=>xQ x w h hn a1 a2 ?_) h hn (fun a=>by have:=a.1;unfold ab at this;omega)
     rw [o3];exact decide_eq_true (by omega)
    ·have hxn:ab x:=by unfold ab;omega
     have a3:(FloatKind.f64.format.order x 9218868437227405311==some .gt)=false:=by rw [o3,decide_eq_false_iff_not];omega
     have hN0:mg (x % 9223372036854775808)≠0:=cX hz
     have hpl:pl (x % 9223372036854775808)≤2045:=by unfold pl;omega
     obtain⟨N,hN⟩:∃ N,N=mg (x % 9223372036854775808):=⟨_,rfl⟩
     obtain⟨e,he⟩:∃ e:Int,e= -1074+(pl (x % 9223372036854775808):Int):=⟨_,rfl⟩
     have ho:OfR x false N e:=⟨by rw [hN];exact lC _,by omega,by omega,by rw [hN,he];unfold aV V;congr 2;omega,fun _=>hs.symm,fun _=>⟨hN,he⟩⟩
     rw [← hN] at hN0
     have hlt:=ho.lt
     have hlo:=ho.lo
     have hhi:=ho.hi
     have hlg:N.log2≤52:=by have:=(Nat.log2_lt hN0).2 (show N<2^53 from hlt);omega
     have hk: -2000≤lnK N e∧lnK N e≤2000:=by unfold lnK;split<;>omega
     have hm:=(wM hN0 hlt).1
     have n1:ab 4607182418800017408:=by unfold ab;decide
     have fk:=(yz (a:=lnK N e) rfl (by omega) (by omega)).2.2.1
     have q1:=kD hm n1
     have q2:=gE hm n1
     have q8:=gF fk (show ab 4604418534311723008 by unfold ab;decide)
     have q9:=gF fk (show ab 4461442080421002358 by unfold ab;decide)
     refine⟨_,⟨fun w=>(yP x (lnM N) _ _ _ _ _ (lnK N e) w h hn a1 a2 a3 (fun w=>oc x N e h hxn ho hN0 w) q1 q2 rfl q8 q9).mono ?_,xT (by simp) _ _,fun a=>(by rw [hn] at a;cases a),fun _ _ _=>rk hN0 hlt hk q1 q2 q8 q9⟩⟩
     rintro r w' ⟨y,rfl,hag,hb⟩
     exact⟨y,rfl,hag,hb⟩
end Go.Proofs.YtbokkedmfolfdaaGreat
namespace Go.Proofs.YtbokkedmfolfdaaGreat
open Go.RowKit

structure ExpR (x:Nat) (o:Option Nat):Prop where
 prog:∀ w,Calls Tryz.prog 102 #[.float .f64 x] w fun e w'=>∃ y,e=.returned (.float .f64 y)∧(Ag o y∧y<18446744073709551616)∧Below w.heap.size w w'
 nan:af (x:Int)=true→o=none
 num:af (x:Int)=false→∃ y,o=some y∧y≤9218868437227405312
theorem ud (x:Nat):∃ o,x<18446744073709551616→ExpR x o:=by
 by_cases h:x<18446744073709551616
 ·obtain⟨y,hb,hy,h1,h2⟩:=rl x (aI h)
  cases hn:af (x:Int) with
  | true=>exact⟨none,fun _=>⟨fun w=>(hb w).mono fun _ _ ⟨a,b⟩=>⟨y,a,⟨⟨h1 hn,hy⟩,hy⟩,b⟩,fun _=>rfl,fun a=>by rw [hn] at a;cases a⟩⟩
  | false=>exact⟨some y,fun _=>⟨fun w=>(hb w).mono fun _ _ ⟨a,b⟩=>⟨y,a,⟨rfl,hy⟩,b⟩,fun a=>(by rw [hn] at a;cases a),fun _=>⟨y,rfl,h2 hn⟩⟩⟩
 ·exact⟨none,fun a=>absurd a h⟩
noncomputable def yR (x:Nat):Option Nat:=Classical.choose (ud x)
theorem cP {x:Nat} (h:x<18446744073709551616):ExpR x (yR x):=Classical.choose_spec (ud x) h
structure LnR (x:Nat) (o:Option Nat):Prop where
 prog:∀ w,Calls Tryz.prog 103 #[.float .f64 x] w fun e w'=>∃ y,e=.returned (.float .f64 y)∧(Ag o y∧y<18446744073709551616)∧Below w.heap.size w w'
 lt:cn o<18446744073709551616
 nan:af (x:Int)=true→o=none
 fin:ab x→sB x=false→x % 9223372036854775808≠0→∃ y,o=some y∧ab y
theorem xt (x:Nat):∃ o,x<18446744073709551616→LnR x o:=by
 by_cases h:x<18446744073709551616
 ·obtain⟨o,hb⟩:=uc x (aI h)
  refine⟨o,fun _=>⟨fun w=>(hb.prog w).mono ?_,hb.lt,hb.nan,hb.fin⟩⟩
  rintro _ w' ⟨y,rfl,hag,hbb⟩
  exact⟨y,rfl,⟨hag,yO hag fun q hq=>by have:=hb.lt;rw [hq,ax] at this;exact this⟩,hbb⟩
 ·exact⟨none,fun a=>absurd a h⟩
noncomputable def lnF (x:Nat):Option Nat:=Classical.choose (xt x)
theorem iN {x:Nat} (h:x<18446744073709551616):LnR x (lnF x):=Classical.choose_spec (xt x) h
def AgU (o:Option Nat) (x:Nat):Prop:=Ag o x∧x<18446744073709551616
theorem iO {x:Nat} (h:x<18446744073709551616):AgU (some x) x:=⟨rfl,h⟩
theorem AgU.u {o:Option Nat} {x:Nat} (h:AgU o x):U64 (x:Int):=aI h.2
theorem ue {x:Nat} (h:x<18446744073709551616):Op.negFloat .f64 x=flipN x:=(show Op.negFloat .f64 x=x^^^9223372036854775808 from rfl).trans (qv h)

theorem pL (op:BinOp) (ho:op=.add∨op=.sub∨op=.mul∨op=.quo) (t:TypeId) {o o':Option Nat} {x y:Nat} (h:AgU o x) (h':AgU o' y) (w:World):∃ r,(∃ q,(binOp op t (.float .f64 x) (.float .f64 y)).run Tryz.prog w=.ok (.float .f64 r) (w.drewN q))∧AgU (opO op o o') r:=by
 obtain⟨r,hr,g⟩:=bD op ho t x y w
 rw [← dx h.1 h'.1] at g
 refine⟨r,hr,g,?_⟩
 cases e:opO op o o' with
 | none=>rw [e] at g;exact (bV g).2
 | some q=>rw [e] at g;rw [bq g];rw [dx h.1 h'.1] at e;exact ic ho e
end Go.Proofs.YtbokkedmfolfdaaGreat
namespace Go.Proofs.YtbokkedmfolfdaaGreat
open Go.RowKit

def endN (x:Nat):Nat:=if aD (x:Int)=true∧szI (x:Int)≠0 then x else 0
end Go.Proofs.YtbokkedmfolfdaaGreat
