/-  -/
import Derived.Test.YtfdddijdjpijbaaGreatHbh
import Derived.Test.YtfdddijdjpijbaaGreatHaq
import Derived.Test.YtfdddijdjpijbaaGreatHar
set_option maxHeartbeats 800000
namespace Go.Proofs.YtfdddijdjpijbaaGreat.A
open Go.RowKit
theorem vC (u:Int): -9007199254740992<az u/\az u<9007199254740992:=by
 unfold az gz;have:=uK u
 split
 ·split<;>split<;>omega
 ·omega
theorem vD (u:Int): -1074<=aP u/\aP u<=971:=by
 unfold aP kE
 split
 ·rename_i h;simp only [Bool.and_eq_true,ay,decide_eq_true_eq] at h
  have:=uK u
  split<;>omega
 ·omega
theorem IU {a b:St} (h:a.s=b.s) (c:a.N=b.N):a=b:=by
 cases a;cases b;simp_all
theorem tA {a:St} (h:a.Ok) (M:Int):(⟨a.s,if a.s=0 then a.N+M else a.N⟩:St)=a.merge ⟨0,M⟩:=by
 unfold St.merge;have e:mt a.s 0=a.s:=by simp [mt]
 apply IU
 ·exact e.symm
 ·show (if a.s=0 then a.N+M else a.N)=if mt a.s 0=0 then a.N+M else 0
  rw [e]
  by_cases b:a.s=0
  ·rw [if_pos b,if_pos b]
  ·rw [if_neg b,if_neg b,h.n0 b]
theorem EV (a:St) (t:Nat):(⟨mt a.s t,if mt a.s t=0 then a.N else 0⟩:St)=a.merge ⟨t,0⟩:=by
 unfold St.merge;apply IU
 ·rfl
 ·show _=if mt a.s t=0 then a.N+0 else 0
  rw [Int.add_zero]
theorem MT (u:Int):endN u<=3:=by unfold endN;split<;>(try split)<;>omega
theorem vE (w:World) (B:Nat) (b:B<=w.heap.size) :
  Calls Tryz.prog 87 #[] w fun x a=>x=.returned (.pointer (some ⟨w.heap.size,0,none⟩))/\AccAt a B w.heap.size (.slice none 0 0) 0 ⟨0,0⟩ /\Below w.heap.size w a:=by
 have c:Hid (AccAt (w.alloc (.cells #[.int .u8 0,.slice none 0 0] 135)) B w.heap.size (.slice none 0 0) 0 ⟨0,0⟩):=
  ⟨heap_alloc_new w _,b,⟨[],⟨World.ownsRow_nil _ _ _ _,fun i=>by simp⟩,Nat.le_refl _,Io⟩,fun e=>(by cases e),⟨Nat.zero_le _,fun h=>absurd rfl h⟩⟩
 go_enter Tryz.func87,Tryz.ntmps87
 go_wp2
 go_ret
 exact⟨rfl,c.out,(Below.refl _ _).alloc (Nat.le_refl _) _⟩
theorem MU (B b:Nat) (v:Value) (L:Nat) (a:St) (x:Nat) (u:Int) (w:World) (h:AccAt w B b v L a) (F:B<=w.heap.size) (n:Hid (u=x)) (p:U64 u) (H:L<=40000) :
  Calls Tryz.prog 128 #[.pointer (some ⟨b,0,none⟩),.float .f64 x] w fun r i=>r=.returned (.tuple #[])/\∃ D,Did w i B b v (max L 70+1) (a.merge (dI u)) D:=by
 have l:=hideS (fI x u w n p);obtain⟨f,c⟩:∃ f:St,a.merge (dI u)=f:=⟨_,rfl⟩;rw [c];cases d:ay u
 ·have E:=hideS (EU x u w n p d);have z:=hideS (IT B b v L a (endN u) w h (MT u));have t:Hid (f=⟨mt a.s (endN u),if mt a.s (endN u)=0 then a.N else 0⟩):=by
   show _=_
   rw [<- c];unfold dI;rw [d,EV];rfl
  rw [d] at l
  clear n p h d c
  go_enter Tryz.func128,Tryz.ntmps128
  go_wp2_with (first | (go_at_call 85;refine (turned l.out).mono ?_;rintro e i ⟨rfl,rfl⟩) | (go_at_call 163;refine (turned E.out).mono ?_;rintro e i ⟨rfl,rfl⟩) | (go_at_call 162;refine z.out.mono ?_;rintro e G ⟨rfl,q,g,_⟩))
  have j:=hideS g;clear g
  first | go_end0 | refine bodyPost_ret (results_none rfl _ _ _) rfl ?_
  exact⟨rfl,q,⟨by rw [t.out];exact j.out.acc.mono (by omega),j.out.wrote,j.out.new⟩⟩
 ·have J:=vC u;have K:=vD u;obtain⟨o,k⟩:∃ o:Nat,aP u+2148=o:=⟨(aP u+2148).toNat,by omega⟩
  have C:=hideS (Dq B b v L a 0 (az u).natAbs o (aP u) (decide (az u<0)) w h F (by decide) (by omega) k (by omega) H)
  have A:=hideS (fun w=>kN (az u) w (by omega) (by omega))
  have t:Hid (f=⟨a.s,if a.s=0 then a.N+sI (decide (az u<0))*(((0*18446744073709551616+(az u).natAbs)*2^o:Nat):Int) else a.N⟩):=by
   show _=_
   rw [<- c,tA h.ok];unfold dI;rw [d];simp only [if_true]
   congr 2
   unfold nN;rw [k,Int.toNat_natCast,Nat.zero_mul,Nat.zero_add,Int.natCast_mul,<- Int.mul_assoc,Int.natCast_pow]
   congr 1
   unfold sI
   by_cases y:az u<0
   ·simp [y];omega
   ·simp [y];omega
  rw [d] at l
  clear n p h d c;generalize az u=m at *
  generalize aP u=I at *
  go_enter Tryz.func128,Tryz.ntmps128
  go_wp2_with (first | (go_at_call 85;refine (turned l.out).mono ?_;rintro e i ⟨rfl,rfl⟩) | (go_at_call 130;refine (turned (A.out _)).mono ?_;rintro e i ⟨rfl,rfl⟩))
  refine C.out.mono ?_
  rintro e G ⟨rfl,q,g⟩;have j:=hideS g;clear g
  go_wp2_with fail
  go_end0
  exact⟨rfl,q,by rw [t.out];exact j.out⟩
theorem EW (m n:Int):sI (decide (m<0) !=decide (n<0))*((m.natAbs:Int)*(n.natAbs:Int))=m*n:=by
 unfold sI
 by_cases d:m<0
 ·have b:(m.natAbs:Int)= -m:=by omega
  by_cases c:n<0
  ·have a:(n.natAbs:Int)= -n:=by omega
   simp [d,c,b,a,Int.neg_mul_neg]
  ·have a:(n.natAbs:Int)=n:=by omega
   simp [d,c,b,a,Int.neg_mul]
 ·have b:(m.natAbs:Int)=m:=by omega
  by_cases c:n<0
  ·have a:(n.natAbs:Int)= -n:=by omega
   simp [d,c,b,a,Int.mul_neg]
  ·have a:(n.natAbs:Int)=n:=by omega
   simp [d,c,b,a]
theorem EX (x y:Nat) (w:World) (a:x<18446744073709551616) (b:y<18446744073709551616) :
  Calls Tryz.prog 129 #[.int .u64 x,.int .u64 y] w fun e c=>e=.returned (.tuple #[.int .u64 ((x*y / 18446744073709551616:Nat):Int),.int .u64 ((x*y % 18446744073709551616:Nat):Int)])/\c=w:=
 Any.bits_Mul64 Tryz.mulL x y a b w
theorem xU (B b:Nat) (v:Value) (L:Nat) (a:St) (x y:Nat) (u t:Int) (w:World) (h:AccAt w B b v L a) (T:B<=w.heap.size) (I:Hid (u=x)) (K:U64 u) (H:Hid (t=y)) (E:U64 t) (A:ay u=true) (z:ay t=true) (U:L<=40000) :
  Calls Tryz.prog 89 #[.pointer (some ⟨b,0,none⟩),.float .f64 x,.float .f64 y] w fun r g=>r=.returned (.tuple #[])/\∃ S,Did w g B b v (max L 70+1) (a.merge (fR u t)) S:=by
 have F:=hideS (fI x u w I K);have q:=hideS (fI y t w H E);rw [A] at F
 rw [z] at q
 have X:=vC u;have Z:=vD u;have Y:=vC t;have hf:=vD t;obtain⟨l,k⟩:∃ l:Nat,aP u+aP t+2148=l:=⟨(aP u+aP t+2148).toNat,by omega⟩
 have M:(az u).natAbs*(az t).natAbs<9007199254740992*9007199254740992:=Nat.mul_lt_mul'' (by omega) (by omega)
 have o:=hideS (fun w=>EX (az u).natAbs (az t).natAbs w (by omega) (by omega))
 have Q:=hideS (fun w=>kN (az u) w (by omega) (by omega))
 have O:=hideS (fun w=>kN (az t) w (by omega) (by omega))
 obtain⟨f,c⟩:∃ f:St,a.merge (fR u t)=f:=⟨_,rfl⟩;rw [c];obtain⟨P,d⟩:∃ P,(az u).natAbs*(az t).natAbs=P:=⟨_,rfl⟩;have C:=hideS (Dq B b v L a (P / 18446744073709551616) (P % 18446744073709551616) l (aP u+aP t) (decide (az u<0) !=decide (az t<0)) w h T (by omega) (by omega) k (by omega) U)
 have D:Hid (f=⟨a.s,if a.s=0 then a.N+sI (decide (az u<0) !=decide (az t<0))*(((P / 18446744073709551616*18446744073709551616+P % 18446744073709551616)*2^l:Nat):Int) else a.N⟩):=by
  show _=_
  rw [<- c,tA h.ok]
  congr 1
  unfold fR
  congr 1
  rw [k,Int.toNat_natCast,show P / 18446744073709551616*18446744073709551616+P % 18446744073709551616=P by omega,Int.natCast_mul,<- Int.mul_assoc,Int.natCast_pow]
  congr 1
  rw [<- d,Int.natCast_mul,EW]
 rw [d] at o
 obtain⟨p,j⟩:∃ p,P / 18446744073709551616=p:=⟨_,rfl⟩;obtain⟨G,i⟩:∃ G,P % 18446744073709551616=G:=⟨_,rfl⟩;rw [j,i] at o C D
 clear I K H E h A z M d c j i;generalize az u=m at *
 generalize aP u=W at *
 generalize az t=n at *
 generalize aP t=ff at *
 go_enter Tryz.func89,Tryz.ntmps89
 go_wp2_with fail
 refine (turned F.out).mono ?_
 rintro e g ⟨rfl,rfl⟩
 go_wp2_with fail
 refine (turned q.out).mono ?_
 rintro e g ⟨rfl,rfl⟩
 go_wp2_with fail
 refine (turned (Q.out _)).mono ?_
 rintro e g ⟨rfl,rfl⟩
 go_wp2_with fail
 refine (turned (O.out _)).mono ?_
 rintro e g ⟨rfl,rfl⟩
 go_wp2_with fail
 refine (turned (o.out _)).mono ?_
 rintro e g ⟨rfl,rfl⟩
 go_wp2_with fail
 refine C.out.mono ?_
 rintro e w1 ⟨rfl,R,J⟩;have V:=hideS J;clear J
 go_wp2_with fail
 go_end0
 exact⟨rfl,R,by rw [D.out];exact V.out⟩
theorem tB (B:Nat) (v:Value) (ys:List Nat) (more neg:Bool) (w:World) (h:OwnW w B v ys) (hn:ys.length<=100000) (o:more=true->0<ys.length) :
  Calls Tryz.prog 93 #[v,.bool more,.bool neg] w fun e l=>e=.returned (.float .f64 (aI (sgM neg (mant (ps (fun i=>ys.getD i 0) ys.length) more)) (ko (ps (fun i=>ys.getD i 0) ys.length))))/\∃ q,l=w.drewN q:=by
 obtain⟨p,g,c,rfl,a,b,r,f⟩:=h.shape
 by_cases m:ys.length=0
 ·have d:more=false:=by cases more;rfl;exact absurd (o rfl) (by omega)
  subst d;rw [m];have:=ER c p neg w;refine this.mono ?_
  rintro e l ⟨rfl,n⟩;refine⟨?_,n⟩
  cases neg<;>rfl
 ·obtain⟨rfl,_⟩:=r (by omega)
  exact ET (some ⟨g,0,none⟩) g c ys.length (fun i=>ys.getD i 0) more neg w (by omega) rfl f a (by unfold maxLen at b;omega) h.fit hn (fun k t=>Bg (some ⟨g,0,none⟩) g c k ys w (fun _=>rfl) (fun j s=>f j (by omega)) (by omega)) _ rfl
def cS (a:St):Nat:=if a.s=0 then valF a.N else if a.s=1 then 9218868437227405312 else if a.s=2 then 18442240474082181120 else 9221120237041090561
theorem IV (s:Nat) (w:World) (d:s≠0) (b:s<=3) (N:Int) :
  Calls Tryz.prog 91 #[.int .u8 (s:Int)] w fun e a=>e=.returned (.float .f64 (cS ⟨s,N⟩))/\a=w:=by
 have c:=cg;rcases (show s=1\/s=2\/s=3 by omega) with rfl | rfl | rfl
 all_goals
  go_enter Tryz.func91,Tryz.ntmps91
  go_wp2_with go_in
  go_ret
  exact⟨rfl,rfl⟩
theorem EY (B b:Nat) (v:Value) (L:Nat) (a:St) (w:World) (h:AccAt w B b v L a) (F:B<=w.heap.size) (J:L<=40000) :
  Calls Tryz.prog 59 #[.pointer (some ⟨b,0,none⟩)] w fun r y=>r=.returned (.float .f64 (cS a))/\Below w.heap.size w y:=by
 have c0:=h.cell0;have c1:=h.cell1;obtain⟨p,g,n,i⟩:=h.own;have c:=h.ok.s3
 by_cases d:a.s=0
 ·have k:=hideS (tx B v p a.N w g i (by omega) F)
  have m:Hid (cS a=valF a.N):=by show _=_;unfold cS;rw [if_pos d]
  rw [m.out];rw [d] at c0
  have E:Hid (p.length<=40000):=by show _<=_;omega
  clear h g n i c d m
  go_enter Tryz.func59,Tryz.ntmps59
  go_wp2_with fail
  refine k.out.mono ?_
  rintro e G ⟨C,H,rfl,j,A,x,z⟩;have u:=hideS (tB B C H false (decide (a.N<0)) G j (by have:=E.out;omega) (fun h=>by cases h))
  rw [x,th] at u
  have f:=hideS z;clear j A x z k;generalize decide (a.N<0)=I at *
  go_wp2_with fail
  refine u.out.mono ?_
  rintro e K ⟨rfl,q,rfl⟩
  go_wp2_with fail
  go_ret
  exact⟨rfl,⟨f.out.os,f.out.tape,f.out.output,f.out.size,f.out.block⟩⟩
 ·have l:=hideS (fun w=>IV a.s w d c a.N)
  obtain⟨t,o⟩:∃ t:Int,((a.s:Nat):Int)=t:=⟨_,rfl⟩;rw [o] at c0 l
  have D:(t !=0)=true:=by simp;omega
  clear h g n i c d o
  go_enter Tryz.func59,Tryz.ntmps59
  go_wp2_with (go_at_call 91;refine (l.out _).mono ?_;rintro e y ⟨rfl,rfl⟩)
  go_ret
  exact⟨rfl,Below.refl _ _⟩
end Go.Proofs.YtfdddijdjpijbaaGreat.A
namespace Go.Proofs.YtfdddijdjpijbaaGreat
open Go.RowKit
theorem Jr {b:Nat} (n:b<18446744073709551616) (h:ag b):ay (b:Int)=true/\∃ q:Nat,az (b:Int)*((2^q:Nat):Int)=vI b/\(az (b:Int)≠0->aP (b:Int)+1074=(q:Int)):=by
 unfold ag at h
 obtain⟨r,l⟩:∃ r,b % 9223372036854775808=r:=⟨_,rfl⟩;have a:szI (b:Int)=(r:Int):=by unfold szI;omega
 have d:ay (b:Int)=true:=by unfold ay;rw [a,decide_eq_true_eq];omega
 have g:sgB (b:Int)=(b / 9223372036854775808 % 2==1):=by
  have e:sgB (b:Int)=decide (b / 9223372036854775808 % 2=1):=by
   unfold sgB;apply decide_eq_decide.2;omega
  rw [e]
  by_cases f:b / 9223372036854775808 % 2=1<;>simp [f]
 have i:gz (r:Int)=(mg r:Int):=by
  unfold gz mg
  by_cases f:r<4503599627370496
  ·rw [if_pos (by omega),if_pos f]
  ·rw [if_neg (by omega),if_neg f];omega
 have j:az (b:Int)=sgZ (b / 9223372036854775808 % 2==1) (mg r):=by
  unfold az sgZ;rw [d,a,i,g];rfl
 refine⟨d,pl r,?_,fun k=>?_⟩
 ·rw [tp,l,vh,j]
 ·have m:r≠0:=fun c=>k (by
   rw [j,c];have:mg 0=0:=rfl;rw [this];unfold sgZ;simp)
  unfold aP kE pl;rw [d,a];have f:((true&&decide ((r:Int)≠0))=true):=by simp;omega
  rw [if_pos f]
  by_cases o:r<4503599627370496
  ·rw [if_pos (by omega)];omega
  ·rw [if_neg (by omega)];omega
theorem bt {x:Nat} (h:aE (x:Int)=true):ag x:=by
 unfold aE at h
 rw [decide_eq_true_eq] at h
 unfold szI at h
 unfold ag;omega
end Go.Proofs.YtfdddijdjpijbaaGreat
