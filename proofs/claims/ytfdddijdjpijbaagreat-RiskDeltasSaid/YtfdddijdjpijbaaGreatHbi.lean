/-  -/
import Derived.Test.YtfdddijdjpijbaaGreatHbh
import Derived.Test.YtfdddijdjpijbaaGreatHaq
import Derived.Test.YtfdddijdjpijbaaGreatHar
set_option maxHeartbeats 800000
namespace Go.Proofs.YtfdddijdjpijbaaGreat.A
open Go.RowKit
theorem vC (u:Int): -9007199254740992<az u/\az u<9007199254740992:=by
 unfold az gz;have:=uK u
 split
 ·split<;>split<;>omega
 ·omega
theorem vD (u:Int): -1074<=aP u/\aP u<=971:=by
 unfold aP kE
 split
 ·rename_i h;simp only [Bool.and_eq_true,ay,decide_eq_true_eq] at h
  have:=uK u
  split<;>omega
 ·omega
theorem IU {a b:St} (h:a.s=b.s) (c:a.N=b.N):a=b:=by
 cases a;cases b;simp_all
theorem tA {a:St} (h:a.Ok) (M:Int):(⟨a.s,if a.s=0 then a.N+M else a.N⟩:St)=a.merge ⟨0,M⟩:=by
 unfold St.merge;have e:mt a.s 0=a.s:=by simp [mt]
 apply IU
 ·exact e.symm
 ·show (if a.s=0 then a.N+M else a.N)=if mt a.s 0=0 then a.N+M else 0
  rw [e]
  by_cases b:a.s=0
  ·rw [if_pos b,if_pos b]
  ·rw [if_neg b,if_neg b,h.n0 b]
theorem EV (a:St) (t:Nat):(⟨mt a.s t,if mt a.s t=0 then a.N else 0⟩:St)=a.merge ⟨t,0⟩:=by
 unfold St.merge;apply IU
 ·rfl
 ·show _=if mt a.s t=0 then a.N+0 else 0
  rw [Int.add_zero]
theorem MT (u:Int):endN u<=3:=by unfold endN;split<;>(try split)<;>omega
theorem vE (w:World) (B:Nat) (c:B<=w.heap.size) :
  Calls Tryz.prog 87 #[] w fun x a=>x=.returned (.pointer (some ⟨w.heap.size,0,none⟩))/\AccAt a B w.heap.size (.slice none 0 0) 0 ⟨0,0⟩ /\Below w.heap.size w a:=by
 have b:Hid (AccAt (w.alloc (.cells #[.int .u8 0,.slice none 0 0] 135)) B w.heap.size (.slice none 0 0) 0 ⟨0,0⟩):=
  ⟨heap_alloc_new w _,c,⟨[],⟨World.ownsRow_nil _ _ _ _,fun i=>by simp⟩,Nat.le_refl _,Io⟩,fun e=>(by cases e),⟨Nat.zero_le _,fun h=>absurd rfl h⟩⟩
 go_enter Tryz.func87,Tryz.ntmps87
 go_wp2
 go_ret
 exact⟨rfl,b.out,(Below.refl _ _).alloc (Nat.le_refl _) _⟩
theorem MU (B b:Nat) (v:Value) (L:Nat) (a:St) (x:Nat) (u:Int) (w:World) (h:AccAt w B b v L a) (H:B<=w.heap.size) (n:Hid (u=x)) (l:U64 u) (C:L<=40000) :
  Calls Tryz.prog 128 #[.pointer (some ⟨b,0,none⟩),.float .f64 x] w fun r i=>r=.returned (.tuple #[])/\∃ A,Did w i B b v (max L 70+1) (a.merge (dI u)) A:=by
 have p:=hideS (fI x u w n l);obtain⟨f,c⟩:∃ f:St,a.merge (dI u)=f:=⟨_,rfl⟩;rw [c];cases d:ay u
 ·have F:=hideS (EU x u w n l d);have z:=hideS (IT B b v L a (endN u) w h (MT u));have t:Hid (f=⟨mt a.s (endN u),if mt a.s (endN u)=0 then a.N else 0⟩):=by
   show _=_
   rw [<- c];unfold dI;rw [d,EV];rfl
  rw [d] at p
  clear n l h d c
  go_enter Tryz.func128,Tryz.ntmps128
  go_wp2_with (first | (go_at_call 85;refine (turned p.out).mono ?_;rintro e i ⟨rfl,rfl⟩) | (go_at_call 163;refine (turned F.out).mono ?_;rintro e i ⟨rfl,rfl⟩) | (go_at_call 162;refine z.out.mono ?_;rintro e E ⟨rfl,q,k,_⟩))
  have j:=hideS k;clear k
  first | go_end0 | refine bodyPost_ret (results_none rfl _ _ _) rfl ?_
  exact⟨rfl,q,⟨by rw [t.out];exact j.out.acc.mono (by omega),j.out.wrote,j.out.new⟩⟩
 ·have J:=vC u;have K:=vD u;obtain⟨o,g⟩:∃ o:Nat,aP u+2148=o:=⟨(aP u+2148).toNat,by omega⟩
  have G:=hideS (Dq B b v L a 0 (az u).natAbs o (aP u) (decide (az u<0)) w h H (by decide) (by omega) g (by omega) C)
  have D:=hideS (fun w=>kN (az u) w (by omega) (by omega))
  have t:Hid (f=⟨a.s,if a.s=0 then a.N+sI (decide (az u<0))*(((0*18446744073709551616+(az u).natAbs)*2^o:Nat):Int) else a.N⟩):=by
   show _=_
   rw [<- c,tA h.ok];unfold dI;rw [d];simp only [if_true]
   congr 2
   unfold nN;rw [g,Int.toNat_natCast,Nat.zero_mul,Nat.zero_add,Int.natCast_mul,<- Int.mul_assoc,Int.natCast_pow]
   congr 1
   unfold sI
   by_cases y:az u<0
   ·simp [y];omega
   ·simp [y];omega
  rw [d] at p
  clear n l h d c;generalize az u=m at *
  generalize aP u=I at *
  go_enter Tryz.func128,Tryz.ntmps128
  go_wp2_with (first | (go_at_call 85;refine (turned p.out).mono ?_;rintro e i ⟨rfl,rfl⟩) | (go_at_call 130;refine (turned (D.out _)).mono ?_;rintro e i ⟨rfl,rfl⟩))
  refine G.out.mono ?_
  rintro e E ⟨rfl,q,k⟩;have j:=hideS k;clear k
  go_wp2_with fail
  go_end0
  exact⟨rfl,q,by rw [t.out];exact j.out⟩
theorem EW (m n:Int):sI (decide (m<0) !=decide (n<0))*((m.natAbs:Int)*(n.natAbs:Int))=m*n:=by
 unfold sI
 by_cases d:m<0
 ·have c:(m.natAbs:Int)= -m:=by omega
  by_cases b:n<0
  ·have a:(n.natAbs:Int)= -n:=by omega
   simp [d,b,c,a,Int.neg_mul_neg]
  ·have a:(n.natAbs:Int)=n:=by omega
   simp [d,b,c,a,Int.neg_mul]
 ·have c:(m.natAbs:Int)=m:=by omega
  by_cases b:n<0
  ·have a:(n.natAbs:Int)= -n:=by omega
   simp [d,b,c,a,Int.mul_neg]
  ·have a:(n.natAbs:Int)=n:=by omega
   simp [d,b,c,a]
theorem EX (x y:Nat) (w:World) (c:x<18446744073709551616) (b:y<18446744073709551616) :
  Calls Tryz.prog 129 #[.int .u64 x,.int .u64 y] w fun e a=>e=.returned (.tuple #[.int .u64 ((x*y / 18446744073709551616:Nat):Int),.int .u64 ((x*y % 18446744073709551616:Nat):Int)])/\a=w:=
 Any.bits_Mul64 Tryz.mulL x y c b w
theorem xU (B b:Nat) (v:Value) (L:Nat) (a:St) (x y:Nat) (u t:Int) (w:World) (h:AccAt w B b v L a) (V:B<=w.heap.size) (C:Hid (u=x)) (z:U64 u) (K:Hid (t=y)) (D:U64 t) (q:ay u=true) (p:ay t=true) (R:L<=40000) :
  Calls Tryz.prog 89 #[.pointer (some ⟨b,0,none⟩),.float .f64 x,.float .f64 y] w fun r g=>r=.returned (.tuple #[])/\∃ O,Did w g B b v (max L 70+1) (a.merge (fR u t)) O:=by
 have G:=hideS (fI x u w C z);have A:=hideS (fI y t w K D);rw [q] at G
 rw [p] at A
 have Z:=vC u;have he:=vD u;have Y:=vC t;have W:=vD t;obtain⟨l,i⟩:∃ l:Nat,aP u+aP t+2148=l:=⟨(aP u+aP t+2148).toNat,by omega⟩
 have M:(az u).natAbs*(az t).natAbs<9007199254740992*9007199254740992:=Nat.mul_lt_mul'' (by omega) (by omega)
 have o:=hideS (fun w=>EX (az u).natAbs (az t).natAbs w (by omega) (by omega))
 have S:=hideS (fun w=>kN (az u) w (by omega) (by omega))
 have U:=hideS (fun w=>kN (az t) w (by omega) (by omega))
 obtain⟨d,c⟩:∃ d:St,a.merge (fR u t)=d:=⟨_,rfl⟩;rw [c];obtain⟨P,f⟩:∃ P,(az u).natAbs*(az t).natAbs=P:=⟨_,rfl⟩;have H:=hideS (Dq B b v L a (P / 18446744073709551616) (P % 18446744073709551616) l (aP u+aP t) (decide (az u<0) !=decide (az t<0)) w h V (by omega) (by omega) i (by omega) R)
 have J:Hid (d=⟨a.s,if a.s=0 then a.N+sI (decide (az u<0) !=decide (az t<0))*(((P / 18446744073709551616*18446744073709551616+P % 18446744073709551616)*2^l:Nat):Int) else a.N⟩):=by
  show _=_
  rw [<- c,tA h.ok]
  congr 1
  unfold fR
  congr 1
  rw [i,Int.toNat_natCast,show P / 18446744073709551616*18446744073709551616+P % 18446744073709551616=P by omega,Int.natCast_mul,<- Int.mul_assoc,Int.natCast_pow]
  congr 1
  rw [<- f,Int.natCast_mul,EW]
 rw [f] at o
 obtain⟨E,k⟩:∃ E,P / 18446744073709551616=E:=⟨_,rfl⟩;obtain⟨I,j⟩:∃ I,P % 18446744073709551616=I:=⟨_,rfl⟩;rw [k,j] at o H J
 clear C z K D h q p M f c k j;generalize az u=m at *
 generalize aP u=X at *
 generalize az t=n at *
 generalize aP t=ff at *
 go_enter Tryz.func89,Tryz.ntmps89
 go_wp2_with fail
 refine (turned G.out).mono ?_
 rintro e g ⟨rfl,rfl⟩
 go_wp2_with fail
 refine (turned A.out).mono ?_
 rintro e g ⟨rfl,rfl⟩
 go_wp2_with fail
 refine (turned (S.out _)).mono ?_
 rintro e g ⟨rfl,rfl⟩
 go_wp2_with fail
 refine (turned (U.out _)).mono ?_
 rintro e g ⟨rfl,rfl⟩
 go_wp2_with fail
 refine (turned (o.out _)).mono ?_
 rintro e g ⟨rfl,rfl⟩
 go_wp2_with fail
 refine H.out.mono ?_
 rintro e w1 ⟨rfl,Q,F⟩;have T:=hideS F;clear F
 go_wp2_with fail
 go_end0
 exact⟨rfl,Q,by rw [J.out];exact T.out⟩
theorem tB (B:Nat) (v:Value) (ys:List Nat) (more neg:Bool) (w:World) (h:OwnW w B v ys) (hn:ys.length<=100000) (n:more=true->0<ys.length) :
  Calls Tryz.prog 93 #[v,.bool more,.bool neg] w fun e f=>e=.returned (.float .f64 (aI (sgM neg (mant (ps (fun i=>ys.getD i 0) ys.length) more)) (ko (ps (fun i=>ys.getD i 0) ys.length))))/\∃ q,f=w.drewN q:=by
 obtain⟨p,g,c,rfl,b,d,m,l⟩:=h.shape
 by_cases r:ys.length=0
 ·have a:more=false:=by cases more;rfl;exact absurd (n rfl) (by omega)
  subst a;rw [r];have:=ER c p neg w;refine this.mono ?_
  rintro e f ⟨rfl,o⟩;refine⟨?_,o⟩
  cases neg<;>rfl
 ·obtain⟨rfl,_⟩:=m (by omega)
  exact ET (some ⟨g,0,none⟩) g c ys.length (fun i=>ys.getD i 0) more neg w (by omega) rfl l b (by unfold maxLen at d;omega) h.fit hn (fun k t=>Bg (some ⟨g,0,none⟩) g c k ys w (fun _=>rfl) (fun j s=>l j (by omega)) (by omega)) _ rfl
def cS (a:St):Nat:=if a.s=0 then valF a.N else if a.s=1 then 9218868437227405312 else if a.s=2 then 18442240474082181120 else 9221120237041090561
theorem IV (s:Nat) (w:World) (b:s≠0) (d:s<=3) (N:Int) :
  Calls Tryz.prog 91 #[.int .u8 (s:Int)] w fun e a=>e=.returned (.float .f64 (cS ⟨s,N⟩))/\a=w:=by
 have c:=cg;rcases (show s=1\/s=2\/s=3 by omega) with rfl | rfl | rfl
 all_goals
  go_enter Tryz.func91,Tryz.ntmps91
  go_wp2_with go_in
  go_ret
  exact⟨rfl,rfl⟩
theorem EY (B b:Nat) (v:Value) (L:Nat) (a:St) (w:World) (h:AccAt w B b v L a) (H:B<=w.heap.size) (J:L<=40000) :
  Calls Tryz.prog 59 #[.pointer (some ⟨b,0,none⟩)] w fun r o=>r=.returned (.float .f64 (cS a))/\Below w.heap.size w o:=by
 have c0:=h.cell0;have c1:=h.cell1;obtain⟨m,g,u,i⟩:=h.own;have c:=h.ok.s3
 by_cases f:a.s=0
 ·have n:=hideS (tx B v m a.N w g i (by omega) H)
  have p:Hid (cS a=valF a.N):=by show _=_;unfold cS;rw [if_pos f]
  rw [p.out];rw [f] at c0
  have D:Hid (m.length<=40000):=by show _<=_;omega
  clear h g u i c f p
  go_enter Tryz.func59,Tryz.ntmps59
  go_wp2_with fail
  refine n.out.mono ?_
  rintro e F ⟨C,G,rfl,l,E,j,x⟩;have k:=hideS (tB B C G false (decide (a.N<0)) F l (by have:=D.out;omega) (fun h=>by cases h))
  rw [j,th] at k
  have d:=hideS x;clear l E j x n;generalize decide (a.N<0)=K at *
  go_wp2_with fail
  refine k.out.mono ?_
  rintro e I ⟨rfl,q,rfl⟩
  go_wp2_with fail
  go_ret
  exact⟨rfl,⟨d.out.os,d.out.tape,d.out.output,d.out.size,d.out.block⟩⟩
 ·have y:=hideS (fun w=>IV a.s w f c a.N)
  obtain⟨t,z⟩:∃ t:Int,((a.s:Nat):Int)=t:=⟨_,rfl⟩;rw [z] at c0 y
  have A:(t !=0)=true:=by simp;omega
  clear h g u i c f z
  go_enter Tryz.func59,Tryz.ntmps59
  go_wp2_with (go_at_call 91;refine (y.out _).mono ?_;rintro e o ⟨rfl,rfl⟩)
  go_ret
  exact⟨rfl,Below.refl _ _⟩
end Go.Proofs.YtfdddijdjpijbaaGreat.A
namespace Go.Proofs.YtfdddijdjpijbaaGreat
open Go.RowKit
theorem Jr {b:Nat} (n:b<18446744073709551616) (h:ag b):ay (b:Int)=true/\∃ q:Nat,az (b:Int)*((2^q:Nat):Int)=vI b/\(az (b:Int)≠0->aP (b:Int)+1074=(q:Int)):=by
 unfold ag at h
 obtain⟨r,m⟩:∃ r,b % 9223372036854775808=r:=⟨_,rfl⟩;have d:szI (b:Int)=(r:Int):=by unfold szI;omega
 have a:ay (b:Int)=true:=by unfold ay;rw [d,decide_eq_true_eq];omega
 have g:sgB (b:Int)=(b / 9223372036854775808 % 2==1):=by
  have e:sgB (b:Int)=decide (b / 9223372036854775808 % 2=1):=by
   unfold sgB;apply decide_eq_decide.2;omega
  rw [e]
  by_cases f:b / 9223372036854775808 % 2=1<;>simp [f]
 have i:gz (r:Int)=(mg r:Int):=by
  unfold gz mg
  by_cases f:r<4503599627370496
  ·rw [if_pos (by omega),if_pos f]
  ·rw [if_neg (by omega),if_neg f];omega
 have j:az (b:Int)=sgZ (b / 9223372036854775808 % 2==1) (mg r):=by
  unfold az sgZ;rw [a,d,i,g];rfl
 refine⟨a,pl r,?_,fun k=>?_⟩
 ·rw [tp,m,vh,j]
 ·have l:r≠0:=fun c=>k (by
   rw [j,c];have:mg 0=0:=rfl;rw [this];unfold sgZ;simp)
  unfold aP kE pl;rw [a,d];have f:((true&&decide ((r:Int)≠0))=true):=by simp;omega
  rw [if_pos f]
  by_cases o:r<4503599627370496
  ·rw [if_pos (by omega)];omega
  ·rw [if_neg (by omega)];omega
theorem bt {x:Nat} (h:aE (x:Int)=true):ag x:=by
 unfold aE at h
 rw [decide_eq_true_eq] at h
 unfold szI at h
 unfold ag;omega
end Go.Proofs.YtfdddijdjpijbaaGreat
