/-  -/
import Derived.Test.YtfdddijdjpijbaaGreatHbh
import Derived.Test.YtfdddijdjpijbaaGreatHaq
import Derived.Test.YtfdddijdjpijbaaGreatHar
set_option maxHeartbeats 800000
namespace Go.Proofs.YtfdddijdjpijbaaGreat.A
open Go.RowKit
theorem uR (u:Int): -9007199254740992<aA u/\aA u<9007199254740992:=by
 unfold aA fZ;have:=uc u
 split
 ·split<;>split<;>omega
 ·omega
theorem uS (u:Int): -1074<=aQ u/\aQ u<=971:=by
 unfold aQ kw
 split
 ·rename_i h;simp only [Bool.and_eq_true,az,decide_eq_true_eq] at h
  have:=uc u
  split<;>omega
 ·omega
theorem Io {a b:St} (h:a.s=b.s) (c:a.N=b.N):a=b:=by
 cases a;cases b;simp_all
theorem sV {a:St} (h:a.Ok) (M:Int):(⟨a.s,if a.s=0 then a.N+M else a.N⟩:St)=a.merge ⟨0,M⟩:=by
 unfold St.merge;have e:mt a.s 0=a.s:=by simp [mt]
 apply Io
 ·exact e.symm
 ·show (if a.s=0 then a.N+M else a.N)=if mt a.s 0=0 then a.N+M else 0
  rw [e]
  by_cases b:a.s=0
  ·rw [if_pos b,if_pos b]
  ·rw [if_neg b,if_neg b,h.n0 b]
theorem Er (a:St) (t:Nat):(⟨mt a.s t,if mt a.s t=0 then a.N else 0⟩:St)=a.merge ⟨t,0⟩:=by
 unfold St.merge;apply Io
 ·rfl
 ·show _=if mt a.s t=0 then a.N+0 else 0
  rw [Int.add_zero]
theorem Mo (u:Int):endN u<=3:=by unfold endN;split<;>(try split)<;>omega
theorem uT (w:World) (B:Nat) (b:B<=w.heap.size) :
  Calls Tryz.prog 87 #[] w fun x a=>x=.returned (.pointer (some ⟨w.heap.size,0,none⟩))/\AccAt a B w.heap.size (.slice none 0 0) 0 ⟨0,0⟩ /\Below w.heap.size w a:=by
 have c:Hid (AccAt (w.alloc (.cells #[.int .u8 0,.slice none 0 0] 135)) B w.heap.size (.slice none 0 0) 0 ⟨0,0⟩):=
  ⟨heap_alloc_new w _,b,⟨[],⟨World.ownsRow_nil _ _ _ _,fun i=>by simp⟩,Nat.le_refl _,Hc⟩,fun e=>(by cases e),⟨Nat.zero_le _,fun h=>absurd rfl h⟩⟩
 go_enter Tryz.func87,Tryz.ntmps87
 go_wp2
 go_ret
 exact⟨rfl,c.out,(Below.refl _ _).alloc (Nat.le_refl _) _⟩
theorem Mp (B b:Nat) (v:Value) (L:Nat) (a:St) (x:Nat) (u:Int) (w:World) (h:AccAt w B b v L a) (C:B<=w.heap.size) (n:Hid (u=x)) (p:U64 u) (D:L<=40000) :
  Calls Tryz.prog 128 #[.pointer (some ⟨b,0,none⟩),.float .f64 x] w fun r j=>r=.returned (.tuple #[])/\∃ E,Did w j B b v (max L 70+1) (a.merge (dB u)) E:=by
 have l:=hideS (fu x u w n p);obtain⟨f,c⟩:∃ f:St,a.merge (dB u)=f:=⟨_,rfl⟩;rw [c];cases d:az u
 ·have A:=hideS (Ep x u w n p d);have G:=hideS (In B b v L a (endN u) w h (Mo u));have t:Hid (f=⟨mt a.s (endN u),if mt a.s (endN u)=0 then a.N else 0⟩):=by
   show _=_
   rw [<- c];unfold dB;rw [d,Er];rfl
  rw [d] at l
  clear n p h d c
  go_enter Tryz.func128,Tryz.ntmps128
  go_wp2_with (first | (go_at_call 85;refine (turned l.out).mono ?_;rintro e j ⟨rfl,rfl⟩) | (go_at_call 163;refine (turned A.out).mono ?_;rintro e j ⟨rfl,rfl⟩) | (go_at_call 162;refine G.out.mono ?_;rintro e F ⟨rfl,q,k,_⟩))
  have i:=hideS k;clear k
  first | go_end0 | refine bodyPost_ret (results_none rfl _ _ _) rfl ?_
  exact⟨rfl,q,⟨by rw [t.out];exact i.out.acc.mono (by omega),i.out.wrote,i.out.new⟩⟩
 ·have J:=uR u;have K:=uS u;obtain⟨o,g⟩:∃ o:Nat,aQ u+2148=o:=⟨(aQ u+2148).toNat,by omega⟩
  have H:=hideS (CQ B b v L a 0 (aA u).natAbs o (aQ u) (decide (aA u<0)) w h C (by decide) (by omega) g (by omega) D)
  have z:=hideS (fun w=>kI (aA u) w (by omega) (by omega))
  have t:Hid (f=⟨a.s,if a.s=0 then a.N+sI (decide (aA u<0))*(((0*18446744073709551616+(aA u).natAbs)*2^o:Nat):Int) else a.N⟩):=by
   show _=_
   rw [<- c,sV h.ok];unfold dB;rw [d];simp only [if_true]
   congr 2
   unfold nE;rw [g,Int.toNat_natCast,Nat.zero_mul,Nat.zero_add,Int.natCast_mul,<- Int.mul_assoc,Int.natCast_pow]
   congr 1
   unfold sI
   by_cases y:aA u<0
   ·simp [y];omega
   ·simp [y];omega
  rw [d] at l
  clear n p h d c;generalize aA u=m at *
  generalize aQ u=I at *
  go_enter Tryz.func128,Tryz.ntmps128
  go_wp2_with (first | (go_at_call 85;refine (turned l.out).mono ?_;rintro e j ⟨rfl,rfl⟩) | (go_at_call 130;refine (turned (z.out _)).mono ?_;rintro e j ⟨rfl,rfl⟩))
  refine H.out.mono ?_
  rintro e F ⟨rfl,q,k⟩;have i:=hideS k;clear k
  go_wp2_with fail
  go_end0
  exact⟨rfl,q,by rw [t.out];exact i.out⟩
theorem Es (m n:Int):sI (decide (m<0) !=decide (n<0))*((m.natAbs:Int)*(n.natAbs:Int))=m*n:=by
 unfold sI
 by_cases d:m<0
 ·have b:(m.natAbs:Int)= -m:=by omega
  by_cases c:n<0
  ·have a:(n.natAbs:Int)= -n:=by omega
   simp [d,c,b,a,Int.neg_mul_neg]
  ·have a:(n.natAbs:Int)=n:=by omega
   simp [d,c,b,a,Int.neg_mul]
 ·have b:(m.natAbs:Int)=m:=by omega
  by_cases c:n<0
  ·have a:(n.natAbs:Int)= -n:=by omega
   simp [d,c,b,a,Int.mul_neg]
  ·have a:(n.natAbs:Int)=n:=by omega
   simp [d,c,b,a]
theorem Et (x y:Nat) (w:World) (c:x<18446744073709551616) (a:y<18446744073709551616) :
  Calls Tryz.prog 129 #[.int .u64 x,.int .u64 y] w fun e b=>e=.returned (.tuple #[.int .u64 ((x*y / 18446744073709551616:Nat):Int),.int .u64 ((x*y % 18446744073709551616:Nat):Int)])/\b=w:=
 Any.bits_Mul64 Tryz.mulL x y c a w
theorem xA (B b:Nat) (v:Value) (L:Nat) (a:St) (x y:Nat) (u t:Int) (w:World) (h:AccAt w B b v L a) (Q:B<=w.heap.size) (A:Hid (u=x)) (J:U64 u) (G:Hid (t=y)) (p:U64 t) (F:az u=true) (z:az t=true) (R:L<=40000) :
  Calls Tryz.prog 89 #[.pointer (some ⟨b,0,none⟩),.float .f64 x,.float .f64 y] w fun r g=>r=.returned (.tuple #[])/\∃ T,Did w g B b v (max L 70+1) (a.merge (fF u t)) T:=by
 have q:=hideS (fu x u w A J);have C:=hideS (fu y t w G p);rw [F] at q
 rw [z] at C
 have Y:=uR u;have he:=uS u;have hn:=uR t;have Z:=uS t;obtain⟨l,i⟩:∃ l:Nat,aQ u+aQ t+2148=l:=⟨(aQ u+aQ t+2148).toNat,by omega⟩
 have S:(aA u).natAbs*(aA t).natAbs<9007199254740992*9007199254740992:=Nat.mul_lt_mul'' (by omega) (by omega)
 have o:=hideS (fun w=>Et (aA u).natAbs (aA t).natAbs w (by omega) (by omega))
 have O:=hideS (fun w=>kI (aA u) w (by omega) (by omega))
 have M:=hideS (fun w=>kI (aA t) w (by omega) (by omega))
 obtain⟨d,c⟩:∃ d:St,a.merge (fF u t)=d:=⟨_,rfl⟩;rw [c];obtain⟨P,f⟩:∃ P,(aA u).natAbs*(aA t).natAbs=P:=⟨_,rfl⟩;have K:=hideS (CQ B b v L a (P / 18446744073709551616) (P % 18446744073709551616) l (aQ u+aQ t) (decide (aA u<0) !=decide (aA t<0)) w h Q (by omega) (by omega) i (by omega) R)
 have D:Hid (d=⟨a.s,if a.s=0 then a.N+sI (decide (aA u<0) !=decide (aA t<0))*(((P / 18446744073709551616*18446744073709551616+P % 18446744073709551616)*2^l:Nat):Int) else a.N⟩):=by
  show _=_
  rw [<- c,sV h.ok]
  congr 1
  unfold fF
  congr 1
  rw [i,Int.toNat_natCast,show P / 18446744073709551616*18446744073709551616+P % 18446744073709551616=P by omega,Int.natCast_mul,<- Int.mul_assoc,Int.natCast_pow]
  congr 1
  rw [<- f,Int.natCast_mul,Es]
 rw [f] at o
 obtain⟨E,j⟩:∃ E,P / 18446744073709551616=E:=⟨_,rfl⟩;obtain⟨I,k⟩:∃ I,P % 18446744073709551616=I:=⟨_,rfl⟩;rw [j,k] at o K D
 clear A J G p h F z S f c j k;generalize aA u=m at *
 generalize aQ u=X at *
 generalize aA t=n at *
 generalize aQ t=W at *
 go_enter Tryz.func89,Tryz.ntmps89
 go_wp2_with fail
 refine (turned q.out).mono ?_
 rintro e g ⟨rfl,rfl⟩
 go_wp2_with fail
 refine (turned C.out).mono ?_
 rintro e g ⟨rfl,rfl⟩
 go_wp2_with fail
 refine (turned (O.out _)).mono ?_
 rintro e g ⟨rfl,rfl⟩
 go_wp2_with fail
 refine (turned (M.out _)).mono ?_
 rintro e g ⟨rfl,rfl⟩
 go_wp2_with fail
 refine (turned (o.out _)).mono ?_
 rintro e g ⟨rfl,rfl⟩
 go_wp2_with fail
 refine K.out.mono ?_
 rintro e w1 ⟨rfl,U,H⟩;have V:=hideS H;clear H
 go_wp2_with fail
 go_end0
 exact⟨rfl,U,by rw [D.out];exact V.out⟩
theorem sW (B:Nat) (v:Value) (ys:List Nat) (more neg:Bool) (w:World) (h:OwnW w B v ys) (hn:ys.length<=100000) (o:more=true->0<ys.length) :
  Calls Tryz.prog 93 #[v,.bool more,.bool neg] w fun e l=>e=.returned (.float .f64 (aJ (sgM neg (mant (ps (fun i=>ys.getD i 0) ys.length) more)) (kc (ps (fun i=>ys.getD i 0) ys.length))))/\∃ q,l=w.drewN q:=by
 obtain⟨p,g,c,rfl,a,d,n,f⟩:=h.shape
 by_cases r:ys.length=0
 ·have b:more=false:=by cases more;rfl;exact absurd (o rfl) (by omega)
  subst b;rw [r];have:=Em c p neg w;refine this.mono ?_
  rintro e l ⟨rfl,m⟩;refine⟨?_,m⟩
  cases neg<;>rfl
 ·obtain⟨rfl,_⟩:=n (by omega)
  exact Eo (some ⟨g,0,none⟩) g c ys.length (fun i=>ys.getD i 0) more neg w (by omega) rfl f a (by unfold maxLen at d;omega) h.fit hn (fun k t=>AF (some ⟨g,0,none⟩) g c k ys w (fun _=>rfl) (fun j s=>f j (by omega)) (by omega)) _ rfl
def cO (a:St):Nat:=if a.s=0 then valF a.N else if a.s=1 then 9218868437227405312 else if a.s=2 then 18442240474082181120 else 9221120237041090561
theorem Ip (s:Nat) (w:World) (d:s≠0) (b:s<=3) (N:Int) :
  Calls Tryz.prog 91 #[.int .u8 (s:Int)] w fun e a=>e=.returned (.float .f64 (cO ⟨s,N⟩))/\a=w:=by
 have c:=bY;rcases (show s=1\/s=2\/s=3 by omega) with rfl | rfl | rfl
 all_goals
  go_enter Tryz.func91,Tryz.ntmps91
  go_wp2_with go_in
  go_ret
  exact⟨rfl,rfl⟩
theorem Eu (B b:Nat) (v:Value) (L:Nat) (a:St) (w:World) (h:AccAt w B b v L a) (C:B<=w.heap.size) (J:L<=40000) :
  Calls Tryz.prog 59 #[.pointer (some ⟨b,0,none⟩)] w fun r o=>r=.returned (.float .f64 (cO a))/\Below w.heap.size w o:=by
 have c0:=h.cell0;have c1:=h.cell1;obtain⟨l,g,u,i⟩:=h.own;have c:=h.ok.s3
 by_cases d:a.s=0
 ·have k:=hideS (sU B v l a.N w g i (by omega) C)
  have n:Hid (cO a=valF a.N):=by show _=_;unfold cO;rw [if_pos d]
  rw [n.out];rw [d] at c0
  have E:Hid (l.length<=40000):=by show _<=_;omega
  clear h g u i c d n
  go_enter Tryz.func59,Tryz.ntmps59
  go_wp2_with fail
  refine k.out.mono ?_
  rintro e G ⟨D,H,rfl,m,A,p,y⟩;have z:=hideS (sW B D H false (decide (a.N<0)) G m (by have:=E.out;omega) (fun h=>by cases h))
  rw [p,sL] at z
  have f:=hideS y;clear m A p y k;generalize decide (a.N<0)=K at *
  go_wp2_with fail
  refine z.out.mono ?_
  rintro e I ⟨rfl,q,rfl⟩
  go_wp2_with fail
  go_ret
  exact⟨rfl,⟨f.out.os,f.out.tape,f.out.output,f.out.size,f.out.block⟩⟩
 ·have j:=hideS (fun w=>Ip a.s w d c a.N)
  obtain⟨t,x⟩:∃ t:Int,((a.s:Nat):Int)=t:=⟨_,rfl⟩;rw [x] at c0 j
  have F:(t !=0)=true:=by simp;omega
  clear h g u i c d x
  go_enter Tryz.func59,Tryz.ntmps59
  go_wp2_with (go_at_call 91;refine (j.out _).mono ?_;rintro e o ⟨rfl,rfl⟩)
  go_ret
  exact⟨rfl,Below.refl _ _⟩
end Go.Proofs.YtfdddijdjpijbaaGreat.A
namespace Go.Proofs.YtfdddijdjpijbaaGreat
open Go.RowKit
theorem IM {b:Nat} (o:b<18446744073709551616) (h:af b):az (b:Int)=true/\∃ q:Nat,aA (b:Int)*((2^q:Nat):Int)=vI b/\(aA (b:Int)≠0->aQ (b:Int)+1074=(q:Int)):=by
 unfold af at h
 obtain⟨r,k⟩:∃ r,b % 9223372036854775808=r:=⟨_,rfl⟩;have d:szI (b:Int)=(r:Int):=by unfold szI;omega
 have a:az (b:Int)=true:=by unfold az;rw [d,decide_eq_true_eq];omega
 have g:sgB (b:Int)=(b / 9223372036854775808 % 2==1):=by
  have e:sgB (b:Int)=decide (b / 9223372036854775808 % 2=1):=by
   unfold sgB;apply decide_eq_decide.2;omega
  rw [e]
  by_cases f:b / 9223372036854775808 % 2=1<;>simp [f]
 have i:fZ (r:Int)=(mg r:Int):=by
  unfold fZ mg
  by_cases f:r<4503599627370496
  ·rw [if_pos (by omega),if_pos f]
  ·rw [if_neg (by omega),if_neg f];omega
 have j:aA (b:Int)=sgZ (b / 9223372036854775808 % 2==1) (mg r):=by
  unfold aA sgZ;rw [a,d,i,g];rfl
 refine⟨a,pl r,?_,fun m=>?_⟩
 ·rw [sO,k,uE,j]
 ·have l:r≠0:=fun c=>m (by
   rw [j,c];have:mg 0=0:=rfl;rw [this];unfold sgZ;simp)
  unfold aQ kw pl;rw [a,d];have f:((true&&decide ((r:Int)≠0))=true):=by simp;omega
  rw [if_pos f]
  by_cases n:r<4503599627370496
  ·rw [if_pos (by omega)];omega
  ·rw [if_neg (by omega)];omega
theorem cC {x:Nat} (h:aM (x:Int)=true):af x:=by
 unfold aM at h
 rw [decide_eq_true_eq] at h
 unfold szI at h
 unfold af;omega
end Go.Proofs.YtfdddijdjpijbaaGreat
