/-  -/
import Derived.Test.YtfdddijdjpijbaaGreatHbh
import Derived.Test.YtfdddijdjpijbaaGreatHaq
import Derived.Test.YtfdddijdjpijbaaGreatHar
set_option maxHeartbeats 800000
namespace Go.Proofs.YtfdddijdjpijbaaGreat.A
open Go.RowKit
theorem uR (u:Int): -9007199254740992<aA u/\aA u<9007199254740992:=by
 unfold aA fZ;have:=uc u
 split
 ·split<;>split<;>omega
 ·omega
theorem uS (u:Int): -1074<=aQ u/\aQ u<=971:=by
 unfold aQ kw
 split
 ·rename_i h;simp only [Bool.and_eq_true,az,decide_eq_true_eq] at h
  have:=uc u
  split<;>omega
 ·omega
theorem Io {a b:St} (h:a.s=b.s) (c:a.N=b.N):a=b:=by
 cases a;cases b;simp_all
theorem sV {a:St} (h:a.Ok) (M:Int):(⟨a.s,if a.s=0 then a.N+M else a.N⟩:St)=a.merge ⟨0,M⟩:=by
 unfold St.merge;have e:mt a.s 0=a.s:=by simp [mt]
 apply Io
 ·exact e.symm
 ·show (if a.s=0 then a.N+M else a.N)=if mt a.s 0=0 then a.N+M else 0
  rw [e]
  by_cases b:a.s=0
  ·rw [if_pos b,if_pos b]
  ·rw [if_neg b,if_neg b,h.n0 b]
theorem Er (a:St) (t:Nat):(⟨mt a.s t,if mt a.s t=0 then a.N else 0⟩:St)=a.merge ⟨t,0⟩:=by
 unfold St.merge;apply Io
 ·rfl
 ·show _=if mt a.s t=0 then a.N+0 else 0
  rw [Int.add_zero]
theorem Mo (u:Int):endN u<=3:=by unfold endN;split<;>(try split)<;>omega
theorem uT (w:World) (B:Nat) (b:B<=w.heap.size) :
  Calls Tryz.prog 87 #[] w fun x a=>x=.returned (.pointer (some ⟨w.heap.size,0,none⟩))/\AccAt a B w.heap.size (.slice none 0 0) 0 ⟨0,0⟩ /\Below w.heap.size w a:=by
 have c:Hid (AccAt (w.alloc (.cells #[.int .u8 0,.slice none 0 0] 135)) B w.heap.size (.slice none 0 0) 0 ⟨0,0⟩):=
  ⟨heap_alloc_new w _,b,⟨[],⟨World.ownsRow_nil _ _ _ _,fun i=>by simp⟩,Nat.le_refl _,Hc⟩,fun e=>(by cases e),⟨Nat.zero_le _,fun h=>absurd rfl h⟩⟩
 go_enter Tryz.func87,Tryz.ntmps87
 go_wp2
 go_ret
 exact⟨rfl,c.out,(Below.refl _ _).alloc (Nat.le_refl _) _⟩
theorem Mp (B b:Nat) (v:Value) (L:Nat) (a:St) (x:Nat) (u:Int) (w:World) (h:AccAt w B b v L a) (E:B<=w.heap.size) (o:Hid (u=x)) (l:U64 u) (G:L<=40000) :
  Calls Tryz.prog 128 #[.pointer (some ⟨b,0,none⟩),.float .f64 x] w fun r i=>r=.returned (.tuple #[])/\∃ A,Did w i B b v (max L 70+1) (a.merge (dB u)) A:=by
 have p:=hideS (fu x u w o l);obtain⟨f,c⟩:∃ f:St,a.merge (dB u)=f:=⟨_,rfl⟩;rw [c];cases d:az u
 ·have D:=hideS (Ep x u w o l d);have H:=hideS (In B b v L a (endN u) w h (Mo u));have t:Hid (f=⟨mt a.s (endN u),if mt a.s (endN u)=0 then a.N else 0⟩):=by
   show _=_
   rw [<- c];unfold dB;rw [d,Er];rfl
  rw [d] at p
  clear o l h d c
  go_enter Tryz.func128,Tryz.ntmps128
  go_wp2_with (first | (go_at_call 85;refine (turned p.out).mono ?_;rintro e i ⟨rfl,rfl⟩) | (go_at_call 163;refine (turned D.out).mono ?_;rintro e i ⟨rfl,rfl⟩) | (go_at_call 162;refine H.out.mono ?_;rintro e z ⟨rfl,q,j,_⟩))
  have k:=hideS j;clear j
  first | go_end0 | refine bodyPost_ret (results_none rfl _ _ _) rfl ?_
  exact⟨rfl,q,⟨by rw [t.out];exact k.out.acc.mono (by omega),k.out.wrote,k.out.new⟩⟩
 ·have K:=uR u;have J:=uS u;obtain⟨n,g⟩:∃ n:Nat,aQ u+2148=n:=⟨(aQ u+2148).toNat,by omega⟩
  have C:=hideS (CQ B b v L a 0 (aA u).natAbs n (aQ u) (decide (aA u<0)) w h E (by decide) (by omega) g (by omega) G)
  have F:=hideS (fun w=>kI (aA u) w (by omega) (by omega))
  have t:Hid (f=⟨a.s,if a.s=0 then a.N+sI (decide (aA u<0))*(((0*18446744073709551616+(aA u).natAbs)*2^n:Nat):Int) else a.N⟩):=by
   show _=_
   rw [<- c,sV h.ok];unfold dB;rw [d];simp only [if_true]
   congr 2
   unfold nE;rw [g,Int.toNat_natCast,Nat.zero_mul,Nat.zero_add,Int.natCast_mul,<- Int.mul_assoc,Int.natCast_pow]
   congr 1
   unfold sI
   by_cases y:aA u<0
   ·simp [y];omega
   ·simp [y];omega
  rw [d] at p
  clear o l h d c;generalize aA u=m at *
  generalize aQ u=I at *
  go_enter Tryz.func128,Tryz.ntmps128
  go_wp2_with (first | (go_at_call 85;refine (turned p.out).mono ?_;rintro e i ⟨rfl,rfl⟩) | (go_at_call 130;refine (turned (F.out _)).mono ?_;rintro e i ⟨rfl,rfl⟩))
  refine C.out.mono ?_
  rintro e z ⟨rfl,q,j⟩;have k:=hideS j;clear j
  go_wp2_with fail
  go_end0
  exact⟨rfl,q,by rw [t.out];exact k.out⟩
theorem Es (m n:Int):sI (decide (m<0) !=decide (n<0))*((m.natAbs:Int)*(n.natAbs:Int))=m*n:=by
 unfold sI
 by_cases d:m<0
 ·have c:(m.natAbs:Int)= -m:=by omega
  by_cases b:n<0
  ·have a:(n.natAbs:Int)= -n:=by omega
   simp [d,b,c,a,Int.neg_mul_neg]
  ·have a:(n.natAbs:Int)=n:=by omega
   simp [d,b,c,a,Int.neg_mul]
 ·have c:(m.natAbs:Int)=m:=by omega
  by_cases b:n<0
  ·have a:(n.natAbs:Int)= -n:=by omega
   simp [d,b,c,a,Int.mul_neg]
  ·have a:(n.natAbs:Int)=n:=by omega
   simp [d,b,c,a]
theorem Et (x y:Nat) (w:World) (b:x<18446744073709551616) (c:y<18446744073709551616) :
  Calls Tryz.prog 129 #[.int .u64 x,.int .u64 y] w fun e a=>e=.returned (.tuple #[.int .u64 ((x*y / 18446744073709551616:Nat):Int),.int .u64 ((x*y % 18446744073709551616:Nat):Int)])/\a=w:=
 Any.bits_Mul64 Tryz.mulL x y b c w
theorem xA (B b:Nat) (v:Value) (L:Nat) (a:St) (x y:Nat) (u t:Int) (w:World) (h:AccAt w B b v L a) (R:B<=w.heap.size) (J:Hid (u=x)) (q:U64 u) (F:Hid (t=y)) (A:U64 t) (D:az u=true) (p:az t=true) (U:L<=40000) :
  Calls Tryz.prog 89 #[.pointer (some ⟨b,0,none⟩),.float .f64 x,.float .f64 y] w fun r g=>r=.returned (.tuple #[])/\∃ O,Did w g B b v (max L 70+1) (a.merge (fF u t)) O:=by
 have K:=hideS (fu x u w J q);have E:=hideS (fu y t w F A);rw [D] at K
 rw [p] at E
 have hm:=uR u;have he:=uS u;have hn:=uR t;have X:=uS t;obtain⟨l,i⟩:∃ l:Nat,aQ u+aQ t+2148=l:=⟨(aQ u+aQ t+2148).toNat,by omega⟩
 have T:(aA u).natAbs*(aA t).natAbs<9007199254740992*9007199254740992:=Nat.mul_lt_mul'' (by omega) (by omega)
 have o:=hideS (fun w=>Et (aA u).natAbs (aA t).natAbs w (by omega) (by omega))
 have S:=hideS (fun w=>kI (aA u) w (by omega) (by omega))
 have Q:=hideS (fun w=>kI (aA t) w (by omega) (by omega))
 obtain⟨f,c⟩:∃ f:St,a.merge (fF u t)=f:=⟨_,rfl⟩;rw [c];obtain⟨P,d⟩:∃ P,(aA u).natAbs*(aA t).natAbs=P:=⟨_,rfl⟩;have z:=hideS (CQ B b v L a (P / 18446744073709551616) (P % 18446744073709551616) l (aQ u+aQ t) (decide (aA u<0) !=decide (aA t<0)) w h R (by omega) (by omega) i (by omega) U)
 have G:Hid (f=⟨a.s,if a.s=0 then a.N+sI (decide (aA u<0) !=decide (aA t<0))*(((P / 18446744073709551616*18446744073709551616+P % 18446744073709551616)*2^l:Nat):Int) else a.N⟩):=by
  show _=_
  rw [<- c,sV h.ok]
  congr 1
  unfold fF
  congr 1
  rw [i,Int.toNat_natCast,show P / 18446744073709551616*18446744073709551616+P % 18446744073709551616=P by omega,Int.natCast_mul,<- Int.mul_assoc,Int.natCast_pow]
  congr 1
  rw [<- d,Int.natCast_mul,Es]
 rw [d] at o
 obtain⟨H,j⟩:∃ H,P / 18446744073709551616=H:=⟨_,rfl⟩;obtain⟨C,k⟩:∃ C,P % 18446744073709551616=C:=⟨_,rfl⟩;rw [j,k] at o z G
 clear J q F A h D p T d c j k;generalize aA u=m at *
 generalize aQ u=Z at *
 generalize aA t=n at *
 generalize aQ t=Y at *
 go_enter Tryz.func89,Tryz.ntmps89
 go_wp2_with fail
 refine (turned K.out).mono ?_
 rintro e g ⟨rfl,rfl⟩
 go_wp2_with fail
 refine (turned E.out).mono ?_
 rintro e g ⟨rfl,rfl⟩
 go_wp2_with fail
 refine (turned (S.out _)).mono ?_
 rintro e g ⟨rfl,rfl⟩
 go_wp2_with fail
 refine (turned (Q.out _)).mono ?_
 rintro e g ⟨rfl,rfl⟩
 go_wp2_with fail
 refine (turned (o.out _)).mono ?_
 rintro e g ⟨rfl,rfl⟩
 go_wp2_with fail
 refine z.out.mono ?_
 rintro e W ⟨rfl,M,I⟩;have V:=hideS I;clear I
 go_wp2_with fail
 go_end0
 exact⟨rfl,M,by rw [G.out];exact V.out⟩
theorem sW (B:Nat) (v:Value) (ys:List Nat) (more neg:Bool) (w:World) (h:OwnW w B v ys) (hn:ys.length<=100000) (r:more=true->0<ys.length) :
  Calls Tryz.prog 93 #[v,.bool more,.bool neg] w fun e f=>e=.returned (.float .f64 (aJ (sgM neg (mant (ps (fun i=>ys.getD i 0) ys.length) more)) (kc (ps (fun i=>ys.getD i 0) ys.length))))/\∃ q,f=w.drewN q:=by
 obtain⟨p,g,c,rfl,b,a,o,l⟩:=h.shape
 by_cases m:ys.length=0
 ·have d:more=false:=by cases more;rfl;exact absurd (r rfl) (by omega)
  subst d;rw [m];have:=Em c p neg w;refine this.mono ?_
  rintro e f ⟨rfl,n⟩;refine⟨?_,n⟩
  cases neg<;>rfl
 ·obtain⟨rfl,_⟩:=o (by omega)
  exact Eo (some ⟨g,0,none⟩) g c ys.length (fun i=>ys.getD i 0) more neg w (by omega) rfl l b (by unfold maxLen at a;omega) h.fit hn (fun k t=>AF (some ⟨g,0,none⟩) g c k ys w (fun _=>rfl) (fun j s=>l j (by omega)) (by omega)) _ rfl
def cO (a:St):Nat:=if a.s=0 then valF a.N else if a.s=1 then 9218868437227405312 else if a.s=2 then 18442240474082181120 else 9221120237041090561
theorem Ip (s:Nat) (w:World) (b:s≠0) (c:s<=3) (N:Int) :
  Calls Tryz.prog 91 #[.int .u8 (s:Int)] w fun e a=>e=.returned (.float .f64 (cO ⟨s,N⟩))/\a=w:=by
 have d:=bY;rcases (show s=1\/s=2\/s=3 by omega) with rfl | rfl | rfl
 all_goals
  go_enter Tryz.func91,Tryz.ntmps91
  go_wp2_with go_in
  go_ret
  exact⟨rfl,rfl⟩
theorem Eu (B b:Nat) (v:Value) (L:Nat) (a:St) (w:World) (h:AccAt w B b v L a) (E:B<=w.heap.size) (K:L<=40000) :
  Calls Tryz.prog 59 #[.pointer (some ⟨b,0,none⟩)] w fun r u=>r=.returned (.float .f64 (cO a))/\Below w.heap.size w u:=by
 have c0:=h.cell0;have c1:=h.cell1;obtain⟨x,i,y,g⟩:=h.own;have c:=h.ok.s3
 by_cases d:a.s=0
 ·have m:=hideS (sU B v x a.N w i g (by omega) E)
  have p:Hid (cO a=valF a.N):=by show _=_;unfold cO;rw [if_pos d]
  rw [p.out];rw [d] at c0
  have H:Hid (x.length<=40000):=by show _<=_;omega
  clear h i y g c d p
  go_enter Tryz.func59,Tryz.ntmps59
  go_wp2_with fail
  refine m.out.mono ?_
  rintro e A ⟨C,F,rfl,j,G,k,l⟩;have n:=hideS (sW B C F false (decide (a.N<0)) A j (by have:=H.out;omega) (fun h=>by cases h))
  rw [k,sL] at n
  have f:=hideS l;clear j G k l m;generalize decide (a.N<0)=I at *
  go_wp2_with fail
  refine n.out.mono ?_
  rintro e J ⟨rfl,q,rfl⟩
  go_wp2_with fail
  go_ret
  exact⟨rfl,⟨f.out.os,f.out.tape,f.out.output,f.out.size,f.out.block⟩⟩
 ·have z:=hideS (fun w=>Ip a.s w d c a.N)
  obtain⟨t,o⟩:∃ t:Int,((a.s:Nat):Int)=t:=⟨_,rfl⟩;rw [o] at c0 z
  have D:(t !=0)=true:=by simp;omega
  clear h i y g c d o
  go_enter Tryz.func59,Tryz.ntmps59
  go_wp2_with (go_at_call 91;refine (z.out _).mono ?_;rintro e u ⟨rfl,rfl⟩)
  go_ret
  exact⟨rfl,Below.refl _ _⟩
end Go.Proofs.YtfdddijdjpijbaaGreat.A
namespace Go.Proofs.YtfdddijdjpijbaaGreat
open Go.RowKit
theorem IM {b:Nat} (o:b<18446744073709551616) (h:af b):az (b:Int)=true/\∃ q:Nat,aA (b:Int)*((2^q:Nat):Int)=vI b/\(aA (b:Int)≠0->aQ (b:Int)+1074=(q:Int)):=by
 unfold af at h
 obtain⟨r,m⟩:∃ r,b % 9223372036854775808=r:=⟨_,rfl⟩;have a:szI (b:Int)=(r:Int):=by unfold szI;omega
 have d:az (b:Int)=true:=by unfold az;rw [a,decide_eq_true_eq];omega
 have g:sgB (b:Int)=(b / 9223372036854775808 % 2==1):=by
  have e:sgB (b:Int)=decide (b / 9223372036854775808 % 2=1):=by
   unfold sgB;apply decide_eq_decide.2;omega
  rw [e]
  by_cases f:b / 9223372036854775808 % 2=1<;>simp [f]
 have i:fZ (r:Int)=(mg r:Int):=by
  unfold fZ mg
  by_cases f:r<4503599627370496
  ·rw [if_pos (by omega),if_pos f]
  ·rw [if_neg (by omega),if_neg f];omega
 have j:aA (b:Int)=sgZ (b / 9223372036854775808 % 2==1) (mg r):=by
  unfold aA sgZ;rw [d,a,i,g];rfl
 refine⟨d,pl r,?_,fun k=>?_⟩
 ·rw [sO,m,uE,j]
 ·have l:r≠0:=fun c=>k (by
   rw [j,c];have:mg 0=0:=rfl;rw [this];unfold sgZ;simp)
  unfold aQ kw pl;rw [d,a];have f:((true&&decide ((r:Int)≠0))=true):=by simp;omega
  rw [if_pos f]
  by_cases n:r<4503599627370496
  ·rw [if_pos (by omega)];omega
  ·rw [if_neg (by omega)];omega
theorem cC {x:Nat} (h:aM (x:Int)=true):af x:=by
 unfold aM at h
 rw [decide_eq_true_eq] at h
 unfold szI at h
 unfold af;omega
end Go.Proofs.YtfdddijdjpijbaaGreat
