/-  -/
import Derived.Laws.BitsAllLaws
import Derived.Laws.Bits64b
namespace Go.Proofs.YtfdddijdjpijbaaGreat
def szI (u:Int):Int:=u % 9223372036854775808
def sgB (u:Int):Bool:=decide (9223372036854775808<=u)
def ah (u:Int):Bool:=decide (9218868437227405312<szI u)
def ae (u:Int):Int:=if ah u then 0 else if sgB u then -(szI u) else szI u
def fA (a b:Int):Bool:=decide (a=b)||ah a&&ah b
def uJ (u:Int):Int:=if szI u=0 then 1 else if szI u<4503599627370496 then 2 else if szI u<9218868437227405312 then 3 else if szI u=9218868437227405312 then 4 else 5
def U64 (u:Int):Prop:=0<=u/\u<18446744073709551616
theorem uK (u:Int):0<=szI u:=by unfold szI;omega
theorem OR (u:Int):szI u<=9223372036854775807:=by unfold szI;omega
theorem AC {u:Int} (h:U64 u) (a:sgB u=true):szI u=u - 9223372036854775808:=by
 simp only [sgB,decide_eq_true_eq] at a;unfold szI;unfold U64 at h;omega
theorem AD {u:Int} (h:U64 u) (a:sgB u=false):szI u=u:=by
 simp only [sgB,decide_eq_false_iff_not] at a;unfold szI;unfold U64 at h;omega
theorem AE (b:Nat):b&&& 9223372036854775807=b % 9223372036854775808:=by
 have:=Nat.and_two_pow_sub_one_eq_mod b 63
 simpa using this
theorem dK {u:Int} (h:U64 u):bits .andNot .u64 u 9223372036854775808=szI u:=by
 obtain⟨b,rfl⟩:=Int.eq_ofNat_of_zero_le h.1;have:=u64_andNot_nat b 9223372036854775808 (by have:=h.2;omega) (by decide)
 rw [show ((9223372036854775808:Nat):Int)=9223372036854775808 from rfl] at this
 rw [this,show (18446744073709551615 - 9223372036854775808:Nat)=9223372036854775807 from rfl,AE]
 unfold szI;omega
theorem Mb (b k:Nat):b&&& 2^k=if b.testBit k then 2^k else 0:=by
 apply Nat.eq_of_testBit_eq;intro i;rw [Nat.testBit_and,Nat.testBit_two_pow]
 by_cases hi:k=i
 ·subst hi;cases b.testBit k<;>simp
 ·cases b.testBit k<;>simp [hi]
theorem Hb {u:Int} (h:U64 u):bits .and .u64 u 9223372036854775808=if sgB u then 9223372036854775808 else 0:=by
 obtain⟨b,rfl⟩:=Int.eq_ofNat_of_zero_le h.1;have c:b<18446744073709551616:=by have:=h.2;omega
 have:=bits_and_u64_nat b 9223372036854775808 c (by decide)
 rw [show ((9223372036854775808:Nat):Int)=9223372036854775808 from rfl] at this
 rw [this];have e:b&&& 9223372036854775808=if sgB b then 9223372036854775808 else 0:=by
  have a:=Mb b 63;have d:b.testBit 63=sgB b:=by
   rw [Nat.testBit_eq_decide_div_mod_eq];unfold sgB;apply decide_eq_decide.2;omega
  rw [d] at a
  rw [show (2:Nat)^63=9223372036854775808 from rfl] at a
  exact a
 rw [e];cases sgB b<;>rfl
theorem Qz {u:Int} (a:0<=u) (h:u<9223372036854775808):bits .or .u64 u 9223372036854775808=9223372036854775808+u:=by
 obtain⟨b,rfl⟩:=Int.eq_ofNat_of_zero_le a;have:=bits_or_u64_nat b 9223372036854775808 (by omega) (by decide)
 rw [show ((9223372036854775808:Nat):Int)=9223372036854775808 from rfl] at this
 rw [this];have c:=Nat.two_pow_add_eq_or_of_lt (i:=63) (b:=b) (by omega) 1
 rw [Nat.or_comm,show (9223372036854775808:Nat)=2^63*1 from rfl,<- c]
 omega
theorem af {b:Nat} (h:b<18446744073709551616):U64 (b:Int):=by unfold U64;omega
theorem fB (a:Int):fA a a=true:=by simp [fA]
theorem Ei {a b:Int} (h:ah a=true) (c:ah b=true):fA a b=true:=by simp [fA,h,c]
theorem cls_cases (u:Int):(szI u=0/\uJ u=1)\/((0<szI u/\szI u<4503599627370496)/\uJ u=2)\/((4503599627370496<=szI u/\szI u<9218868437227405312)/\uJ u=3)\/(szI u=9218868437227405312/\uJ u=4)\/(9218868437227405312<szI u/\uJ u=5):=by
 have e:=uK u;unfold uJ
 by_cases a:szI u=0
 ·rw [if_pos a];exact Or.inl ⟨a,rfl⟩
 rw [if_neg a]
 by_cases d:szI u<4503599627370496
 ·rw [if_pos d];exact Or.inr (Or.inl ⟨⟨by omega,d⟩,rfl⟩)
 rw [if_neg d]
 by_cases c:szI u<9218868437227405312
 ·rw [if_pos c];exact Or.inr (Or.inr (Or.inl ⟨⟨by omega,c⟩,rfl⟩))
 rw [if_neg c]
 by_cases b:szI u=9218868437227405312
 ·rw [if_pos b];exact Or.inr (Or.inr (Or.inr (Or.inl ⟨b,rfl⟩)))
 ·rw [if_neg b];exact Or.inr (Or.inr (Or.inr (Or.inr ⟨by omega,rfl⟩)))
def ps (f:Nat->Nat):Nat->Nat
 | 0=>0
 | k+1=>ps f k+f k*2^(64*k)
theorem lu (k:Nat):(2:Nat)^(64*(k+1))=18446744073709551616*2^(64*k):=by
 rw [show 64*(k+1)=64+64*k by omega,Nat.pow_add]
theorem cj (k:Nat):0<(2:Nat)^(64*k):=Nat.two_pow_pos _
def pN (f:Nat->Nat):Prop:=∀ i,f i<18446744073709551616
theorem ku {f:Nat->Nat} (h:pN f):∀ k,ps f k<2^(64*k)
 | 0=>by simp [ps]
 | k+1=>by
  have c:=ku h k;have b:f k+1<=18446744073709551616:=h k;have a:(f k+1)*2^(64*k)<=18446744073709551616*2^(64*k):=Nat.mul_le_mul_right _ b;rw [Nat.add_mul,Nat.one_mul] at a
  rw [lu,ps];omega
theorem cQ {f g:Nat->Nat}:∀ {k:Nat},(∀ i,i<k->f i=g i)->ps f k=ps g k
 | 0,_=>rfl
 | k+1,h=>by rw [ps,ps,cQ (fun i hi=>h i (by omega)),h k (by omega)]
theorem oQ:∀ k,ps (fun _=>0) k=0
 | 0=>rfl
 | k+1=>by rw [ps,oQ k];simp
theorem Rz {f:Nat->Nat} {k n:Nat} (h:k<=n):ps f k<=ps f n:=by
 induction n with
 | zero=>rw [show k=0 by omega];exact Nat.le_refl _
 | succ n a=>
  by_cases b:k=n+1
  ·subst b;exact Nat.le_refl _
  ·have:=a (by omega);rw [ps];omega
theorem pO {f:Nat->Nat}:∀ {k:Nat},ps f k=0->∀ i,i<k->f i=0
 | 0,_,i,hi=>by omega
 | k+1,h,i,hi=>by
  rw [ps] at h
  have d:=cj k
  by_cases b:i=k
  ·subst b;have c:f i*2^(64*i)=0:=by omega
   rcases Nat.mul_eq_zero.1 c with a | a
   ·exact a
   ·omega
  ·exact pO (k:=k) (by omega) i (by omega)
theorem In {f g:Nat->Nat} (c:pN f) (j:pN g):∀ {k:Nat},ps f k=ps g k->∀ i,i<k->f i=g i
 | 0,_,i,hi=>by omega
 | k+1,h,i,hi=>by
  rw [ps,ps] at h
  have n:=ku c k;have m:=ku j k;have d:=cj k;have e:f k=g k:=by
   have a:(ps f k+f k*2^(64*k)) / 2^(64*k)=f k:=by rw [Nat.add_mul_div_right _ _ d,Nat.div_eq_of_lt n,Nat.zero_add]
   have b:(ps g k+g k*2^(64*k)) / 2^(64*k)=g k:=by rw [Nat.add_mul_div_right _ _ d,Nat.div_eq_of_lt m,Nat.zero_add]
   rw [<- a,<- b,h]
  by_cases l:i=k
  ·subst l;exact e
  ·rw [e] at h;exact In c j (k:=k) (by omega) i (by omega)
def endW (xs:List Nat):Nat:=xs.getD (xs.length - 1) 0
def wd (xs:List Nat) (i:Nat):Nat:=if i<xs.length then xs.getD i 0 else endW xs
def FitW (xs:List Nat):Prop:=pN fun i=>xs.getD i 0
theorem FitW.wd {xs:List Nat} (h:FitW xs):pN (wd xs):=fun i=>by
 unfold Proofs.YtfdddijdjpijbaaGreat.wd endW;split
 ·exact h i
 ·exact h _
structure Sg (xs:List Nat) (N:Int):Prop where
 fit:FitW xs
 last:endW xs=0\/endW xs=18446744073709551615
 eq:N=(ps (wd xs) xs.length:Int) - (if endW xs=0 then 0 else 2^(64*xs.length))
theorem Io:Sg [] 0:=⟨fun i=>by simp,Or.inl rfl,by simp [ps,endW]⟩
theorem Mt {xs:List Nat} {i:Nat} (h:xs.length<=i):wd xs i=endW xs:=by unfold wd;rw [if_neg (by omega)]
theorem il (k:Nat):(2:Int)^(64*(k+1))=18446744073709551616*2^(64*k):=by
 have:=lu k;have a:((2^(64*(k+1)):Nat):Int)=((18446744073709551616*2^(64*k):Nat):Int):=by rw [this]
 simpa using a
theorem dO (k:Nat):((2^(64*k):Nat):Int)=2^(64*k):=by simp
theorem Sg.ext {xs:List Nat} {N:Int} (h:Sg xs N) {n:Nat} (hn:xs.length<=n):N=(ps (wd xs) n:Int) - (if endW xs=0 then 0 else 2^(64*n)):=by
 induction n with
 | zero=>have:=h.eq;rw [show xs.length=0 by omega] at this;exact this
 | succ n b=>
  by_cases c:xs.length=n+1
  ·have:=h.eq;rw [c] at this;exact this
  ·have a:=b (by omega)
   rw [ps,Mt (by omega),il]
   rcases h.last with e | e
   ·rw [e] at a ⊢;simp at a ⊢;exact a
   ·rw [e] at a ⊢
    rw [if_neg (by decide)] at a ⊢
    have d:=dO n;rw [Int.natCast_add,Int.natCast_mul,d];generalize (2:Int)^(64*n)=P at *
    omega
theorem Sg.range {xs:List Nat} {N:Int} (h:Sg xs N) {n:Nat} (hn:xs.length<=n+1):(endW xs=0->0<=N/\N<2^(64*n))/\(endW xs≠0->-(2^(64*n))<=N/\N<0):=by
 have a:=h.ext hn;have j:=ku h.fit.wd n;have g:(ps (wd xs) n:Int)<2^(64*n):=by have:=dO n;omega
 rw [ps,il] at a
 have i:=cj n;have c:=dO n;have f:wd xs n=endW xs:=by
  unfold wd;split
  ·unfold endW;congr 1;omega
  ·rfl
 rw [f] at a
 constructor
 ·intro e;rw [e] at a
  simp at a
  omega
 ·intro e;have d:endW xs=18446744073709551615:=by rcases h.last with b | b;exact absurd b e;exact b
  rw [if_neg e,d,Int.natCast_add,Int.natCast_mul,c] at a
  generalize (2:Int)^(64*n)=P at *
  omega
theorem Sg.same {xs ys:List Nat} {N M:Int} (h:Sg xs N) (e:Sg ys M):N=M↔∀ i,i<max xs.length ys.length->wd xs i=wd ys i:=by
 obtain⟨n,o⟩:∃ n,n=max xs.length ys.length:=⟨_,rfl⟩;rw [<- o];have c:=h.ext (n:=n) (by omega)
 have d:=e.ext (n:=n) (by omega)
 constructor
 ·rintro rfl
  by_cases k:n=0
  ·intro i hi;omega
  have l:=h.range (n:=n) (by omega)
  have g:=e.range (n:=n) (by omega)
  have j:endW xs=0↔endW ys=0:=by
   constructor
   ·intro a;rcases Nat.eq_zero_or_pos (endW ys) with b | b
    ·exact b
    ·have:=l.1 a;have:=g.2 (by omega);omega
   ·intro a;rcases Nat.eq_zero_or_pos (endW xs) with b | b
    ·exact b
    ·have:=g.1 a;have:=l.2 (by omega);omega
  have f:ps (wd xs) n=ps (wd ys) n:=by
   by_cases a:endW xs=0
   ·rw [if_pos a] at c;rw [if_pos (j.1 a)] at d;omega
   ·rw [if_neg a] at c;rw [if_neg (fun b=>a (j.2 b))] at d;omega
  exact In h.fit.wd e.fit.wd f
 ·intro m
  by_cases k:n=0
  ·have a:xs=[]:=List.length_eq_zero_iff.1 (by omega)
   have b:ys=[]:=List.length_eq_zero_iff.1 (by omega)
   subst a;subst b;rw [k] at c d;rw [c,d]
  ·have f:=cQ m;have q:endW xs=endW ys:=by
    have:=m (n - 1) (by omega)
    unfold wd at this
    have p:(if n - 1<xs.length then xs.getD (n - 1) 0 else endW xs)=endW xs:=by
     split
     ·unfold endW;congr 1;omega
     ·rfl
    have r:(if n - 1<ys.length then ys.getD (n - 1) 0 else endW ys)=endW ys:=by
     split
     ·unfold endW;congr 1;omega
     ·rfl
    rw [p,r] at this;exact this
   rw [c,d,f,q]
theorem Ip {xs ys:List Nat} {i:Nat}:(xs++ys).getD i 0=if i<xs.length then xs.getD i 0 else ys.getD (i - xs.length) 0:=by
 simp only [List.getD]
 by_cases h:i<xs.length
 ·rw [if_pos h,List.getElem?_append_left h]
 ·rw [if_neg h,List.getElem?_append_right (by omega)]
theorem gL {xs:List Nat} {x i:Nat}:(xs++[x]).getD i 0=if i<xs.length then xs.getD i 0 else if i=xs.length then x else 0:=by
 rw [Ip]
 by_cases h:i<xs.length
 ·rw [if_pos h,if_pos h]
 ·rw [if_neg h,if_neg h]
  by_cases a:i=xs.length
  ·rw [if_pos a,a,Nat.sub_self];rfl
  ·rw [if_neg a];obtain⟨j,b⟩:∃ j,i - xs.length=j+1:=⟨i - xs.length - 1,by omega⟩
   rw [b];rfl
theorem fq (xs:List Nat) (x:Nat):endW (xs++[x])=x:=by
 unfold endW;rw [gL,List.length_append,List.length_singleton,Nat.add_sub_cancel,if_neg (by omega),if_pos rfl]
theorem FitW.snoc {xs:List Nat} {x:Nat} (h:FitW xs) (b:x<18446744073709551616):FitW (xs++[x]):=fun i=>by
 show (xs++[x]).getD i 0<_
 rw [gL]
 by_cases a:i<xs.length
 ·rw [if_pos a];exact h i
 ·rw [if_neg a];split
  ·exact b
  ·decide
theorem xq {xs:List Nat} (i:Nat):wd (xs++[endW xs]) i=wd xs i:=by
 unfold wd;rw [fq,gL,List.length_append,List.length_singleton]
 by_cases h:i<xs.length
 ·rw [if_pos h,if_pos h,if_pos (by omega)]
 ·rw [if_neg h,if_neg h]
  by_cases a:i=xs.length
  ·rw [if_pos a,if_pos (by omega)]
  ·rw [if_neg (show ¬ i<xs.length+1 by omega)]
theorem Sg.more {xs:List Nat} {N:Int} (h:Sg xs N):Sg (xs++[endW xs]) N:=by
 refine⟨h.fit.snoc (by rcases h.last with e | e<;>rw [e]<;>decide),by rw [fq];exact h.last,?_⟩
 rw [fq,cQ (fun i _=>xq i),List.length_append,List.length_singleton]
 exact h.ext (by omega)
def settle (ys:List Nat):List Nat:=if endW ys=0\/endW ys=18446744073709551615 then ys else ys++[if endW ys<9223372036854775808 then 0 else 18446744073709551615]
theorem Dj {xs:List Nat} {n:Nat} (h:n<=xs.length):ps (wd xs) n=ps (fun i=>xs.getD i 0) n:=cQ fun i hi=>by unfold wd;rw [if_pos (by omega)]
theorem EG {ys:List Nat} {N q:Int} (g:FitW ys) (H:0<ys.length) (o:(ps (fun i=>ys.getD i 0) ys.length:Int)=N+q*2^(64*ys.length)) (l: -(2^(64*ys.length))<=2*N) (j:2*N<2^(64*ys.length)):Sg (settle ys) N:=by
 obtain⟨n,r⟩:∃ n,ys.length=n+1:=⟨ys.length - 1,by omega⟩
 have v:endW ys=ys.getD n 0:=by unfold endW;rw [r,Nat.add_sub_cancel]
 have y:endW ys<18446744073709551616:=by rw [v];exact g n
 have I:=ku g n;have D:=cj n;have hi:=dO n;have p:ps (wd ys) ys.length=ps (fun i=>ys.getD i 0) ys.length:=Dj (Nat.le_refl _)
 have u:(ps (fun i=>ys.getD i 0) ys.length:Int)=ps (fun i=>ys.getD i 0) n+(endW ys:Int)*2^(64*n):=by
  rw [r,ps,<- v,Int.natCast_add,Int.natCast_mul,hi]
 have m:q=0\/q=1:=by
  have J:=ku g ys.length;have z:(ps (fun i=>ys.getD i 0) ys.length:Int)<2^(64*ys.length):=by have:=dO ys.length;omega
  have E:(0:Int)<2^(64*ys.length):=by have:=cj ys.length;have:=dO ys.length;omega
  generalize (2:Int)^(64*ys.length)=R at *
  have a:q*R<2*R:=by omega
  have b:(-1)*R<q*R:=by omega
  have G:=Int.lt_of_mul_lt_mul_right a (by omega)
  have F:=Int.lt_of_mul_lt_mul_right b (by omega)
  omega
 have k:(2:Int)^(64*ys.length)=18446744073709551616*2^(64*n):=by rw [r];exact il n
 unfold settle
 by_cases f:endW ys=0\/endW ys=18446744073709551615
 ·rw [if_pos f];refine⟨g,f,?_⟩
  rw [p];rcases f with e | e
  ·rw [if_pos e];rw [e] at u
   rcases m with rfl | rfl
   ·omega
   ·rw [k] at l j o
    generalize (2:Int)^(64*n)=P at *
    omega
  ·rw [if_neg (by omega)]
   rw [e] at u
   rcases m with rfl | rfl
   ·rw [k] at l j
    generalize (2:Int)^(64*n)=P at *
    omega
   ·omega
 ·rw [if_neg f];have w:endW ys≠0:=fun e=>f (Or.inl e)
  have C:endW ys≠18446744073709551615:=fun e=>f (Or.inr e)
  obtain⟨s,c⟩:∃ s,s=if endW ys<9223372036854775808 then 0 else 18446744073709551615:=⟨_,rfl⟩
  rw [<- c];have d:(endW ys<9223372036854775808/\s=0/\q=0)\/(9223372036854775808<=endW ys/\s=18446744073709551615/\q=1):=by
   by_cases t:endW ys<9223372036854775808
   ·rw [if_pos t] at c
    refine Or.inl ⟨t,c,?_⟩
    rcases m with rfl | rfl
    ·rfl
    ·exfalso
     have A:(endW ys:Int)*2^(64*n)<=9223372036854775807*2^(64*n):=Int.mul_le_mul_of_nonneg_right (by omega) (by omega)
     rw [k] at l j o
     generalize (2:Int)^(64*n)=P at *
     generalize (endW ys:Int)*P=Q at *
     omega
   ·rw [if_neg t] at c
    refine Or.inr ⟨by omega,c,?_⟩
    rcases m with rfl | rfl
    ·exfalso
     have A:9223372036854775808*2^(64*n)<=(endW ys:Int)*2^(64*n):=Int.mul_le_mul_of_nonneg_right (by omega) (by omega)
     rw [k] at l j o
     generalize (2:Int)^(64*n)=P at *
     generalize (endW ys:Int)*P=Q at *
     omega
    ·rfl
  refine⟨g.snoc (by rcases d with h | h<;>omega),by rw [fq];rcases d with h | h<;>omega,?_⟩
  rw [fq,List.length_append,List.length_singleton,ps];have x:ps (wd (ys++[s])) ys.length=ps (fun i=>ys.getD i 0) ys.length:=cQ fun i hi=>by
   unfold wd;rw [List.length_append,List.length_singleton,if_pos (by omega),gL,if_pos hi]
  have B:wd (ys++[s]) ys.length=s:=by
   unfold wd;rw [List.length_append,List.length_singleton,if_pos (by omega),gL,if_neg (by omega),if_pos rfl]
  rw [x,B,Int.natCast_add,Int.natCast_mul,dO,il,o];generalize (2:Int)^(64*ys.length)=R at *
  rcases d with⟨_,rfl,rfl⟩| ⟨_,rfl,rfl⟩
  ·simp
  ·rw [if_neg (by decide)];omega
def Rel (s:Int) (y x f:Nat->Nat) (c k:Nat):Prop:=(ps y k:Int)+s*((c:Int)*2^(64*k))=ps x k+s*ps f k
theorem Rel.start (s:Int) (y x f:Nat->Nat):Rel s y x f 0 0:=by simp [Rel,ps]
theorem Rel.step {s:Int} {y x f:Nat->Nat} {c c' k:Nat} (h:Rel s y x f c k) (b:(y k:Int)+s*((c':Int)*18446744073709551616)=x k+s*((f k:Int)+c)):Rel s y x f c' (k+1):=by
 unfold Rel at *
 rw [ps,ps,ps,il,Int.natCast_add,Int.natCast_add,Int.natCast_add,Int.natCast_mul,Int.natCast_mul,Int.natCast_mul,dO];generalize (2:Int)^(64*k)=P at *
 have a:((y k:Int)+s*((c':Int)*18446744073709551616))*P=((x k:Int)+s*((f k:Int)+c))*P:=by rw [b]
 simp only [Int.add_mul,Int.mul_add,Int.mul_assoc] at a h ⊢
 rw [Int.mul_comm 18446744073709551616 P] at a
 rw [Int.mul_comm 18446744073709551616 P];generalize s*((c':Int)*(P*18446744073709551616))=A at *
 generalize s*((c:Int)*P)=B at *
 generalize s*((f k:Int)*P)=C at *
 generalize (y k:Int)*P=D at *
 generalize (x k:Int)*P=F at *
 omega
theorem Rel.rest {s:Int} {y x f:Nat->Nat} {k n:Nat} (h:Rel s y x f 0 k) (i:k<=n) (a:∀ j,k<=j->j<n->y j=x j/\f j=0):Rel s y x f 0 n:=by
 induction n with
 | zero=>rw [show k=0 by omega] at h;exact h
 | succ n b=>
  by_cases e:k=n+1
  ·subst e;exact h
  ·have g:=b (by omega) (fun j c d=>a j c (by omega))
   refine g.step ?_
   have:=a n (by omega) (by omega)
   rw [this.1,this.2];simp
theorem Rel.congr {s:Int} {y a x b f d:Nat->Nat} {c k:Nat} (h:Rel s y x f c k) (j:∀ i,i<k->y i=a i) (g:∀ i,i<k->x i=b i) (e:∀ i,i<k->f i=d i):Rel s a b d c k:=by
 unfold Rel at *
 rw [<- cQ j,<- cQ g,<- cQ e];exact h
end Go.Proofs.YtfdddijdjpijbaaGreat
