/-  -/
import Derived.Laws.BitsAllLaws
import Derived.Laws.Bits64b
namespace Go.Proofs.YtfdddijdjpijbaaGreat
def szI (u:Int):Int:=u % 9223372036854775808
def sgB (u:Int):Bool:=decide (9223372036854775808<=u)
def ah (u:Int):Bool:=decide (9218868437227405312<szI u)
def ae (u:Int):Int:=if ah u then 0 else if sgB u then -(szI u) else szI u
def eV (a b:Int):Bool:=decide (a=b)||ah a&&ah b
def tZ (u:Int):Int:=if szI u=0 then 1 else if szI u<4503599627370496 then 2 else if szI u<9218868437227405312 then 3 else if szI u=9218868437227405312 then 4 else 5
def U64 (u:Int):Prop:=0<=u/\u<18446744073709551616
theorem uc (u:Int):0<=szI u:=by unfold szI;omega
theorem Oi (u:Int):szI u<=9223372036854775807:=by unfold szI;omega
theorem Ab {u:Int} (h:U64 u) (a:sgB u=true):szI u=u - 9223372036854775808:=by
 simp only [sgB,decide_eq_true_eq] at a;unfold szI;unfold U64 at h;omega
theorem Ac {u:Int} (h:U64 u) (a:sgB u=false):szI u=u:=by
 simp only [sgB,decide_eq_false_iff_not] at a;unfold szI;unfold U64 at h;omega
theorem Ad (b:Nat):b&&& 9223372036854775807=b % 9223372036854775808:=by
 have:=Nat.and_two_pow_sub_one_eq_mod b 63
 simpa using this
theorem dD {u:Int} (h:U64 u):bits .andNot .u64 u 9223372036854775808=szI u:=by
 obtain⟨b,rfl⟩:=Int.eq_ofNat_of_zero_le h.1;have:=u64_andNot_nat b 9223372036854775808 (by have:=h.2;omega) (by decide)
 rw [show ((9223372036854775808:Nat):Int)=9223372036854775808 from rfl] at this
 rw [this,show (18446744073709551615 - 9223372036854775808:Nat)=9223372036854775807 from rfl,Ad]
 unfold szI;omega
theorem Lx (b k:Nat):b&&& 2^k=if b.testBit k then 2^k else 0:=by
 apply Nat.eq_of_testBit_eq;intro i;rw [Nat.testBit_and,Nat.testBit_two_pow]
 by_cases hi:k=i
 ·subst hi;cases b.testBit k<;>simp
 ·cases b.testBit k<;>simp [hi]
theorem Gx {u:Int} (h:U64 u):bits .and .u64 u 9223372036854775808=if sgB u then 9223372036854775808 else 0:=by
 obtain⟨b,rfl⟩:=Int.eq_ofNat_of_zero_le h.1;have d:b<18446744073709551616:=by have:=h.2;omega
 have:=bits_and_u64_nat b 9223372036854775808 d (by decide)
 rw [show ((9223372036854775808:Nat):Int)=9223372036854775808 from rfl] at this
 rw [this];have e:b&&& 9223372036854775808=if sgB b then 9223372036854775808 else 0:=by
  have a:=Lx b 63;have c:b.testBit 63=sgB b:=by
   rw [Nat.testBit_eq_decide_div_mod_eq];unfold sgB;apply decide_eq_decide.2;omega
  rw [c] at a
  rw [show (2:Nat)^63=9223372036854775808 from rfl] at a
  exact a
 rw [e];cases sgB b<;>rfl
theorem Qb {u:Int} (a:0<=u) (h:u<9223372036854775808):bits .or .u64 u 9223372036854775808=9223372036854775808+u:=by
 obtain⟨b,rfl⟩:=Int.eq_ofNat_of_zero_le a;have:=bits_or_u64_nat b 9223372036854775808 (by omega) (by decide)
 rw [show ((9223372036854775808:Nat):Int)=9223372036854775808 from rfl] at this
 rw [this];have c:=Nat.two_pow_add_eq_or_of_lt (i:=63) (b:=b) (by omega) 1
 rw [Nat.or_comm,show (9223372036854775808:Nat)=2^63*1 from rfl,<- c]
 omega
theorem ag {b:Nat} (h:b<18446744073709551616):U64 (b:Int):=by unfold U64;omega
theorem gV (a:Int):eV a a=true:=by simp [eV]
theorem DC {a b:Int} (h:ah a=true) (c:ah b=true):eV a b=true:=by simp [eV,h,c]
theorem cls_cases (u:Int):(szI u=0/\tZ u=1)\/((0<szI u/\szI u<4503599627370496)/\tZ u=2)\/((4503599627370496<=szI u/\szI u<9218868437227405312)/\tZ u=3)\/(szI u=9218868437227405312/\tZ u=4)\/(9218868437227405312<szI u/\tZ u=5):=by
 have e:=uc u;unfold tZ
 by_cases a:szI u=0
 ·rw [if_pos a];exact Or.inl ⟨a,rfl⟩
 rw [if_neg a]
 by_cases c:szI u<4503599627370496
 ·rw [if_pos c];exact Or.inr (Or.inl ⟨⟨by omega,c⟩,rfl⟩)
 rw [if_neg c]
 by_cases b:szI u<9218868437227405312
 ·rw [if_pos b];exact Or.inr (Or.inr (Or.inl ⟨⟨by omega,b⟩,rfl⟩))
 rw [if_neg b]
 by_cases d:szI u=9218868437227405312
 ·rw [if_pos d];exact Or.inr (Or.inr (Or.inr (Or.inl ⟨d,rfl⟩)))
 ·rw [if_neg d];exact Or.inr (Or.inr (Or.inr (Or.inr ⟨by omega,rfl⟩)))
def ps (f:Nat->Nat):Nat->Nat
 | 0=>0
 | k+1=>ps f k+f k*2^(64*k)
theorem lm (k:Nat):(2:Nat)^(64*(k+1))=18446744073709551616*2^(64*k):=by
 rw [show 64*(k+1)=64+64*k by omega,Nat.pow_add]
theorem cb (k:Nat):0<(2:Nat)^(64*k):=Nat.two_pow_pos _
def pA (f:Nat->Nat):Prop:=∀ i,f i<18446744073709551616
theorem kj {f:Nat->Nat} (h:pA f):∀ k,ps f k<2^(64*k)
 | 0=>by simp [ps]
 | k+1=>by
  have c:=kj h k;have a:f k+1<=18446744073709551616:=h k;have b:(f k+1)*2^(64*k)<=18446744073709551616*2^(64*k):=Nat.mul_le_mul_right _ a;rw [Nat.add_mul,Nat.one_mul] at b
  rw [lm,ps];omega
theorem cN {f g:Nat->Nat}:∀ {k:Nat},(∀ i,i<k->f i=g i)->ps f k=ps g k
 | 0,_=>rfl
 | k+1,h=>by rw [ps,ps,cN (fun i hi=>h i (by omega)),h k (by omega)]
theorem oC:∀ k,ps (fun _=>0) k=0
 | 0=>rfl
 | k+1=>by rw [ps,oC k];simp
theorem QY {f:Nat->Nat} {k n:Nat} (h:k<=n):ps f k<=ps f n:=by
 induction n with
 | zero=>rw [show k=0 by omega];exact Nat.le_refl _
 | succ n a=>
  by_cases b:k=n+1
  ·subst b;exact Nat.le_refl _
  ·have:=a (by omega);rw [ps];omega
theorem pB {f:Nat->Nat}:∀ {k:Nat},ps f k=0->∀ i,i<k->f i=0
 | 0,_,i,hi=>by omega
 | k+1,h,i,hi=>by
  rw [ps] at h
  have d:=cb k
  by_cases c:i=k
  ·subst c;have b:f i*2^(64*i)=0:=by omega
   rcases Nat.mul_eq_zero.1 b with a | a
   ·exact a
   ·omega
  ·exact pB (k:=k) (by omega) i (by omega)
theorem Hb {f g:Nat->Nat} (c:pA f) (j:pA g):∀ {k:Nat},ps f k=ps g k->∀ i,i<k->f i=g i
 | 0,_,i,hi=>by omega
 | k+1,h,i,hi=>by
  rw [ps,ps] at h
  have l:=kj c k;have m:=kj j k;have d:=cb k;have e:f k=g k:=by
   have a:(ps f k+f k*2^(64*k)) / 2^(64*k)=f k:=by rw [Nat.add_mul_div_right _ _ d,Nat.div_eq_of_lt l,Nat.zero_add]
   have b:(ps g k+g k*2^(64*k)) / 2^(64*k)=g k:=by rw [Nat.add_mul_div_right _ _ d,Nat.div_eq_of_lt m,Nat.zero_add]
   rw [<- a,<- b,h]
  by_cases n:i=k
  ·subst n;exact e
  ·rw [e] at h;exact Hb c j (k:=k) (by omega) i (by omega)
def endW (xs:List Nat):Nat:=xs.getD (xs.length - 1) 0
def wd (xs:List Nat) (i:Nat):Nat:=if i<xs.length then xs.getD i 0 else endW xs
def FitW (xs:List Nat):Prop:=pA fun i=>xs.getD i 0
theorem FitW.wd {xs:List Nat} (h:FitW xs):pA (wd xs):=fun i=>by
 unfold Proofs.YtfdddijdjpijbaaGreat.wd endW;split
 ·exact h i
 ·exact h _
structure Sg (xs:List Nat) (N:Int):Prop where
 fit:FitW xs
 last:endW xs=0\/endW xs=18446744073709551615
 eq:N=(ps (wd xs) xs.length:Int) - (if endW xs=0 then 0 else 2^(64*xs.length))
theorem Hc:Sg [] 0:=⟨fun i=>by simp,Or.inl rfl,by simp [ps,endW]⟩
theorem LP {xs:List Nat} {i:Nat} (h:xs.length<=i):wd xs i=endW xs:=by unfold wd;rw [if_neg (by omega)]
theorem gZ (k:Nat):(2:Int)^(64*(k+1))=18446744073709551616*2^(64*k):=by
 have:=lm k;have a:((2^(64*(k+1)):Nat):Int)=((18446744073709551616*2^(64*k):Nat):Int):=by rw [this]
 simpa using a
theorem dI (k:Nat):((2^(64*k):Nat):Int)=2^(64*k):=by simp
theorem Sg.ext {xs:List Nat} {N:Int} (h:Sg xs N) {n:Nat} (hn:xs.length<=n):N=(ps (wd xs) n:Int) - (if endW xs=0 then 0 else 2^(64*n)):=by
 induction n with
 | zero=>have:=h.eq;rw [show xs.length=0 by omega] at this;exact this
 | succ n b=>
  by_cases d:xs.length=n+1
  ·have:=h.eq;rw [d] at this;exact this
  ·have a:=b (by omega)
   rw [ps,LP (by omega),gZ]
   rcases h.last with e | e
   ·rw [e] at a ⊢;simp at a ⊢;exact a
   ·rw [e] at a ⊢
    rw [if_neg (by decide)] at a ⊢
    have c:=dI n;rw [Int.natCast_add,Int.natCast_mul,c];generalize (2:Int)^(64*n)=P at *
    omega
theorem Sg.range {xs:List Nat} {N:Int} (h:Sg xs N) {n:Nat} (hn:xs.length<=n+1):(endW xs=0->0<=N/\N<2^(64*n))/\(endW xs≠0->-(2^(64*n))<=N/\N<0):=by
 have a:=h.ext hn;have i:=kj h.fit.wd n;have g:(ps (wd xs) n:Int)<2^(64*n):=by have:=dI n;omega
 rw [ps,gZ] at a
 have j:=cb n;have d:=dI n;have c:wd xs n=endW xs:=by
  unfold wd;split
  ·unfold endW;congr 1;omega
  ·rfl
 rw [c] at a
 constructor
 ·intro e;rw [e] at a
  simp at a
  omega
 ·intro e;have f:endW xs=18446744073709551615:=by rcases h.last with b | b;exact absurd b e;exact b
  rw [if_neg e,f,Int.natCast_add,Int.natCast_mul,d] at a
  generalize (2:Int)^(64*n)=P at *
  omega
theorem Sg.same {xs ys:List Nat} {N M:Int} (h:Sg xs N) (f:Sg ys M):N=M↔∀ i,i<max xs.length ys.length->wd xs i=wd ys i:=by
 obtain⟨n,q⟩:∃ n,n=max xs.length ys.length:=⟨_,rfl⟩;rw [<- q];have d:=h.ext (n:=n) (by omega)
 have c:=f.ext (n:=n) (by omega)
 constructor
 ·rintro rfl
  by_cases m:n=0
  ·intro i hi;omega
  have k:=h.range (n:=n) (by omega)
  have g:=f.range (n:=n) (by omega)
  have l:endW xs=0↔endW ys=0:=by
   constructor
   ·intro a;rcases Nat.eq_zero_or_pos (endW ys) with b | b
    ·exact b
    ·have:=k.1 a;have:=g.2 (by omega);omega
   ·intro a;rcases Nat.eq_zero_or_pos (endW xs) with b | b
    ·exact b
    ·have:=g.1 a;have:=k.2 (by omega);omega
  have e:ps (wd xs) n=ps (wd ys) n:=by
   by_cases a:endW xs=0
   ·rw [if_pos a] at d;rw [if_pos (l.1 a)] at c;omega
   ·rw [if_neg a] at d;rw [if_neg (fun b=>a (l.2 b))] at c;omega
  exact Hb h.fit.wd f.fit.wd e
 ·intro j
  by_cases m:n=0
  ·have a:xs=[]:=List.length_eq_zero_iff.1 (by omega)
   have b:ys=[]:=List.length_eq_zero_iff.1 (by omega)
   subst a;subst b;rw [m] at d c;rw [d,c]
  ·have e:=cN j;have r:endW xs=endW ys:=by
    have:=j (n - 1) (by omega)
    unfold wd at this
    have p:(if n - 1<xs.length then xs.getD (n - 1) 0 else endW xs)=endW xs:=by
     split
     ·unfold endW;congr 1;omega
     ·rfl
    have o:(if n - 1<ys.length then ys.getD (n - 1) 0 else endW ys)=endW ys:=by
     split
     ·unfold endW;congr 1;omega
     ·rfl
    rw [p,o] at this;exact this
   rw [d,c,e,r]
theorem Hd {xs ys:List Nat} {i:Nat}:(xs++ys).getD i 0=if i<xs.length then xs.getD i 0 else ys.getD (i - xs.length) 0:=by
 simp only [List.getD]
 by_cases h:i<xs.length
 ·rw [if_pos h,List.getElem?_append_left h]
 ·rw [if_neg h,List.getElem?_append_right (by omega)]
theorem gz {xs:List Nat} {x i:Nat}:(xs++[x]).getD i 0=if i<xs.length then xs.getD i 0 else if i=xs.length then x else 0:=by
 rw [Hd]
 by_cases h:i<xs.length
 ·rw [if_pos h,if_pos h]
 ·rw [if_neg h,if_neg h]
  by_cases a:i=xs.length
  ·rw [if_pos a,a,Nat.sub_self];rfl
  ·rw [if_neg a];obtain⟨j,b⟩:∃ j,i - xs.length=j+1:=⟨i - xs.length - 1,by omega⟩
   rw [b];rfl
theorem eO (xs:List Nat) (x:Nat):endW (xs++[x])=x:=by
 unfold endW;rw [gz,List.length_append,List.length_singleton,Nat.add_sub_cancel,if_neg (by omega),if_pos rfl]
theorem FitW.snoc {xs:List Nat} {x:Nat} (h:FitW xs) (b:x<18446744073709551616):FitW (xs++[x]):=fun i=>by
 show (xs++[x]).getD i 0<_
 rw [gz]
 by_cases a:i<xs.length
 ·rw [if_pos a];exact h i
 ·rw [if_neg a];split
  ·exact b
  ·decide
theorem wT {xs:List Nat} (i:Nat):wd (xs++[endW xs]) i=wd xs i:=by
 unfold wd;rw [eO,gz,List.length_append,List.length_singleton]
 by_cases h:i<xs.length
 ·rw [if_pos h,if_pos h,if_pos (by omega)]
 ·rw [if_neg h,if_neg h]
  by_cases a:i=xs.length
  ·rw [if_pos a,if_pos (by omega)]
  ·rw [if_neg (show ¬ i<xs.length+1 by omega)]
theorem Sg.more {xs:List Nat} {N:Int} (h:Sg xs N):Sg (xs++[endW xs]) N:=by
 refine⟨h.fit.snoc (by rcases h.last with e | e<;>rw [e]<;>decide),by rw [eO];exact h.last,?_⟩
 rw [eO,cN (fun i _=>wT i),List.length_append,List.length_singleton]
 exact h.ext (by omega)
def settle (ys:List Nat):List Nat:=if endW ys=0\/endW ys=18446744073709551615 then ys else ys++[if endW ys<9223372036854775808 then 0 else 18446744073709551615]
theorem CJ {xs:List Nat} {n:Nat} (h:n<=xs.length):ps (wd xs) n=ps (fun i=>xs.getD i 0) n:=cN fun i hi=>by unfold wd;rw [if_pos (by omega)]
theorem Eb {ys:List Nat} {N q:Int} (g:FitW ys) (J:0<ys.length) (o:(ps (fun i=>ys.getD i 0) ys.length:Int)=N+q*2^(64*ys.length)) (m: -(2^(64*ys.length))<=2*N) (k:2*N<2^(64*ys.length)):Sg (settle ys) N:=by
 obtain⟨n,t⟩:∃ n,ys.length=n+1:=⟨ys.length - 1,by omega⟩
 have u:endW ys=ys.getD n 0:=by unfold endW;rw [t,Nat.add_sub_cancel]
 have B:endW ys<18446744073709551616:=by rw [u];exact g n
 have H:=kj g n;have E:=cb n;have hi:=dI n;have p:ps (wd ys) ys.length=ps (fun i=>ys.getD i 0) ys.length:=CJ (Nat.le_refl _)
 have v:(ps (fun i=>ys.getD i 0) ys.length:Int)=ps (fun i=>ys.getD i 0) n+(endW ys:Int)*2^(64*n):=by
  rw [t,ps,<- u,Int.natCast_add,Int.natCast_mul,hi]
 have j:q=0\/q=1:=by
  have F:=kj g ys.length;have w:(ps (fun i=>ys.getD i 0) ys.length:Int)<2^(64*ys.length):=by have:=dI ys.length;omega
  have G:(0:Int)<2^(64*ys.length):=by have:=cb ys.length;have:=dI ys.length;omega
  generalize (2:Int)^(64*ys.length)=R at *
  have a:q*R<2*R:=by omega
  have b:(-1)*R<q*R:=by omega
  have D:=Int.lt_of_mul_lt_mul_right a (by omega)
  have I:=Int.lt_of_mul_lt_mul_right b (by omega)
  omega
 have l:(2:Int)^(64*ys.length)=18446744073709551616*2^(64*n):=by rw [t];exact gZ n
 unfold settle
 by_cases f:endW ys=0\/endW ys=18446744073709551615
 ·rw [if_pos f];refine⟨g,f,?_⟩
  rw [p];rcases f with e | e
  ·rw [if_pos e];rw [e] at v
   rcases j with rfl | rfl
   ·omega
   ·rw [l] at m k o
    generalize (2:Int)^(64*n)=P at *
    omega
  ·rw [if_neg (by omega)]
   rw [e] at v
   rcases j with rfl | rfl
   ·rw [l] at m k
    generalize (2:Int)^(64*n)=P at *
    omega
   ·omega
 ·rw [if_neg f];have y:endW ys≠0:=fun e=>f (Or.inl e)
  have C:endW ys≠18446744073709551615:=fun e=>f (Or.inr e)
  obtain⟨s,c⟩:∃ s,s=if endW ys<9223372036854775808 then 0 else 18446744073709551615:=⟨_,rfl⟩
  rw [<- c];have d:(endW ys<9223372036854775808/\s=0/\q=0)\/(9223372036854775808<=endW ys/\s=18446744073709551615/\q=1):=by
   by_cases r:endW ys<9223372036854775808
   ·rw [if_pos r] at c
    refine Or.inl ⟨r,c,?_⟩
    rcases j with rfl | rfl
    ·rfl
    ·exfalso
     have x:(endW ys:Int)*2^(64*n)<=9223372036854775807*2^(64*n):=Int.mul_le_mul_of_nonneg_right (by omega) (by omega)
     rw [l] at m k o
     generalize (2:Int)^(64*n)=P at *
     generalize (endW ys:Int)*P=Q at *
     omega
   ·rw [if_neg r] at c
    refine Or.inr ⟨by omega,c,?_⟩
    rcases j with rfl | rfl
    ·exfalso
     have x:9223372036854775808*2^(64*n)<=(endW ys:Int)*2^(64*n):=Int.mul_le_mul_of_nonneg_right (by omega) (by omega)
     rw [l] at m k o
     generalize (2:Int)^(64*n)=P at *
     generalize (endW ys:Int)*P=Q at *
     omega
    ·rfl
  refine⟨g.snoc (by rcases d with h | h<;>omega),by rw [eO];rcases d with h | h<;>omega,?_⟩
  rw [eO,List.length_append,List.length_singleton,ps];have A:ps (wd (ys++[s])) ys.length=ps (fun i=>ys.getD i 0) ys.length:=cN fun i hi=>by
   unfold wd;rw [List.length_append,List.length_singleton,if_pos (by omega),gz,if_pos hi]
  have z:wd (ys++[s]) ys.length=s:=by
   unfold wd;rw [List.length_append,List.length_singleton,if_pos (by omega),gz,if_neg (by omega),if_pos rfl]
  rw [A,z,Int.natCast_add,Int.natCast_mul,dI,gZ,o];generalize (2:Int)^(64*ys.length)=R at *
  rcases d with⟨_,rfl,rfl⟩| ⟨_,rfl,rfl⟩
  ·simp
  ·rw [if_neg (by decide)];omega
def Rel (s:Int) (y x f:Nat->Nat) (c k:Nat):Prop:=(ps y k:Int)+s*((c:Int)*2^(64*k))=ps x k+s*ps f k
theorem Rel.start (s:Int) (y x f:Nat->Nat):Rel s y x f 0 0:=by simp [Rel,ps]
theorem Rel.step {s:Int} {y x f:Nat->Nat} {c c' k:Nat} (h:Rel s y x f c k) (b:(y k:Int)+s*((c':Int)*18446744073709551616)=x k+s*((f k:Int)+c)):Rel s y x f c' (k+1):=by
 unfold Rel at *
 rw [ps,ps,ps,gZ,Int.natCast_add,Int.natCast_add,Int.natCast_add,Int.natCast_mul,Int.natCast_mul,Int.natCast_mul,dI];generalize (2:Int)^(64*k)=P at *
 have a:((y k:Int)+s*((c':Int)*18446744073709551616))*P=((x k:Int)+s*((f k:Int)+c))*P:=by rw [b]
 simp only [Int.add_mul,Int.mul_add,Int.mul_assoc] at a h ⊢
 rw [Int.mul_comm 18446744073709551616 P] at a
 rw [Int.mul_comm 18446744073709551616 P];generalize s*((c':Int)*(P*18446744073709551616))=A at *
 generalize s*((c:Int)*P)=B at *
 generalize s*((f k:Int)*P)=C at *
 generalize (y k:Int)*P=D at *
 generalize (x k:Int)*P=F at *
 omega
theorem Rel.rest {s:Int} {y x f:Nat->Nat} {k n:Nat} (h:Rel s y x f 0 k) (i:k<=n) (a:∀ j,k<=j->j<n->y j=x j/\f j=0):Rel s y x f 0 n:=by
 induction n with
 | zero=>rw [show k=0 by omega] at h;exact h
 | succ n g=>
  by_cases e:k=n+1
  ·subst e;exact h
  ·have c:=g (by omega) (fun j d b=>a j d (by omega))
   refine c.step ?_
   have:=a n (by omega) (by omega)
   rw [this.1,this.2];simp
theorem Rel.congr {s:Int} {y a x d f b:Nat->Nat} {c k:Nat} (h:Rel s y x f c k) (g:∀ i,i<k->y i=a i) (e:∀ i,i<k->x i=d i) (j:∀ i,i<k->f i=b i):Rel s a d b c k:=by
 unfold Rel at *
 rw [<- cN g,<- cN e,<- cN j];exact h
end Go.Proofs.YtfdddijdjpijbaaGreat
