/-  -/
import Derived.Laws.BitsAllLaws
import Derived.Laws.Bits64b
namespace Go.Proofs.YtjjlnmihkadlmaaGreat

def szI (u:Int):Int:=u % 9223372036854775808
def sgB (u:Int):Bool:=decide (9223372036854775808≤u)
def ag (u:Int):Bool:=decide (9218868437227405312<szI u)
def ae (u:Int):Int:=if ag u then 0 else if sgB u then -(szI u) else szI u
def dA (a b:Int):Bool:=decide (a=b)||ag a&&ag b
def pw (u:Int):Int:=if szI u=0 then 1 else if szI u<4503599627370496 then 2 else if szI u<9218868437227405312 then 3 else if szI u=9218868437227405312 then 4 else 5
def U64 (u:Int):Prop:=0≤u∧u<18446744073709551616

theorem pA (u:Int):0≤szI u:=by unfold szI;omega
theorem FG (u:Int):szI u≤9223372036854775807:=by unfold szI;omega
theorem uk {u:Int} (h:U64 u) (hs:sgB u=true):szI u=u - 9223372036854775808:=by
 simp only [sgB,decide_eq_true_eq] at hs;unfold szI;unfold U64 at h;omega
theorem ul {u:Int} (h:U64 u) (hs:sgB u=false):szI u=u:=by
 simp only [sgB,decide_eq_false_iff_not] at hs;unfold szI;unfold U64 at h;omega

theorem uo (b:Nat):b&&& 9223372036854775807=b % 9223372036854775808:=by
 have:=Nat.and_two_pow_sub_one_eq_mod b 63
 simpa using this

theorem dE {u:Int} (h:U64 u):bits .andNot .u64 u 9223372036854775808=szI u:=by
 obtain⟨b,rfl⟩:=Int.eq_ofNat_of_zero_le h.1
 have:=u64_andNot_nat b 9223372036854775808 (by have:=h.2;omega) (by decide)
 rw [show ((9223372036854775808:Nat):Int)=9223372036854775808 from rfl] at this
 rw [this,show (18446744073709551615 - 9223372036854775808:Nat)=9223372036854775807 from rfl,uo]
 unfold szI;omega

theorem DC (b k:Nat):b&&& 2^k=if b.testBit k then 2^k else 0:=by
 apply Nat.eq_of_testBit_eq
 intro i
 rw [Nat.testBit_and,Nat.testBit_two_pow]
 by_cases hi:k=i
 ·subst hi;cases b.testBit k<;>simp
 ·cases b.testBit k<;>simp [hi]

theorem Am {u:Int} (h:U64 u):bits .and .u64 u 9223372036854775808=if sgB u then 9223372036854775808 else 0:=by
 obtain⟨b,rfl⟩:=Int.eq_ofNat_of_zero_le h.1
 have hb:b<18446744073709551616:=by have:=h.2;omega
 have:=bits_and_u64_nat b 9223372036854775808 hb (by decide)
 rw [show ((9223372036854775808:Nat):Int)=9223372036854775808 from rfl] at this
 rw [this]
 have e:b&&& 9223372036854775808=if sgB b then 9223372036854775808 else 0:=by
  have h2:=DC b 63
  have h3:b.testBit 63=sgB b:=by
   rw [Nat.testBit_eq_decide_div_mod_eq]
   unfold sgB
   apply decide_eq_decide.2
   omega
  rw [h3] at h2
  rw [show (2:Nat)^63=9223372036854775808 from rfl] at h2
  exact h2
 rw [e];cases sgB b<;>rfl

theorem Hi {u:Int} (h0:0≤u) (h:u<9223372036854775808):bits .or .u64 u 9223372036854775808=9223372036854775808+u:=by
 obtain⟨b,rfl⟩:=Int.eq_ofNat_of_zero_le h0
 have:=bits_or_u64_nat b 9223372036854775808 (by omega) (by decide)
 rw [show ((9223372036854775808:Nat):Int)=9223372036854775808 from rfl] at this
 rw [this]
 have h2:=Nat.two_pow_add_eq_or_of_lt (i:=63) (b:=b) (by omega) 1
 rw [Nat.or_comm,show (9223372036854775808:Nat)=2^63*1 from rfl,← h2]
 omega

theorem an {b:Nat} (h:b<18446744073709551616):U64 (b:Int):=by unfold U64;omega
theorem io (a:Int):dA a a=true:=by simp [dA]
theorem xN {a b:Int} (h:ag a=true) (h':ag b=true):dA a b=true:=by simp [dA,h,h']

theorem cls_cases (u:Int):(szI u=0∧pw u=1)∨((0<szI u∧szI u<4503599627370496)∧pw u=2)∨((4503599627370496≤szI u∧szI u<9218868437227405312)∧pw u=3)∨(szI u=9218868437227405312∧pw u=4)∨(9218868437227405312<szI u∧pw u=5):=by
 have hlo:=pA u
 unfold pw
 by_cases h0:szI u=0
 ·rw [if_pos h0];exact Or.inl ⟨h0,rfl⟩
 rw [if_neg h0]
 by_cases h1:szI u<4503599627370496
 ·rw [if_pos h1];exact Or.inr (Or.inl ⟨⟨by omega,h1⟩,rfl⟩)
 rw [if_neg h1]
 by_cases h2:szI u<9218868437227405312
 ·rw [if_pos h2];exact Or.inr (Or.inr (Or.inl ⟨⟨by omega,h2⟩,rfl⟩))
 rw [if_neg h2]
 by_cases h3:szI u=9218868437227405312
 ·rw [if_pos h3];exact Or.inr (Or.inr (Or.inr (Or.inl ⟨h3,rfl⟩)))
 ·rw [if_neg h3];exact Or.inr (Or.inr (Or.inr (Or.inr ⟨by omega,rfl⟩)))
end Go.Proofs.YtjjlnmihkadlmaaGreat
namespace Go.Proofs.YtjjlnmihkadlmaaGreat

def ps (f:Nat→Nat):Nat→Nat
 | 0=>0
 | k+1=>ps f k+f k*2^(64*k)
theorem jf (k:Nat):(2:Nat)^(64*(k+1))=18446744073709551616*2^(64*k):=by
 rw [show 64*(k+1)=64+64*k by omega,Nat.pow_add]
theorem bj (k:Nat):0<(2:Nat)^(64*k):=Nat.two_pow_pos _
def pV (f:Nat→Nat):Prop:=∀ i,f i<18446744073709551616
theorem kt {f:Nat→Nat} (h:pV f):∀ k,ps f k<2^(64*k)
 | 0=>by simp [ps]
 | k+1=>by
  have h1:=kt h k
  have h2:f k+1≤18446744073709551616:=h k
  have h3:(f k+1)*2^(64*k)≤18446744073709551616*2^(64*k):=Nat.mul_le_mul_right _ h2
  rw [Nat.add_mul,Nat.one_mul] at h3
  rw [jf,ps];omega
theorem cO {f g:Nat→Nat}:∀ {k:Nat},(∀ i,i<k→f i=g i)→ps f k=ps g k
 | 0,_=>rfl
 | k+1,h=>by rw [ps,ps,cO (fun i hi=>h i (by omega)),h k (by omega)]
theorem kU:∀ k,ps (fun _=>0) k=0
 | 0=>rfl
 | k+1=>by rw [ps,kU k];simp
theorem Ip {f:Nat→Nat} {k n:Nat} (h:k≤n):ps f k≤ps f n:=by
 induction n with
 | zero=>rw [show k=0 by omega];exact Nat.le_refl _
 | succ n ih=>
  by_cases hk:k=n+1
  ·subst hk;exact Nat.le_refl _
  ·have:=ih (by omega);rw [ps];omega
theorem lH {f:Nat→Nat}:∀ {k:Nat},ps f k=0→∀ i,i<k→f i=0
 | 0,_,i,hi=>by omega
 | k+1,h,i,hi=>by
  rw [ps] at h
  have hp:=bj k
  by_cases hk:i=k
  ·subst hk
   have h2:f i*2^(64*i)=0:=by omega
   rcases Nat.mul_eq_zero.1 h2 with h3 | h3
   ·exact h3
   ·omega
  ·exact lH (k:=k) (by omega) i (by omega)
def endW (xs:List Nat):Nat:=xs.getD (xs.length - 1) 0
def wd (xs:List Nat) (i:Nat):Nat:=if i<xs.length then xs.getD i 0 else endW xs
def FitW (xs:List Nat):Prop:=pV fun i=>xs.getD i 0
theorem FitW.wd {xs:List Nat} (h:FitW xs):pV (wd xs):=fun i=>by
 unfold Proofs.YtjjlnmihkadlmaaGreat.wd endW;split
 ·exact h i
 ·exact h _

structure Sg (xs:List Nat) (N:Int):Prop where
 fit:FitW xs
 last:endW xs=0∨endW xs=18446744073709551615
 eq:N=(ps (wd xs) xs.length:Int) - (if endW xs=0 then 0 else 2^(64*xs.length))

theorem uM:Sg [] 0:=⟨fun i=>by simp,Or.inl rfl,by simp [ps,endW]⟩
theorem DY {xs:List Nat} {i:Nat} (h:xs.length≤i):wd xs i=endW xs:=by unfold wd;rw [if_neg (by omega)]
theorem dP (k:Nat):(2:Int)^(64*(k+1))=18446744073709551616*2^(64*k):=by
 have:=jf k
 have h2:((2^(64*(k+1)):Nat):Int)=((18446744073709551616*2^(64*k):Nat):Int):=by rw [this]
 simpa using h2
theorem cb (k:Nat):((2^(64*k):Nat):Int)=2^(64*k):=by simp
theorem Sg.ext {xs:List Nat} {N:Int} (h:Sg xs N) {n:Nat} (hn:xs.length≤n):N=(ps (wd xs) n:Int) - (if endW xs=0 then 0 else 2^(64*n)):=by
 induction n with
 | zero=>have:=h.eq;rw [show xs.length=0 by omega] at this;exact this
 | succ n ih=>
  by_cases hk:xs.length=n+1
  ·have:=h.eq;rw [hk] at this;exact this
  ·have h1:=ih (by omega)
   rw [ps,DY (by omega),dP]
   rcases h.last with e | e
   ·rw [e] at h1 ⊢;simp at h1 ⊢;exact h1
   ·rw [e] at h1 ⊢
    rw [if_neg (by decide)] at h1 ⊢
    have h3:=cb n
    rw [Int.natCast_add,Int.natCast_mul,h3]
    generalize (2:Int)^(64*n)=P at *
    omega
theorem Sg.range {xs:List Nat} {N:Int} (h:Sg xs N) {n:Nat} (hn:xs.length≤n+1):(endW xs=0→0≤N∧N<2^(64*n))∧(endW xs≠0→-(2^(64*n))≤N∧N<0):=by
 have h1:=h.ext hn
 have h2:=kt h.fit.wd n
 have h4:(ps (wd xs) n:Int)<2^(64*n):=by have:=cb n;omega
 rw [ps,dP] at h1
 have hp:=bj n
 have h3:=cb n
 have hw:wd xs n=endW xs:=by
  unfold wd;split
  ·unfold endW;congr 1;omega
  ·rfl
 rw [hw] at h1
 constructor
 ·intro e
  rw [e] at h1
  simp at h1
  omega
 ·intro e
  have e2:endW xs=18446744073709551615:=by rcases h.last with e1 | e1;exact absurd e1 e;exact e1
  rw [if_neg e,e2,Int.natCast_add,Int.natCast_mul,h3] at h1
  generalize (2:Int)^(64*n)=P at *
  omega

theorem rT {xs ys:List Nat} {i:Nat}:(xs++ys).getD i 0=if i<xs.length then xs.getD i 0 else ys.getD (i - xs.length) 0:=by
 simp only [List.getD]
 by_cases h:i<xs.length
 ·rw [if_pos h,List.getElem?_append_left h]
 ·rw [if_neg h,List.getElem?_append_right (by omega)]
theorem eP {xs:List Nat} {x i:Nat}:(xs++[x]).getD i 0=if i<xs.length then xs.getD i 0 else if i=xs.length then x else 0:=by
 rw [rT]
 by_cases h:i<xs.length
 ·rw [if_pos h,if_pos h]
 ·rw [if_neg h,if_neg h]
  by_cases h2:i=xs.length
  ·rw [if_pos h2,h2,Nat.sub_self];rfl
  ·rw [if_neg h2]
   obtain⟨j,hj⟩:∃ j,i - xs.length=j+1:=⟨i - xs.length - 1,by omega⟩
   rw [hj];rfl
theorem dG (xs:List Nat) (x:Nat):endW (xs++[x])=x:=by
 unfold endW
 rw [eP,List.length_append,List.length_singleton,Nat.add_sub_cancel,if_neg (by omega),if_pos rfl]
theorem FitW.snoc {xs:List Nat} {x:Nat} (h:FitW xs) (hx:x<18446744073709551616):FitW (xs++[x]):=fun i=>by
 show (xs++[x]).getD i 0<_
 rw [eP]
 by_cases h1:i<xs.length
 ·rw [if_pos h1];exact h i
 ·rw [if_neg h1];split
  ·exact hx
  ·decide
theorem rU {xs:List Nat} (i:Nat):wd (xs++[endW xs]) i=wd xs i:=by
 unfold wd
 rw [dG,eP,List.length_append,List.length_singleton]
 by_cases h:i<xs.length
 ·rw [if_pos h,if_pos h,if_pos (by omega)]
 ·rw [if_neg h,if_neg h]
  by_cases h2:i=xs.length
  ·rw [if_pos h2,if_pos (by omega)]
  ·rw [if_neg (show ¬ i<xs.length+1 by omega)]
theorem Sg.more {xs:List Nat} {N:Int} (h:Sg xs N):Sg (xs++[endW xs]) N:=by
 refine⟨h.fit.snoc (by rcases h.last with e | e<;>rw [e]<;>decide),by rw [dG];exact h.last,?_⟩
 rw [dG,cO (fun i _=>rU i),List.length_append,List.length_singleton]
 exact h.ext (by omega)

def settle (ys:List Nat):List Nat:=if endW ys=0∨endW ys=18446744073709551615 then ys else ys++[if endW ys<9223372036854775808 then 0 else 18446744073709551615]
theorem wZ {xs:List Nat} {n:Nat} (h:n≤xs.length):ps (wd xs) n=ps (fun i=>xs.getD i 0) n:=cO fun i hi=>by unfold wd;rw [if_pos (by omega)]
theorem oq {ys:List Nat} {N q:Int} (hf:FitW ys) (hl:0<ys.length) (he:(ps (fun i=>ys.getD i 0) ys.length:Int)=N+q*2^(64*ys.length)) (h1: -(2^(64*ys.length))≤2*N) (h2:2*N<2^(64*ys.length)):Sg (settle ys) N:=by
 obtain⟨n,hn⟩:∃ n,ys.length=n+1:=⟨ys.length - 1,by omega⟩
 have ht:endW ys=ys.getD n 0:=by unfold endW;rw [hn,Nat.add_sub_cancel]
 have htf:endW ys<18446744073709551616:=by rw [ht];exact hf n
 have hr:=kt hf n
 have hp:=bj n
 have hi:=cb n
 have hwd:ps (wd ys) ys.length=ps (fun i=>ys.getD i 0) ys.length:=wZ (Nat.le_refl _)
 have hs:(ps (fun i=>ys.getD i 0) ys.length:Int)=ps (fun i=>ys.getD i 0) n+(endW ys:Int)*2^(64*n):=by
  rw [hn,ps,← ht,Int.natCast_add,Int.natCast_mul,hi]
 have hq:q=0∨q=1:=by
  have hS:=kt hf ys.length
  have hS2:(ps (fun i=>ys.getD i 0) ys.length:Int)<2^(64*ys.length):=by have:=cb ys.length;omega
  have hP:(0:Int)<2^(64*ys.length):=by have:=bj ys.length;have:=cb ys.length;omega
  generalize (2:Int)^(64*ys.length)=R at *
  have a:q*R<2*R:=by omega
  have b:(-1)*R<q*R:=by omega
  have a2:=Int.lt_of_mul_lt_mul_right a (by omega)
  have b2:=Int.lt_of_mul_lt_mul_right b (by omega)
  omega
 have hR:(2:Int)^(64*ys.length)=18446744073709551616*2^(64*n):=by rw [hn];exact dP n
 unfold settle
 by_cases hb:endW ys=0∨endW ys=18446744073709551615
 ·rw [if_pos hb]
  refine⟨hf,hb,?_⟩
  rw [hwd]
  rcases hb with e | e
  ·rw [if_pos e]
   rw [e] at hs
   rcases hq with rfl | rfl
   ·omega
   ·rw [hR] at h1 h2 he
    generalize (2:Int)^(64*n)=P at *
    omega
  ·rw [if_neg (by omega)]
   rw [e] at hs
   rcases hq with rfl | rfl
   ·rw [hR] at h1 h2
    generalize (2:Int)^(64*n)=P at *
    omega
   ·omega
 ·rw [if_neg hb]
  have hb1:endW ys≠0:=fun e=>hb (Or.inl e)
  have hb2:endW ys≠18446744073709551615:=fun e=>hb (Or.inr e)
  obtain⟨s,hsv⟩:∃ s,s=if endW ys<9223372036854775808 then 0 else 18446744073709551615:=⟨_,rfl⟩
  rw [← hsv]
  have hss:(endW ys<9223372036854775808∧s=0∧q=0)∨(9223372036854775808≤endW ys∧s=18446744073709551615∧q=1):=by
   by_cases hc:endW ys<9223372036854775808
   ·rw [if_pos hc] at hsv
    refine Or.inl ⟨hc,hsv,?_⟩
    rcases hq with rfl | rfl
    ·rfl
    ·exfalso
     have h5:(endW ys:Int)*2^(64*n)≤9223372036854775807*2^(64*n):=Int.mul_le_mul_of_nonneg_right (by omega) (by omega)
     rw [hR] at h1 h2 he
     generalize (2:Int)^(64*n)=P at *
     generalize (endW ys:Int)*P=Q at *
     omega
   ·rw [if_neg hc] at hsv
    refine Or.inr ⟨by omega,hsv,?_⟩
    rcases hq with rfl | rfl
    ·exfalso
     have h5:9223372036854775808*2^(64*n)≤(endW ys:Int)*2^(64*n):=Int.mul_le_mul_of_nonneg_right (by omega) (by omega)
     rw [hR] at h1 h2 he
     generalize (2:Int)^(64*n)=P at *
     generalize (endW ys:Int)*P=Q at *
     omega
    ·rfl
  refine⟨hf.snoc (by rcases hss with h | h<;>omega),by rw [dG];rcases hss with h | h<;>omega,?_⟩
  rw [dG,List.length_append,List.length_singleton,ps]
  have e1:ps (wd (ys++[s])) ys.length=ps (fun i=>ys.getD i 0) ys.length:=cO fun i hi=>by
   unfold wd
   rw [List.length_append,List.length_singleton,if_pos (by omega),eP,if_pos hi]
  have e2:wd (ys++[s]) ys.length=s:=by
   unfold wd
   rw [List.length_append,List.length_singleton,if_pos (by omega),eP,if_neg (by omega),if_pos rfl]
  rw [e1,e2,Int.natCast_add,Int.natCast_mul,cb,dP,he]
  generalize (2:Int)^(64*ys.length)=R at *
  rcases hss with⟨_,rfl,rfl⟩| ⟨_,rfl,rfl⟩
  ·simp
  ·rw [if_neg (by decide)];omega

def Rel (s:Int) (y x f:Nat→Nat) (c k:Nat):Prop:=(ps y k:Int)+s*((c:Int)*2^(64*k))=ps x k+s*ps f k
theorem Rel.start (s:Int) (y x f:Nat→Nat):Rel s y x f 0 0:=by simp [Rel,ps]
theorem Rel.step {s:Int} {y x f:Nat→Nat} {c c' k:Nat} (h:Rel s y x f c k) (hs:(y k:Int)+s*((c':Int)*18446744073709551616)=x k+s*((f k:Int)+c)):Rel s y x f c' (k+1):=by
 unfold Rel at *
 rw [ps,ps,ps,dP,Int.natCast_add,Int.natCast_add,Int.natCast_add,Int.natCast_mul,Int.natCast_mul,Int.natCast_mul,cb]
 generalize (2:Int)^(64*k)=P at *
 have h2:((y k:Int)+s*((c':Int)*18446744073709551616))*P=((x k:Int)+s*((f k:Int)+c))*P:=by rw [hs]
 simp only [Int.add_mul,Int.mul_add,Int.mul_assoc] at h2 h ⊢
 rw [Int.mul_comm 18446744073709551616 P] at h2
 rw [Int.mul_comm 18446744073709551616 P]
 generalize s*((c':Int)*(P*18446744073709551616))=A at *
 generalize s*((c:Int)*P)=B at *
 generalize s*((f k:Int)*P)=C at *
 generalize (y k:Int)*P=D at *
 generalize (x k:Int)*P=F at *
 omega
theorem Rel.rest {s:Int} {y x f:Nat→Nat} {k n:Nat} (h:Rel s y x f 0 k) (hk:k≤n) (hr:∀ j,k≤j→j<n→y j=x j∧f j=0):Rel s y x f 0 n:=by
 induction n with
 | zero=>rw [show k=0 by omega] at h;exact h
 | succ n ih=>
  by_cases e:k=n+1
  ·subst e;exact h
  ·have h1:=ih (by omega) (fun j hj hj2=>hr j hj (by omega))
   refine h1.step ?_
   have:=hr n (by omega) (by omega)
   rw [this.1,this.2];simp
theorem Rel.congr {s:Int} {y y' x x' f f':Nat→Nat} {c k:Nat} (h:Rel s y x f c k) (h1:∀ i,i<k→y i=y' i) (h2:∀ i,i<k→x i=x' i) (h3:∀ i,i<k→f i=f' i):Rel s y' x' f' c k:=by
 unfold Rel at *
 rw [← cO h1,← cO h2,← cO h3];exact h
end Go.Proofs.YtjjlnmihkadlmaaGreat
