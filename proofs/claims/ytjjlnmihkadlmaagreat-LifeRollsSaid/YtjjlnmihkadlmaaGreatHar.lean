/-  -/
import Derived.Test.YtjjlnmihkadlmaaGreatHaq
import Derived.Deep.OwnRows
import Derived.Test.YtjjlnmihkadlmaaGreatHai
import Derived.Test.YtjjlnmihkadlmaaGreatHap
import Derived.Test.YtjjlnmihkadlmaaGreatHae
namespace Go.Proofs.YtjjlnmihkadlmaaGreat
open Go.RowKit

theorem bq (m:Int):floatOfInt .f64 m=fi m:=by
 show Ieee.double.nearest (decide (m<0)) m.natAbs 0=_
 unfold fi aH
 by_cases h0:m=0
 ·subst h0;rfl
 ·rw [if_neg h0,bV _ (by omega)]
  by_cases hn:m<0
  ·simp only [hn,decide_true,if_true];rw [iB]
  ·simp only [hn,decide_false,if_false];rw [jc]
theorem qh (P:Program) (w:World) (a:Addr) (x:Nat) (z:Value) (h:w.cell? a=some z) (hf:w.frozen? a=false):(store a (.float .f64 x)).run P w=.ok () (w.setCell a (.float .f64 x)):=by
 rw [run_store P w a _ _ rfl,h];simp [hf]
theorem uJ:(Tryz.prog.info? 54).map (fun i=>(i.zero,i.size,i.bytes))=some (some (.float .f64 0),1,8):=by kernel_rfl

def expL:List Nat:=[4607182418800017408,4607182418800017408,4602678819172646912,4595172819793696085,4586165620538955093,4575957461383581969,4564047942368979991,4551452160554016794,4537941361671905306,4523617214285662004,4508805057796939612,4493156764026750180,4477122120089393304,4460272573143870729]
def lnL:List Nat:=[4607182418800017408,4599676419421066581,4596373779694328218,4594314991293244562,4592670820000712476,4591215111030249286,4590207312512236308,4589468260265693457,4588638185040256542,4587745830934523688,4587023449039406616]
def iR:Nat→Nat
 | 0=>1
 | k+1=>iR k*max k 1
theorem zF:∀ k,k<14→floatBits .quo .f64 4607182418800017408 (fi (iR (k+1):Int))=some (expL.getD k 0):=by decide+kernel
theorem Ey:∀ k,k<11→floatBits .quo .f64 4607182418800017408 (fi ((2*k+1:Nat):Int))=some (lnL.getD k 0):=by decide+kernel
theorem rY:∀ k,k<15→1≤iR k∧iR k≤6227020800:=by decide+kernel

def qj (w:World) (b n:Nat) (l:List Nat) (j:Nat):Prop:=w.rowIs b 54 n (fun i=>.float .f64 (if i<j then l.getD i 0 else 0))
theorem nF (w:World) (n:Nat) (l:List Nat):qj (w.alloc (.cells (madeCells #[.float .f64 0] n) 54)) w.heap.size n l 0:=
 (World.rowIs_made w (.float .f64 0) n 54).congr (fun i _=>by rw [if_neg (by omega)])
theorem nG {w:World} {b n j x:Nat} {l:List Nat} (h:qj w b n l j) (hx:x=l.getD j 0):qj (w.setCell ⟨b,j,none⟩ (.float .f64 x)) b n l (j+1):=by
 refine (h.set j (.float .f64 x)).congr fun i _=>?_
 by_cases c:i=j
 ·rw [if_pos c,if_pos (by omega),hx,c]
 ·rw [if_neg c]
  by_cases d:i<j
  ·rw [if_pos d,if_pos (by omega)]
  ·rw [if_neg d,if_neg (by omega)]
theorem qk {w:World} {b n:Nat} {l:List Nat} (h:qj w b n l n) (hn:l.length=n):Src w (some ⟨b,0,none⟩) b 0 l:=
 ⟨fun _=>rfl,fun _=>h.lt,fun j hj=>by
  rw [Nat.zero_add]
  have:=h.cell (i:=j) (by omega)
  rw [if_pos (by omega)] at this;exact this⟩

set_option maxHeartbeats 800000 in
theorem rZ (w:World) :
  Calls Tryz.prog 203 #[] w fun e w'=>e=.returned (.slice (some ⟨w.heap.size,0,none⟩) 14 14)∧Src w' (some ⟨w.heap.size,0,none⟩) w.heap.size 0 expL∧Below w.heap.size w w':=by
 have hmk:=fun w=>run_make_row' (P:=Tryz.prog) 41 54 (.float .f64 0) 8 Tryz.underlying41 uJ rfl .i64 .i64 14 (by omega) (by omega) w
 rw [show ((14:Nat):Int)=14 from rfl] at hmk
 have HO:=hideS (nF w 14 expL)
 go_enter Tryz.func203,Tryz.ntmps203
 go_wp2_with fail
 go_loopw [2,5] (fun s i wr=>∃ k f:Nat,k≤14∧i=.int .i64 k∧s=.int .i64 f∧Hid (f=iR k)∧Hid (qj wr w.heap.size 14 expL k)∧Hid (Below w.heap.size w wr)) (fun _ i _=>14 - (intOf i).toNat)
 case atStart=>exact⟨0,1,Nat.zero_le _,rfl,rfl,rfl,HO,(Below.refl _ _).alloc (Nat.le_refl _) _⟩
 case round=>
  clear HO hmk
  obtain⟨k,f,hk,rfl,rfl,HF,HH,HB⟩:=hrel
  by_cases hlt:k<14
  ·have hb:=rY k (by omega)
   have hb2:=rY (k+1) (by omega)
   rw [← HF.out] at hb
   have hdv:=zF k hlt
   obtain⟨f',hf'⟩:∃ f',iR (k+1)=f':=⟨_,rfl⟩
   have HF':Hid (f'=iR (k+1)):=hf'.symm
   rw [hf'] at hdv hb2
   have hmx:max (k:Int) 1=((max k 1:Nat):Int):=by omega
   have hml:(f:Int)*((max k 1:Nat):Int)=(f':Int):=by rw [← hf'];show _=((iR k*max k 1:Nat):Int);rw [HF.out,Int.natCast_mul]
   clear hf' HF
   generalize ((max k 1:Nat):Int)=mx at hmx hml
   obtain⟨x,hx⟩:∃ x,expL.getD k 0=x:=⟨_,rfl⟩
   have HX:Hid (x=expL.getD k 0):=hx.symm
   rw [hx] at hdv
   clear hx
   have hfo:=bq (f':Int)
   have r1:=fun w=>run_float_arith (P:=Tryz.prog) w .quo 54 .f64 4607182418800017408 (fi (f':Int)) x hdv
   clear hdv
   generalize fi (f':Int)=y at hfo r1
   have hcz:=HH.out.cell (i:=k) hlt
   rw [if_neg (by omega)] at hcz
   have hfz:=HH.out.frozen k
   have hst:=qh Tryz.prog wr ⟨w.heap.size,k,none⟩ x _ hcz hfz
   go_wp2_with fail
   go_roundw
   case rel=>exact⟨k+1,f',by omega,by simp,rfl,HF',nG HH.out HX.out,HB.out.setCell (Nat.le_refl _) _⟩
   case measure=>simp [intOf];omega
  ·obtain rfl:k=14:=by omega
   have HS:=hideS (qk HH.out (by rfl))
   go_wp2_with fail
   go_ret
   exact⟨rfl,HS.out,HB.out⟩

set_option maxHeartbeats 800000 in
theorem uK (w:World) :
  Calls Tryz.prog 205 #[] w fun e w'=>e=.returned (.slice (some ⟨w.heap.size,0,none⟩) 11 11)∧Src w' (some ⟨w.heap.size,0,none⟩) w.heap.size 0 lnL∧Below w.heap.size w w':=by
 have hmk:=fun w=>run_make_row' (P:=Tryz.prog) 41 54 (.float .f64 0) 8 Tryz.underlying41 uJ rfl .i64 .i64 11 (by omega) (by omega) w
 rw [show ((11:Nat):Int)=11 from rfl] at hmk
 have HO:=hideS (nF w 11 lnL)
 go_enter Tryz.func205,Tryz.ntmps205
 go_wp2_with fail
 go_loopw [4] (fun i wr=>∃ k:Nat,k≤11∧i=.int .i64 k∧Hid (qj wr w.heap.size 11 lnL k)∧Hid (Below w.heap.size w wr)) (fun i _=>11 - (intOf i).toNat)
 case atStart=>exact⟨0,Nat.zero_le _,rfl,HO,(Below.refl _ _).alloc (Nat.le_refl _) _⟩
 case round=>
  clear HO hmk
  obtain⟨k,hk,rfl,HH,HB⟩:=hrel
  by_cases hlt:k<11
  ·have hdv:=Ey k hlt
   have hml:(2:Int)*(k:Int)+1=((2*k+1:Nat):Int):=by omega
   obtain⟨m,hm⟩:∃ m:Int,((2*k+1:Nat):Int)=m:=⟨_,rfl⟩
   rw [hm] at hdv hml
   clear hm
   obtain⟨x,hx⟩:∃ x,lnL.getD k 0=x:=⟨_,rfl⟩
   have HX:Hid (x=lnL.getD k 0):=hx.symm
   rw [hx] at hdv
   clear hx
   have hfo:=bq m
   have r1:=fun w=>run_float_arith (P:=Tryz.prog) w .quo 54 .f64 4607182418800017408 (fi m) x hdv
   clear hdv
   generalize fi m=y at hfo r1
   have hcz:=HH.out.cell (i:=k) hlt
   rw [if_neg (by omega)] at hcz
   have hfz:=HH.out.frozen k
   have hst:=qh Tryz.prog wr ⟨w.heap.size,k,none⟩ x _ hcz hfz
   go_wp2_with fail
   go_roundw
   case rel=>exact⟨k+1,by omega,by simp,nG HH.out HX.out,HB.out.setCell (Nat.le_refl _) _⟩
   case measure=>simp [intOf];omega
  ·obtain rfl:k=11:=by omega
   have HS:=hideS (qk HH.out (by rfl))
   go_wp2_with fail
   go_ret
   exact⟨rfl,HS.out,HB.out⟩
end Go.Proofs.YtjjlnmihkadlmaaGreat
namespace Go.Proofs.YtjjlnmihkadlmaaGreat
open Go.RowKit

end Go.Proofs.YtjjlnmihkadlmaaGreat
namespace Go.Proofs.YtjjlnmihkadlmaaGreat
open Go.RowKit

theorem gA {b:Nat} (h:b<9218868437227405312):U64 (b:Int)∧ag (b:Int)=false∧ae (b:Int)=b:=by
 have h1:szI (b:Int)=b:=by unfold szI;omega
 have h2:ag (b:Int)=false:=by unfold ag;rw [h1];simp;omega
 have h3:sgB (b:Int)=false:=by simp [sgB];omega
 exact⟨by unfold U64;omega,h2,by rw [rank_pos h2 h3,h1]⟩
theorem Ez (neg:Bool) (n drop:Nat):Ieee.Toward.down.cut neg n drop=n / 2^drop+(if neg=true∧n % 2^drop≠0 then 1 else 0):=by
 show n / (1 <<< min drop (n.log2+2))+(neg&&n % (1 <<< min drop (n.log2+2)) !=0).toNat=_
 rw [Nat.one_shiftLeft]
 have key:n / 2^min drop (n.log2+2)=n / 2^drop∧n % 2^min drop (n.log2+2)=n % 2^drop:=by
  by_cases h:drop≤n.log2+2
  ·rw [Nat.min_eq_left h];exact⟨rfl,rfl⟩
  ·rw [Nat.min_eq_right (by omega)]
   have hl:n<2^(n.log2+1):=Nat.lt_log2_self
   have h1:(2:Nat)^(n.log2+1)≤2^(n.log2+2):=Nat.pow_le_pow_right (by decide) (by omega)
   have h2:(2:Nat)^(n.log2+2)≤2^drop:=Nat.pow_le_pow_right (by decide) (by omega)
   rw [Nat.div_eq_of_lt (by omega),Nat.div_eq_of_lt (by omega),Nat.mod_eq_of_lt (by omega),Nat.mod_eq_of_lt (by omega)]
   exact⟨rfl,rfl⟩
 rw [key.1,key.2]
 congr 1
 cases neg
 ·rfl
 ·by_cases h0:n % 2^drop=0
  ·rw [h0];rfl
  ·rw [if_pos ⟨rfl,h0⟩];simp [h0]
theorem Br (m p K:Nat):(m <<< (-(K:Int)+(p:Int)).toNat) / 2^(-(-(K:Int)+(p:Int))).toNat=m*2^p / 2^K∧((m <<< (-(K:Int)+(p:Int)).toNat) % 2^(-(-(K:Int)+(p:Int))).toNat=0↔m*2^p % 2^K=0):=by
 rw [Nat.shiftLeft_eq]
 by_cases h:p≤K
 ·have e1:(-(K:Int)+(p:Int)).toNat=0:=by omega
  have e2:(-(-(K:Int)+(p:Int))).toNat=K - p:=by omega
  have e3:(2:Nat)^K=2^(K - p)*2^p:=by rw [← Nat.pow_add,show K - p+p=K by omega]
  have hp:=Nat.two_pow_pos p
  rw [e1,e2,e3,Nat.pow_zero,Nat.mul_one,Nat.mul_div_mul_right _ _ hp,Nat.mul_mod_mul_right]
  refine⟨rfl,?_⟩
  constructor
  ·intro h;rw [h,Nat.zero_mul]
  ·intro h;rcases Nat.mul_eq_zero.1 h with h | h
   ·exact h
   ·omega
 ·have e1:(-(K:Int)+(p:Int)).toNat=p - K:=by omega
  have e2:(-(-(K:Int)+(p:Int))).toNat=0:=by omega
  have e3:(2:Nat)^p=2^(p - K)*2^K:=by rw [← Nat.pow_add,show p - K+K=p by omega]
  have hp:=Nat.two_pow_pos K
  rw [e1,e2,e3,Nat.pow_zero,Nat.div_one,Nat.mod_one,← Nat.mul_assoc,Nat.mul_div_cancel _ hp,Nat.mul_mod_left]
  exact⟨rfl,Iff.rfl⟩
theorem xK {b K:Nat} (hK:K=1074) (h:af b) (hz:b % 9223372036854775808≠0∨sB b=false) :
  ∃ k:Int,Ieee.double.write ((Ieee.double.read b).integral .down)=fi k∧k*((2^K:Nat):Int)≤vI b∧vI b<(k+1)*((2^K:Nat):Int):=by
 rw [av h]
 have hv:=pP b
 have hs:(b / 9223372036854775808 % 2==1)=sB b:=rfl
 have hm0:b % 9223372036854775808≠0→mg (b % 9223372036854775808)≠0:=fun h=>by unfold mg;split<;>omega
 rw [hs] at hv ⊢
 generalize b % 9223372036854775808=r at *
 generalize hm:mg r=m at *
 generalize pl r=p at *
 have hP:=Nat.two_pow_pos K
 have hp2:=Nat.two_pow_pos p
 obtain⟨c1,c2⟩:=Br m p K
 have key:∀ s,Ieee.double.write ((Ieee.Datum.number s m (-1074+(p:Int))).integral .down)=Ieee.double.nearest s (m*2^p / 2^K+(if s=true∧m*2^p % 2^K≠0 then 1 else 0)) 0:=fun s=>by
  show Ieee.double.nearest s (Ieee.Toward.down.cut s (m <<< (-1074+(p:Int)).toNat) (-(-1074+(p:Int))).toNat) 0=_
  have e:(-1074+(p:Int))= -(K:Int)+(p:Int):=by omega
  rw [Ez,e,c1]
  congr 2
  simp only [ne_eq,c2]
 rw [key]
 obtain⟨A,hA⟩:∃ A,m*2^p=A:=⟨_,rfl⟩
 obtain⟨P,hPP⟩:∃ P,2^K=P:=⟨_,rfl⟩
 rw [hA] at hv ⊢
 rw [hPP] at hP ⊢
 have hd:=Nat.div_add_mod A P
 have hlt:=Nat.mod_lt A hP
 generalize A / P=q at *
 generalize A % P=t at *
 clear key c1 c2
 cases hsb:sB b with
 | false=>
  rw [hsb] at hv
  refine⟨(q:Nat),?_,?_,?_⟩
  ·rw [if_neg (by simp),Nat.add_zero]
   unfold fi aH
   by_cases h0:q=0
   ·rw [h0,ck];rfl
   ·rw [bV _ h0,jc,if_neg (by omega),if_neg (by omega),Int.natAbs_natCast]
  ·rw [hv];show ((q:Nat):Int)*(P:Int)≤(A:Int)
   rw [← Int.natCast_mul,Nat.mul_comm];omega
  ·rw [hv];show (A:Int)<(((q:Nat):Int)+1)*(P:Int)
   rw [Int.add_mul,← Int.natCast_mul,Nat.mul_comm];omega
 | true=>
  rw [hsb] at hv
  have hr0:r≠0:=by
   rcases hz with h | h
   ·exact h
   ·rw [hsb] at h;cases h
  have hA0:A≠0:=by rw [← hA];exact Nat.mul_ne_zero (hm0 hr0) (by omega)
  by_cases hr:t=0
  ·refine⟨-((q:Nat):Int),?_,?_,?_⟩
   ·rw [if_neg (by simp [hr]),Nat.add_zero]
    have h0:q≠0:=by
     intro h0;rw [h0,Nat.mul_zero] at hd;omega
    unfold fi aH
    rw [bV _ h0,iB,if_neg (by omega),if_pos (by omega),Int.natAbs_neg,Int.natAbs_natCast]
   ·rw [hv];show -((q:Nat):Int)*(P:Int)≤-(A:Int)
    rw [Int.neg_mul,← Int.natCast_mul,Nat.mul_comm];omega
   ·rw [hv];show -(A:Int)<(-((q:Nat):Int)+1)*(P:Int)
    rw [Int.add_mul,Int.neg_mul,← Int.natCast_mul,Nat.mul_comm];omega
  ·refine⟨-((q+1:Nat):Int),?_,?_,?_⟩
   ·rw [if_pos ⟨rfl,hr⟩]
    unfold fi aH
    rw [bV _ (by omega),iB,if_neg (by omega),if_pos (by omega),Int.natAbs_neg,Int.natAbs_natCast]
   ·rw [hv];show -((q+1:Nat):Int)*(P:Int)≤-(A:Int)
    rw [Int.neg_mul,← Int.natCast_mul,Nat.add_mul,Nat.mul_comm (q)];omega
   ·rw [hv];show -(A:Int)<(-((q+1:Nat):Int)+1)*(P:Int)
    rw [Int.add_mul,Int.neg_mul,← Int.natCast_mul,Nat.add_mul,Nat.mul_comm (q)];omega

theorem nH (b:Nat) (s:Bool) (m:Nat) (i:Int) (hd:FloatKind.f64.decode b=.number s m i):Extern.MathFloor.toIntegral "math.archFloor" .down #[.float .f64 b]=pure (.float .f64 (FloatKind.f64.encode ((Ieee.Datum.number s m i).integral .down))):=by
 conv=>lhs;whnf
 rw [hd]
theorem nI (b:Nat) (h:af b) (w:World):(callFunc 208 #[.float .f64 b]).run Tryz.prog w=.ok (.value (.float .f64 (Ieee.double.write ((Ieee.double.read b).integral .down)))) w:=by
 refine (run_callFunc_extern (e:=Extern.MathFloor.toIntegral "math.archFloor" .down) Tryz.func208 (by kernel_rfl) (by kernel_rfl) (by kernel_rfl) (by kernel_rfl) _ w).trans ?_
 have e:FloatKind.f64.decode b=_:=av h
 rw [nH b _ _ _ e,av h]
 rfl

set_option maxHeartbeats 800000 in
theorem EA (b f:Nat) (w:World) (h:af b) (hf:Ieee.double.write ((Ieee.double.read b).integral .down)=f) :
  Calls Tryz.prog 200 #[.float .f64 b] w fun e w'=>e=.returned (.float .f64 f)∧w'=w:=by
 have h1:=nI b h
 rw [hf] at h1
 clear hf h
 go_enter Tryz.func200,Tryz.ntmps200
 go_wp2
 go_ret
 exact⟨rfl,rfl⟩
end Go.Proofs.YtjjlnmihkadlmaaGreat
namespace Go.Proofs.YtjjlnmihkadlmaaGreat

theorem sa {s:Bool} {r:Nat} (h:r<9218868437227405312):vI (wrd s r)=sgZ s (V r)∧af (wrd s r)∧wrd s r<18446744073709551616∧sB (wrd s r)=s:=by
 cases s
 ·have e:wrd false r=r:=rfl
  rw [e]
  refine⟨?_,?_,by omega,?_⟩
  ·rw [fU]
   unfold sB aV
   rw [show r / 9223372036854775808 % 2=0 by omega,show r % 9223372036854775808=r by omega];rfl
  ·unfold af;omega
  ·unfold sB;rw [show r / 9223372036854775808 % 2=0 by omega];rfl
 ·have e:wrd true r=9223372036854775808+r:=rfl
  rw [e]
  refine⟨?_,?_,by omega,?_⟩
  ·rw [fU]
   unfold sB aV
   rw [show (9223372036854775808+r) / 9223372036854775808 % 2=1 by omega,show (9223372036854775808+r) % 9223372036854775808=r by omega];rfl
  ·unfold af;omega
  ·unfold sB;rw [show (9223372036854775808+r) / 9223372036854775808 % 2=1 by omega];rfl
theorem kM {T e:Int} (h:T≠0):aH T e=wrd (decide (T<0)) (nearR T.natAbs e):=by
 unfold aH wrd
 rw [if_neg h]
 by_cases hn:T<0
 ·rw [if_pos hn,if_pos (by simpa using hn)]
 ·rw [if_neg hn,if_neg (by simpa using hn)]
theorem xL {k:Nat} {T:Int}:sgZ (decide (T<0)) (V (nearR T.natAbs (-1074 - (k:Int))))=rI k T:=by
 unfold sgZ rI
 by_cases hn:T<0
 ·rw [if_pos (by simpa using hn),if_pos hn]
 ·rw [if_neg (by simpa using hn),if_neg hn]
theorem sb (k:Nat):rI k 0=0:=by
 unfold rI
 rw [if_neg (by decide),Int.natAbs_zero,je (by omega),bD];rfl
theorem ql {x y:Nat} (hx:af x) (hy:af y) (hf:xe 0 (vI x+vI y)):∃ z,floatBits .add .f64 x y=some z∧af z∧z<18446744073709551616∧vI z=rI 0 (vI x+vI y):=by
 refine⟨_,jI hx hy,?_⟩
 unfold gT
 generalize vI x+vI y=T at *
 by_cases h0:T=0
 ·rw [if_pos h0,h0,sb]
  split
  ·exact⟨by unfold af;decide,by decide,by decide⟩
  ·exact⟨by unfold af;decide,by decide,by decide⟩
 ·rw [if_neg h0,kM h0]
  have hf':nearR T.natAbs (-1074)<9218868437227405312:=hf
  obtain⟨a,b,c,_⟩:=sa (s:=decide (T<0)) hf'
  refine⟨b,c,?_⟩
  rw [a]
  exact xL (k:=0)
theorem Bs {x y:Nat} (hx:af x) (hy:af y) (hf:xe 0 (vI x - vI y)):∃ z,floatBits .sub .f64 x y=some z∧af z∧z<18446744073709551616∧vI z=rI 0 (vI x - vI y):=by
 refine⟨_,ru hx hy,?_⟩
 unfold gT
 generalize vI x - vI y=T at *
 by_cases h0:T=0
 ·rw [if_pos h0,h0,sb]
  split
  ·exact⟨by unfold af;decide,by decide,by decide⟩
  ·exact⟨by unfold af;decide,by decide,by decide⟩
 ·rw [if_neg h0,kM h0]
  have hf':nearR T.natAbs (-1074)<9218868437227405312:=hf
  obtain⟨a,b,c,_⟩:=sa (s:=decide (T<0)) hf'
  refine⟨b,c,?_⟩
  rw [a]
  exact xL (k:=0)
theorem qm (x:Nat):(vI x).natAbs=aV x:=by rw [fU];unfold sgZ;cases sB x<;>simp
theorem nJ {x:Nat} (h:vI x≠0):decide (vI x<0)=sB x:=by
 rw [fU] at h ⊢
 unfold sgZ at *
 cases sB x
 ·simp
 ·simp only [if_true] at *;simp;omega
theorem EB {a b:Int} (ha:a≠0) (hb:b≠0):(decide (a<0)^^decide (b<0))=decide (a*b<0):=by
 rcases Int.lt_or_lt_of_ne ha with pa | pa<;>rcases Int.lt_or_lt_of_ne hb with pb | pb
 ·have:=Int.mul_pos_of_neg_of_neg pa pb;simp [pa,pb];omega
 ·have:=Int.mul_neg_of_neg_of_pos pa pb;simp [pa,this];omega
 ·have:=Int.mul_neg_of_pos_of_neg pa pb;simp [pb,this];omega
 ·have:=Int.mul_pos pa pb
  rw [decide_eq_false (show ¬ a<0 by omega),decide_eq_false (show ¬ b<0 by omega),decide_eq_false (show ¬ a*b<0 by omega)];rfl
theorem qp {x y K:Nat} (hK:K=1074) (hx:af x) (hy:af y) (hf:xe K (vI x*vI y)):∃ z,floatBits .mul .f64 x y=some z∧af z∧z<18446744073709551616∧vI z=rI K (vI x*vI y):=by
 refine⟨_,iC hx hy,?_⟩
 unfold mulR
 rw [← qm,← qm,← Int.natAbs_mul]
 by_cases h0:vI x*vI y=0
 ·rw [h0,Int.natAbs_zero,if_pos rfl,sb]
  obtain⟨a,b,c,_⟩:=sa (s:=sB x^^sB y) (r:=0) (by decide)
  refine⟨b,c,?_⟩
  rw [a,bD];unfold sgZ;split<;>rfl
 ·have hx0:vI x≠0:=fun h=>h0 (by rw [h,Int.zero_mul])
  have hy0:vI y≠0:=fun h=>h0 (by rw [h,Int.mul_zero])
  rw [if_neg (by omega),← nJ hx0,← nJ hy0,EB hx0 hy0]
  unfold xe at hf
  rw [show (-1074 - (K:Int))= -2148 by omega] at hf
  obtain⟨a,b,c,_⟩:=sa (s:=decide (vI x*vI y<0)) hf
  refine⟨b,c,?_⟩
  rw [a]
  have:=xL (k:=K) (T:=vI x*vI y)
  rw [show (-1074 - (K:Int))= -2148 by omega] at this
  exact this
end Go.Proofs.YtjjlnmihkadlmaaGreat
namespace Go.Proofs.YtjjlnmihkadlmaaGreat

theorem EC {q k:Nat} (hk1:4503599627370496≤k) (hk2:k<9007199254740992):mg (q*4503599627370496+k)=k∧pl (q*4503599627370496+k)=q:=by
 unfold mg pl
 rw [if_neg (by omega)]
 omega
theorem ED {m E:Nat} (h:m<9007199254740992) (hE:52≤E) (hE2:E≤1900):Rep ((m*2^E:Nat):Int):=by
 by_cases h0:m=0
 ·subst h0;rw [Nat.zero_mul];exact Dy
 have a:=Nat.log2_self_le h0
 have b:m<2^(m.log2+1):=Nat.lt_log2_self
 have hl:m.log2<53:=(Nat.log2_lt h0).2 (by omega)
 generalize m.log2=l at a b hl
 obtain⟨k,hk⟩:∃ k,m*2^(52 - l)=k:=⟨_,rfl⟩
 have hk1:4503599627370496≤k:=by
  have:=Nat.mul_le_mul_right (2^(52 - l)) a
  rw [← Nat.pow_add,show l+(52 - l)=52 by omega,hk] at this;exact this
 have hk2:k<9007199254740992:=by
  have:=Nat.mul_lt_mul_of_pos_right b (Nat.two_pow_pos (52 - l))
  rw [← Nat.pow_add,show l+1+(52 - l)=53 by omega,hk] at this;exact this
 obtain⟨h1,h2⟩:=EC (q:=E+l - 52) hk1 hk2
 refine⟨(E+l - 52)*4503599627370496+k,by omega,?_⟩
 unfold V
 rw [h1,h2,Int.natAbs_natCast,← hk,Nat.mul_assoc,← Nat.pow_add,show 52 - l+(E+l - 52)=E by omega]
theorem nK {j:Int} {E:Nat} (h1: -9007199254740992<j) (h2:j<9007199254740992) (hE:52≤E) (hE2:E≤1900):Rep (j*((2^E:Nat):Int)):=by
 obtain⟨r,hr,e⟩:=ED (m:=j.natAbs) (E:=E) (by omega) hE hE2
 refine⟨r,hr,?_⟩
 rw [Int.natAbs_natCast] at e
 rw [aT];exact e
theorem kN {k E:Nat} {T:Int} (hE:52≤E) (hE2:E≤1900) {G P:Int} (hG:G=((2^E:Nat):Int)) (hP:P=((2^k:Nat):Int)) (h1: -(2097152*(G*P))≤T) (h2:T≤2097152*(G*P)) :
  xe k T∧-(G*P)≤rI k T*P - T∧rI k T*P - T≤G*P:=by
 have hGp:0<G:=by rw [hG];have:=Nat.two_pow_pos E;omega
 have hPp:0<P:=by rw [hP];have:=Nat.two_pow_pos k;omega
 have hGP:0<G*P:=Int.mul_pos hGp hPp
 obtain⟨j,hj⟩:∃ j,T / (G*P)=j:=⟨_,rfl⟩
 have e1:j*(G*P)≤T:=by rw [← hj];exact Int.ediv_mul_le T (by omega)
 have e2:T<(j+1)*(G*P):=by rw [← hj];exact Int.lt_ediv_add_one_mul_self T hGP
 have j1: -2097152≤j:=by
  rw [← hj]
  refine (Int.le_ediv_iff_mul_le hGP).2 ?_
  rw [Int.neg_mul];exact h1
 have j2:j≤2097152:=by
  by_cases h:2097152<j
  ·have:=Int.mul_lt_mul_of_pos_right h hGP
   omega
  ·omega
 have rA:Rep (j*G):=by rw [hG];exact nK (by omega) (by omega) hE hE2
 have rB:Rep ((j+1)*G):=by rw [hG];exact nK (by omega) (by omega) hE hE2
 have f1:j*G*((2^k:Nat):Int)≤T:=by rw [← hP,Int.mul_assoc];exact e1
 have f2:T≤(j+1)*G*((2^k:Nat):Int):=by rw [← hP,Int.mul_assoc];omega
 have a1:=mQ rA f1
 have a2:=jJ rB f2
 have b1:=Int.mul_le_mul_of_nonneg_right a1 (show 0≤P by omega)
 have b2:=Int.mul_le_mul_of_nonneg_right a2 (show 0≤P by omega)
 rw [Int.mul_assoc] at b1 b2
 have e3:(j+1)*(G*P)=j*(G*P)+G*P:=by rw [Int.add_mul,Int.one_mul]
 rw [e3] at e2 b2
 exact⟨xf rA rB f1 f2,by omega,by omega⟩

structure Scale (K:Nat) (g:Int):Prop where
 k:K=1074
 pos:0<g
 unit:((2^K:Nat):Int)=1267650600228229401496703205376*g
 grid:((2^1064:Nat):Int)=1237940039285380274899124224*g
 at_:∀ q p:Nat,q+974=p→((2^p:Nat):Int)=((2^q:Nat):Int)*g
theorem kO {a b c:Nat} (h:a+b=c):((2^c:Nat):Int)=((2^a:Nat):Int)*((2^b:Nat):Int):=by
 subst h;rw [Nat.pow_add,Int.natCast_mul]
theorem KQ:∃ K g,Scale K g:=by
 obtain⟨e,he⟩:∃ e,e=974:=⟨_,rfl⟩
 obtain⟨K,hK⟩:∃ K,K=1074:=⟨_,rfl⟩
 obtain⟨L,hL⟩:∃ L,L=1064:=⟨_,rfl⟩
 refine⟨K,((2^e:Nat):Int),hK,by have:=Nat.two_pow_pos e;omega,?_,?_,fun q p h=>kO (by omega)⟩
 ·rw [kO (a:=100) (b:=e) (c:=K) (by omega)];rfl
 ·rw [← hL,kO (a:=90) (b:=e) (c:=L) (by omega)];rfl

theorem EE {K:Nat} {g:Int} (hs:Scale K g) {x y:Nat} (hx:af x) (hy:af y) (h1: -(2596148429267413814265248164610048*g)≤vI x+vI y) (h2:vI x+vI y≤2596148429267413814265248164610048*g) :
  ∃ z,floatBits .add .f64 x y=some z∧af z∧z<18446744073709551616∧-(1237940039285380274899124224*g)≤vI z - (vI x+vI y)∧vI z - (vI x+vI y)≤1237940039285380274899124224*g:=by
 obtain⟨E,hE⟩:∃ E,E=1064:=⟨_,rfl⟩
 have hg:=hs.grid
 rw [← hE] at hg
 obtain⟨f,a,b⟩:=kN (k:=0) (E:=E) (T:=vI x+vI y) (by omega) (by omega) (P:=1) rfl rfl (by rw [hg];omega) (by rw [hg];omega)
 obtain⟨z,z1,z2,z3,z4⟩:=ql hx hy f
 rw [hg] at a b
 rw [← z4] at a b
 exact⟨z,z1,z2,z3,by omega,by omega⟩
theorem uL {K:Nat} {g:Int} (hs:Scale K g) {x y:Nat} (hx:af x) (hy:af y) (h1: -(2596148429267413814265248164610048*g)≤vI x - vI y) (h2:vI x - vI y≤2596148429267413814265248164610048*g) :
  ∃ z,floatBits .sub .f64 x y=some z∧af z∧z<18446744073709551616∧-(1237940039285380274899124224*g)≤vI z - (vI x - vI y)∧vI z - (vI x - vI y)≤1237940039285380274899124224*g:=by
 obtain⟨E,hE⟩:∃ E,E=1064:=⟨_,rfl⟩
 have hg:=hs.grid
 rw [← hE] at hg
 obtain⟨f,a,b⟩:=kN (k:=0) (E:=E) (T:=vI x - vI y) (by omega) (by omega) (P:=1) rfl rfl (by rw [hg];omega) (by rw [hg];omega)
 obtain⟨z,z1,z2,z3,z4⟩:=Bs hx hy f
 rw [hg] at a b
 rw [← z4] at a b
 exact⟨z,z1,z2,z3,by omega,by omega⟩
theorem nL {K:Nat} {g:Int} (hs:Scale K g) {x y:Nat} {c:Int} (hx:af x) (hy:af y) (hc:vI y=c*g) (h1: -(3291009114642412084309938365114701009965471731267159726697218048*g)≤c*vI x) (h2:c*vI x≤3291009114642412084309938365114701009965471731267159726697218048*g) :
  ∃ z,floatBits .mul .f64 x y=some z∧af z∧z<18446744073709551616∧-(1569275433846670190958947355801916604025588861116008628224*g)≤1267650600228229401496703205376*vI z - c*vI x∧1267650600228229401496703205376*vI z - c*vI x≤1569275433846670190958947355801916604025588861116008628224*g:=by
 obtain⟨E,hE⟩:∃ E,E=1064:=⟨_,rfl⟩
 have hg:=hs.grid
 rw [← hE] at hg
 have hgp:=hs.pos
 have eT:vI x*vI y=(c*vI x)*g:=by rw [hc,← Int.mul_assoc,Int.mul_comm (vI x) c]
 have eGP:((2^E:Nat):Int)*((2^K:Nat):Int)=(1569275433846670190958947355801916604025588861116008628224*g)*g:=by
  rw [hg,hs.unit,← Int.mul_assoc,show (1237940039285380274899124224*g*1267650600228229401496703205376:Int)=1569275433846670190958947355801916604025588861116008628224*g by omega]
 have b1:=Int.mul_le_mul_of_nonneg_right h1 (show 0≤g by omega)
 have b2:=Int.mul_le_mul_of_nonneg_right h2 (show 0≤g by omega)
 have e3:(2097152:Int)*(1569275433846670190958947355801916604025588861116008628224*g*g)=3291009114642412084309938365114701009965471731267159726697218048*g*g:=by rw [← Int.mul_assoc,← Int.mul_assoc];rfl
 rw [Int.neg_mul] at b1
 obtain⟨f,a,b⟩:=kN (k:=K) (E:=E) (T:=vI x*vI y) (by omega) (by omega) rfl rfl (by rw [eGP,e3,eT];exact b1) (by rw [eGP,e3,eT];exact b2)
 obtain⟨z,z1,z2,z3,z4⟩:=qp hs.k hx hy f
 rw [eGP,eT,← eT,← z4,eT,hs.unit,← Int.mul_assoc,Int.mul_comm (vI z),← Int.sub_mul] at a b
 refine⟨z,z1,z2,z3,?_,?_⟩
 ·rw [← Int.neg_mul] at a
  exact Int.le_of_mul_le_mul_right a hgp
 ·exact Int.le_of_mul_le_mul_right b hgp
end Go.Proofs.YtjjlnmihkadlmaaGreat
namespace Go.Proofs.YtjjlnmihkadlmaaGreat
open Go.RowKit

set_option maxHeartbeats 400000 in
theorem zG (k h l:Nat) (w:World) (h1:floatBits .mul .f64 k 4604418534311723008=some h) (h2:floatBits .mul .f64 k 4461442080421002358=some l) :
  Calls Tryz.prog 201 #[.float .f64 k] w fun e w'=>e=.returned (.tuple #[.float .f64 h,.float .f64 l])∧w'=w:=by
 have r1:=fun w=>run_float_arith (P:=Tryz.prog) w .mul 54 .f64 _ _ _ h1
 have r2:=fun w=>run_float_arith (P:=Tryz.prog) w .mul 54 .f64 _ _ _ h2
 clear h1 h2
 go_enter Tryz.func201,Tryz.ntmps201
 go_wp2
 go_ret2
 exact⟨rfl,rfl⟩

set_option maxHeartbeats 400000 in
theorem Hm (w:World) :
  Calls Tryz.prog 110 #[.int .i64 1] w fun e w'=>e=.returned (.float .f64 9218868437227405312)∧w'=w:=by
 have h2:=bR
 go_enter Tryz.func110,Tryz.ntmps110
 go_wp2
 go_ret
 exact⟨rfl,rfl⟩

set_option maxHeartbeats 400000 in
theorem Hn (x:Nat) (w:World) (h:U64 x) (hn:ag x=true) :
  Calls Tryz.prog 194 #[.float .f64 x] w fun e w'=>e=.returned (.float .f64 x)∧w'=w:=by
 have H:=hideS (aX x w h)
 rw [hn] at H
 clear h hn
 go_enter Tryz.func194,Tryz.ntmps194
 go_wp2_with fail
 refine H.out.mono ?_
 rintro e w' ⟨rfl,rfl⟩
 go_wp2_with fail
 go_ret
 exact⟨rfl,rfl⟩

set_option maxHeartbeats 400000 in
theorem Jy (x:Nat) (g e:Bool) (w:World) (h:U64 x) (hn:ag x=false) (hg:(FloatKind.f64.format.order x 4649456441864749056==some .gt)=g) (he:(FloatKind.f64.format.order x 4649456441864749056==some .eq)=e) (hge:(g||e)=true) :
  Calls Tryz.prog 194 #[.float .f64 x] w fun e w'=>e=.returned (.float .f64 9218868437227405312)∧w'=w:=by
 have H:=hideS (aX x w h)
 rw [hn] at H
 clear h hn
 cases g<;>cases e<;>first | (cases hge;done) | skip
 all_goals
  clear hge
  go_enter Tryz.func194,Tryz.ntmps194
  go_wp2_with fail
  refine H.out.mono ?_
  rintro e w' ⟨rfl,rfl⟩
  go_wp2_with fail
  refine (Hm _).mono ?_
  rintro e w' ⟨rfl,rfl⟩
  go_wp2_with fail
  go_ret
  exact⟨rfl,rfl⟩

set_option maxHeartbeats 400000 in
theorem Jz (x:Nat) (g e:Bool) (w:World) (h:U64 x) (hn:ag x=false) (hg1:(FloatKind.f64.format.order x 4649456441864749056==some .gt)=false) (he1:(FloatKind.f64.format.order x 4649456441864749056==some .eq)=false)
  (hg:(FloatKind.f64.format.order x 13873145138068324352==some .lt)=g) (he:(FloatKind.f64.format.order x 13873145138068324352==some .eq)=e) (hge:(g||e)=true) :
  Calls Tryz.prog 194 #[.float .f64 x] w fun e w'=>e=.returned (.float .f64 0)∧w'=w:=by
 have H:=hideS (aX x w h)
 rw [hn] at H
 clear h hn
 cases g<;>cases e<;>first | (cases hge;done) | skip
 all_goals
  clear hge
  go_enter Tryz.func194,Tryz.ntmps194
  go_wp2_with fail
  refine H.out.mono ?_
  rintro e w' ⟨rfl,rfl⟩
  go_wp2_with fail
  go_ret
  exact⟨rfl,rfl⟩

set_option maxRecDepth 20000 in
set_option maxHeartbeats 1600000 in
theorem Ho (x y t f hi lo d r p:Nat) (k:Int) (w:World) (h:U64 x) (hn:ag x=false) (hg1:(FloatKind.f64.format.order x 4649456441864749056==some .gt)=false) (he1:(FloatKind.f64.format.order x 4649456441864749056==some .eq)=false)
  (hg2:(FloatKind.f64.format.order x 13873145138068324352==some .lt)=false) (he2:(FloatKind.f64.format.order x 13873145138068324352==some .eq)=false)
  (q1:floatBits .mul .f64 x 4609176140021203710=some y) (q2:floatBits .add .f64 y 4602678819172646912=some t) (hf:Hid (∀ w,Calls Tryz.prog 200 #[.float .f64 t] w fun e w'=>e=.returned (.float .f64 f)∧w'=w))
  (q3:floatBits .mul .f64 f 4604418534311723008=some hi) (q4:floatBits .mul .f64 f 4461442080421002358=some lo) (q5:floatBits .sub .f64 x hi=some d) (q6:floatBits .sub .f64 d lo=some r)
  (q7:Hid (aU expL r=some p)) (up:Hid (U64 p)) (q8:floatToIntVal .f64 f .i64=some k) (hk: -2000≤k∧k≤2000) (hsp: -2000≤aM p∧aM p≤2000) (hsm: -9223372036854775808≤az p∧az p≤9223372036854775807) :
  Calls Tryz.prog 194 #[.float .f64 x] w fun e w'=>e=.returned (.float .f64 (aH (az p) (aM p+k)))∧Below w.heap.size w w':=by
 have H:=hideS (aX x w h)
 rw [hn] at H
 have r1:=fun w=>run_float_arith (P:=Tryz.prog) w .mul 54 .f64 _ _ _ q1
 have r2:=fun w=>run_float_arith (P:=Tryz.prog) w .add 54 .f64 _ _ _ q2
 have r5:=fun w=>run_float_arith (P:=Tryz.prog) w .sub 54 .f64 _ _ _ q5
 have r6:=fun w=>run_float_arith (P:=Tryz.prog) w .sub 54 .f64 _ _ _ q6
 have r8:=fun w=>run_convert_float_int (P:=Tryz.prog) w 54 3 .f64 .i64 f k (by kernel_rfl) Tryz.underlying3 q8
 have HL:Hid (∀ w,Calls Tryz.prog 201 #[.float .f64 f] w fun e w'=>e=.returned (.tuple #[.float .f64 hi,.float .f64 lo])∧w'=w):=fun w=>zG f hi lo w q3 q4
 have HSp:Hid (∀ w,Calls Tryz.prog 67 #[.float .f64 p] w fun e w'=>e=.returned (.tuple #[.int .i64 (az p),.int .i64 (aM p),.bool (aw p)])∧w'=w):=fun w=>ef p p w rfl up.out
 have HJ:Hid (∀ w,Calls Tryz.prog 116 #[.int .i64 (az p),.int .i64 (aM p+k)] w fun e w'=>e=.returned (.float .f64 (aH (az p) (aM p+k)))∧∃ n,w'=w.drewN n):=fun w=>bQ _ _ w hsm.1 hsm.2
 clear h hn q1 q2 q3 q4 q5 q6 q8 hsm
 generalize aH (az p) (aM p+k)=res at HJ
 generalize az p=sm at HJ HSp
 generalize aM p=se at HJ HSp hsp
 generalize aw p=so at HSp
 go_enter Tryz.func194,Tryz.ntmps194
 go_wp2_with fail
 refine (turned H.out).mono ?_
 rintro e w' ⟨rfl,rfl⟩
 clear H
 go_wp2_with fail
 refine (turned (hf.out _)).mono ?_
 rintro e w' ⟨rfl,rfl⟩
 go_wp2_with fail
 refine (turned (HL.out _)).mono ?_
 rintro e w' ⟨rfl,rfl⟩
 go_wp2_with fail
 have HT:=hideS (rZ w)
 refine HT.out.mono ?_
 rintro e w1 ⟨rfl,hs,hb⟩
 have HB:=hideS hb
 have HH:Hid (Calls Tryz.prog 202 #[.slice (some ⟨w.heap.size,0,none⟩) 14 14,.float .f64 r] w1 fun e w'=>∃ r',e=.returned (.float .f64 r')∧Ag (aU expL r) r'∧∃ q,w'=w1.drewN q):=mS _ _ _ 14 r 14 expL w1 hs rfl (by decide)
 rw [q7.out] at HH
 clear hs hb HT
 go_wp2_with fail
 refine HH.out.mono ?_
 rintro e w2 ⟨r',rfl,hag,q,rfl⟩
 obtain rfl:=dy hag
 go_wp2_with fail
 refine (turned (HSp.out _)).mono ?_
 rintro e w' ⟨rfl,rfl⟩
 go_wp2_with fail
 refine (HJ.out _).mono ?_
 rintro e w' ⟨rfl,q',rfl⟩
 go_wp2_with fail
 go_ret
 exact⟨rfl,⟨HB.out.os,HB.out.tape,HB.out.output,HB.out.size,HB.out.block⟩⟩
end Go.Proofs.YtjjlnmihkadlmaaGreat
namespace Go.Proofs.YtjjlnmihkadlmaaGreat

theorem jZ (b:Nat) (h:decide (b % 9223372036854775808<9218868437227405312)=true):af b:=by unfold af;exact of_decide_eq_true h
theorem eS {K:Nat} {g:Int} (hs:Scale K g) {b m p:Nat} (q:Nat) (h0:sB b=false) (hm:mg (b % 9223372036854775808)=m) (hp:pl (b % 9223372036854775808)=p) (hq:q+974=p):vI b=((m*2^q:Nat):Int)*g:=by
 rw [fU,h0]
 unfold sgZ aV V
 rw [if_neg (by decide),hm,hp,Int.natCast_mul,hs.at_ q p hq,Int.natCast_mul,Int.mul_assoc]
theorem sc {K:Nat} {g:Int} (hs:Scale K g):vI 4609176140021203710=1828833234529184396638827839488*g:=by
 rw [eS hs (b:=4609176140021203710) 48 (by decide+kernel) (m:=6497320848556798) (by decide+kernel) (p:=1022) (by decide+kernel) rfl];rfl
theorem xM {K:Nat} {g:Int} (hs:Scale K g):vI 4602678819172646912=633825300114114700748351602688*g:=by
 rw [eS hs (b:=4602678819172646912) 47 (by decide+kernel) (m:=4503599627370496) (by decide+kernel) (p:=1021) (by decide+kernel) rfl];rfl
theorem xN {K:Nat} {g:Int} (hs:Scale K g):vI 4604418534311723008=878668439241424593572830642176*g:=by
 rw [eS hs (b:=4604418534311723008) 47 (by decide+kernel) (m:=6243314766446592) (by decide+kernel) (p:=1021) (by decide+kernel) rfl];rfl
theorem Bt {K:Nat} {g:Int} (hs:Scale K g):vI 4461442080421002358=241894980045432881152*g:=by
 rw [eS hs (b:=4461442080421002358) 15 (by decide+kernel) (m:=7382048951581814) (by decide+kernel) (p:=989) (by decide+kernel) rfl];rfl
theorem ka {K:Nat} {g:Int} (hs:Scale K g) {m:Int} (h1: -9007199254740992≤m) (h2:m≤9007199254740992):vI (fi m)=1267650600228229401496703205376*(m*g)∧af (fi m)∧fi m<18446744073709551616:=by
 obtain⟨a,b,_,d⟩:=mP hs.k h1 h2
 refine⟨?_,b,d⟩
 rw [a,hs.unit,← Int.mul_assoc,Int.mul_comm m,Int.mul_assoc]
theorem sd {x y t:Nat} (hx:af x) (hy:af y) (h0:sB y=false) (ht:floatBits .add .f64 x y=some t):t % 9223372036854775808≠0∨sB t=false:=by
 rw [jI hx hy] at ht
 have e:gT (x / 9223372036854775808 % 2==1) (y / 9223372036854775808 % 2==1) (vI x+vI y)=t:=Option.some.inj ht
 have hy0:(y / 9223372036854775808 % 2==1)=false:=h0
 rw [hy0] at e
 unfold gT at e
 generalize vI x+vI y=T at e
 by_cases hT:T=0
 ·rw [if_pos hT,Bool.and_false,if_neg (by decide)] at e
  right;rw [← e];rfl
 ·left
  rw [if_neg hT,kM hT] at e
  have h1:=za (T:=T.natAbs) (r:=1) (k:=0) (by decide) (by rw [show V 1=1 by decide];omega)
  have h2:=gS T.natAbs (-1074)
  have h3:1≤nearR T.natAbs (-1074):=h1
  rw [← e]
  unfold wrd
  generalize nearR T.natAbs (-1074)=r at *
  split<;>omega

theorem xO {X Y t Q hi lo d r g:Int} (x1: -(945667347770259133516540591210496*g)<X) (x2:X<900031926162042875062659275816960*g)
  (y1: -(1569275433846670190958947355801916604025588861116008628224*g)≤1267650600228229401496703205376*Y - 1828833234529184396638827839488*X) (y2:1267650600228229401496703205376*Y - 1828833234529184396638827839488*X≤1569275433846670190958947355801916604025588861116008628224*g)
  (t1: -(1237940039285380274899124224*g)≤t - (Y+633825300114114700748351602688*g)) (t2:t - (Y+633825300114114700748351602688*g)≤1237940039285380274899124224*g)
  (k1:1267650600228229401496703205376*Q≤t) (k2:t<1267650600228229401496703205376*Q+1267650600228229401496703205376*g)
  (a1: -(1569275433846670190958947355801916604025588861116008628224*g)≤1267650600228229401496703205376*hi - 878668439241424593572830642176*(1267650600228229401496703205376*Q)) (a2:1267650600228229401496703205376*hi - 878668439241424593572830642176*(1267650600228229401496703205376*Q)≤1569275433846670190958947355801916604025588861116008628224*g)
  (b1: -(1569275433846670190958947355801916604025588861116008628224*g)≤1267650600228229401496703205376*lo - 241894980045432881152*(1267650600228229401496703205376*Q)) (b2:1267650600228229401496703205376*lo - 241894980045432881152*(1267650600228229401496703205376*Q)≤1569275433846670190958947355801916604025588861116008628224*g)
  (d1: -(1237940039285380274899124224*g)≤d - (X - hi)) (d2:d - (X - hi)≤1237940039285380274899124224*g)
  (r1: -(1237940039285380274899124224*g)≤r - (d - lo)) (r2:r - (d - lo)≤1237940039285380274899124224*g) :
  -(633825300114114700748351602688*g)≤r∧r≤633825300114114700748351602688*g:=by
 constructor<;>omega

theorem Bu {K:Nat} {g:Int} (hs:Scale K g) {x:Nat} (hx:af x) (x1: -(945667347770259133516540591210496*g)<vI x) (x2:vI x<900031926162042875062659275816960*g) :
  ∃ (y t hi lo d r:Nat) (k:Int),floatBits .mul .f64 x 4609176140021203710=some y∧floatBits .add .f64 y 4602678819172646912=some t∧af t∧Ieee.double.write ((Ieee.double.read t).integral .down)=fi k∧k*((2^K:Nat):Int)≤vI t∧vI t<(k+1)*((2^K:Nat):Int)∧-2000≤k∧k≤2000∧
   floatBits .mul .f64 (fi k) 4604418534311723008=some hi∧floatBits .mul .f64 (fi k) 4461442080421002358=some lo∧floatBits .sub .f64 x hi=some d∧floatBits .sub .f64 d lo=some r∧af r∧r<18446744073709551616∧-(633825300114114700748351602688*g)≤vI r∧vI r≤633825300114114700748351602688*g:=by
 have hg:=hs.pos
 obtain⟨y,y0,yn,_,y1,y2⟩:=nL hs hx (jZ 4609176140021203710 (by decide)) (sc hs) (by omega) (by omega)
 have hw:=xM hs
 obtain⟨t,t0,tn,_,t1,t2⟩:=EE hs yn (jZ 4602678819172646912 (by decide)) (by rw [hw];omega) (by rw [hw];omega)
 rw [hw] at t1 t2
 obtain⟨k,k0,k1,k2⟩:=xK hs.k tn (sd yn (jZ 4602678819172646912 (by decide)) (by decide+kernel) t0)
 have kk1:=k1
 have kk2:=k2
 rw [hs.unit,← Int.mul_assoc,Int.mul_comm k,Int.mul_assoc] at k1
 rw [hs.unit,Int.add_mul,Int.one_mul,← Int.mul_assoc,Int.mul_comm k,Int.mul_assoc] at k2
 have kb1: -2000≤k:=by
  by_cases h: -2000≤k
  ·exact h
  ·have:=Int.mul_le_mul_of_nonneg_right (show k≤-2001 by omega) (show 0≤g by omega)
   omega
 have kb2:k≤2000:=by
  by_cases h:k≤2000
  ·exact h
  ·have:=Int.mul_le_mul_of_nonneg_right (show 2001≤k by omega) (show 0≤g by omega)
   omega
 have kb3:=Int.mul_le_mul_of_nonneg_right kb1 (show 0≤g by omega)
 have kb4:=Int.mul_le_mul_of_nonneg_right kb2 (show 0≤g by omega)
 obtain⟨f1,fn,_⟩:=ka hs (m:=k) (by omega) (by omega)
 obtain⟨Q,hQ⟩:∃ Q,k*g=Q:=⟨_,rfl⟩
 rw [hQ] at f1 k1 k2 kb3 kb4
 obtain⟨hi,h0,hn,_,a1,a2⟩:=nL hs fn (jZ 4604418534311723008 (by decide)) (xN hs) (by rw [f1];omega) (by rw [f1];omega)
 obtain⟨lo,l0,ln,_,b1,b2⟩:=nL hs fn (jZ 4461442080421002358 (by decide)) (Bt hs) (by rw [f1];omega) (by rw [f1];omega)
 rw [f1] at a1 a2 b1 b2
 obtain⟨d,d0,dn,_,d1,d2⟩:=uL hs hx hn (by omega) (by omega)
 obtain⟨r,r0,rn,r64,r1,r2⟩:=uL hs dn ln (by omega) (by omega)
 obtain⟨z1,z2⟩:=xO x1 x2 y1 y2 t1 t2 k1 k2 a1 a2 b1 b2 d1 d2 r1 r2
 exact⟨y,t,hi,lo,d,r,k,y0,t0,tn,k0,kk1,kk2,kb1,kb2,h0,l0,d0,r0,rn,r64,z1,z2⟩
end Go.Proofs.YtjjlnmihkadlmaaGreat
namespace Go.Proofs.YtjjlnmihkadlmaaGreat
open Go.RowKit

theorem nM {a b A B:Int} (h1: -A≤a) (h2:a≤A) (h3: -B≤b) (h4:b≤B): -(A*B)≤a*b∧a*b≤A*B:=by
 have h5:(a*b).natAbs≤(A*B).natAbs:=by
  rw [Int.natAbs_mul,Int.natAbs_mul]
  exact Nat.mul_le_mul (by omega) (by omega)
 have h6:0≤A*B:=Int.mul_nonneg (by omega) (by omega)
 omega
theorem iI {K:Nat} {g:Int} (hs:Scale K g) (j:Int) (h1: -10<j) (h2:j<10):Rep (1267650600228229401496703205376*(j*g)):=by
 have:=nK (j:=j) (E:=K) (by omega) (by omega) (by have:=hs.k;omega) (by have:=hs.k;omega)
 rw [hs.unit,← Int.mul_assoc,Int.mul_comm j,Int.mul_assoc] at this
 exact this
theorem uM {K:Nat} {g:Int} (hs:Scale K g) {p r:Nat} (hp:af p) (hr:af r) (p1: -(2535301200456458802993406410752*g)≤vI p) (p2:vI p≤2535301200456458802993406410752*g) (r1: -(633825300114114700748351602688*g)≤vI r) (r2:vI r≤633825300114114700748351602688*g) :
  ∃ z,floatBits .mul .f64 p r=some z∧af z∧z<18446744073709551616∧-(1267650600228229401496703205376*g)≤vI z∧vI z≤1267650600228229401496703205376*g:=by
 obtain⟨a,b⟩:=nM p1 p2 r1 r2
 have rA:=iI hs (-1) (by decide) (by decide)
 have rB:=iI hs 1 (by decide) (by decide)
 have e:(2535301200456458802993406410752*g)*(633825300114114700748351602688*g)=1267650600228229401496703205376*g*(1267650600228229401496703205376*g):=by
  rw [show (2535301200456458802993406410752:Int)*g=(1267650600228229401496703205376*g)*2 by omega,Int.mul_assoc (1267650600228229401496703205376*g),show (2:Int)*(633825300114114700748351602688*g)=1267650600228229401496703205376*g by omega]
 rw [e] at a b
 have f1:1267650600228229401496703205376*(-1*g)*((2^K:Nat):Int)≤vI p*vI r:=by
  rw [hs.unit,show (1267650600228229401496703205376:Int)*(-1*g)= -(1267650600228229401496703205376*g) by omega,Int.neg_mul];exact a
 have f2:vI p*vI r≤1267650600228229401496703205376*(1*g)*((2^K:Nat):Int):=by
  rw [hs.unit,Int.one_mul];exact b
 obtain⟨z,z1,z2,z3,z4⟩:=qp hs.k hp hr (xf rA rB f1 f2)
 have a1:=mQ rA f1
 have a2:=jJ rB f2
 rw [← z4] at a1 a2
 exact⟨z,z1,z2,z3,by omega,by omega⟩
theorem uN {K:Nat} {g:Int} (hs:Scale K g) {q c:Nat} (hq:af q) (hc:af c) (l:Int) (hl1: -10<l) (hl2:l<10) (t1:1267650600228229401496703205376*(l*g)≤vI q+vI c) (t2:vI q+vI c≤2535301200456458802993406410752*g) :
  ∃ z,floatBits .add .f64 q c=some z∧af z∧z<18446744073709551616∧1267650600228229401496703205376*(l*g)≤vI z∧vI z≤2535301200456458802993406410752*g:=by
 have rA:=iI hs l hl1 hl2
 have rB:=iI hs 2 (by decide) (by decide)
 have f1:1267650600228229401496703205376*(l*g)*((2^0:Nat):Int)≤vI q+vI c:=by rw [show ((2^0:Nat):Int)=1 from rfl,Int.mul_one];exact t1
 have f2:vI q+vI c≤1267650600228229401496703205376*(2*g)*((2^0:Nat):Int):=by rw [show ((2^0:Nat):Int)=1 from rfl,Int.mul_one];omega
 obtain⟨z,z1,z2,z3,z4⟩:=ql hq hc (xf rA rB f1 f2)
 have a1:=mQ rA f1
 have a2:=jJ rB f2
 rw [← z4] at a1 a2
 exact⟨z,z1,z2,z3,a1,by omega⟩
theorem qr {K:Nat} {g:Int} (hs:Scale K g):vI 4607182418800017408=1267650600228229401496703205376*g∧af 4607182418800017408:=by
 obtain⟨a,b,_⟩:=ka hs (m:=1) (by decide) (by decide)
 rw [Jd] at a b
 rw [Int.one_mul] at a
 exact⟨a,b⟩
theorem uO:∀ i,i<14→expL.getD i 0≤4607182418800017408:=by decide+kernel
theorem qs {K:Nat} {g:Int} (hs:Scale K g) {c:Nat} (h:c≤4607182418800017408):af c∧0≤vI c∧vI c≤1267650600228229401496703205376*g:=by
 have h1:vI c=(V c:Int):=by
  rw [fU];unfold sB aV
  rw [show c / 9223372036854775808 % 2=0 by omega,show c % 9223372036854775808=c by omega];rfl
 have h2:vI 4607182418800017408=(V 4607182418800017408:Int):=by
  rw [fU];unfold sB aV;rfl
 have h3:=Ab h
 rw [(qr hs).1] at h2
 refine⟨by unfold af;omega,by omega,by omega⟩
theorem Bv {K:Nat} {g:Int} (hs:Scale K g) {r:Nat} (hr:af r) (r1: -(633825300114114700748351602688*g)≤vI r) (r2:vI r≤633825300114114700748351602688*g) :
  ∀ i,i≤12→∃ p,hornAt expL r i=some p∧af p∧-(2535301200456458802993406410752*g)≤vI p∧vI p≤2535301200456458802993406410752*g:=by
 have hg:=hs.pos
 intro i
 induction i with
 | zero=>
  intro _
  obtain⟨a,b,c⟩:=qs hs (uO 13 (by omega))
  exact⟨expL.getD 13 0,rfl,a,by omega,by omega⟩
 | succ i ih=>
  intro hi
  obtain⟨p,e,hp,p1,p2⟩:=ih (by omega)
  obtain⟨q,q0,qn,_,q1,q2⟩:=uM hs hp hr p1 p2 r1 r2
  obtain⟨a,b,c⟩:=qs hs (uO (14 - 2 - i) (by omega))
  obtain⟨z,z0,zn,_,z1,z2⟩:=uN hs qn a (-1) (by decide) (by decide) (by omega) (by omega)
  refine⟨z,?_,zn,by omega,z2⟩
  show eO r (hornAt expL r i) (expL.getD (14 - 2 - i) 0)=some z
  rw [e]
  show ((some p).bind fun p=>floatBits .mul .f64 p r).bind _=_
  rw [show ((some p).bind fun p=>floatBits .mul .f64 p r)=some q from q0]
  exact z0
theorem EF {K:Nat} {g:Int} (hs:Scale K g) {r:Nat} (hr:af r) (r1: -(633825300114114700748351602688*g)≤vI r) (r2:vI r≤633825300114114700748351602688*g) :
  ∃ p,aU expL r=some p∧af p∧p<18446744073709551616∧0≤vI p:=by
 have hg:=hs.pos
 obtain⟨p,e,hp,p1,p2⟩:=Bv hs hr r1 r2 12 (by omega)
 obtain⟨q,q0,qn,_,q1,q2⟩:=uM hs hp hr p1 p2 r1 r2
 obtain⟨o1,o2⟩:=qr hs
 obtain⟨z,z0,zn,z64,z1,_⟩:=uN hs qn o2 0 (by decide) (by decide) (by rw [o1];omega) (by rw [o1];omega)
 refine⟨z,?_,zn,z64,by omega⟩
 show eO r (hornAt expL r 12) 4607182418800017408=some z
 rw [e]
 show ((some p).bind fun p=>floatBits .mul .f64 p r).bind _=_
 rw [show ((some p).bind fun p=>floatBits .mul .f64 p r)=some q from q0]
 exact z0

theorem JA {p:Nat} (hn:af p) (h64:p<18446744073709551616) (h0:0≤vI p):0≤az p∧az p<9007199254740992∧-2000≤aM p∧aM p≤2000:=by
 have hsz:szI (p:Int)=((p % 9223372036854775808:Nat):Int):=by unfold szI;omega
 have hok:aw (p:Int)=true:=by unfold aw;rw [hsz];unfold af at hn;simp;omega
 have hE: -2000≤aM p∧aM p≤2000:=by
  unfold aM ja
  rw [hsz]
  unfold af at hn
  split
  ·split<;>omega
  ·omega
 unfold az
 rw [hok,if_pos rfl,hsz]
 obtain⟨r,hr⟩:∃ r,p % 9223372036854775808=r:=⟨_,rfl⟩
 have hm:0≤fa (r:Int)∧fa (r:Int)<9007199254740992:=by unfold fa;split<;>omega
 have hz:sgB (p:Int)=true→r=0:=fun h=>by
  have h1:sB p=true:=by
   unfold sgB at h
   unfold sB
   have:9223372036854775808≤p:=by have:=of_decide_eq_true h;omega
   rw [show p / 9223372036854775808 % 2=1 by omega];rfl
  rw [fU,h1] at h0
  have h2:aV p=0:=by unfold sgZ at h0;simp at h0;omega
  unfold aV at h2
  rw [hr] at h2
  have:=dT (r:=r) (s:=0)
  rw [bD] at this
  exact this.1 h2
 rw [hr]
 by_cases hsg:sgB (p:Int)=true
 ·rw [if_pos hsg,hz hsg]
  refine⟨by decide,by decide,hE.1,hE.2⟩
 ·rw [if_neg hsg]
  exact⟨hm.1,hm.2,hE.1,hE.2⟩
theorem EG {m e:Int} (h:0≤m):aH m e≤9218868437227405312:=by
 unfold aH
 split
 ·omega
 ·rw [if_neg (by omega)];exact gS _ _

theorem Bw:∀ a:Nat,a<64→∀ b:Nat,b<64→floatToIntVal .f64 (fi (((64*a+b:Nat):Int) - 2000)) .i64=some (((64*a+b:Nat):Int) - 2000):=by decide+kernel
theorem EH {k:Int} (h1: -2000≤k) (h2:k≤2000):floatToIntVal .f64 (fi k) .i64=some k:=by
 have:=Bw ((k+2000).toNat / 64) (by omega) ((k+2000).toNat % 64) (by omega)
 rw [show ((64*((k+2000).toNat / 64)+(k+2000).toNat % 64:Nat):Int) - 2000=k by omega] at this
 exact this
theorem Hp {m:Int} (h1:0≤m) (h2:m<9007199254740992): -9223372036854775808≤m∧m≤9223372036854775807:=by omega

theorem nN {a b:Nat} (ha:af a) (hb:af b) (ha2:a<18446744073709551616) (hb2:b<18446744073709551616) (h:ae a<ae b):vI a<vI b:=by
 have na:ag (a:Int)=false:=by unfold af at ha;unfold ag szI;rw [decide_eq_false_iff_not];omega
 have nb:ag (b:Int)=false:=by unfold af at hb;unfold ag szI;rw [decide_eq_false_iff_not];omega
 rw [← bP ha2 na,← bP hb2 nb] at h
 have e1:vI a=sgZ (a / 9223372036854775808 % 2==1) (V (a % 9223372036854775808)):=rfl
 have e2:vI b=sgZ (b / 9223372036854775808 % 2==1) (V (b % 9223372036854775808)):=rfl
 rw [e1,e2]
 generalize a % 9223372036854775808=r at *
 generalize b % 9223372036854775808=s at *
 generalize (a / 9223372036854775808 % 2==1)=p at *
 generalize (b / 9223372036854775808 % 2==1)=q at *
 have h1:=cB (r:=r) (s:=s)
 have h2:=cB (r:=s) (s:=r)
 have h3:=cB (r:=0) (s:=s)
 have h4:=cB (r:=0) (s:=r)
 rw [bD] at h3 h4
 unfold sgn at h
 unfold sgZ
 cases p<;>cases q<;>simp only [Bool.false_eq_true,if_true,if_false] at* <;>omega
theorem Hr:fi 710=4649456441864749056:=by decide+kernel
theorem JB:fi (-746)=13873145138068324352:=by decide+kernel
end Go.Proofs.YtjjlnmihkadlmaaGreat
namespace Go.Proofs.YtjjlnmihkadlmaaGreat
open Go.RowKit

set_option maxHeartbeats 400000 in
theorem Hv (w:World) :
  Calls Tryz.prog 110 #[.int .i64 (-1)] w fun e w'=>e=.returned (.float .f64 18442240474082181120)∧w'=w:=by
 have h2:=bR
 go_enter Tryz.func110,Tryz.ntmps110
 go_wp2
 go_ret
 exact⟨rfl,rfl⟩
set_option maxHeartbeats 400000 in
theorem uQ (w:World) :
  Calls Tryz.prog 111 #[] w fun e w'=>e=.returned (.float .f64 9221120237041090561)∧w'=w:=by
 have h2:=bR
 go_enter Tryz.func111,Tryz.ntmps111
 go_wp2
 go_ret
 exact⟨rfl,rfl⟩
set_option maxHeartbeats 400000 in
theorem fI (x:Nat) (g:Bool) (w:World) (hg:(FloatKind.f64.format.order x 9218868437227405311==some .gt)=g) :
  Calls Tryz.prog 61 #[.float .f64 x,.int .i64 1] w fun e w'=>e=.returned (.bool g)∧w'=w:=by
 go_enter Tryz.func61,Tryz.ntmps61
 go_wp2
 go_ret
 exact⟨rfl,rfl⟩

set_option maxRecDepth 20000 in
set_option maxHeartbeats 800000 in
theorem BC (x m0 m1:Nat) (n e L:Int) (ok g:Bool) (w:World) (hS:Hid (∀ w,Calls Tryz.prog 67 #[.float .f64 x] w fun r w'=>r=.returned (.tuple #[.int .i64 n,.int .i64 e,.bool ok])∧w'=w))
  (hn:0<n∧n<9007199254740992) (he: -2000≤e∧e≤2000) (hL:Hid (∀ w,Calls Tryz.prog 210 #[.int .u64 n] w fun r w'=>r=.returned (.int .i64 L)∧w'=w)) (hL2:0≤L∧L≤64)
  (hJ:Hid (∀ w,Calls Tryz.prog 116 #[.int .i64 n,.int .i64 (1 - L)] w fun r w'=>r=.returned (.float .f64 m0)∧∃ q,w'=w.drewN q))
  (hg:(FloatKind.f64.format.order m0 4609047870845172685==some .gt)=g) (hd:floatBits .quo .f64 m0 4611686018427387904=some m1) :
  Calls Tryz.prog 204 #[.float .f64 x] w fun r w'=>r=.returned (.tuple #[.float .f64 (if g then m1 else m0),.int .i64 (if g then e+L else e+L - 1)])∧∃ q,w'=w.drewN q:=by
 have r1:=fun w=>run_float_arith (P:=Tryz.prog) w .quo 54 .f64 _ _ _ hd
 clear hd
 cases g
 all_goals
  simp only [Bool.false_eq_true,if_true,if_false]
  go_enter Tryz.func204,Tryz.ntmps204
  go_wp2_with fail
  refine (turned (hS.out _)).mono ?_
  rintro r w' ⟨rfl,rfl⟩
  go_wp2_with fail
  refine (turned (hL.out _)).mono ?_
  rintro r w' ⟨rfl,rfl⟩
  go_wp2_with fail
  refine (hJ.out _).mono ?_
  rintro r w' ⟨rfl,q,rfl⟩
  go_wp2_with fail
  go_ret2
  exact⟨rfl,_,rfl⟩

set_option maxHeartbeats 400000 in
theorem JC (x:Nat) (w:World) (h:U64 x) (hn:ag x=true) :
  Calls Tryz.prog 195 #[.float .f64 x] w fun e w'=>e=.returned (.float .f64 9221120237041090561)∧w'=w:=by
 have H:=hideS (aX x w h)
 rw [hn] at H
 clear h hn
 go_enter Tryz.func195,Tryz.ntmps195
 go_wp2_with fail
 refine H.out.mono ?_
 rintro e w' ⟨rfl,rfl⟩
 go_wp2_with fail
 refine (uQ _).mono ?_
 rintro e w' ⟨rfl,rfl⟩
 go_wp2_with fail
 go_ret
 exact⟨rfl,rfl⟩

set_option maxHeartbeats 400000 in
theorem JD (x:Nat) (w:World) (h:U64 x) (hn:ag x=false) (hl:(FloatKind.f64.format.order x 0==some .lt)=true) :
  Calls Tryz.prog 195 #[.float .f64 x] w fun e w'=>e=.returned (.float .f64 9221120237041090561)∧w'=w:=by
 have H:=hideS (aX x w h)
 rw [hn] at H
 clear h hn
 go_enter Tryz.func195,Tryz.ntmps195
 go_wp2_with fail
 refine H.out.mono ?_
 rintro e w' ⟨rfl,rfl⟩
 go_wp2_with fail
 refine (uQ _).mono ?_
 rintro e w' ⟨rfl,rfl⟩
 go_wp2_with fail
 go_ret
 exact⟨rfl,rfl⟩

set_option maxHeartbeats 400000 in
theorem Hw (x:Nat) (w:World) (h:U64 x) (hn:ag x=false) (hl:(FloatKind.f64.format.order x 0==some .lt)=false) (he:(FloatKind.f64.format.order x 0==some .eq)=true) :
  Calls Tryz.prog 195 #[.float .f64 x] w fun e w'=>e=.returned (.float .f64 18442240474082181120)∧w'=w:=by
 have H:=hideS (aX x w h)
 rw [hn] at H
 clear h hn
 go_enter Tryz.func195,Tryz.ntmps195
 go_wp2_with fail
 refine H.out.mono ?_
 rintro e w' ⟨rfl,rfl⟩
 go_wp2_with fail
 refine (Hv _).mono ?_
 rintro e w' ⟨rfl,rfl⟩
 go_wp2_with fail
 go_ret
 exact⟨rfl,rfl⟩

set_option maxHeartbeats 400000 in
theorem JE (x:Nat) (w:World) (h:U64 x) (hn:ag x=false) (hl:(FloatKind.f64.format.order x 0==some .lt)=false) (he:(FloatKind.f64.format.order x 0==some .eq)=false) (hi:(FloatKind.f64.format.order x 9218868437227405311==some .gt)=true) :
  Calls Tryz.prog 195 #[.float .f64 x] w fun e w'=>e=.returned (.float .f64 x)∧w'=w:=by
 have H:=hideS (aX x w h)
 rw [hn] at H
 have HI:=hideS (fI x true w hi)
 clear h hn hi
 go_enter Tryz.func195,Tryz.ntmps195
 go_wp2_with fail
 refine H.out.mono ?_
 rintro e w' ⟨rfl,rfl⟩
 go_wp2_with fail
 refine HI.out.mono ?_
 rintro e w' ⟨rfl,rfl⟩
 go_wp2_with fail
 go_ret
 exact⟨rfl,rfl⟩

end Go.Proofs.YtjjlnmihkadlmaaGreat
namespace Go.Proofs.YtjjlnmihkadlmaaGreat
open Go.RowKit

end Go.Proofs.YtjjlnmihkadlmaaGreat
namespace Go.Proofs.YtjjlnmihkadlmaaGreat
open Go.RowKit

end Go.Proofs.YtjjlnmihkadlmaaGreat
namespace Go.Proofs.YtjjlnmihkadlmaaGreat
open Go.RowKit

end Go.Proofs.YtjjlnmihkadlmaaGreat
namespace Go.Proofs.YtjjlnmihkadlmaaGreat
open Go.RowKit

end Go.Proofs.YtjjlnmihkadlmaaGreat
namespace Go.Proofs.YtjjlnmihkadlmaaGreat
open Go.RowKit

def dt (base:Int) (ds:List Int):Nat→Int
 | 0=>base
 | k+1=>ds.getD k 0
def ki (base:Int) (ds:List Int) (fs:List Nat) (i:Nat):Bool:=decide (ds.getD i 0≤dt base ds i)||decide (109572<ds.getD i 0)||!bE (fs.getD i 0:Nat)||!ltB 0 (fs.getD i 0:Nat)
structure OkV (base kind:Int) (ds:List Int) (fs:List Nat):Prop where
 b0:0≤base
 b1:base≤109572
 k1:1≤kind
 k4:kind≤4
 lo:1≤ds.length
 hi:ds.length≤255
 len:fs.length=ds.length
 node:∀ i<ds.length,ki base ds fs i=false
inductive CurR (base kind:Int) (ds:List Int) (fs:List Nat):Int→Prop
 | ok (h:OkV base kind ds fs):CurR base kind ds fs 0
 | base (h:base<0∨109572<base):CurR base kind ds fs 51
 | kind (b0:0≤base) (b1:base≤109572) (h:kind<1∨4<kind):CurR base kind ds fs 90
 | len (b0:0≤base) (b1:base≤109572) (h1:1≤kind) (h4:kind≤4) (h:ds.length<1∨255<ds.length∨fs.length≠ds.length):CurR base kind ds fs 100
 | node (b0:0≤base) (b1:base≤109572) (h1:1≤kind) (h4:kind≤4) (lo:1≤ds.length) (hi:ds.length≤255) (len:fs.length=ds.length) (K:Nat) (hK:K<ds.length) (bad:ki base ds fs K=true) (fine:∀ i<K,ki base ds fs i=false):CurR base kind ds fs 100
theorem kj (base kind:Int) (ds:List Int) (fs:List Nat):∃ E,CurR base kind ds fs E:=by
 by_cases hb:base<0∨109572<base
 ·exact⟨51,.base hb⟩
 ·by_cases hk:kind<1∨4<kind
  ·exact⟨90,.kind (by omega) (by omega) hk⟩
  ·by_cases hl:ds.length<1∨255<ds.length∨fs.length≠ds.length
   ·exact⟨100,.len (by omega) (by omega) (by omega) (by omega) hl⟩
   ·by_cases hb:∃ i<ds.length,ki base ds fs i=true
    ·obtain⟨K,hK,h1,h2⟩:=cZ _ hb
     exact⟨100,.node (by omega) (by omega) (by omega) (by omega) (by omega) (by omega) (by omega) K hK h1 h2⟩
    ·exact⟨0,.ok ⟨by omega,by omega,by omega,by omega,by omega,by omega,by omega,fun i hi=>by
      cases hc:ki base ds fs i
      ·rfl
      ·exact absurd ⟨i,hi,hc⟩ hb⟩⟩
theorem eU {base kind:Int} {ds:List Int} {fs:List Nat} (h:CurR base kind ds fs 0):OkV base kind ds fs:=by
 generalize hE:(0:Int)=E at h
 cases h with
 | ok h=>exact h
 | base h=>cases hE
 | kind=>cases hE
 | len=>cases hE
 | node=>cases hE
theorem fK {base:Int} {ds:List Int} {fs:List Nat} {i:Nat} (h:ki base ds fs i=false):dt base ds i<ds.getD i 0∧ds.getD i 0≤109572∧bE (fs.getD i 0:Nat)=true∧ltB 0 (fs.getD i 0:Nat)=true:=by
 unfold ki at h
 simp only [Bool.or_eq_false_iff,decide_eq_false_iff_not,Bool.not_eq_false'] at h
 obtain⟨⟨⟨a,b⟩,c⟩,d⟩:=h
 exact⟨by omega,by omega,c,d⟩
def ctX (base:Int) (ds:List Int):List Int:=base::ds
def ctY (fs:List Nat):List Nat:=4607182418800017408::fs
theorem sp (base:Int) (ds:List Int) (i:Nat):(ctX base ds).getD i 0=dt base ds i:=by
 cases i<;>rfl
theorem OkV.pos {base kind:Int} {ds:List Int} {fs:List Nat} (h:OkV base kind ds fs):∀ i≤ds.length,0≤dt base ds i
 | 0,_=>h.b0
 | i+1,hi=>by
  have:=fK (h.node i (by omega))
  have:=OkV.pos h i (by omega)
  show 0≤ds.getD i 0
  omega
theorem OkV.top {base kind:Int} {ds:List Int} {fs:List Nat} (h:OkV base kind ds fs):∀ i≤ds.length,dt base ds i≤109572
 | 0,_=>h.b1
 | i+1,hi=>(fK (h.node i (by omega))).2.1
theorem OkV.table {base kind:Int} {ds:List Int} {fs:List Nat} (h:OkV base kind ds fs):OkT kind (ctX base ds) (ctY fs):=by
 refine⟨h.k1,h.k4,by simp [ctX],by have:=h.hi;simp [ctX];omega,by simp [ctX,ctY,h.len],fun i hi=>?_⟩
 have hi':i≤ds.length:=by have:i<ds.length+1:=hi;omega
 have p:=h.pos i hi'
 have t:=h.top i hi'
 unfold dG
 rw [sp,decide_eq_false (show ¬ dt base ds i<0 by omega),decide_eq_false (show ¬ 109572<dt base ds i by omega)]
 cases i with
 | zero=>
  show (false||false||(decide (0<0)&&_)||!bE (4607182418800017408:Nat)||(decide (kind=4)&&!ltB 0 (4607182418800017408:Nat)))=false
  rw [show bE (4607182418800017408:Nat)=true by decide,show ltB 0 (4607182418800017408:Nat)=true by decide];simp
 | succ i=>
  obtain⟨a,b,c,d⟩:=fK (h.node i (by omega))
  have e1:(ctX base ds).getD (i+1 - 1) 0=dt base ds i:=by rw [Nat.add_sub_cancel,sp]
  have e2:(ctY fs).getD (i+1) 0=fs.getD i 0:=rfl
  have e3:dt base ds (i+1)=ds.getD i 0:=rfl
  rw [e1,e2,e3,c,d,decide_eq_false (show ¬ ds.getD i 0≤dt base ds i by omega)];simp
end Go.Proofs.YtjjlnmihkadlmaaGreat
namespace Go.Proofs.YtjjlnmihkadlmaaGreat
open Go.RowKit

def prvF (fs:List Nat):Nat→Nat
 | 0=>4607182418800017408
 | k+1=>fs.getD k 0
def lF (fs:List Nat):Bool:=(List.range fs.length).all fun i=>!ltB (prvF fs i:Nat) (fs.getD i 0:Nat)
inductive FallR (fs:List Nat):Bool→Prop
 | yes (h:∀ i<fs.length,ltB (prvF fs i:Nat) (fs.getD i 0:Nat)=false):FallR fs true
 | no (K:Nat) (hK:K<fs.length) (bad:ltB (prvF fs K:Nat) (fs.getD K 0:Nat)=true) (fine:∀ i<K,ltB (prvF fs i:Nat) (fs.getD i 0:Nat)=false):FallR fs false
theorem Fr (fs:List Nat):FallR fs (lF fs):=by
 by_cases hb:∃ i<fs.length,ltB (prvF fs i:Nat) (fs.getD i 0:Nat)=true
 ·obtain⟨K,hK,h1,h2⟩:=cZ _ hb
  have:lF fs=false:=by
   unfold lF
   rw [List.all_eq_false]
   exact⟨K,List.mem_range.2 hK,by rw [h1];decide⟩
  rw [this];exact .no K hK h1 h2
 ·have hf:∀ i<fs.length,ltB (prvF fs i:Nat) (fs.getD i 0:Nat)=false:=fun i hi=>by
   cases hc:ltB (prvF fs i:Nat) (fs.getD i 0:Nat)
   ·rfl
   ·exact absurd ⟨i,hi,hc⟩ hb
  have:lF fs=true:=by
   unfold lF
   rw [List.all_eq_true]
   intro i hi
   rw [hf i (List.mem_range.1 hi)];rfl
  rw [this];exact .yes hf
end Go.Proofs.YtjjlnmihkadlmaaGreat
