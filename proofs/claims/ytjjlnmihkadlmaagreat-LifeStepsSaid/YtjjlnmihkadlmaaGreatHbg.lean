/-  -/
import Derived.Test.YtjjlnmihkadlmaaGreatHas
import Derived.Test.YtjjlnmihkadlmaaGreatHbf
import Derived.Test.YtjjlnmihkadlmaaGreatHak
import Derived.Test.YtjjlnmihkadlmaaGreatHat
import Derived.Test.YtjjlnmihkadlmaaGreatHau
namespace Go.Proofs.YtjjlnmihkadlmaaGreat
open Go.RowKit

structure Cells8 (w' w:World) (s:Int) (neg:Bool) (v:Value) (e:Int):Prop where
 c0:w'.cell? ⟨w.heap.size,0,none⟩=some (.int .i64 s)
 c1:w'.cell? ⟨w.heap.size,1,none⟩=some (.bool neg)
 c2:w'.cell? ⟨w.heap.size,2,none⟩=some v
 c3:w'.cell? ⟨w.heap.size,3,none⟩=some (.int .i64 e)
 d0:w'.cell? ⟨w.heap.size+1,0,none⟩=some (.int .i64 0)
 d1:w'.cell? ⟨w.heap.size+1,1,none⟩=some (.bool false)
 d2:w'.cell? ⟨w.heap.size+1,2,none⟩=some (.slice none 0 0)
 d3:w'.cell? ⟨w.heap.size+1,3,none⟩=some (.int .i64 0)
 f0:w'.frozen? ⟨w.heap.size+1,0,none⟩=false
 f1:w'.frozen? ⟨w.heap.size+1,1,none⟩=false
 f2:w'.frozen? ⟨w.heap.size+1,2,none⟩=false
 f3:w'.frozen? ⟨w.heap.size+1,3,none⟩=false
theorem Cells8.below {w1 w2 w:World} {s:Int} {neg:Bool} {v:Value} {e:Int} {b:Nat} (h:Cells8 w1 w s neg v e) (hb:Below b w1 w2) (hs:w.heap.size+1<b):Cells8 w2 w s neg v e:=by
 have h0:w.heap.size<b:=by omega
 exact⟨(hb.cell (p:=⟨w.heap.size,0,none⟩) h0).trans h.c0,(hb.cell (p:=⟨w.heap.size,1,none⟩) h0).trans h.c1,(hb.cell (p:=⟨w.heap.size,2,none⟩) h0).trans h.c2,(hb.cell (p:=⟨w.heap.size,3,none⟩) h0).trans h.c3,
  (hb.cell (p:=⟨w.heap.size+1,0,none⟩) hs).trans h.d0,(hb.cell (p:=⟨w.heap.size+1,1,none⟩) hs).trans h.d1,(hb.cell (p:=⟨w.heap.size+1,2,none⟩) hs).trans h.d2,(hb.cell (p:=⟨w.heap.size+1,3,none⟩) hs).trans h.d3,
  (hb.frozen (p:=⟨w.heap.size+1,0,none⟩) hs).trans h.f0,(hb.frozen (p:=⟨w.heap.size+1,1,none⟩) hs).trans h.f1,(hb.frozen (p:=⟨w.heap.size+1,2,none⟩) hs).trans h.f2,(hb.frozen (p:=⟨w.heap.size+1,3,none⟩) hs).trans h.f3⟩
end Go.Proofs.YtjjlnmihkadlmaaGreat
namespace Go.Proofs.YtjjlnmihkadlmaaGreat
open Go.RowKit

structure DV (s:Nat) (neg:Bool) (M:Nat) (e N:Int) (k:Nat):Prop where
 s3:s≤3
 lo: -2148≤e
 hi:e≤2000
 val:sg neg M*((2^(e+2148).toNat:Nat):Int)=N
 none:s≠0→N=0
 bd:∃ K,K=4200∧N.natAbs≤k*2^K
theorem DV.zero {s:Nat} (h:s≤3) (k:Nat):DV s false 0 0 0 k:=
 ⟨h,by decide,by decide,by rw [bt,Int.zero_mul],fun _=>rfl,4200,rfl,Nat.zero_le _⟩
end Go.Proofs.YtjjlnmihkadlmaaGreat
namespace Go.Proofs.YtjjlnmihkadlmaaGreat
open Go.RowKit

end Go.Proofs.YtjjlnmihkadlmaaGreat
namespace Go.Proofs.YtjjlnmihkadlmaaGreat.A
open Go.RowKit

theorem DF {o:Option Nat} {r:Nat} (h:Ag o r):kx (r:Int)=kx (cn o:Int):=by
 cases o with
 | some q=>rw [cR h,ap]
 | none=>
  have f:∀ {b:Nat},ag (b:Int)=true→kx (b:Int)=⟨3,0⟩:=fun {b} hb=>by
   have h1:aI (b:Int)=false:=by
    unfold aI;unfold ag at hb
    rw [decide_eq_true_eq] at hb
    rw [decide_eq_false_iff_not];omega
   unfold kx endN
   rw [h1,hb];rfl
  rw [f (fc h).1,iR,f lz]
def ca (x y:Nat):St:=if aI (x:Int)&&aI (y:Int) then fW (x:Int) (y:Int) else kx (cn (floatBits .mul .f64 x y):Int)

set_option maxHeartbeats 800000 in
theorem AX (B b:Nat) (v:Value) (L:Nat) (a:St) (x y:Nat) (w:World) (h:AccAt w B b v L a) (hB:B≤w.heap.size) (hx:U64 (x:Int)) (hy:U64 (y:Int)) (hno:(aI (x:Int)&&aI (y:Int))=false) (hL:L≤40000) :
  Calls Tryz.prog 94 #[.pointer (some ⟨b,0,none⟩),.float .f64 x,.float .f64 y] w fun r w'=>r=.returned (.tuple #[])∧∃ q v',Did (w.drewN q) w' B b v (max L 70+1) (a.merge (ca x y)) v':=by
 have HS:=hideS (dA x x w rfl hx)
 have HS':=hideS (dA y y w rfl hy)
 obtain⟨r,⟨q,r1⟩,g⟩:=cK .mul (by simp) 54 x y w
 have hr64:r<18446744073709551616:=by
  cases hf:floatBits .mul .f64 x y with
  | none=>rw [hf] at g;exact (fc g).2
  | some z=>rw [hf] at g;rw [cR g];exact iV (by simp) hf
 have HAd:=hideS (wv B b v L a r r (w.drewN q) (h.drewN q) hB rfl (ah hr64) hL)
 have HR:Hid (a.merge (kx (r:Int))=a.merge (ca x y)):=by
  show _=_
  unfold ca
  rw [hno,if_neg (by decide),DF g]
 rw [HR.out] at HAd
 clear h hx hy g hr64 HR
 cases h1:aI (x:Int)
 ·rw [h1] at HS
  clear hno h1
  go_enter Tryz.func94,Tryz.ntmps94
  go_wp2_with fail
  refine (turned HS.out).mono ?_
  rintro e w' ⟨rfl,rfl⟩
  go_wp2_with fail
  refine (turned HS'.out).mono ?_
  rintro e w' ⟨rfl,rfl⟩
  go_wp2_with fail
  refine HAd.out.mono ?_
  rintro e w1 ⟨rfl,v1,hd⟩
  have HD:=hideS hd
  clear hd
  go_wp2_with fail
  first | go_end0 | refine bodyPost_ret (results_none rfl _ _ _) rfl ?_
  exact⟨rfl,q,v1,HD.out⟩
 ·rw [h1,Bool.true_and] at hno
  rw [h1] at HS
  rw [hno] at HS'
  clear hno h1
  go_enter Tryz.func94,Tryz.ntmps94
  go_wp2_with fail
  refine (turned HS.out).mono ?_
  rintro e w' ⟨rfl,rfl⟩
  go_wp2_with fail
  refine (turned HS'.out).mono ?_
  rintro e w' ⟨rfl,rfl⟩
  go_wp2_with fail
  refine HAd.out.mono ?_
  rintro e w1 ⟨rfl,v1,hd⟩
  have HD:=hideS hd
  clear hd
  go_wp2_with fail
  first | go_end0 | refine bodyPost_ret (results_none rfl _ _ _) rfl ?_
  exact⟨rfl,q,v1,HD.out⟩

theorem eE (B b:Nat) (v:Value) (L:Nat) (a:St) (x y:Nat) (w:World) (h:AccAt w B b v L a) (hB:B≤w.heap.size) (hx:U64 (x:Int)) (hy:U64 (y:Int)) (hL:L≤40000) :
  Calls Tryz.prog 94 #[.pointer (some ⟨b,0,none⟩),.float .f64 x,.float .f64 y] w fun r w'=>r=.returned (.tuple #[])∧∃ q v',Did (w.drewN q) w' B b v (max L 70+1) (a.merge (ca x y)) v':=by
 cases hno:(aI (x:Int)&&aI (y:Int)) with
 | false=>exact AX B b v L a x y w h hB hx hy hno hL
 | true=>
  rw [Bool.and_eq_true] at hno
  have e:ca x y=fW (x:Int) (y:Int):=by unfold ca;rw [hno.1,hno.2];rfl
  rw [e]
  exact (rR B b v L a x y x y w h hB rfl hx rfl hy hno.1 hno.2 hL).mono fun _ _ ⟨a1,v',hd⟩=>⟨a1,0,v',hd⟩

end Go.Proofs.YtjjlnmihkadlmaaGreat.A
namespace Go.Proofs.YtjjlnmihkadlmaaGreat
open Go.RowKit

end Go.Proofs.YtjjlnmihkadlmaaGreat
namespace Go.Proofs.YtjjlnmihkadlmaaGreat
open Go.RowKit

def Three (w':World) (B:Nat) (neg:Bool) (v:Value) (e:Int):Prop:=
 w'.cell? ⟨B,1,none⟩=some (.bool neg)∧w'.cell? ⟨B,2,none⟩=some v∧w'.cell? ⟨B,3,none⟩=some (.int .i64 e)
end Go.Proofs.YtjjlnmihkadlmaaGreat
namespace Go.Proofs.YtjjlnmihkadlmaaGreat
open Go.RowKit

end Go.Proofs.YtjjlnmihkadlmaaGreat
namespace Go.Proofs.YtjjlnmihkadlmaaGreat
open Go.RowKit

structure Held (w wr:World) (B:Nat) (a:A.St) (k:Nat):Prop where
 ex:∃ neg v M e,wr.heap[B]? =some (.cells #[.int .i64 (a.s:Int),.bool neg,v,.int .i64 e] 34 (0,0))∧DN wr v M∧From (B+1) v∧DV a.s neg M e a.N k
 bl:Below w.heap.size w wr
 lo:w.heap.size≤B
 lt:B<wr.heap.size
end Go.Proofs.YtjjlnmihkadlmaaGreat
namespace Go.Proofs.YtjjlnmihkadlmaaGreat
open Go.RowKit

theorem AY (q:Nat) (m:Nat) (h0:q≠0) (hm:m≤1):(2*q+m).log2=q.log2+1:=by
 have a:=Nat.log2_self_le h0
 have b:q<2^(q.log2+1):=Nat.lt_log2_self
 have c:(2*q+m).log2<q.log2+1+1:=(Nat.log2_lt (by omega)).2 (by rw [Nat.pow_succ];omega)
 have d:q.log2+1≤(2*q+m).log2:=(Nat.le_log2 (by omega)).2 (by rw [Nat.pow_succ];omega)
 omega
theorem AZ {q:Nat} (more:Bool):nearR (mant q more) (gS q)=nearR (2*q+more.toNat) (-2149):=by
 have hm:more.toNat≤1:=by cases more<;>decide
 by_cases hl:q.log2<61
 ·have hq:q<2^61:=by
   by_cases h0:q=0
   ·rw [h0];decide
   ·exact (Nat.log2_lt h0).1 hl
  have h1:=Di q more
  have h2:gS q< -1139:=by unfold gS;split<;>omega
  rw [fK (by omega) h2,fK (by omega) (by decide)]
 ·have h0:q≠0:=fun c=>by rw [c] at hl;exact hl (by decide)
  obtain⟨t,ht⟩:∃ t,q.log2=t+61:=⟨q.log2 - 61,by omega⟩
  have e1:mant q more=bP (2*q+more.toNat) (t+1) false:=by
   unfold mant bP
   rw [if_neg h0,ht,show t+61+3=64+t by omega,Nat.pow_add 2 64 t,Nat.mul_comm q,Nat.mul_mod_mul_left,Nat.mul_div_mul_left _ _ (Nat.two_pow_pos 64),show (2:Nat)^(t+1)=2*2^t by rw [Nat.pow_succ,Nat.mul_comm]]
   have hd:(2*q+more.toNat) / (2*2^t)=q / 2^t:=by
    rw [← Nat.div_div_eq_div_mul]
    congr 1
    omega
   have hr:(2*q+more.toNat) % (2*2^t)=2*(q % 2^t)+more.toNat:=by
    have e:=Nat.div_add_mod q (2^t)
    have hlt:q % 2^t<2^t:=Nat.mod_lt _ (Nat.two_pow_pos t)
    generalize q / 2^t=Q at *
    generalize q % 2^t=R at *
    generalize 2^t=T at *
    have e2:2*q+more.toNat=2*R+more.toNat+2*T*Q:=by rw [← e,Nat.mul_add,Nat.mul_assoc];omega
    rw [e2,Nat.add_mul_mod_self_left,Nat.mod_eq_of_lt (by omega)]
   rw [hd,hr]
   have hp:=Nat.two_pow_pos 64
   have hz:(2^64*(q % 2^t)=0∧more=false)↔(2*(q % 2^t)+more.toNat=0∧(false:Bool)=false):=by
    constructor
    ·rintro⟨a,b⟩
     rcases Nat.mul_eq_zero.1 a with c | c
     ·omega
     ·rw [c,b];exact⟨rfl,rfl⟩
    ·rintro⟨a,_⟩
     have c:q % 2^t=0:=by omega
     refine⟨by rw [c,Nat.mul_zero],?_⟩
     cases more
     ·rfl
     ·rw [c] at a;exact absurd a (by decide)
   simp only [hz]
  have e2:gS q=((t+1:Nat):Int)+ -2149:=by unfold gS;rw [if_neg h0,ht];omega
  rw [e1,e2,iX (by omega) (by rw [AY q _ h0 hm,ht];omega)]
theorem Ba {q:Nat} {more:Bool} (h:q≠0∨more=true):mant q more≠0:=by
 unfold mant
 by_cases h0:q=0
 ·rw [if_pos h0]
  rcases h with h | h
  ·exact absurd h0 h
  ·rw [h];decide
 ·rw [if_neg h0]
  have hp:=Nat.two_pow_pos 64
  have hq:q*2^64≠0:=fun c=>by
   rcases Nat.mul_eq_zero.1 c with c | c<;>omega
  have hl:q.log2+3≤(q*2^64).log2:=by rw [bZ h0];omega
  exact (cH more hl hq).2
theorem ya (N:Int) (d:Nat):A.kl N d=if N=0 then 0 else wrd (decide (N<0)) (nearR (aU N.natAbs d 0) (-2149)):=by
 unfold A.kl
 have hq:aU N.natAbs d 0=2*(N.natAbs / d)+(decide (N.natAbs % d≠0)).toNat:=by
  unfold aU
  rw [Nat.pow_zero,Nat.mul_one]
  by_cases hr:N.natAbs % d=0<;>simp [hr]
 rw [hq,← AZ]
 by_cases h0:N=0
 ·rw [if_pos h0,h0]
  have:(0:Int).natAbs=0:=rfl
  rw [this,Nat.zero_div,Nat.zero_mod]
  rfl
 ·rw [if_neg h0]
  have hm:mant (N.natAbs / d) (decide (N.natAbs % d≠0))≠0:=by
   apply Ba
   by_cases hr:N.natAbs % d=0
   ·refine Or.inl (fun c=>?_)
    have:=Nat.div_add_mod N.natAbs d
    rw [c,hr,Nat.mul_zero] at this
    omega
   ·exact Or.inr (by simp [hr])
  generalize mant (N.natAbs / d) (decide (N.natAbs % d≠0))=m at *
  generalize gS (N.natAbs / d)=ex at *
  unfold aE sgM wrd
  by_cases hn:N<0
  ·simp only [hn,decide_true,if_true]
   rw [if_neg (by omega),if_pos (by omega),Int.natAbs_neg,Int.natAbs_natCast]
  ·simp only [hn,decide_false,Bool.false_eq_true,if_false]
   rw [if_neg (by omega),if_neg (by omega),Int.natAbs_natCast]
end Go.Proofs.YtjjlnmihkadlmaaGreat
namespace Go.Proofs.YtjjlnmihkadlmaaGreat
open Go.RowKit

def cz (a:A.St) (n:Nat):Nat:=if a.s=0 then A.kl a.N n else A.lK a
end Go.Proofs.YtjjlnmihkadlmaaGreat
