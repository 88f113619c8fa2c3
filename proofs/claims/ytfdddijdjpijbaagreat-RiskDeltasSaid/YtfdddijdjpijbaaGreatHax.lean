/-  -/
import Derived.Test.YtfdddijdjpijbaaGreatHaw
import Derived.Test.YtfdddijdjpijbaaGreatHar
import Derived.Deep.RegionHeld3
import Derived.Test.YtfdddijdjpijbaaGreatHau
import Derived.Test.YtfdddijdjpijbaaGreatHas
import Derived.LoopTactic
import Derived.Sort.Row
import Derived.Deep.LoopGhost
import Derived.Test.YtfdddijdjpijbaaGreatHaq
set_option maxHeartbeats 3200000
set_option maxRecDepth 20000
namespace Go.Proofs.YtfdddijdjpijbaaGreat
open Go.RowKit
def iY (X:Nat) (ex:Int) (Y:Nat) (ey:Int):Int:=if X=0 then ey else if Y=0 then ex else min ex ey
def sg (neg:Bool) (N:Nat):Int:=if neg then -(N:Int) else (N:Int)
abbrev boxN (w:World) (n:Bool) (v:Value) (e:Int):World:=w.alloc (.cells #[.bool n,v,.int .i64 e] 83)
theorem aD (w:World) (n:Bool) (v:Value) (e:Int):Below w.heap.size w (boxN w n v e):=(Below.refl _ _).alloc (Nat.le_refl _) _
def Six (w:World) (B:Nat) (nx:Bool) (c:Value) (ex:Int) (a:Bool) (b:Value) (ey:Int):Prop:=
 w.cell? ⟨B,0,none⟩=some (.bool nx)/\w.cell? ⟨B,1,none⟩=some c/\w.cell? ⟨B,2,none⟩=some (.int .i64 ex)/\
 w.cell? ⟨B+1,0,none⟩=some (.bool a)/\w.cell? ⟨B+1,1,none⟩=some b/\w.cell? ⟨B+1,2,none⟩=some (.int .i64 ey)
theorem ve (w:World) (nx:Bool) (a:Value) (ex:Int) (c:Bool) (d:Value) (ey:Int):Six (boxN (boxN w nx a ex) c d ey) w.heap.size nx a ex c d ey:=by
 have f:=aD (boxN w nx a ex) c d ey;have b:w.heap.size<(boxN w nx a ex).heap.size:=by simp
 refine⟨?_,?_,?_,?_,?_,?_⟩
 ·rw [f.cell (p:=⟨w.heap.size,0,none⟩) b];simp
 ·rw [f.cell (p:=⟨w.heap.size,1,none⟩) b];simp
 ·rw [f.cell (p:=⟨w.heap.size,2,none⟩) b];simp
 ·have e:w.heap.size+1=(boxN w nx a ex).heap.size:=by simp
  rw [e];simp
 ·have e:w.heap.size+1=(boxN w nx a ex).heap.size:=by simp
  rw [e];simp
 ·have e:w.heap.size+1=(boxN w nx a ex).heap.size:=by simp
  rw [e];simp
theorem Six.below {w m:World} {B:Nat} {nx l:Bool} {k j:Value} {ex ey:Int} {s:Nat} (h:Six w B nx k ex l j ey) (g:Below s w m) (i:B+1<s):Six m B nx k ex l j ey:=by
 obtain⟨a,b,c,d,e,f⟩:=h;exact⟨(g.cell (p:=⟨B,0,none⟩) (by show B<s;omega)).trans a,(g.cell (p:=⟨B,1,none⟩) (by show B<s;omega)).trans b,(g.cell (p:=⟨B,2,none⟩) (by show B<s;omega)).trans c,(g.cell (p:=⟨B+1,0,none⟩) i).trans d,(g.cell (p:=⟨B+1,1,none⟩) i).trans e,(g.cell (p:=⟨B+1,2,none⟩) i).trans f⟩
theorem gK (w:World) (nx:Bool) (c:Value) (ex:Int) (a:Bool) (b:Value) (ey:Int):(boxN (boxN w nx c ex) a b ey).heap.size=w.heap.size+2:=by simp
theorem xp (nx o:Bool) (i k:Value) (ex ey:Int) (X Y:Nat) (w:World) (z:DN w i X) (v:DN w k Y) :
  Calls Tryz.prog 112 #[.agg #[.bool nx,i,.int .i64 ex],.agg #[.bool o,k,.int .i64 ey]] w fun e F=>e=.returned (.int .i64 (iY X ex Y ey))/\Below w.heap.size w F:=by
 have p:=aD w nx i ex;have d:Below w.heap.size w (boxN (boxN w nx i ex) o k ey):=p.trans ((aD (boxN w nx i ex) o k ey).mono (by simp))
 have u:=aa (z.below d);have l:=aa (v.below d);have s:=aa d;have t:=aa (ve w nx i ex o k ey);have f:=aa (gK w nx i ex o k ey);clear p d z v;unfold iY
 by_cases g:X=0
 ·subst g;rw [if_pos rfl]
  go_enter Tryz.func112,Tryz.ntmps112
  go_wp2_with fail
  refine (aY _ _ _ 0 true _ u.out rfl).mono ?_
  rintro x n ⟨rfl,a⟩;have j:=aa (t.out.below a (by rw [f.out];omega))
  have r:w.heap.size+1<n.heap.size:=by have m:=a.size;rw [f.out] at m;omega
  obtain⟨c0,c1,c2,c3,c4,q⟩:=j.out;have c:=aa a;clear a
  go_wp2_with fail
  go_ret
  exact⟨rfl,s.out.trans (c.out.mono (by rw [f.out];omega))⟩
 ·rw [if_neg g];have y:=aa g;clear g
  by_cases g:Y=0
  ·subst g;rw [if_pos rfl]
   go_enter Tryz.func112,Tryz.ntmps112
   go_wp2_with fail
   refine (aY _ _ _ X false _ u.out (decide_eq_false y.out)).mono ?_
   rintro x n ⟨rfl,a⟩;have j:=aa (t.out.below a (by rw [f.out];omega))
   have r:w.heap.size+1<n.heap.size:=by have m:=a.size;rw [f.out] at m;omega
   obtain⟨c0,c1,c2,c3,c4,q⟩:=j.out;have c:=aa a;have l:=aa (l.out.below a);clear a
   go_wp2_with fail
   refine (aY _ _ _ 0 true _ l.out rfl).mono ?_
   rintro x C ⟨rfl,b⟩;obtain⟨D,H,G,A,E,B⟩:=j.out.below b r;clear c0 c1 c2 c3 c4 q;have h:=aa b;clear b
   go_wp2_with fail
   go_ret
   exact⟨rfl,(s.out.trans (c.out.mono (by rw [f.out];omega))).trans (h.out.mono (by omega))⟩
  ·rw [if_neg g];have I:=aa g;clear g
   go_enter Tryz.func112,Tryz.ntmps112
   go_wp2_with fail
   refine (aY _ _ _ X false _ u.out (decide_eq_false y.out)).mono ?_
   rintro x n ⟨rfl,a⟩;have j:=aa (t.out.below a (by rw [f.out];omega))
   have r:w.heap.size+1<n.heap.size:=by have m:=a.size;rw [f.out] at m;omega
   obtain⟨c0,c1,c2,c3,c4,q⟩:=j.out;have c:=aa a;have l:=aa (l.out.below a);clear a
   go_wp2_with fail
   refine (aY _ _ _ Y false _ l.out (decide_eq_false I.out)).mono ?_
   rintro x C ⟨rfl,b⟩;obtain⟨D,H,G,A,E,B⟩:=j.out.below b r;clear c0 c1 c2 c3 c4 q;have h:=aa b;clear b
   go_wp2_with fail
   go_ret
   exact⟨rfl,(s.out.trans (c.out.mono (by rw [f.out];omega))).trans (h.out.mono (by omega))⟩
theorem oP (nx:Bool) (f:Value) (ex e:Int) (X n:Nat) (w:World) (q:DN w f X) (hn:X≠0->ex - e=(n:Int)) (m:n<=100000000) (l:nd X<=10000000) :
  Calls Tryz.prog 113 #[.agg #[.bool nx,f,.int .i64 ex],.int .i64 e] w fun x p=>∃ v,x=.returned v/\DN p v (X*2^n)/\Below w.heap.size w p:=by
 have h:=aa (aD w nx f ex);have k:=aa (q.below h.out);clear q
 by_cases g:X=0
 ·subst g;rw [Nat.zero_mul]
  go_enter Tryz.func113,Tryz.ntmps113
  go_wp2_with fail
  refine (aY _ _ _ 0 true _ k.out rfl).mono ?_
  rintro x o ⟨rfl,a⟩;have b:=aa a;clear a
  go_wp2_with fail
  go_ret
  exact⟨_,rfl,Or.inl ⟨rfl,_,_,rfl⟩,h.out.trans (b.out.mono (by simp))⟩
 ·have A:=hn g;have t:=aa g;clear g hn
  go_enter Tryz.func113,Tryz.ntmps113
  go_wp2_with fail
  refine (aY _ _ _ X false _ k.out (decide_eq_false t.out)).mono ?_
  rintro x o ⟨rfl,a⟩;obtain⟨c1,u⟩:=xh a;have b:=aa a;have s:=aa (k.out.below a);clear a
  go_wp2_with fail
  refine (nI f X n _ s.out l m).mono ?_
  rintro x y ⟨z,rfl,c,d⟩;have j:=aa d;have i:=aa c;clear d c;have r:w.heap.size<=o.heap.size:=by have:=b.out.size;simp at this;omega
  go_wp2_with fail
  go_ret
  exact⟨_,rfl,i.out,(h.out.trans (b.out.mono (by simp))).trans (j.out.mono r)⟩
abbrev pbox (w:World) (nx:Bool) (c:Value) (ex:Int) (a:Bool) (b:Value) (ey:Int):World:=boxN (boxN (boxN w nx c ex) a b ey) false (.slice none 0 0) 0
theorem jS (w:World) (nx:Bool) (c:Value) (ex:Int) (a:Bool) (b:Value) (ey:Int):(pbox w nx c ex a b ey).heap.size=w.heap.size+3:=by simp
theorem dM (w:World) (nx:Bool) (a:Value) (ex:Int) (b:Bool) (c:Value) (ey:Int):Below w.heap.size w (pbox w nx a ex b c ey):=
 ((aD w nx a ex).trans ((aD (boxN w nx a ex) b c ey).mono (by simp))).trans ((aD _ _ _ _).mono (by rw [gK];omega))
theorem ls (w:World) (nx:Bool) (c:Value) (ex:Int) (a:Bool) (b:Value) (ey:Int):Six (pbox w nx c ex a b ey) w.heap.size nx c ex a b ey:=
 (ve w nx c ex a b ey).below (aD _ _ _ _) (by rw [gK];omega)
theorem From.mono {A B:Nat} {v:Value} (h:From B v) (b:A<=B):From A v:=fun a l c e=>Nat.le_trans b (h a l c e)
theorem Mq (w:World) (n:Bool) (v:Value) (e:Int) :
  ((boxN w n v e).cell? ⟨w.heap.size,0,none⟩=some (.bool n)/\(boxN w n v e).cell? ⟨w.heap.size,1,none⟩=some v/\(boxN w n v e).cell? ⟨w.heap.size,2,none⟩=some (.int .i64 e))/\
  ((boxN w n v e).frozen? ⟨w.heap.size,0,none⟩=false/\(boxN w n v e).frozen? ⟨w.heap.size,1,none⟩=false/\(boxN w n v e).frozen? ⟨w.heap.size,2,none⟩=false):=by
 refine⟨⟨?_,?_,?_⟩,?_,?_,?_⟩ <;>first | exact World.frozen?_alloc_new _ _ _ _ | simp
theorem cP {w g:World} {nx k:Bool} {m l:Value} {ex ey:Int} (j:Below (w.heap.size+3) (pbox w nx m ex k l ey) g) :
  (g.cell? ⟨w.heap.size+1+1,0,none⟩=some (.bool false)/\g.cell? ⟨w.heap.size+1+1,1,none⟩=some (.slice none 0 0)/\g.cell? ⟨w.heap.size+1+1,2,none⟩=some (.int .i64 0))/\
  (g.frozen? ⟨w.heap.size+1+1,0,none⟩=false/\g.frozen? ⟨w.heap.size+1+1,1,none⟩=false/\g.frozen? ⟨w.heap.size+1+1,2,none⟩=false):=by
 have i:w.heap.size+1+1<w.heap.size+3:=by omega
 have h:=Mq (boxN (boxN w nx m ex) k l ey) false (.slice none 0 0) 0;rw [gK] at h
 obtain⟨⟨a,b,c⟩,d,e,f⟩:=h;exact⟨⟨(j.cell (p:=⟨w.heap.size+1+1,0,none⟩) i).trans a,(j.cell (p:=⟨w.heap.size+1+1,1,none⟩) i).trans b,(j.cell (p:=⟨w.heap.size+1+1,2,none⟩) i).trans c⟩,
  (j.frozen (p:=⟨w.heap.size+1+1,0,none⟩) i).trans d,(j.frozen (p:=⟨w.heap.size+1+1,1,none⟩) i).trans e,(j.frozen (p:=⟨w.heap.size+1+1,2,none⟩) i).trans f⟩
def gf (w:World) (E S:Int) (x:Ending) (e:World):Prop:=
 ∃ a c d b,x=.returned (.agg #[.bool a,c,.int .i64 b])/\DN e c d/\From w.heap.size c/\sg a d=S/\(b=E\/(b=0/\d=0))/\Below w.heap.size w e
theorem dN {w d:World} {nx e neg:Bool} {g f v:Value} {ex ey E S:Int} {N:Nat} (i:Below (w.heap.size+3) (pbox w nx g ex e f ey) d) (j:DN d v N) (b:From (w.heap.size+3) v) (h:sg neg N=S) :
  gf w E S (.returned (.agg #[.bool neg,v,.int .i64 E])) (((d.setCell ⟨w.heap.size+1+1,0,none⟩ (.bool neg)).setCell ⟨w.heap.size+1+1,1,none⟩ v).setCell ⟨w.heap.size+1+1,2,none⟩ (.int .i64 E)):=by
 refine⟨neg,v,N,E,rfl,((j.set b (a:=⟨w.heap.size+1+1,0,none⟩) (Nat.lt_succ_self _) _).set b (a:=⟨w.heap.size+1+1,1,none⟩) (Nat.lt_succ_self _) _).set b (a:=⟨w.heap.size+1+1,2,none⟩) (Nat.lt_succ_self _) _,b.mono (by omega),h,Or.inl rfl,?_⟩
 have c:w.heap.size<=w.heap.size+1+1:=by omega
 exact ((((dM w nx g ex e f ey).trans (i.mono (by omega))).setCell c _).setCell c _).setCell c _
theorem Ik (nx o:Bool) (C D:Value) (ex ey E:Int) (X Y n m a b:Nat) (w:World) (hX:DN w C X) (hY:DN w D Y)
  (hE:Hid (iY X ex Y ey=E)) (hn:X≠0->ex - E=(n:Int)) (hm:Y≠0->ey - E=(m:Int)) (bz:n<=1000000) (bv:m<=1000000) (bh:nd X<=1000000) (br:nd Y<=1000000)
  (ha:Hid (X*2^n=a)) (hb:Hid (Y*2^m=b)) (bo:nd a<=10000000) (bi:nd b<=10000000) (hc:nx=o\/a=0\/b=0) :
  Calls Tryz.prog 73 #[.agg #[.bool nx,C,.int .i64 ex],.agg #[.bool o,D,.int .i64 ey]] w (gf w E (sg nx a+sg o b)):=by
 have K:=aa (dM w nx C ex o D ey);have HZ:=aa (jS w nx C ex o D ey);have al:=aa (ls w nx C ex o D ey);have T:=aa (hX.below K.out);have U:=aa (hY.below K.out);have I:=aa (xp nx o C D ex ey X Y _ T.out U.out);rw [hE.out] at I
 have ai:=aa hn;have HM:=aa hm;have HC:=aa hc;clear hX hY hn hm hc
 go_enter Tryz.func73,Tryz.ntmps73
 go_wp2_with fail
 refine I.out.mono ?_
 rintro x w1 ⟨rfl,y⟩;have bs:w.heap.size+3<=w1.heap.size:=by have h9:=y.size;rw [HZ.out] at h9;exact h9
 have H:=aa (al.out.below y (by rw [HZ.out];omega))
 have bb:=aa (T.out.below y);have bc:=aa (U.out.below y);have ab:Hid (Below (w.heap.size+3) (pbox w nx C ex o D ey) w1):=y.mono (by rw [HZ.out];omega)
 obtain⟨c0,c1,c2,c3,c4,c5⟩:=H.out;clear y
 go_wp2_with fail
 refine (oP nx C ex E X n _ bb.out ai.out (by omega) (by omega)).mono ?_
 rintro x w2 ⟨va,rfl,M,A⟩;rw [ha.out] at M
 have bk:w.heap.size+3<=w2.heap.size:=by have h9:=A.size;omega
 have Q:=aa (H.out.below A (by omega))
 have ba:=aa (bc.out.below A);have Z:=aa M;have ad:Hid (Below (w.heap.size+3) (pbox w nx C ex o D ey) w2):=ab.out.trans (A.mono bs);clear A M c0 c1 c2 c3 c4 c5;obtain⟨c0,c1,c2,c3,c4,c5⟩:=Q.out
 go_wp2_with fail
 refine (oP o D ey E Y m _ ba.out HM.out (by omega) (by omega)).mono ?_
 rintro x w3 ⟨vb,rfl,R,B⟩;rw [hb.out] at R
 have k:w.heap.size+3<=w3.heap.size:=by have h9:=B.size;omega
 have am:=aa (Q.out.below B (by omega))
 have J:=aa (Z.out.below B);have S:=aa R;have F:Hid (Below (w.heap.size+3) (pbox w nx C ex o D ey) w3):=ad.out.trans (B.mono bk);clear B R c0 c1 c2 c3 c4 c5 Z;obtain⟨c0,c1,c2,c3,c4,c5⟩:=am.out;obtain⟨p,c,rfl⟩:=J.out.form;obtain⟨q,d,rfl⟩:=S.out.form;have l:=aa (kt _ _ a b w3 J.out S.out bo bi);obtain⟨N,hN⟩:∃ N,a+b=N:=⟨_,rfl⟩;rw [hN] at l
 have HN:=aa hN;clear hN;clear J S;have ea:a=0->nd a=0:=fun h=>by rw [h];rfl
 have W:b=0->nd b=0:=fun h=>by rw [h];rfl
 have z:a≠0->1<=nd a:=dt;have u:b≠0->1<=nd b:=dt;clear bh br T U bb bc ba al H Q am ab ad I ai HM hE ha hb K HZ;generalize nd a=la at *
 generalize nd b=lb at *
 by_cases r:a=0
 ·have G:=ea r;subst G
  by_cases j:b=0
  ·have G:=W j;subst G r j;clear ea W z u;cases nx<;>cases o
   all_goals
    go_wp2_with fail
    refine l.out.mono ?_
    rintro x w4 ⟨v4,rfl,e,g,f⟩;have i:=aa (F.out.trans (f.mono k));obtain⟨⟨L,P,O⟩,f0,f1,f2⟩:=cP i.out;obtain⟨V,c4,rfl⟩:=e.form;have t:=aa e;have s:=aa (g.mono k);clear e g f
    go_wp2_with fail
    refine bodyPost_ret (v:=.agg #[.bool _,.slice V _ c4,.int .i64 E]) (by simp [results,Tryz.results73,go_sem,L,P,O]) rfl (dN i.out t.out s.out ?_)
    rw [<- HN.out];simp [sg]
    try omega
  ·have G:=u j;subst r;clear ea W z u j;cases nx<;>cases o
   all_goals
    go_wp2_with fail
    refine l.out.mono ?_
    rintro x w4 ⟨v4,rfl,e,g,f⟩;have i:=aa (F.out.trans (f.mono k));obtain⟨⟨L,P,O⟩,f0,f1,f2⟩:=cP i.out;obtain⟨V,c4,rfl⟩:=e.form;have t:=aa e;have s:=aa (g.mono k);clear e g f
    go_wp2_with fail
    refine bodyPost_ret (v:=.agg #[.bool _,.slice V _ c4,.int .i64 E]) (by simp [results,Tryz.results73,go_sem,L,P,O]) rfl (dN i.out t.out s.out ?_)
    rw [<- HN.out];simp [sg]
    try omega
 ·have G:=z r
  by_cases j:b=0
  ·have G:=W j;subst G j;clear ea W z u r;cases nx<;>cases o
   all_goals
    go_wp2_with fail
    refine l.out.mono ?_
    rintro x w4 ⟨v4,rfl,e,g,f⟩;have i:=aa (F.out.trans (f.mono k));obtain⟨⟨L,P,O⟩,f0,f1,f2⟩:=cP i.out;obtain⟨V,c4,rfl⟩:=e.form;have t:=aa e;have s:=aa (g.mono k);clear e g f
    go_wp2_with fail
    refine bodyPost_ret (v:=.agg #[.bool _,.slice V _ c4,.int .i64 E]) (by simp [results,Tryz.results73,go_sem,L,P,O]) rfl (dN i.out t.out s.out ?_)
    rw [<- HN.out];simp [sg]
    try omega
  ·have bx:=u j;clear ea W z u;have hs:nx=o:=by
    rcases HC.out with h | h | h
    ·exact h
    ·exact absurd h r
    ·exact absurd h j
   clear r j
   ·subst hs;cases nx
    all_goals
     go_wp2_with fail
     refine l.out.mono ?_
     rintro x w4 ⟨v4,rfl,e,g,f⟩;have i:=aa (F.out.trans (f.mono k));obtain⟨⟨L,P,O⟩,f0,f1,f2⟩:=cP i.out;obtain⟨V,c4,rfl⟩:=e.form;have t:=aa e;have s:=aa (g.mono k);clear e g f
     go_wp2_with fail
     refine bodyPost_ret (v:=.agg #[.bool _,.slice V _ c4,.int .i64 E]) (by simp [results,Tryz.results73,go_sem,L,P,O]) rfl (dN i.out t.out s.out ?_)
     rw [<- HN.out];simp [sg]
     try omega
theorem mM {w e:World} {nx b:Bool} {d c:Value} {ex ey E S:Int} (g:Below (w.heap.size+3) (pbox w nx d ex b c ey) e) (f:0=S) :
  gf w E S (.returned (.agg #[.bool false,.slice none 0 0,.int .i64 0])) (((e.setCell ⟨w.heap.size+1+1,0,none⟩ (.bool false)).setCell ⟨w.heap.size+1+1,1,none⟩ (.slice none 0 0)).setCell ⟨w.heap.size+1+1,2,none⟩ (.int .i64 0)):=by
 refine⟨false,.slice none 0 0,0,0,rfl,Or.inl ⟨rfl,_,_,rfl⟩,gI _,f,Or.inr ⟨rfl,rfl⟩,?_⟩
 have a:w.heap.size<=w.heap.size+1+1:=by omega
 exact ((((dM w nx d ex b c ey).trans (g.mono (by omega))).setCell a _).setCell a _).setCell a _
theorem AN (nx k:Bool) (D F:Value) (ex ey E:Int) (X Y n m a b:Nat) (w:World) (hX:DN w D X) (hY:DN w F Y)
  (hE:Hid (iY X ex Y ey=E)) (hn:X≠0->ex - E=(n:Int)) (hm:Y≠0->ey - E=(m:Int)) (cc:n<=1000000) (bz:m<=1000000) (bo:nd X<=1000000) (bv:nd Y<=1000000)
  (ha:Hid (X*2^n=a)) (hb:Hid (Y*2^m=b)) (am:nd a<=10000000) (br:nd b<=10000000) (hs:nx≠k) (ad:a≠0) (Z:b≠0) :
  Calls Tryz.prog 73 #[.agg #[.bool nx,D,.int .i64 ex],.agg #[.bool k,F,.int .i64 ey]] w (gf w E (sg nx a+sg k b)):=by
 have M:=aa (dM w nx D ex k F ey);have HZ:=aa (jS w nx D ex k F ey);have bb:=aa (ls w nx D ex k F ey);have U:=aa (hX.below M.out);have V:=aa (hY.below M.out);have L:=aa (xp nx k D F ex ey X Y _ U.out V.out);rw [hE.out] at L
 have ba:=aa hn;have HM:=aa hm;clear hX hY hn hm
 go_enter Tryz.func73,Tryz.ntmps73
 go_wp2_with fail
 refine L.out.mono ?_
 rintro x w1 ⟨rfl,l⟩;have bx:w.heap.size+3<=w1.heap.size:=by have T:=l.size;rw [HZ.out] at T;exact T
 have K:=aa (bb.out.below l (by rw [HZ.out];omega))
 have bi:=aa (U.out.below l);have bk:=aa (V.out.below l);have ai:Hid (Below (w.heap.size+3) (pbox w nx D ex k F ey) w1):=l.mono (by rw [HZ.out];omega)
 obtain⟨c0,c1,c2,c3,c4,c5⟩:=K.out;clear l
 go_wp2_with fail
 refine (oP nx D ex E X n _ bi.out ba.out (by omega) (by omega)).mono ?_
 rintro x w2 ⟨va,rfl,O,z⟩;rw [ha.out] at O
 have bs:w.heap.size+3<=w2.heap.size:=by have T:=z.size;omega
 have Q:=aa (K.out.below z (by omega))
 have bh:=aa (bk.out.below z);have ab:=aa O;have al:Hid (Below (w.heap.size+3) (pbox w nx D ex k F ey) w2):=ai.out.trans (z.mono bx);clear z O c0 c1 c2 c3 c4 c5;obtain⟨c0,c1,c2,c3,c4,c5⟩:=Q.out
 go_wp2_with fail
 refine (oP k F ey E Y m _ bh.out HM.out (by omega) (by omega)).mono ?_
 rintro x o ⟨vb,rfl,S,B⟩;rw [hb.out] at S
 have N:w.heap.size+3<=o.heap.size:=by have T:=B.size;omega
 have bc:=aa (Q.out.below B (by omega))
 have u:=aa (ab.out.below B);have C:=aa S;have R:Hid (Below (w.heap.size+3) (pbox w nx D ex k F ey) o):=al.out.trans (B.mono bs);clear B S c0 c1 c2 c3 c4 c5 ab;obtain⟨c0,c1,c2,c3,c4,c5⟩:=bc.out;obtain⟨p,c,rfl⟩:=u.out.form;obtain⟨q,d,rfl⟩:=C.out.form;have e:=aa (cO _ _ a b o u.out C.out am);have r:=aa fun w' (t:Below o.heap.size o w') (W:b<=a)=>dZ _ _ a b w' (u.out.below t) (C.out.below t) am W
 have j:=aa fun w' (t:Below o.heap.size o w') (W:a<=b)=>dZ _ _ b a w' (C.out.below t) (u.out.below t) br W
 clear u C;have hl:((nd a:Int)==0)=false:=by have:=dt ad;simp;omega
 have ca:((nd b:Int)==0)=false:=by have:=dt Z;simp;omega
 clear bo bv U V bi bk bh bb K Q bc ai al L ba HM hE ha hb M HZ ad Z;generalize nd a=la at *
 generalize nd b=lb at *
 rcases Nat.lt_trichotomy a b with h | h | h
 ·rw [ll h] at e
  have I:=aa (Nat.le_of_lt h);clear r h;cases nx<;>cases k
  all_goals first | exact absurd rfl hs | skip
  all_goals
   go_wp2_with fail
   refine e.out.mono ?_
   rintro x G ⟨rfl,qq,H⟩;have s:=aa (show Below o.heap.size o G by rw [H];exact below_drewN (Below.refl _ _) _)
   have g3:=(s.out.cell (p:=⟨w.heap.size+1,0,none⟩) (by show w.heap.size+1<_;omega)).trans c3
   have y:w.heap.size+3<=G.heap.size:=by have:=s.out.size;omega
   clear H
   go_wp2_with fail
   go_region_with ((go_at_call 116;refine (j.out _ (s.out.drew) I.out).mono ?_;rintro x w4 ⟨v4,rfl,g,A,i⟩;obtain⟨p4,c4,rfl⟩:=g.form;have f:=aa ((R.out.trans (s.out.mono N)).drew.trans (i.mono y));obtain⟨⟨r0,r1,r2⟩,f0,f1,f2⟩:=cP f.out;have k3:=(i.cell (p:=⟨w.heap.size+1,0,none⟩) (by show w.heap.size+1<G.heap.size;omega)).trans g3;have P:=aa g;have J:=aa (A.mono (show w.heap.size+3<=_ from y));clear g A i))
   all_goals
    go_wp2_with fail
    refine bodyPost_ret (v:=.agg #[.bool _,.slice p4 _ c4,.int .i64 E]) (by simp [results,Tryz.results73,go_sem,r0,r1,r2]) rfl (dN f.out P.out J.out ?_)
    have T:=I.out;simp [sg]
    try omega
 ·rw [lm h] at e
  have I:=aa h;clear r j h;cases nx<;>cases k
  all_goals first | exact absurd rfl hs | skip
  all_goals
   go_wp2_with fail
   refine e.out.mono ?_
   rintro x G ⟨rfl,qq,H⟩;have s:=aa (show Below o.heap.size o G by rw [H];exact below_drewN (Below.refl _ _) _)
   have f:=aa (R.out.trans (s.out.mono N));obtain⟨⟨r0,r1,r2⟩,f0,f1,f2⟩:=cP f.out;clear H
   go_wp2_with fail
   refine bodyPost_ret (v:=.agg #[.bool false,.slice none 0 0,.int .i64 0]) (by simp [results,Tryz.results73,go_sem,r0,r1,r2]) rfl (mM f.out ?_)
   have T:=I.out;simp [sg]
   try omega
 ·rw [lp h] at e
  have I:=aa (Nat.le_of_lt h);clear j h;cases nx<;>cases k
  all_goals first | exact absurd rfl hs | skip
  all_goals
   go_wp2_with fail
   refine e.out.mono ?_
   rintro x G ⟨rfl,qq,H⟩;have s:=aa (show Below o.heap.size o G by rw [H];exact below_drewN (Below.refl _ _) _)
   have g3:=(s.out.cell (p:=⟨w.heap.size,0,none⟩) (by show w.heap.size<_;omega)).trans c0
   have y:w.heap.size+3<=G.heap.size:=by have:=s.out.size;omega
   clear H
   go_wp2_with fail
   go_region_with ((go_at_call 116;refine (r.out _ (s.out.drew) I.out).mono ?_;rintro x w4 ⟨v4,rfl,g,A,i⟩;obtain⟨p4,c4,rfl⟩:=g.form;have f:=aa ((R.out.trans (s.out.mono N)).drew.trans (i.mono y));obtain⟨⟨r0,r1,r2⟩,f0,f1,f2⟩:=cP f.out;have k3:=(i.cell (p:=⟨w.heap.size,0,none⟩) (by show w.heap.size<G.heap.size;omega)).trans g3;have P:=aa g;have J:=aa (A.mono (show w.heap.size+3<=_ from y));clear g A i))
   all_goals
    go_wp2_with fail
    refine bodyPost_ret (v:=.agg #[.bool _,.slice p4 _ c4,.int .i64 E]) (by simp [results,Tryz.results73,go_sem,r0,r1,r2]) rfl (dN f.out P.out J.out ?_)
    have T:=I.out;simp [sg]
    try omega
theorem pK (nx d:Bool) (j i:Value) (ex ey E:Int) (X Y n m:Nat) (w:World) (q:DN w j X) (l:DN w i Y)
  (o:iY X ex Y ey=E) (hn:X≠0->ex - E=(n:Int)) (p:Y≠0->ey - E=(m:Int)) (g:n<=1000000) (f:m<=1000000) (a:nd X<=1000000) (c:nd Y<=1000000)
  (b:nd (X*2^n)<=10000000) (e:nd (Y*2^m)<=10000000) :
  Calls Tryz.prog 73 #[.agg #[.bool nx,j,.int .i64 ex],.agg #[.bool d,i,.int .i64 ey]] w (gf w E (sg nx (X*2^n)+sg d (Y*2^m))):=by
 by_cases k:nx=d\/X*2^n=0\/Y*2^m=0
 ·exact Ik nx d j i ex ey E X Y n m _ _ w q l o hn p g f a c rfl rfl b e k
 ·exact AN nx d j i ex ey E X Y n m _ _ w q l o hn p g f a c rfl rfl b e (fun h=>k (Or.inl h)) (fun h=>k (Or.inr (Or.inl h))) (fun h=>k (Or.inr (Or.inr h)))
def sR (P:Program) (c:Region.Mode) (b:Array Oper) (Q:Exit->Act->World->Prop) (S:World->Prop) (L:Nat->Bool):Nat->Array Bool->Act->World->Prop
 | 0,l,a,w=>Region.ready c b l=[]/\Q .normal a w
 | f+1,l,a,w=>(Region.ready c b l=[]->Q .normal a w)/\∀ i ∈ Region.ready c b l,wpOp P b Q i (fun a' d=>(L i=false->S d)/\sR P c b Q S L f (l.setIfInBounds i true) a' d) a w
variable {P:Program} {md:Region.Mode} {ops:Array Oper} {Q:Exit->Act->World->Prop} {S:World->Prop} {L:Nat->Bool}
theorem Ae:∀ (f:Nat) (l:Array Bool) (a:Act) (w:World),sR P md ops Q S L f l a w->wpAny P md ops Q f l a w
 | 0,_,_,_,h=>h
 | f+1,_,_,_,h=>⟨h.1,fun i hi=>wpOp_mono (fun a w k=>Ae f _ a w k.2) (h.2 i hi)⟩
def Ea (b:Region.Mode) (a:Array Oper) (l:Array Bool):Bool:=
 (List.range a.size).all fun k=>!l.getD k false||((a[k]?).map (·.after.all fun e=>!Region.binds b e||l.getD e.on false)).getD true
def Closed (c:Region.Mode) (a:Array Oper) (l:Array Bool):Prop:=∀ k b,a[k]? =some b->l.getD k false=true->∀ e ∈ b.after,Region.binds c e=true->l.getD e.on false=true
theorem GG {l:Array Bool} (h:Ea md ops l=true):Closed md ops l:=fun k g b f e c d=>by
 have a:=List.all_eq_true.1 h k (List.mem_range.2 (Array.getElem?_eq_some_iff.1 b).1)
 rw [f,b] at a
 simp only [Bool.not_true,Bool.false_or,Option.map_some,Option.getD_some,Array.all_eq_true'] at a
 have:=a e c;rw [d] at this
 simpa using this
theorem Cz {l:Array Bool} {j:Nat} (h:Closed md ops l) (m:j ∈ Region.ready md ops l):Closed md ops (l.setIfInBounds j true):=fun k n i g e d f=>by
 by_cases c:j=k
 ·subst c;obtain⟨_,o,b,a⟩:=mem_ready.1 m;rw [i] at b
  obtain rfl:=Option.some.inj b;exact getD_set_true (a e d f)
 ·rw [getD_set_ne false c] at g
  exact getD_set_true (h k n i g e d f)
def wQ (b:Region.Mode) (a:Array Oper):Nat->Nat->Nat->Bool
 | 0,_,_=>false
 | f+1,j,i=>((a[j]?).map (·.after.any fun e=>Region.binds b e&&(e.on==i||wQ b a f e.on i))).getD false
theorem mz {l:Array Bool} (h:Closed md ops l) {i:Nat}:∀ (f j:Nat),wQ md ops f j i=true->(∀ a,ops[j]? =some a->∀ e ∈ a.after,Region.binds md e=true->l.getD e.on false=true)->l.getD i false=true
 | 0,_,hw,_=>by cases hw
 | f+1,j,hw,hd=>by
  unfold wQ at hw
  cases b:ops[j]? with
  | none=>rw [b] at hw;cases hw
  | some a=>
   rw [b] at hw
   simp only [Option.map_some,Option.getD_some,Array.any_eq_true'] at hw
   obtain⟨e,n,d⟩:=hw;rw [Bool.and_eq_true,Bool.or_eq_true,beq_iff_eq] at d
   have m:=hd a b e n d.1;rcases d.2 with c | c
   ·rw [<- c];exact m
   ·exact mz h f e.on c (fun q p o k g=>h e.on q p m o k g)
def LA (b:Region.Mode) (a:Array Oper) (L:Nat->Bool) (i:Nat):Bool:=(List.range a.size).all fun j=>!L j||wQ b a 6 j i
theorem LB {i j:Nat} {l:Array Bool} (h:LA md ops L i=true) (hc:Closed md ops l) (hi:i ∈ Region.ready md ops l) (m:j ∈ Region.ready md ops l):L j=false:=by
 cases p:L j with
 | false=>rfl
 | true=>
  obtain⟨_,r,b,a⟩:=mem_ready.1 m;have f:=List.all_eq_true.1 h j (List.mem_range.2 (Array.getElem?_eq_some_iff.1 b).1)
  rw [p] at f
  have c:=mz hc 6 j (by simpa using f) (fun q k e n o=>by
   rw [b] at k
   obtain rfl:=Option.some.inj k;exact a e n o)
  have g:=(mem_ready.1 hi).1;rcases Nat.lt_or_ge i l.size with d | d
  ·simp [d] at g c;rw [g] at c;cases c
  ·simp [Array.getElem?_eq_none d] at c
theorem CA {i:Nat} {p:Oper} {v:Value} (hi:ops[i]? =some p) (I:Region.noSelect ops=true) (X:LA md ops L i=true) (K:∀ c a w,Q (.panic c) (a.put p.dst v) w->Q (.panic c) a w) :
  ∀ (f:Nat) (l:Array Bool) (a:Act) (w:World),Closed md ops l->(∀ j n,ops[j]? =some n->j≠i->l.getD j true=false->(∀ e ∈ n.after,Region.binds md e=true->e.on≠i)->p.apart ops n=true)->
   i ∈ Region.ready md ops l->YieldsIf P ops S p v a->S w->sR P md ops Q S L f (l.setIfInBounds i true) (a.put p.dst v) w->sR P md ops Q S L (f+1) l a w:=by
 intro f
 induction f with
 | zero=>
  intro l a w _ _ g A x H;refine⟨fun h=>(by rw [h] at g;cases g),fun j o=>?_⟩
  by_cases c:j=i
  ·subst c;exact A.wpOp hi x ⟨fun _=>x,H⟩
  ·have:=ready_mono o c;rw [H.1] at this;cases this
 | succ f V=>
  intro l a w r d g A x H;refine⟨fun h=>(by rw [h] at g;cases g),fun j o=>?_⟩
  by_cases c:j=i
  ·subst c;exact A.wpOp hi x ⟨fun _=>x,H⟩
  ·obtain⟨u,n,m,q⟩:=mem_ready.1 o;have C:∀ e ∈ n.after,Region.binds md e=true->e.on≠i:=fun e R W F=>by
    have s:=q e R W;have J:=(mem_ready.1 g).1;rw [F] at s
    rcases Nat.lt_or_ge i l.size with D | D
    ·simp [D] at J s;rw [J] at s;cases s
    ·simp [Array.getElem?_eq_none D] at s
   have y:L j=false:=LB X r g o;have M:=wpOp_putIf m (d j n m c u C) (fun B b=>Region.noSelect_spec I i p B b hi) (fun B b=>Region.noSelect_spec I j n B b m) K A (H.2 j (ready_mono o c))
   refine wpOp_mono (fun T U z=>⟨fun _=>z.2.1 y,V (l.setIfInBounds j true) T U (Cz r o) (fun k O Y E G N=>d k O Y E ?_ N) (ready_mono g (Ne.symm c)) z.1 (z.2.1 y) ?_⟩) M
   ·by_cases t:j=k
    ·subst t;exact u
    ·rw [getD_set_ne true t] at G;exact G
   ·rw [Array.setIfInBounds_comm _ _ c];exact z.2.2
theorem ig (i:Nat) {b:Oper} (v:Value) {f:Nat} {l:Array Bool} {a:Act} {w:World} (hi:ops[i]? =some b) (j:Region.noSelect ops=true) (k:LA md ops L i=true) (hc:Ea md ops l=true) (d:Region.free md ops l i=true) (m:(Region.ready md ops l).contains i=true)
  (e:∀ c a w,Q (.panic c) (a.put b.dst v) w->Q (.panic c) a w) (n:Region.wanted b (yielded ops a.tmps)=true) (o:S w) (g:∀ w,S w->(execOp a.eval b).run P w=.ok (.value v) w)
  (h:sR P md ops Q S L f (l.setIfInBounds i true) (a.put b.dst v) w):sR P md ops Q S L (f+1) l a w:=
 CA hi j k e f l a w (GG hc) (Region.free_spec hi d) (by simpa using m) (Or.inl ⟨n,g⟩) o h
theorem jI {i:Nat} {f:Nat} {l:Array Bool} {a:Act} {w:World} (d:Region.ready md ops l=[i])
  (e:wpOp P ops Q i (fun a' c=>(L i=false->S c)/\sR P md ops Q S L f (l.setIfInBounds i true) a' c) a w):sR P md ops Q S L (f+1) l a w:=
 ⟨fun h=>(by rw [d] at h;cases h),fun k b=>by
  rw [d] at b
  rcases List.mem_cons.1 b with rfl | b
  ·exact e
  ·cases b⟩
theorem GH {f:Nat} {l:Array Bool} {a:Act} {w:World} (b:Region.ready md ops l=[]) (h:Q .normal a w):sR P md ops Q S L f l a w:=by
 cases f with
 | zero=>exact⟨b,h⟩
 | succ f=>exact⟨fun _=>h,by rw [b];simp⟩
theorem rO {id:Nat} {a:Act} {w:World} (S:World->Prop) (L:Nat->Bool) (b:P.follows .mixedOrders=true)
  (h:sR P .any ops Q S L ops.size (Array.replicate ops.size false) a w.drew):(Code.region id ops true).wp P Q a w:=
 wp_region_any b (Ae _ _ _ _ h)
theorem DU (n lo hi:Int) (w:World) :
  Calls Tryz.prog 175 #[.int .i64 n,.int .i64 lo,.int .i64 hi] w fun e a=>e=.returned (.bool (decide (lo<=n/\n<=hi)))/\a=w:=by
 by_cases c:lo<=n<;>by_cases b:n<=hi
 all_goals
  first | rw [decide_eq_true (⟨c,b⟩:lo<=n/\n<=hi)] | rw [decide_eq_false (fun h:lo<=n/\n<=hi=>by omega)]
  go_enter Tryz.func175,Tryz.ntmps175
  go_wp2
  go_ret
  exact⟨rfl,rfl⟩
theorem Ky (n:Int) (w:World) :
  Calls Tryz.prog 177 #[.int .i64 n] w fun e a=>e=.returned (.bool (decide (1<=n/\n<=8)))/\a=w:=by
 have H:=hideS fun w=>DU n 1 8 w
 generalize decide (1<=n/\n<=8)=b at *
 go_enter Tryz.func177,Tryz.ntmps177
 go_wp2_with (go_at_call 175;refine (H.out _).mono ?_;rintro e a ⟨rfl,rfl⟩)
 go_ret
 exact⟨rfl,rfl⟩
theorem Kz (x:Nat) (w:World) (f:U64 x) :
  Calls Tryz.prog 176 #[.float .f64 x] w fun e c=>e=.returned (.bool (aE x))/\c=w:=by
 have d:=hideS fun w=>aZ x w f
 cases a:ah (x:Int)
 ·rw [a] at d
  have g:=hideS fun w=>iM x _ w f (qH a)
  generalize aE x=b at *
  clear a f;cases b
  all_goals
   go_enter Tryz.func176,Tryz.ntmps176
   go_wp2_with fail
   refine (d.out _).mono ?_
   rintro e c ⟨rfl,rfl⟩
   go_wp2_with fail
   refine (g.out _).mono ?_
   rintro e c ⟨rfl,rfl⟩
   go_wp2_with fail
   go_ret
   exact⟨rfl,rfl⟩
 ·rw [a] at d
  rw [lP a];clear a f
  go_enter Tryz.func176,Tryz.ntmps176
  go_wp2_with fail
  refine (d.out _).mono ?_
  rintro e c ⟨rfl,rfl⟩
  go_wp2_with fail
  go_ret
  exact⟨rfl,rfl⟩
def fZ (f:Flw):Int:=if ¬ (0<=f.day/\f.day<=109572) then 51 else if aE f.am=false then 91 else if ¬ (1<=f.cur/\f.cur<=8) then 140 else 0
inductive ChkF (l:List Flw):Int->Int->Prop
 | many (h:4096<l.length):ChkF l 81 0
 | fine (hl:l.length<=4096) (h:∀ i<l.length,fZ (l.getD i aC)=0):ChkF l 0 0
 | bad (hl:l.length<=4096) (k:Nat) (hk:k<l.length) (e:Int) (he:fZ (l.getD k aC)=e) (h0:e≠0) (h:∀ i<k,fZ (l.getD i aC)=0):ChkF l e k
theorem chkF_from (l:List Flw):∀ n,(∀ i<n,fZ (l.getD i aC)=0)\/∃ k<n,fZ (l.getD k aC)≠0/\∀ i<k,fZ (l.getD i aC)=0
 | 0=>Or.inl (fun i hi=>by omega)
 | n+1=>by
  rcases chkF_from l n with h | ⟨k,b,a,h⟩
  ·by_cases c:fZ (l.getD n aC)=0
   ·refine Or.inl (fun i hi=>?_)
    by_cases d:i<n
    ·exact h i d
    ·obtain rfl:i=n:=by omega
     exact c
   ·exact Or.inr ⟨n,by omega,c,h⟩
  ·exact Or.inr ⟨k,by omega,a,h⟩
theorem wF (l:List Flw):∃ e k,ChkF l e k:=by
 by_cases b:4096<l.length
 ·exact⟨_,_,.many b⟩
 ·rcases chkF_from l l.length with h | ⟨k,c,a,h⟩
  ·exact⟨0,0,.fine (by omega) h⟩
  ·exact⟨_,_,.bad (by omega) k c _ rfl a h⟩
theorem aM {l:List Flw} {e n k f:Int} (h:ChkF l e k) (a:ChkF l n f):e=n/\k=f:=by
 cases h with
 | many h=>cases a with
  | many _=>exact⟨rfl,rfl⟩
  | fine j _=>omega
  | bad j=>omega
 | fine j h=>cases a with
  | many a=>omega
  | fine _ _=>exact⟨rfl,rfl⟩
  | bad _ f g _ b d _=>exact absurd (b.symm.trans (h f g)) d
 | bad j k o _ i m h=>cases a with
  | many a=>omega
  | fine _ a=>exact absurd (i.symm.trans (a k o)) m
  | bad _ f g _ b d a=>
   rcases Nat.lt_trichotomy k f with c | c | c
   ·exact absurd (i.symm.trans (a k c)) m
   ·subst c;exact⟨i.symm.trans b,rfl⟩
   ·exact absurd (b.symm.trans (h f c)) d
def dB (l:List Flw):Prop:=∀ i,(l.getD i aC).am<18446744073709551616
theorem kT {w:World} {g o:Nat} {cs:Array Value} {t:TypeId} (v:Value) (h:w.heap[g]? =some (.cells cs t (0,0))):(w.setCell ⟨g,o,none⟩ v).heap[g]? =some (.cells (cs.setIfInBounds o v) t (0,0)):=by
 rw [Go.Sort.setCell_eq];simp [Go.Sort.mapBlock,Array.getElem?_modify,h,Go.Sort.onCells]
theorem tY (a:Addr) (x:Nat) (m:Mode) (w:World):(store a (.float .f64 x) m).run Tryz.prog w=stored Tryz.prog w a (.float .f64 x) m:=run_store Tryz.prog w a _ m rfl
def eI:Obj:=.cells #[.int .i64 0,.float .f64 0,.int .i64 0] 51
def Ge (w:World) (g:Nat) (f:Flw):World:=((w.setCell ⟨g,0,none⟩ (.int .i64 f.day)).setCell ⟨g,1,none⟩ (.float .f64 f.am)).setCell ⟨g,2,none⟩ (.int .i64 f.cur)
theorem nX (w:World):((w.alloc eI).cell? ⟨w.heap.size,0,none⟩=some (.int .i64 0)/\(w.alloc eI).cell? ⟨w.heap.size,1,none⟩=some (.float .f64 0)/\(w.alloc eI).cell? ⟨w.heap.size,2,none⟩=some (.int .i64 0))/\∀ i,(w.alloc eI).frozen? ⟨w.heap.size,i,none⟩=false:=by
 have h:=heap_alloc_new w eI;unfold eI at h
 refine⟨⟨by unfold eI;simp,by unfold eI;simp,by unfold eI;simp⟩,fun i=>frozen_of_row _ _ i _ _ h⟩
structure FBx (w:World) (f:Flw) (wr:World):Prop where
 t0:wr.cell? ⟨w.heap.size,0,none⟩=some (.int .i64 f.day)
 t1:wr.cell? ⟨w.heap.size,1,none⟩=some (.float .f64 f.am)
 t2:wr.cell? ⟨w.heap.size,2,none⟩=some (.int .i64 f.cur)
 fz:∀ i,wr.frozen? ⟨w.heap.size,i,none⟩=false
 bl:Below w.heap.size w wr
 lt:w.heap.size<wr.heap.size
theorem FBx.step {w wr b:World} {f:Flw} (h:FBx w f wr) (a:Below wr.heap.size wr b):FBx w f b:=
 ⟨(a.cell (p:=⟨w.heap.size,0,none⟩) h.lt).trans h.t0,(a.cell (p:=⟨w.heap.size,1,none⟩) h.lt).trans h.t1,(a.cell (p:=⟨w.heap.size,2,none⟩) h.lt).trans h.t2,fun i=>(a.frozen (p:=⟨w.heap.size,i,none⟩) h.lt).trans (h.fz i),h.bl.trans (a.mono h.bl.size),Nat.lt_of_lt_of_le h.lt a.size⟩
theorem KA {w wr:World} {f:Flw} (h:wr.heap[w.heap.size]? =some (.cells #[.int .i64 f.day,.float .f64 f.am,.int .i64 f.cur] 51)) (a:Below w.heap.size w wr):FBx w f wr:=by
 refine⟨?_,?_,?_,fun i=>frozen_of_row _ _ i _ _ h,a,(Array.getElem?_eq_some_iff.1 h).1⟩
 all_goals
  simp only [World.cell?,h,Option.isSome_none,Bool.false_eq_true,if_false]
  rfl
theorem KB (w:World) (f:Flw):(Ge (w.alloc eI) w.heap.size f).heap[w.heap.size]? =some (.cells #[.int .i64 f.day,.float .f64 f.am,.int .i64 f.cur] 51):=by
 have h:=heap_alloc_new w eI;unfold eI at h
 exact kT _ (kT _ (kT _ h))
theorem zr (w:World) (f:Flw):FBx w f (Ge (w.alloc eI) w.heap.size f):=
 KA (KB w f) ((((Below.refl _ w).alloc (Nat.le_refl _) _).setCell (p:=⟨w.heap.size,0,none⟩) (Nat.le_refl _) _).setCell (p:=⟨w.heap.size,1,none⟩) (Nat.le_refl _) _ |>.setCell (p:=⟨w.heap.size,2,none⟩) (Nat.le_refl _) _)
theorem PW (w:World) (f:Flw):FBx w f (w.alloc (.cells #[.int .i64 f.day,.float .f64 f.am,.int .i64 f.cur] 51)):=
 KA (heap_alloc_new w _) ((Below.refl _ _).alloc (Nat.le_refl _) _)
theorem KC (f:Flw) (w:World) (p:f.am<18446744073709551616) :
  Calls Tryz.prog 159 #[.agg #[.int .i64 f.day,.float .f64 f.am,.int .i64 f.cur]] w fun e c=>e=.returned (.int .i64 (fZ f))/\Below w.heap.size w c:=by
 obtain⟨day,m,cur⟩:=f;have n:=hideS (PW w ⟨day,m,cur⟩);have i:=hideS fun l=>DU day 0 109572 l
 have h:=hideS fun l=>Kz m l (by unfold U64;dsimp only at p;omega)
 have j:=hideS fun l=>Ky cur l
 obtain⟨E,o⟩:∃ E,fZ ⟨day,m,cur⟩=E:=⟨_,rfl⟩;have b:Hid ((if ¬ (0<=day/\day<=109572) then 51 else if aE m=false then 91 else if ¬ (1<=cur/\cur<=8) then 140 else 0)=E):=o
 rw [o];clear o p;dsimp only at *
 by_cases d:0<=day/\day<=109572
 ·rw [decide_eq_true d] at i
  rw [if_neg (not_not_intro d)] at b
  cases k:aE m
  ·rw [k] at h b
   have a:Hid (E=91):=b.out.symm;rw [a.out];clear b a j d k
   go_enter Tryz.func159,Tryz.ntmps159
   go_wp2_with (first | (go_at_call 175;refine (i.out _).mono ?_;rintro e c ⟨rfl,rfl⟩) | (go_at_call 176;refine (h.out _).mono ?_;rintro e c ⟨rfl,rfl⟩))
   go_ret
   exact⟨rfl,n.out.bl⟩
  ·rw [k] at h b
   rw [if_neg (by simp)] at b
   by_cases g:1<=cur/\cur<=8
   ·rw [decide_eq_true g] at j
    have a:Hid (E=0):=by have:=b.out;rw [if_neg (not_not_intro g)] at this;exact this.symm
    rw [a.out];clear b a d k g
    go_enter Tryz.func159,Tryz.ntmps159
    go_wp2_with (first | (go_at_call 175;refine (i.out _).mono ?_;rintro e c ⟨rfl,rfl⟩) | (go_at_call 176;refine (h.out _).mono ?_;rintro e c ⟨rfl,rfl⟩) | (go_at_call 177;refine (j.out _).mono ?_;rintro e c ⟨rfl,rfl⟩))
    go_ret
    exact⟨rfl,n.out.bl⟩
   ·rw [decide_eq_false g] at j
    have a:Hid (E=140):=by have:=b.out;rw [if_pos g] at this;exact this.symm
    rw [a.out];clear b a d k g
    go_enter Tryz.func159,Tryz.ntmps159
    go_wp2_with (first | (go_at_call 175;refine (i.out _).mono ?_;rintro e c ⟨rfl,rfl⟩) | (go_at_call 176;refine (h.out _).mono ?_;rintro e c ⟨rfl,rfl⟩) | (go_at_call 177;refine (j.out _).mono ?_;rintro e c ⟨rfl,rfl⟩))
    go_ret
    exact⟨rfl,n.out.bl⟩
 ·rw [decide_eq_false d] at i
  have a:Hid (E=51):=by have:=b.out;rw [if_pos d] at this;exact this.symm
  rw [a.out];clear b a j h d
  go_enter Tryz.func159,Tryz.ntmps159
  go_wp2_with (go_at_call 175;refine (i.out _).mono ?_;rintro e c ⟨rfl,rfl⟩)
  go_ret
  exact⟨rfl,n.out.bl⟩
theorem BZ (l:List Flw) (p:Option Addr) (b off c N:Nat) (E K:Int) (w:World) (C:JSrc aF w p b off l) (I:l.length=N) (hc:N<=9223372036854775807) (D:dB l) (B:ChkF l E K) :
  Calls Tryz.prog 125 #[.slice p N c] w fun e Y=>e=.returned (.tuple #[.int .i64 E,.int .i64 K])/\Below w.heap.size w Y:=by
 have z:=hideS I;have V:=hideS B;have Z:=hideS C;have HF:=hideS D
 by_cases hm:4096<N
 ·obtain⟨rfl,rfl⟩:=aM B (.many (by omega))
  clear B C I D
  go_enter Tryz.func125,Tryz.ntmps125
  go_wp2
  go_ret2
  exact⟨rfl,Below.refl _ _⟩
 ·have HP:Hid (0<N->p=some ⟨b,off,none⟩):=fun h=>C.at_ (by omega)
  clear B C I D
  go_enter Tryz.func125,Tryz.ntmps125
  go_wp2_with fail
  go_loopw [12] (fun i wr=>∃ k:Nat,k<=N/\i=.int .i64 k/\Hid (∀ j<k,fZ (l.getD j aC)=0)/\Hid (Below w.heap.size w wr)) (fun i _=>N - (intOf i).toNat)
  case atStart=>exact⟨0,Nat.zero_le _,rfl,fun j W=>by omega,Below.refl _ _⟩
  case round=>
   obtain⟨k,hk,rfl,s,t⟩:=hrel
   by_cases v:k<N
   ·obtain rfl:=HP.out (by omega)
    obtain⟨c0,c1,c2⟩:=(Z.out.below t.out).cell k (by rw [z.out];exact v)
    have n:=hideS fun wx=>KC (l.getD k aC) wx (HF.out k)
    obtain⟨F,hF⟩:∃ F,fZ (l.getD k aC)=F:=⟨_,rfl⟩;rw [hF] at n
    have y:=hideS hF;have a:=hideS (zr wr (l.getD k aC));obtain⟨⟨R,J,L⟩,fz⟩:=nX wr;have P:=fz 0;have S:=fz 1;have O:=fz 2;clear fz hF;obtain⟨q,U⟩:∃ q,l.getD k aC=q:=⟨_,rfl⟩;rw [U] at n a c0 c1 c2
    clear U;obtain⟨qd,X,qc⟩:=q;dsimp only [aF] at *
    obtain⟨H,m⟩:∃ H,wr.alloc eI=H:=⟨_,rfl⟩;rw [m] at R J L P S O a
    unfold eI at m
    obtain⟨T,d⟩:∃ T,Ge H wr.heap.size ⟨qd,X,qc⟩=T:=⟨_,rfl⟩;rw [d] at a
    unfold Ge at d
    dsimp only at d
    have M:=a.out.t0;have G:=a.out.t1;have Q:=a.out.t2;dsimp only at M G Q
    have u:=tY
    by_cases A:F=0
    ·have x:Hid (∀ j<k+1,fZ (l.getD j aC)=0):=fun j W=>by
      by_cases c:j<k
      ·exact s.out j c
      ·obtain rfl:j=k:=by omega
       rw [y.out];exact A
     subst A
     go_wp2_with fail
     clear u m d R J L P S O M G Q;refine (n.out _).mono ?_
     rintro e w4 ⟨rfl,g⟩;have r:=hideS (t.out.trans ((a.out.step g).bl.mono t.out.size));clear g c0 c1 c2
     go_wp2_with fail
     go_roundw
     case rel=>exact⟨k+1,by omega,by simp,x,r⟩
     case measure=>simp [intOf];omega
    ·have f:F=E/\(k:Int)=K:=aM (.bad (by rw [z.out];omega) k (by rw [z.out];exact v) F y.out A s.out) V.out
     have o:=hideS f;have d7:(F !=0)=true:=bne_iff_ne.2 A;clear A f
     go_wp2_with fail
     clear u m d R J L P S O M G Q;refine (n.out _).mono ?_
     rintro e w4 ⟨rfl,g⟩;have r:=hideS (t.out.trans ((a.out.step g).bl.mono t.out.size));clear g
     go_wp2_with fail
     go_ret2
     obtain⟨rfl,rfl⟩:=o.out;exact⟨rfl,r.out⟩
   ·obtain rfl:k=N:=by omega
    have f:(0:Int)=E/\(0:Int)=K:=aM (.fine (by rw [z.out];omega) (by rw [z.out];exact s.out)) V.out
    have o:=hideS f;clear f
    go_wp2_with fail
    go_ret2
    obtain⟨rfl,rfl⟩:=o.out;exact⟨rfl,t.out⟩
def nE (g:Flw->Flw) (l:List Flw) (k:Nat):List Flw:=(List.range k).map fun i=>g (l.getD i aC)
theorem LU (g:Flw->Flw) (l:List Flw) (k:Nat):(nE g l k).length=k:=by unfold nE;simp
theorem GW (g:Flw->Flw) (l:List Flw) (k:Nat):nE g l (k+1)=nE g l k++[g (l.getD k aC)]:=by unfold nE;rw [List.range_succ,List.map_append];rfl
theorem LV (g:Flw->Flw) (l:List Flw):nE g l l.length=l.map g:=by
 apply List.ext_getElem
 ·simp [nE]
 ·intro i b a;have:i<l.length:=by simpa using a
  simp [nE,List.getD,this]
def kn (R j d:Nat):Nat:=R / 2^(32*(j+1))*2^(32*(j+1))+d*2^(32*j)+R % 2^(32*j)
theorem pL (R j d:Nat):kn R j d+dgt R j*2^(32*j)=R+d*2^(32*j):=by
 unfold kn;have a:=Nat.div_add_mod R (2^(32*(j+1)));have b:=fG R j;rw [Nat.mul_comm] at a
 omega
theorem OZ (R j d:Nat) (b:d<4294967296):d*2^(32*j)+R % 2^(32*j)<2^(32*(j+1)):=by
 have c:R % 2^(32*j)<2^(32*j):=Nat.mod_lt _ (Nat.two_pow_pos _);have a:(d+1)*2^(32*j)<=4294967296*2^(32*j):=Nat.mul_le_mul_right _ b;rw [Nat.add_mul,Nat.one_mul] at a
 rw [gH,Nat.mul_comm (2^(32*j))];omega
theorem pM (R j d:Nat) (a:d<4294967296):kn R j d / 2^(32*(j+1))=R / 2^(32*(j+1)):=by
 unfold kn;rw [Nat.add_assoc,Nat.add_comm,Nat.add_mul_div_right _ _ (Nat.two_pow_pos _),Nat.div_eq_of_lt (OZ R j d a),Nat.zero_add]
theorem Mr {R j d T:Nat} (a:R<2^(32*T)) (c:j<T) (b:d<4294967296):kn R j d<2^(32*T):=by
 have e:(2:Nat)^(32*T)=2^(32*(T - (j+1)))*2^(32*(j+1)):=by rw [<- Nat.pow_add];congr 1;omega
 rw [e] at a ⊢
 rw [<- Nat.div_lt_iff_lt_mul (Nat.two_pow_pos _)] at a ⊢
 rw [pM R j d b];exact a
theorem Ms {R S j i:Nat} (h:R / 2^(32*(j+1))=S / 2^(32*(j+1))) (hi:j<i):dgt R i=dgt S i:=by
 unfold dgt;have e:(2:Nat)^(32*i)=2^(32*(j+1))*2^(32*(i - (j+1))):=by rw [<- Nat.pow_add];congr 1;omega
 rw [e,<- Nat.div_div_eq_div_mul,<- Nat.div_div_eq_div_mul,h]
theorem Il (R j d i:Nat) (f:d<4294967296):dgt (kn R j d) i=if i=j then d else dgt R i:=by
 have c:=Nat.two_pow_pos (32*j)
 by_cases h:i=j
 ·subst h;rw [if_pos rfl];have a:=div_step (kn R i d) i;rw [pM R i d f] at a
  have k:kn R i d / 2^(32*i)=R / 2^(32*(i+1))*4294967296+d:=by
   unfold kn;generalize R / 2^(32*(i+1))=q;have e:q*2^(32*(i+1))+d*2^(32*i)=(q*4294967296+d)*2^(32*i):=by rw [gH,Nat.add_mul,Nat.mul_assoc,Nat.mul_comm 4294967296]
   rw [e,Nat.add_comm,Nat.add_mul_div_right _ _ c,Nat.div_eq_of_lt (Nat.mod_lt _ c),Nat.zero_add]
  omega
 ·rw [if_neg h];rcases Nat.lt_or_gt_of_ne h with a | a
  ·have g:=Df (kn R j d) j i;have b:=Df R j i;rw [if_pos a] at g b
   rw [<- g,<- b]
   congr 1
   unfold kn;rw [gH,Nat.mul_comm (2^(32*j)) 4294967296,<- Nat.mul_assoc,<- Nat.add_mul,Nat.mul_add_mod',Nat.mod_mod]
  ·exact Ms (pM R j d f) a
theorem Own.put {w:World} {b n R j d:Nat} {x:Int} (h:Own w b n R) (e:x=(d:Int)) (a:d<4294967296):Own (w.setCell ⟨b,j,none⟩ (.int .u64 x)) b n (kn R j d):=by
 refine (h.set j (.int .u64 x)).congr fun i _=>?_
 rw [Il R j d i a]
 by_cases c:i=j
 ·rw [if_pos c,if_pos c,e]
 ·rw [if_neg c,if_neg c]
theorem ED {M B R i k a b c o s:Nat} (m:R+c*2^(32*(i+k))=M+a*(B % 2^(32*k))*2^(32*i)) (g:b=dgt B k) (h:o=dgt R (i+k)) (f:s=o+a*b+c) :
  kn R (i+k) (s % 4294967296)+s / 4294967296*2^(32*(i+(k+1)))=M+a*(B % 2^(32*(k+1)))*2^(32*i):=by
 have d:=pL R (i+k) (s % 4294967296);rw [<- h] at d
 rw [show i+(k+1)=i+k+1 by omega,gH,fG,<- g,Nat.mul_add a,Nat.add_mul (a*_)]
 have e:a*(b*2^(32*k))*2^(32*i)=a*b*2^(32*(i+k)):=by
  rw [<- Nat.mul_assoc,Nat.mul_assoc,<- Nat.pow_add];congr 2;omega
 rw [e];generalize 2^(32*(i+k))=W at *
 have r:s / 4294967296*(W*4294967296)+s % 4294967296*W=s*W:=by
  rw [Nat.mul_comm W,<- Nat.mul_assoc,<- Nat.add_mul,Nat.div_add_mod']
 have q:s*W=o*W+a*b*W+c*W:=by rw [f,Nat.add_mul,Nat.add_mul]
 generalize s / 4294967296*(W*4294967296)=l at *
 generalize s % 4294967296*W=t at *
 generalize s*W=u at *
 generalize o*W=n at *
 generalize a*b*W=j at *
 generalize c*W=p at *
 generalize a*(B % 2^(32*k))*2^(32*i)=v at *
 omega
theorem EF {o a b c:Nat} (e:o<4294967296) (f:a<4294967296) (d:b<4294967296) (hc:c<4294967296):a*b<=18446744065119617025/\o+a*b+c<18446744073709551616:=by
 have:a*b<=4294967295*4294967295:=Nat.mul_le_mul (by omega) (by omega)
 omega
theorem Dh {A B R i n a c:Nat} (d:R+c*2^(32*(i+n))=(A % 2^(32*i))*B+a*(B % 2^(32*n))*2^(32*i)) (g:B<2^(32*n)) (e:a=dgt A i) (b:R<2^(32*(i+n))) :
  kn R (i+n) c=(A % 2^(32*(i+1)))*B:=by
 have f:=pL R (i+n) c;rw [mI b,Nat.zero_mul] at f
 rw [Nat.mod_eq_of_lt g] at d
 rw [fG,Nat.add_mul,<- e];have:a*B*2^(32*i)=a*2^(32*i)*B:=by rw [Nat.mul_assoc,Nat.mul_comm B,Nat.mul_assoc]
 omega
theorem Di {A B m n:Nat} (b:A<2^(32*m)) (a:B<2^(32*n)):A*B<2^(32*(m+n)):=by
 rw [Nat.mul_add,Nat.pow_add];exact Nat.mul_lt_mul'' b a
theorem sC (g f c d m n A B:Nat) (w:World) (y:Hid (RowIs w g m A)) (J:Hid (RowIs w f n B)) (Y:g<w.heap.size) (hf:f<w.heap.size) (hm:m<=1000000) (hn:n<=1000000) (Z:Hid (A<2^(32*m))) (Q:Hid (B<2^(32*n))) :
  Calls Tryz.prog 141 #[.slice (some ⟨g,0,none⟩) m c,.slice (some ⟨f,0,none⟩) n d] w fun e K=>∃ v,e=.returned v/\DN K v (A*B)/\From w.heap.size v/\Below w.heap.size w K:=by
 have z:=fun w=>run_make_row' (P:=Tryz.prog) 33 41 (.int .u64 0) 8 Tryz.underlying33 eA rfl .i64 .i64 (m+n+1) (by omega) (by omega) w
 have ec:((m+n+1:Nat):Int)=(m:Int)+(n:Int)+1:=by omega
 rw [ec] at z
 clear ec;have HO:=aa (pC w (m+n+1))
 go_enter Tryz.func141,Tryz.ntmps141
 go_wp2_with fail
 go_loopg [6] m (fun L i wr=>∃ k:Nat,k<=m/\L=m - k/\i=.int .i64 k/\Hid (Own wr w.heap.size (m+n+1) ((A % 2^(32*k))*B))/\Hid (Below w.heap.size w wr))
 case atStart=>exact⟨0,Nat.zero_le _,by omega,rfl,by rw [Nat.mul_zero,Nat.pow_zero,Nat.mod_one,Nat.zero_mul];exact HO,(Below.refl _ _).alloc (Nat.le_refl _) _⟩
 case round=>
  clear HO z;obtain⟨i,hi,rfl,rfl,h,j⟩:=hrel
  by_cases t:i<m
  ·have r:=(j.out.cell (p:=⟨g,i,none⟩) Y).trans (y.out i t);have D:=aa (y.out i t);have T:=bB A i;have U:Hid ((A % 2^(32*i))*B<2^(32*(i+n))):=Di (Nat.mod_lt _ (Nat.two_pow_pos _)) Q.out;have HE:=aa fun R a c (M:a=dgt A i)=>Dh (A:=A) (B:=B) (R:=R) (i:=i) (n:=n) (a:=a) (c:=c)
   generalize M:dgt A i=a at r D T
   have H:=aa M.symm;clear M
   go_wp2_with fail
   go_loopg [7,8] n (fun L s kk C=>∃ k x R:Nat,k<=n/\L=n - k/\kk=.int .i64 k/\s=.int .u64 x/\x<4294967296/\Hid (R+x*2^(32*(i+k))=(A % 2^(32*i))*B+a*(B % 2^(32*k))*2^(32*i))/\Hid (R<2^(32*(i+n)))/\Hid (Own C w.heap.size (m+n+1) R)/\Hid (Below w.heap.size w C))
   case atStart=>exact⟨0,0,_,Nat.zero_le _,by omega,rfl,rfl,by omega,by show _=_;rw [Nat.mul_zero 32,Nat.pow_zero,Nat.mod_one,Nat.zero_mul,Nat.mul_zero,Nat.zero_mul],U,h,j⟩
   case round=>
    clear h j U r;obtain⟨k,x,R,hk,rfl,rfl,rfl,V,HS,N,h,j⟩:=hrel;have r:=(j.out.cell (p:=⟨g,i,none⟩) Y).trans D.out
    by_cases l:k<n
    ·have I:=(j.out.cell (p:=⟨f,k,none⟩) hf).trans (J.out k l);have W:=bB B k;have O:=h.out.cell (i:=i+k) (by omega)
     have bo:=bB R (i+k);have fo:=h.out.frozen (i+k);have q:=aa fun b o s (G:b=dgt B k) (F:o=dgt R (i+k)) (hs:s=o+a*b+x)=>ED HS.out G F hs
     generalize G:dgt B k=b at I W
     generalize F:dgt R (i+k)=o at O bo
     have q:=aa (q.out b o _ G.symm F.symm rfl);clear G F;obtain⟨s1,S⟩:=EF bo T W V;have w1:IntKind.u64.wrap ((a:Int)*(b:Int))=((a*b:Nat):Int):=by rw [<- Int.natCast_mul,IntKind.wrap_u64];omega
     generalize a*b=u at w1 s1 S q
     have w2:IntKind.u64.wrap ((o:Int)+(u:Int))=(o:Int)+(u:Int):=by rw [IntKind.wrap_u64];omega
     have w3:IntKind.u64.wrap ((o:Int)+(u:Int)+(x:Int))=((o+u+x:Nat):Int):=by rw [IntKind.wrap_u64];omega
     generalize o+u+x=s at w3 S q
     have w4:IntKind.i64.wrap ((i:Int)+(k:Int))=(i:Int)+(k:Int):=by rw [IntKind.wrap_i64];omega
     have tn:((i:Int)+(k:Int)).toNat=i+k:=by omega
     have nn:(0:Int)<=(i:Int)+(k:Int):=by omega
     have nm:(i:Int)+(k:Int)<((m+n+1:Nat):Int):=by omega
     go_wp2_with fail
     go_quiet (fail)
     go_wp2_with fail
     go_roundg (n - (k+1))
     case measure=>omega
     case rel=>
      exact⟨k+1,s / 4294967296,kn R (i+k) (s % 4294967296),by omega,rfl,by go_num,by go_num,by omega,q.out,Mr N.out (by omega) (by omega),Own.put (w:=wr.drewN nq) h.out (by omega) (by omega),(below_drewN j.out _).setCell (Nat.le_refl _) _⟩
    ·obtain rfl:k=n:=by omega
     have O:=h.out.cell (i:=i+k) (by omega)
     have fo:=h.out.frozen (i+k);have X:dgt R (i+k)=0:=mI N.out;rw [X] at O
     have E:=aa (Dh HS.out Q.out H.out N.out);clear X
     go_wp2_with fail
     go_roundg (m - (i+1))
     case measure=>omega
     case rel=>
      refine⟨i+1,by omega,rfl,by go_num,?_,j.out.setCell (Nat.le_refl _) _⟩
      rw [<- E.out];exact Own.put h.out (by omega) V
  ·obtain rfl:i=m:=by omega
   have e:A % 2^(32*i)=A:=Nat.mod_eq_of_lt Z.out;rw [e] at h
   clear e;have hM:Hid (A*B<2^(32*(i+n+1))):=Nat.lt_of_lt_of_le (Di Z.out Q.out) (Nat.pow_le_pow_right (by decide) (by omega))
   have l:=h.out.lt;have HD:=aa (nH h.out.row hM.out (Nat.le_refl _) l)
   go_wp2_with fail
   refine (du _ _ _ _ _ h.out.row hM.out (Nat.le_refl _) (by omega)).mono ?_
   rintro e K ⟨rfl,rfl⟩
   go_wp2_with fail
   go_ret
   exact⟨_,rfl,HD.out,ij _ _ _ _ (Nat.le_refl _),j.out⟩
theorem Im (nx a:Bool) (X Y:Nat):sg (nx !=a) (X*Y)=sg nx X*sg a Y:=by
 cases nx<;>cases a<;>simp [sg,Int.natCast_mul,Int.neg_mul,Int.mul_neg]
theorem vg {w:World} {B:Nat} {nx m:Bool} {l k:Value} {ex ey:Int} (h:Six w B nx l ex m k ey) (i:Nat) (x:Value):Six (w.setCell ⟨B+1+1,i,none⟩ x) B nx l ex m k ey:=by
 obtain⟨a,b,c,d,e,f⟩:=h;have g:B+1+1≠B:=by omega
 have j:B+1+1≠B+1:=by omega
 exact⟨(World.cell?_setCell_far w ⟨B+1+1,i,none⟩ ⟨B,0,none⟩ x g).trans a,(World.cell?_setCell_far w ⟨B+1+1,i,none⟩ ⟨B,1,none⟩ x g).trans b,(World.cell?_setCell_far w ⟨B+1+1,i,none⟩ ⟨B,2,none⟩ x g).trans c,(World.cell?_setCell_far w ⟨B+1+1,i,none⟩ ⟨B+1,0,none⟩ x j).trans d,(World.cell?_setCell_far w ⟨B+1+1,i,none⟩ ⟨B+1,1,none⟩ x j).trans e,(World.cell?_setCell_far w ⟨B+1+1,i,none⟩ ⟨B+1,2,none⟩ x j).trans f⟩
theorem AO (nx f:Bool) (d c:Value) (ex ey:Int) (X Y:Nat) (w:World) (A:DN w d X) (z:DN w c Y) (e:X=0\/Y=0) :
  Calls Tryz.prog 100 #[.agg #[.bool nx,d,.int .i64 ex],.agg #[.bool f,c,.int .i64 ey]] w (gf w (ex+ey) 0):=by
 have j:=aa (dM w nx d ex f c ey);have l:=aa (jS w nx d ex f c ey);have t:=aa (ls w nx d ex f c ey);have i:=aa (A.below j.out);have r:=aa (z.below j.out);have u:=aa e;clear A z e
 by_cases e:X=0
 ·subst e;clear u
  go_enter Tryz.func100,Tryz.ntmps100
  go_wp2_with fail
  refine (aY _ _ _ 0 true _ i.out rfl).mono ?_
  rintro x m ⟨rfl,a⟩;have b:Hid (Below (w.heap.size+3) (pbox w nx d ex f c ey) m):=a.mono (by rw [l.out];omega)
  obtain⟨⟨s,q,n⟩,G,C,F⟩:=cP b.out;clear a
  go_wp2_with fail
  exact bodyPost_ret (v:=.agg #[.bool false,.slice none 0 0,.int .i64 0]) (by simp [results,Tryz.results100,go_sem,s,q,n]) rfl (mM b.out rfl)
 ·have D:Y=0:=by
   rcases u.out with h | h
   ·exact absurd h e
   ·exact h
  subst D;have E:=aa e;clear u e
  go_enter Tryz.func100,Tryz.ntmps100
  go_wp2_with fail
  refine (aY _ _ _ X false _ i.out (decide_eq_false E.out)).mono ?_
  rintro x m ⟨rfl,a⟩;have b:Hid (Below (w.heap.size+3) (pbox w nx d ex f c ey) m):=a.mono (by rw [l.out];omega)
  have p:w.heap.size+3<=m.heap.size:=by have y:=a.size;rw [l.out] at y;exact y
  have o:=aa (r.out.below a);obtain⟨c0,c1,c2,c3,c4,B⟩:=t.out.below a (by rw [l.out];omega)
  clear a
  go_wp2_with fail
  refine (aY _ _ _ 0 true _ o.out rfl).mono ?_
  rintro x H ⟨rfl,k⟩;have g:=aa (b.out.trans (k.mono p));obtain⟨⟨s,q,n⟩,G,C,F⟩:=cP g.out;clear k c0 c1 c2 c3 c4 B
  go_wp2_with fail
  exact bodyPost_ret (v:=.agg #[.bool false,.slice none 0 0,.int .i64 0]) (by simp [results,Tryz.results100,go_sem,s,q,n]) rfl (mM g.out rfl)
theorem AP (nx i:Bool) (g f c d:Nat) (ex ey:Int) (m n X Y:Nat) (w:World) (G:X≠0) (C:Y≠0)
  (hX:DN w (.slice (some ⟨g,0,none⟩) m c) X) (hY:DN w (.slice (some ⟨f,0,none⟩) n d) Y) (t:Hid (RowIs w g m X)) (q:Hid (RowIs w f n Y)) (L:g<w.heap.size) (M:f<w.heap.size) (hm:m<=1000000) (hn:n<=1000000) (s:Hid (X<2^(32*m))) (u:Hid (Y<2^(32*n)))
  (he: -10000000<=ex) (al:ex<=10000000) (ai: -10000000<=ey) (am:ey<=10000000) :
  Calls Tryz.prog 100 #[.agg #[.bool nx,.slice (some ⟨g,0,none⟩) m c,.int .i64 ex],.agg #[.bool i,.slice (some ⟨f,0,none⟩) n d,.int .i64 ey]] w (gf w (ex+ey) (sg nx X*sg i Y)):=by
 have D:=aa fun b (e:Below w.heap.size w b)=>sC g f c d m n X Y b (t.out.below L e) (q.out.below M e) (Nat.lt_of_lt_of_le L e.size) (Nat.lt_of_lt_of_le M e.size) hm hn s u
 clear t q s u L M;generalize O:Value.slice (some ⟨g,0,none⟩) m c=B at *
 generalize H:Value.slice (some ⟨f,0,none⟩) n d=F at *
 clear O H;have l:=aa (dM w nx B ex i F ey);have T:=aa (jS w nx B ex i F ey);have P:=aa (ls w nx B ex i F ey);have Z:=aa (hX.below l.out);have ab:=aa (hY.below l.out);have I:=aa G;have ad:=aa C;have U:IntKind.i64.wrap (ex+ey)=ex+ey:=by rw [IntKind.wrap_i64];omega
 clear hX hY G C
 go_enter Tryz.func100,Tryz.ntmps100
 go_wp2_with fail
 refine (aY _ _ _ X false _ Z.out (decide_eq_false I.out)).mono ?_
 rintro x U ⟨rfl,a⟩;have K:Hid (Below (w.heap.size+3) (pbox w nx B ex i F ey) U):=a.mono (by rw [T.out];omega)
 have V:w.heap.size+3<=U.heap.size:=by have Q:=a.size;rw [T.out] at Q;exact Q
 have R:=aa (ab.out.below a);have p:=aa (P.out.below a (by rw [T.out];omega))
 obtain⟨c0,c1,c2,c3,c4,c5⟩:=p.out;clear a
 go_wp2_with fail
 refine (aY _ _ _ Y false _ R.out (decide_eq_false ad.out)).mono ?_
 rintro x S ⟨rfl,h⟩;have r:=aa (K.out.trans (h.mono V));have y:w.heap.size+3<=S.heap.size:=by have Q:=h.size;omega
 have o:=aa (p.out.below h (by omega))
 have W:=aa (l.out.trans (r.out.mono (by omega)))
 clear h c0 c1 c2 c3 c4 c5;obtain⟨c0,c1,c2,c3,c4,c5⟩:=o.out
 go_wp2_with fail
 go_region_held3 (fun b=>b.cell? ⟨w.heap.size,0,none⟩=some (.bool nx)/\b.cell? ⟨w.heap.size,1,none⟩=some B/\b.cell? ⟨w.heap.size,2,none⟩=some (.int .i64 ex)/\b.cell? ⟨w.heap.size+1,0,none⟩=some (.bool i)/\b.cell? ⟨w.heap.size+1,1,none⟩=some F/\b.cell? ⟨w.heap.size+1,2,none⟩=some (.int .i64 ey)) (first | exact o.out | exact E.out | exact vg (vg (vg E.out 0 _) 1 _) 2 _ | go_keep) ((go_at_call 141;refine (D.out _ (W.out.drew)).mono ?_;rintro x w4 ⟨v4,rfl,j,z,k⟩;obtain⟨p4,q4,rfl⟩:=j.form;have A:=aa (r.out.drew.trans (k.mono y));have E:=aa (Six.below (w:=S.drew) o.out k (show w.heap.size+1<S.heap.size by omega));obtain⟨⟨r0,r1,r2⟩,f0,f1,f2⟩:=cP A.out;have N:=aa j;have J:=aa (z.mono (show w.heap.size+3<=_ from y));clear j z k))
 all_goals
  go_wp2_with fail
  exact bodyPost_ret (v:=.agg #[.bool _,.slice p4 _ q4,.int .i64 (ex+ey)]) (by simp [results,Tryz.results100,go_sem,r0,r1,r2]) rfl (dN A.out N.out J.out (Im nx i X Y))
theorem tf (nx a:Bool) (o j:Value) (ex ey:Int) (X Y:Nat) (w:World) (u:DN w o X) (k:DN w j Y) (x:nd X<=1000000) (hn:nd Y<=1000000)
  (z: -10000000<=ex) (p:ex<=10000000) (q: -10000000<=ey) (s:ey<=10000000) :
  Calls Tryz.prog 100 #[.agg #[.bool nx,o,.int .i64 ex],.agg #[.bool a,j,.int .i64 ey]] w (gf w (ex+ey) (sg nx X*sg a Y)):=by
 by_cases b:X=0\/Y=0
 ·have e:sg nx X*sg a Y=0:=by
   rw [<- Im];rcases b with h | h
   ·rw [h,Nat.zero_mul];cases (nx !=a)<;>rfl
   ·rw [h,Nat.mul_zero];cases (nx !=a)<;>rfl
  rw [e];exact AO nx a o j ex ey X Y w u k b
 ·have i:=u;have t:=k;rcases u with⟨m,_⟩| ⟨m,g,c,rfl,_,y,r⟩
  ·exact absurd (Or.inl m) b
  ·rcases k with⟨l,_⟩| ⟨l,f,d,rfl,_,v,n⟩
   ·exact absurd (Or.inr l) b
   ·exact AP nx a g f c d ex ey (nd X) (nd Y) X Y w m l i t r n y v x hn (dh X) (dh Y) z p q s
def aX (u:Int):Bool:=szI u==9218868437227405312
theorem av (u:Int) (w:World) (h:U64 u) :
  Calls Tryz.prog 72 #[.int .u64 u] w fun e a=>e=.returned (.bool (aX u))/\a=w:=by
 have b:=dK h
 go_enter Tryz.func72,Tryz.ntmps72
 go_wp2
 go_ret
 exact⟨rfl,rfl⟩
theorem MD (u:Int) (w:World) (h:U64 u) (a:szI u=0) :
  Calls Tryz.prog 74 #[.int .u64 u] w fun x b=>∃ v,x=.returned (eC false v 0)/\DN b v 0/\Below w.heap.size w b:=by
 have d:bits .and .u64 u 4503599627370495=0:=by rw [pH h,a];rfl
 have c:bits .and .u64 (u / 4503599627370496) 2047=0:=by
  have:=h.1;have:=h.2;rw [pI (by omega) (by omega)];unfold szI at a;omega
 unfold eC;clear h a
 go_enter Tryz.func74,Tryz.ntmps74
 go_wp2_with fail
 refine bodyPost_ret (v:=.agg #[.bool false,.slice none 0 0,.int .i64 0]) (by simp [results,Tryz.results74,go_sem]) rfl ⟨_,rfl,Or.inl ⟨rfl,_,_,rfl⟩,?_⟩
 exact (Below.refl w.heap.size w).alloc (Nat.le_refl _) _
structure OfR (x:Nat) (neg:Bool) (N:Nat) (e:Int):Prop where
 lt:N<9007199254740992
 lo: -1074<=e
 hi:e<=971
 val:N*2^(e+1074).toNat=aV x
 sgn:N≠0->neg=sB x
 mag:N≠0->N=mg (x % 9223372036854775808)/\e= -1074+(pl (x % 9223372036854775808):Int)
theorem gh {x:Nat} (h:x<18446744073709551616):sgB (x:Int)=sB x:=by
 unfold sgB sB;rcases (show x / 9223372036854775808=0\/x / 9223372036854775808=1 by omega) with e | e
 ·rw [e];show _=false;rw [decide_eq_false_iff_not];omega
 ·rw [e];show _=true;rw [decide_eq_true_eq];omega
theorem eo (x:Nat):szI (x:Int)=((x % 9223372036854775808:Nat):Int):=by unfold szI;omega
theorem eL (x:Nat) (u:Int) (w:World) (f:Hid (u=(x:Int))) (h:U64 u) (k:ag x) :
  Calls Tryz.prog 74 #[.int .u64 u] w fun r b=>∃ neg v N e,r=.returned (.agg #[.bool neg,v,.int .i64 e])/\DN b v N/\OfR x neg N e/\Below w.heap.size w b:=by
 have a:x<18446744073709551616:=by have:=h.2;rw [f.out] at this;omega
 have i:szI u=((x % 9223372036854775808:Nat):Int):=by rw [f.out];exact eo x
 unfold ag at k
 by_cases m:szI u=0
 ·refine (MD u w h m).mono ?_
  rintro r b ⟨v,rfl,d,g⟩;refine⟨false,v,0,0,rfl,d,⟨by decide,by decide,by decide,?_,fun h=>absurd rfl h,fun h=>absurd rfl h⟩,g⟩
  unfold aV;rw [show x % 9223372036854775808=0 by omega,bp,Nat.zero_mul]
 ·refine (OX u w h (by omega) (by omega)).mono ?_
  rintro r b ⟨v,rfl,d,g⟩;have l:(gz (szI u)).toNat=mg (x % 9223372036854775808):=by
   rw [i];generalize x % 9223372036854775808=r at *
   unfold gz mg
   by_cases c:r<4503599627370496
   ·rw [if_pos c,if_pos (by omega)];omega
   ·rw [if_neg c,if_neg (by omega)];omega
  have j:kE (szI u)= -1074+(pl (x % 9223372036854775808):Int):=by
   rw [i];generalize x % 9223372036854775808=r at *
   unfold kE pl
   by_cases c:r<4503599627370496
   ·rw [if_pos (by omega)];omega
   ·rw [if_neg (by omega)];omega
  have n:pl (x % 9223372036854775808)<=2045:=by unfold pl;omega
  rw [l] at d
  refine⟨sgB u,v,_,kE (szI u),rfl,d,⟨nF _,by omega,by omega,?_,fun _=>?_,fun _=>⟨rfl,j⟩⟩,g⟩
  ·rw [j];unfold aV V
   congr 2
   omega
  ·rw [f.out];exact gh a
theorem dw {N:Nat} (h:N<9007199254740992):nd N<=2:=bP (k:=2) (by omega)
def cn (o:Option Nat):Nat:=o.getD 9221120237041090561
theorem lz:cn none=9221120237041090561:=rfl
theorem ao (r:Nat):cn (some r)=r:=rfl
def gO (s:Bool):Int:=if s then 9223372036854775808 else 0
theorem Pd {b:Nat} (h:b<18446744073709551616):b.testBit 63=sgB (b:Int):=by
 rw [Nat.testBit_eq_decide_div_mod_eq];unfold sgB;apply decide_eq_decide.2;omega
theorem vk {u v:Int} (h:U64 u) (e:U64 v):bits .and .u64 (bits .xor .u64 u v) 9223372036854775808=gO (sgB u^^sgB v):=by
 obtain⟨a,rfl⟩:=Int.eq_ofNat_of_zero_le h.1;obtain⟨b,rfl⟩:=Int.eq_ofNat_of_zero_le e.1;have d:a<18446744073709551616:=by have:=h.2;omega
 have c:b<18446744073709551616:=by have:=e.2;omega
 have f:a^^^b<18446744073709551616:=Nat.xor_lt_two_pow (n:=64) d c;rw [bits_xor_u64_nat a b d c,Hb (af f),<- Pd f,Nat.testBit_xor,Pd d,Pd c]
 rfl
theorem bH (neg:Bool) (N:Nat):(sg neg N).natAbs=N:=by unfold sg;cases neg<;>simp
theorem MG (neg:Bool) (N:Nat) (E:Int):U64 (bN neg N E false)/\szI (bN neg N E false)=(if N=0 then 0 else (nearR N E:Int)):=by
 by_cases a:N=0
 ·have:bN neg N E false=0:=by unfold bN;rw [if_pos a]
  rw [this,if_pos a];exact⟨by unfold U64;omega,by decide⟩
 ·rw [fJ neg E a,if_neg a];have b:nearR N E<=9218868437227405312:=Nat.min_le_right _ _;generalize nearR N E=r at *
  unfold U64 szI;cases neg
  ·rw [if_neg (by decide)];omega
  ·rw [if_pos rfl];omega
def lA (T:Nat):Int:=if T=0 then 0 else (nearR T (-2148):Int)
theorem Iz (T:Nat):0<=lA T/\lA T<=9218868437227405312:=by
 unfold lA;have a:nearR T (-2148)<=9218868437227405312:=Nat.min_le_right _ _
 split<;>omega
theorem MH (s:Bool) (T:Nat):(mulR s T:Int)=gO s+lA T:=by
 unfold mulR lA gO wrd
 by_cases a:T=0
 ·rw [if_pos a,if_pos a];cases s<;>simp
 ·rw [if_neg a,if_neg a];generalize nearR T (-2148)=r;cases s<;>simp
theorem MI {x y X Y N:Nat} {nx l neg:Bool} {ex ey E:Int} (e:OfR x nx X ex) (d:OfR y l Y ey) (p:sg neg N=sg nx X*sg l Y) (o:E=ex+ey\/(E=0/\N=0)) :
  U64 (bN neg N E false)/\szI (bN neg N E false)=lA (aV x*aV y)/\nd N<=1000000/\-10000000<=E/\E<=10000000:=by
 have j:N=X*Y:=by
  have:=congrArg Int.natAbs p;rw [Int.natAbs_mul,bH,bH,bH] at this;exact this
 obtain⟨a,b⟩:=MG neg N E;have i:nd N<=1000000:=by
  refine Nat.le_trans (bP (k:=4) ?_) (by omega)
  rw [j];have:=Nat.mul_lt_mul'' e.lt d.lt;omega
 have s:=e.lo;have r:=e.hi;have t:=d.lo;have q:=d.hi;refine⟨a,?_,i,by omega,by omega⟩
 rw [b];unfold lA;have f:aV x*aV y=N*2^((ex+1074).toNat+(ey+1074).toNat):=by
  rw [<- e.val,<- d.val,j,Nat.pow_add,Nat.mul_mul_mul_comm]
 have m:=Nat.two_pow_pos ((ex+1074).toNat+(ey+1074).toNat)
 by_cases c:N=0
 ·rw [if_pos c,if_pos (by rw [f,c,Nat.zero_mul])]
 ·have n:aV x*aV y≠0:=by rw [f];have:=Nat.mul_pos (show 0<N by omega) m;omega
  rw [if_neg c,if_neg n,f];have g:E=ex+ey:=by
   rcases o with h | ⟨_,h⟩
   ·exact h
   ·exact absurd h c
  have:=bf c ((ex+1074).toNat+(ey+1074).toNat) (ex+ey);rw [show ex+ey - (((ex+1074).toNat+(ey+1074).toNat:Nat):Int)= -2148 by omega] at this
  rw [this,g]
theorem bL {x:Nat} {u:Int} (a:u=(x:Int)):szI u=((x % 9223372036854775808:Nat):Int):=by rw [a];exact eo x
theorem fK {x:Nat} {u:Int} (c:u=(x:Int)) (b:ah u=false) (a:aX u=false):ag x:=by
 have:=bL c;unfold ah at b
 unfold aX at a
 unfold ag;rw [decide_eq_false_iff_not] at b
 have d:szI u≠9218868437227405312:=by simpa using a
 omega
theorem iv {x:Nat} {u:Int} (b:u=(x:Int)) (a:aX u=true):x % 9223372036854775808=9218868437227405312:=by
 have:=bL b;unfold aX at a
 have c:szI u=9218868437227405312:=by simpa using a
 omega
theorem lC {x y:Nat} (a:x % 9223372036854775808=9218868437227405312) (b:y % 9223372036854775808=0):floatBits .mul .f64 x y=none/\floatBits .mul .f64 y x=none:=by
 have e:Ieee.double.read y=.number (y / 9223372036854775808 % 2==1) 0 (-1074):=by rw [ax (by omega),b];rfl
 constructor
 ·show ((Ieee.double.read x).product (Ieee.double.read y)).map Ieee.double.write=_
  rw [aS a,e];rfl
 ·show ((Ieee.double.read y).product (Ieee.double.read x)).map Ieee.double.write=_
  rw [aS a,e];rfl
theorem dP (s:Bool):Ieee.double.write (.infinity s)=wrd s 9218868437227405312:=by cases s<;>decide+kernel
theorem fL {r:Nat} (h:r≠0):mg r≠0:=by unfold mg;split<;>omega
theorem gk {x y:Nat} (c:x % 9223372036854775808=9218868437227405312) (a:ag y) (d:y % 9223372036854775808≠0):floatBits .mul .f64 x y=some (wrd (sB x^^sB y) 9218868437227405312)/\floatBits .mul .f64 y x=some (wrd (sB y^^sB x) 9218868437227405312):=by
 have b:=fL d;constructor
 ·show ((Ieee.double.read x).product (Ieee.double.read y)).map Ieee.double.write=_
  rw [aS c,ax a]
  show (if mg (y % 9223372036854775808)=0 then none else some (Ieee.Datum.infinity (_^^_))).map Ieee.double.write=_
  rw [if_neg b]
  show some (Ieee.double.write (.infinity _))=_
  rw [dP];rfl
 ·show ((Ieee.double.read y).product (Ieee.double.read x)).map Ieee.double.write=_
  rw [aS c,ax a]
  show (if mg (y % 9223372036854775808)=0 then none else some (Ieee.Datum.infinity (_^^_))).map Ieee.double.write=_
  rw [if_neg b]
  show some (Ieee.double.write (.infinity _))=_
  rw [dP,Bool.xor_comm];rfl
theorem xu {x y:Nat} (b:x % 9223372036854775808=9218868437227405312) (a:y % 9223372036854775808=9218868437227405312):floatBits .mul .f64 x y=some (wrd (sB x^^sB y) 9218868437227405312):=by
 show ((Ieee.double.read x).product (Ieee.double.read y)).map Ieee.double.write=_
 rw [aS b,aS a]
 show some (Ieee.double.write (.infinity _))=_
 rw [dP];rfl
theorem iw (u v:Int) (w:World) (h:U64 u) (b:U64 v) (hc:ah u=true\/(ah u=false/\ah v=true)\/(ah u=false/\ah v=false/\aX u=true/\(szI v==0)=true)\/(ah u=false/\ah v=false/\aX u=false/\aX v=true/\(szI u==0)=true)) :
  Calls Tryz.prog 63 #[.int .u64 u,.int .u64 v] w fun e a=>e=.returned (.int .u64 9221120237041090561)/\a=w:=by
 have i:=vk h b;rcases hc with c | ⟨c,d⟩| ⟨c,d,g,f⟩| ⟨c,d,g,f,j⟩
 all_goals
  go_enter Tryz.func63,Tryz.ntmps63
  go_wp2_with (first | (go_at_call_of 49 (Value.int IntKind.u64 u);refine (aj u _ h).mono ?_;rintro e a ⟨rfl,rfl⟩) | (go_at_call_of 49 (Value.int IntKind.u64 v);refine (aj v _ b).mono ?_;rintro e a ⟨rfl,rfl⟩) | (go_at_call_of 72 (Value.int IntKind.u64 u);refine (av u _ h).mono ?_;rintro e a ⟨rfl,rfl⟩) | (go_at_call_of 72 (Value.int IntKind.u64 v);refine (av v _ b).mono ?_;rintro e a ⟨rfl,rfl⟩) | (go_at_call_of 76 (Value.int IntKind.u64 u);refine (aH u _ h).mono ?_;rintro e a ⟨rfl,rfl⟩) | (go_at_call_of 76 (Value.int IntKind.u64 v);refine (aH v _ b).mono ?_;rintro e a ⟨rfl,rfl⟩))
  go_ret
  exact⟨rfl,rfl⟩
theorem kH (u v S:Int) (w:World) (h:U64 u) (b:U64 v) (l:bits .and .u64 (bits .xor .u64 u v) 9223372036854775808=S) (j:0<=S) (g:S<=9223372036854775808) (hn:ah u=false) (i:ah v=false) (hc:(aX u=true/\aX v=true/\(szI v==0)=false/\(szI u==0)=false)\/(aX u=true/\aX v=false/\(szI v==0)=false)\/(aX u=false/\aX v=true/\(szI u==0)=false)) :
  Calls Tryz.prog 63 #[.int .u64 u,.int .u64 v] w fun e a=>e=.returned (.int .u64 (S+9218868437227405312))/\a=w:=by
 rcases hc with⟨f,d,c,k⟩| ⟨f,d,c⟩| ⟨f,d,c⟩
 all_goals
  go_enter Tryz.func63,Tryz.ntmps63
  go_wp2_with (first | (go_at_call_of 49 (Value.int IntKind.u64 u);refine (aj u _ h).mono ?_;rintro e a ⟨rfl,rfl⟩) | (go_at_call_of 49 (Value.int IntKind.u64 v);refine (aj v _ b).mono ?_;rintro e a ⟨rfl,rfl⟩) | (go_at_call_of 72 (Value.int IntKind.u64 u);refine (av u _ h).mono ?_;rintro e a ⟨rfl,rfl⟩) | (go_at_call_of 72 (Value.int IntKind.u64 v);refine (av v _ b).mono ?_;rintro e a ⟨rfl,rfl⟩) | (go_at_call_of 76 (Value.int IntKind.u64 u);refine (aH u _ h).mono ?_;rintro e a ⟨rfl,rfl⟩) | (go_at_call_of 76 (Value.int IntKind.u64 v);refine (aH v _ b).mono ?_;rintro e a ⟨rfl,rfl⟩))
  go_ret
  exact⟨rfl,rfl⟩
theorem aG {P:Program} {f:Nat} {args:Array Value} {w:World} {Q:Ending->Prop} (h:Calls P f args w fun e c=>Q e/\c=w):Calls P f args w fun e c=>Q e/\w=c:=
 h.mono fun _ _ ⟨a,b⟩=>⟨a,b.symm⟩
theorem iz (u r:Int) (w:World) (h:U64 u) (d:szI u=r) :
  Calls Tryz.prog 76 #[.int .u64 u] w fun e c=>e=.returned (.int .u64 r)/\w=c:=by
 rw [<- d];exact (aH u w h).mono fun _ _ ⟨a,b⟩=>⟨a,b.symm⟩
theorem AU (x y:Nat) (u v S R:Int) (w:World) (hu:Hid (u=(x:Int))) (hv:Hid (v=(y:Int))) (h:U64 u) (G:U64 v) (K:ag x) (T:ag y) (hS:bits .and .u64 (bits .xor .u64 u v) 9223372036854775808=S) (ab:0<=S) (ad:S<=9223372036854775808) (hR:Hid (lA (aV x*aV y)=R)) (hn:ah u=false) (n:ah v=false) (hi:aX u=false) (s:aX v=false) :
  Calls Tryz.prog 63 #[.int .u64 u,.int .u64 v] w fun e a=>e=.returned (.int .u64 (S+R))/\Below w.heap.size w a:=by
 have m:=aa K;have l:=aa T;obtain⟨M,Q⟩:=Iz (aV x*aV y);rw [hR.out] at M Q
 have z:=aa (aj u · h);have C:=aa (aj v · G);have i:=aa (av u · h);have j:=aa (av v · G);rw [hn] at z
 rw [n] at C
 rw [hi] at i
 rw [s] at j
 have J:=aa fun w=>eL x u w hu h K
 have P:=aa fun w=>eL y v w hv G T
 clear K T hn n hi s h G
 go_enter Tryz.func63,Tryz.ntmps63
 go_wp2_with fail
 refine (aG (z.out _)).mono ?_
 rintro e a ⟨rfl,rfl⟩
 go_wp2_with fail
 refine (aG (C.out _)).mono ?_
 rintro e a ⟨rfl,rfl⟩
 go_wp2_with fail
 refine (aG (i.out _)).mono ?_
 rintro e a ⟨rfl,rfl⟩
 go_wp2_with fail
 refine (aG (j.out _)).mono ?_
 rintro e a ⟨rfl,rfl⟩
 go_wp2_with fail
 refine (aG (i.out _)).mono ?_
 rintro e a ⟨rfl,rfl⟩
 go_wp2_with fail
 refine (aG (j.out _)).mono ?_
 rintro e a ⟨rfl,rfl⟩
 go_wp2_with fail
 refine (J.out _).mono ?_
 rintro r w1 ⟨nx,vx,X,ex,rfl,p,hX,t⟩;have c:=aa t;have F:=aa p;have m:=aa hX;clear t p hX
 go_wp2_with fail
 refine (P.out _).mono ?_
 rintro r w2 ⟨ny,vy,Y,ey,rfl,o,hY,g⟩;have d:=aa (c.out.trans (g.mono c.out.size));have b:=aa (F.out.below g);have D:=aa o;have l:=aa hY;clear g o hY c F;have HT:=aa (tf nx ny vx vy ex ey X Y w2 b.out D.out (by have:=dw m.out.lt;omega) (by have:=dw l.out.lt;omega) (by have:=m.out.lo;omega) (by have:=m.out.hi;omega) (by have:=l.out.lo;omega) (by have:=l.out.hi;omega))
 go_wp2_with fail
 refine HT.out.mono ?_
 rintro r w3 ⟨neg,vs,N,E,rfl,A,L,W,hE,B⟩;have k:=aa (d.out.trans (B.mono d.out.size));obtain⟨U,H,q3,q4,V⟩:=MI m.out l.out W hE;rw [hR.out] at H
 have f:=aa (gJ neg vs E N w3 A q3 q4 V);obtain⟨Z,hZ⟩:∃ Z,bN neg N E false=Z:=⟨_,rfl⟩;rw [hZ] at f U H
 have I:Hid (∀ w,Calls Tryz.prog 76 #[.int .u64 Z] w fun e a=>e=.returned (.int .u64 R)/\w=a):=fun w=>iz Z R w U H
 clear A L W hE B d U H q3 q4 V hZ HT b D m l
 go_wp2_with fail
 refine f.out.mono ?_
 rintro r w4 ⟨rfl,q⟩;have O:=aa (k.out.trans (q.mono k.out.size));clear q f k
 go_wp2_with fail
 refine (I.out _).mono ?_
 rintro r w5 ⟨rfl,rfl⟩
 go_wp2_with fail
 go_ret
 exact⟨rfl,O.out⟩
theorem Dl (s:Bool):0<=gO s/\gO s<=9223372036854775808:=by unfold gO;split<;>omega
theorem eE (s:Bool) (r:Nat):(wrd s r:Int)=gO s+r:=by unfold wrd gO;cases s<;>simp
theorem cX (x y:Nat) (u v:Int) (w:World) (l:Hid (u=(x:Int))) (j:Hid (v=(y:Int))) (h:U64 u) (g:U64 v) :
  Calls Tryz.prog 63 #[.int .u64 u,.int .u64 v] w fun e q=>e=.returned (.int .u64 (cn (floatBits .mul .f64 x y):Int))/\Below w.heap.size w q:=by
 have A:=vk h g;obtain⟨s,z⟩:=Dl (sgB u^^sgB v);have o:x<18446744073709551616:=by have:=h.2;rw [l.out] at this;omega
 have n:y<18446744073709551616:=by have:=g.2;rw [j.out] at this;omega
 have i:sgB u=sB x:=by rw [l.out];exact gh o
 have k:sgB v=sB y:=by rw [j.out];exact gh n
 have C:=bL l.out;have E:=bL j.out;have same:∀ {r:Int},(Calls Tryz.prog 63 #[.int .u64 u,.int .u64 v] w fun e q=>e=.returned (.int .u64 r)/\q=w)->(cn (floatBits .mul .f64 x y):Int)=r->Calls Tryz.prog 63 #[.int .u64 u,.int .u64 v] w fun e q=>e=.returned (.int .u64 (cn (floatBits .mul .f64 x y):Int))/\Below w.heap.size w q:=fun F e=>by
  rw [e];exact F.mono fun _ _ ⟨a,b⟩=>⟨a,by rw [b];exact Below.refl _ _⟩
 cases f:ah u with
 | true=>
  refine same (iw u v w h g (Or.inl f)) ?_
  rw [eD (by rw [<- l.out];exact f)];rfl
 | false=>
  cases c:ah v with
  | true=>
   refine same (iw u v w h g (Or.inr (Or.inl ⟨f,c⟩))) ?_
   rw [fu (by rw [<- j.out];exact c)];rfl
  | false=>
   cases hi:aX u with
   | true=>
    have B:=iv l.out hi;cases d:aX v with
    | true=>
     have p:=iv j.out d;refine same (kH u v _ w h g A s z f c (Or.inl ⟨hi,d,by rw [E,p];rfl,by rw [C,B];rfl⟩)) ?_
     rw [xu B p,ao,eE,i,k];rfl
    | false=>
     have t:=fK j.out c d
     by_cases m:y % 9223372036854775808=0
     ·refine same (iw u v w h g (Or.inr (Or.inr (Or.inl ⟨f,c,hi,by rw [E,m];rfl⟩)))) ?_
      rw [(lC B m).1];rfl
     ·refine same (kH u v _ w h g A s z f c (Or.inr (Or.inl ⟨hi,d,by rw [E];simp;omega⟩))) ?_
      rw [(gk B t m).1,ao,eE,i,k];rfl
   | false=>
    have D:=fK l.out f hi;cases d:aX v with
    | true=>
     have p:=iv j.out d
     by_cases m:x % 9223372036854775808=0
     ·refine same (iw u v w h g (Or.inr (Or.inr (Or.inr ⟨f,c,hi,d,by rw [C,m];rfl⟩)))) ?_
      rw [(lC p m).2];rfl
     ·refine same (kH u v _ w h g A s z f c (Or.inr (Or.inr ⟨hi,d,by rw [C];simp;omega⟩))) ?_
      rw [(gk p D m).2,ao,eE,i,k];rfl
    | false=>
     have t:=fK j.out c d;have e:(cn (floatBits .mul .f64 x y):Int)=gO (sgB u^^sgB v)+lA (aV x*aV y):=by rw [gg D t,ao,MH,i,k]
     rw [e];exact AU x y u v _ _ w l j h g D t A s z rfl f c hi d
theorem xv (x:Nat):vI x=sg (sB x) (aV x):=rfl
theorem iA (neg:Bool) (N k:Nat):sg neg (N*k)=sg neg N*(k:Int):=by
 unfold sg;cases neg<;>simp [Int.neg_mul]
theorem aT (neg:Bool):sg neg 0=0:=by cases neg<;>rfl
theorem xx {x X n k:Nat} {nx:Bool} {ex:Int} (h:OfR x nx X ex) (b:X≠0->n+k=(ex+1074).toNat):sg nx (X*2^n)*((2^k:Nat):Int)=vI x:=by
 rw [<- iA,Nat.mul_assoc,<- Nat.pow_add,xv,<- h.val]
 by_cases a:X=0
 ·rw [a,Nat.zero_mul,Nat.zero_mul,aT,aT]
 ·rw [b a,h.sgn a]
structure AddR (x y X Y:Nat) (nx ny:Bool) (ex ey E:Int) (n m k:Nat):Prop where
 hn:X≠0->ex - E=(n:Int)
 hm:Y≠0->ey - E=(m:Int)
 hn1:n<=3000
 hm1:m<=3000
 lo: -1074<=E
 hi:E<=971
 hk:E+1074=(k:Int)
 had:nd (X*2^n)<=10000000
 hbd:nd (Y*2^m)<=10000000
 val:(sg nx (X*2^n)+sg ny (Y*2^m))*((2^k:Nat):Int)=vI x+vI y
 small:∃ K,K<=3100/\(sg nx (X*2^n)+sg ny (Y*2^m)).natAbs<2^K
theorem tq {X n K:Nat} (c:K=3060) (h:X<9007199254740992) (hn:n<=3000):X*2^n<2^K:=by
 have b:(2:Nat)^n<=2^(K - 60):=Nat.pow_le_pow_right (by decide) (by omega)
 have a:X*2^n<2^53*2^(K - 60):=Nat.mul_lt_mul_of_lt_of_le h b (Nat.two_pow_pos _);rw [<- Nat.pow_add] at a
 exact Nat.lt_of_lt_of_le a (Nat.pow_le_pow_right (by decide) (by omega))
theorem mN {X K:Nat} (a:K<=3100) (h:X<2^K):nd X<=1000:=by
 obtain⟨k,b⟩:∃ k:Nat,k=97:=⟨_,rfl⟩;have:=bP (N:=X) (k:=k) (Nat.lt_of_lt_of_le h (Nat.pow_le_pow_right (by decide) (by omega)))
 omega
theorem EJ {a b P Q:Nat} {s t:Bool} (e:a<P) (d:b<P) (c:P+P<=Q):(sg s a+sg t b).natAbs<Q:=by
 unfold sg;cases s<;>cases t<;>simp only [Bool.false_eq_true,if_true,if_false]<;>omega
theorem MJ {x y X Y:Nat} {nx i:Bool} {ex ey E:Int} (d:OfR x nx X ex) (c:OfR y i Y ey) (r:iY X ex Y ey=E):∃ n m k,AddR x y X Y nx i ex ey E n m k:=by
 have s:=d.lo;have q:=d.hi;have t:=c.lo;have p:=c.hi;have e: -1074<=E/\E<=971/\(X≠0->E<=ex)/\(Y≠0->E<=ey):=by
  rw [<- r];unfold iY
  by_cases a:X=0
  ·rw [if_pos a];refine⟨t,p,fun h=>absurd a h,fun _=>Int.le_refl _⟩
  ·rw [if_neg a]
   by_cases b:Y=0
   ·rw [if_pos b];exact⟨s,q,fun _=>Int.le_refl _,fun h=>absurd b h⟩
   ·rw [if_neg b];refine⟨by omega,by omega,fun _=>by omega,fun _=>by omega⟩
 obtain⟨u,v,j,g⟩:=e;obtain⟨K,o⟩:∃ K:Nat,K=3060:=⟨_,rfl⟩;have l:=tq (n:=(ex - E).toNat) o d.lt (by omega)
 have f:=tq (n:=(ey - E).toNat) o c.lt (by omega)
 refine⟨(ex - E).toNat,(ey - E).toNat,(E+1074).toNat,⟨fun h=>by have:=j h;omega,fun h=>by have:=g h;omega,by omega,by omega,u,v,by omega,?_,?_,?_,?_⟩⟩
 ·exact Nat.le_trans (mN (by omega) l) (by decide)
 ·exact Nat.le_trans (mN (by omega) f) (by decide)
 ·rw [Int.add_mul,xx d (fun h=>by have:=j h;omega),xx c (fun h=>by have:=g h;omega)]
 ·refine⟨K+1,by omega,EJ l f ?_⟩
  rw [Nat.pow_succ];omega
theorem kI {neg:Bool} {N:Nat} (h:N≠0):decide (sg neg N<0)=neg:=by
 unfold sg;cases neg
 ·simp
 ·simp;omega
theorem ji {S:Int} (k:Nat):(S*((2^k:Nat):Int)<0↔S<0)/\(S*((2^k:Nat):Int)=0↔S=0):=by
 have a:(0:Int)<((2^k:Nat):Int):=by have:=Nat.two_pow_pos k;omega
 refine⟨⟨fun h=>?_,fun h=>Int.mul_neg_of_neg_of_pos h a⟩,⟨fun h=>?_,fun h=>by rw [h,Int.zero_mul]⟩⟩
 ·by_cases b:S<0
  ·exact b
  ·have:=Int.mul_nonneg (by omega:0<=S) (by omega:(0:Int)<=((2^k:Nat):Int));omega
 ·rcases Int.mul_eq_zero.1 h with h | h
  ·exact h
  ·omega
theorem ML {x y X Y n m k N:Nat} {nx q neg:Bool} {ex ey E a:Int} (h:AddR x y X Y nx q ex ey E n m k) (s:sg neg N=sg nx (X*2^n)+sg q (Y*2^m)) (r:a=E\/(a=0/\N=0)) (c:N≠0) :
  bN neg N a false=(jc (sB x) (sB y) (vI x+vI y):Int):=by
 obtain⟨S,d⟩:∃ S,sg neg N=S:=⟨_,rfl⟩;have p:=h.val;rw [<- s,d] at p
 have b:S≠0:=by
  intro e;rw [e] at d
  have:=bH neg N;rw [d] at this;exact c this.symm
 have i:S.natAbs=N:=by rw [<- d];exact bH neg N
 have f:a=E:=by
  rcases r with h | ⟨_,h⟩
  ·exact h
  ·exact absurd h c
 rw [fJ neg a c,f];unfold jc;rw [<- p];obtain⟨j,l⟩:=ji (S:=S) k;rw [if_neg (fun e=>b (l.1 e))]
 unfold aI;rw [if_neg (fun e=>b (l.1 e)),bg,i]
 have o:=bf c k E;rw [show E - (k:Int)= -1074 by have:=h.hk;omega] at o
 rw [o];have g:=kI (neg:=neg) c;rw [d] at g
 cases neg
 ·rw [if_neg (by decide),if_neg (fun e=>by have:=j.1 e;simp at g;omega)];omega
 ·rw [if_pos rfl,if_pos (j.2 (by simpa using g))];omega
theorem IA {r:Nat} (h:V r=0):r=0:=by
 have:=fD (r:=r) (s:=0);rw [bp] at this
 exact this.1 h
theorem IB {x y:Nat} {u v:Int} (c:u=(x:Int)) (p:v=(y:Int)) (h:U64 u) (o:U64 v) (a:vI x+vI y=0) :
  (((szI u==0)=true/\(u==v)=true)/\u=(jc (sB x) (sB y) (vI x+vI y):Int))\/(((szI u==0)=false\/((szI u==0)=true/\(u==v)=false))/\(0:Int)=(jc (sB x) (sB y) (vI x+vI y):Int)):=by
 have r:=bL c;have n:x<18446744073709551616:=by have:=h.2;omega
 have m:y<18446744073709551616:=by have:=o.2;omega
 unfold jc;rw [if_pos a];rw [xv,xv] at a
 by_cases d:szI u=0
 ·have j:x % 9223372036854775808=0:=by omega
  have b:aV x=0:=by unfold aV;rw [j];exact bp
  have l:aV y=0:=by
   rw [b,aT,Int.zero_add] at a
   have:=bH (sB y) (aV y);rw [a] at this;exact this.symm
  have q:y % 9223372036854775808=0:=IA l
  by_cases i:u=v
  ·left
   refine⟨⟨by rw [d];rfl,by rw [i];exact beq_self_eq_true v⟩,?_⟩
   have g:x=y:=by omega
   subst g;unfold sB;rcases (show x=0\/x=9223372036854775808 by omega) with e | e
   ·subst e;rw [c];rfl
   ·subst e;rw [c];rfl
  ·right
   refine⟨Or.inr ⟨by rw [d];rfl,by simpa using i⟩,?_⟩
   unfold sB;rcases (show x=0\/x=9223372036854775808 by omega) with e | e
   ·subst e;rfl
   ·subst e;rcases (show y=0\/y=9223372036854775808 by omega) with e | e
    ·subst e;rfl
    ·exact absurd (by rw [c,p,e]) i
 ·right
  refine⟨Or.inl (by simpa using d),?_⟩
  have b:aV x≠0:=fun e=>d (by have:=IA e;omega)
  cases f:sB x
  ·rfl
  ·cases k:sB y
   ·rfl
   ·rw [f,k] at a;unfold sg at a;simp at a;omega
theorem lD {x y:Nat} (c:x % 9223372036854775808=9218868437227405312) (a:ag y) (b:x<18446744073709551616):floatBits .add .f64 x y=some x/\floatBits .add .f64 y x=some x:=by
 have d:wrd (sB x) 9218868437227405312=x:=by
  unfold wrd sB;rcases (show x / 9223372036854775808=0\/x / 9223372036854775808=1 by omega) with e | e
  ·rw [e];simp;omega
  ·rw [e];simp;omega
 constructor
 ·show ((Ieee.double.read x).sum (Ieee.double.read y)).map Ieee.double.write=_
  rw [aS c,ax a]
  show some (Ieee.double.write (.infinity _))=_
  rw [dP];exact congrArg some d
 ·show ((Ieee.double.read y).sum (Ieee.double.read x)).map Ieee.double.write=_
  rw [aS c,ax a]
  show some (Ieee.double.write (.infinity _))=_
  rw [dP];exact congrArg some d
theorem pU {x y:Nat} (f:x % 9223372036854775808=9218868437227405312) (d:y % 9223372036854775808=9218868437227405312) (c:x<18446744073709551616) (b:y<18446744073709551616):floatBits .add .f64 x y=if x=y then some x else none:=by
 show ((Ieee.double.read x).sum (Ieee.double.read y)).map Ieee.double.write=_
 rw [aS f,aS d];rcases (show x=9218868437227405312\/x=18442240474082181120 by omega) with e | e<;>rcases (show y=9218868437227405312\/y=18442240474082181120 by omega) with a | a<;>subst e<;>subst a<;>decide+kernel
theorem kJ (u v:Int) (w:World) (h:U64 u) (b:U64 v) (hc:ah u=true\/(ah u=false/\ah v=true)\/(ah u=false/\ah v=false/\aX u=true/\aX v=true/\(u==v)=false)) :
  Calls Tryz.prog 50 #[.int .u64 u,.int .u64 v] w fun e a=>e=.returned (.int .u64 9221120237041090561)/\a=w:=by
 rcases hc with c | ⟨c,d⟩| ⟨c,d,g,f,i⟩
 all_goals
  go_enter Tryz.func50,Tryz.ntmps50
  go_wp2_with (first | (go_at_call_of 49 (Value.int IntKind.u64 u);refine (aj u _ h).mono ?_;rintro e a ⟨rfl,rfl⟩) | (go_at_call_of 49 (Value.int IntKind.u64 v);refine (aj v _ b).mono ?_;rintro e a ⟨rfl,rfl⟩) | (go_at_call_of 72 (Value.int IntKind.u64 u);refine (av u _ h).mono ?_;rintro e a ⟨rfl,rfl⟩) | (go_at_call_of 72 (Value.int IntKind.u64 v);refine (av v _ b).mono ?_;rintro e a ⟨rfl,rfl⟩))
  go_ret
  exact⟨rfl,rfl⟩
theorem kK (u v r:Int) (w:World) (h:U64 u) (c:U64 v) (hn:ah u=false) (i:ah v=false) (hc:(aX u=true/\aX v=true/\(u==v)=true/\r=u)\/(aX u=true/\aX v=false/\r=u)\/(aX u=false/\aX v=true/\r=v)) :
  Calls Tryz.prog 50 #[.int .u64 u,.int .u64 v] w fun e a=>e=.returned (.int .u64 r)/\a=w:=by
 rcases hc with⟨f,d,j,b⟩| ⟨f,d,b⟩| ⟨f,d,b⟩
 all_goals
  have g:=aa b;clear b
  go_enter Tryz.func50,Tryz.ntmps50
  go_wp2_with (first | (go_at_call_of 49 (Value.int IntKind.u64 u);refine (aj u _ h).mono ?_;rintro e a ⟨rfl,rfl⟩) | (go_at_call_of 49 (Value.int IntKind.u64 v);refine (aj v _ c).mono ?_;rintro e a ⟨rfl,rfl⟩) | (go_at_call_of 72 (Value.int IntKind.u64 u);refine (av u _ h).mono ?_;rintro e a ⟨rfl,rfl⟩) | (go_at_call_of 72 (Value.int IntKind.u64 v);refine (av v _ c).mono ?_;rintro e a ⟨rfl,rfl⟩))
  go_ret
  exact⟨bA g.out.symm,rfl⟩
theorem AW (x y:Nat) (u v R:Int) (w:World) (hu:Hid (u=(x:Int))) (hv:Hid (v=(y:Int))) (h:U64 u) (T:U64 v) (hx:ag x) (hy:ag y) (hR:Hid ((jc (sB x) (sB y) (vI x+vI y):Int)=R)) (hn:ah u=false) (I:ah v=false) (hi:aX u=false) (P:aX v=false) :
  Calls Tryz.prog 50 #[.int .u64 u,.int .u64 v] w fun e G=>e=.returned (.int .u64 R)/\Below w.heap.size w G:=by
 have S:=aa (aj u · h);have al:=aa (aj v · T);have C:=aa (av u · h);have W:=aa (av v · T);rw [hn] at S
 rw [I] at al
 rw [hi] at C
 rw [P] at W
 have M:=aa fun w=>eL x u w hu h hx
 have ai:=aa fun w=>eL y v w hv T hy
 have bc:=aa (aH u · h);have Z:=aa fun (hT:vI x+vI y=0)=>IB hu.out hv.out h T hT
 clear hx hy hn I hi P h T
 go_enter Tryz.func50,Tryz.ntmps50
 go_wp2_with fail
 refine (aG (S.out _)).mono ?_
 rintro e G ⟨rfl,rfl⟩
 go_wp2_with fail
 refine (aG (al.out _)).mono ?_
 rintro e G ⟨rfl,rfl⟩
 go_wp2_with fail
 refine (aG (C.out _)).mono ?_
 rintro e G ⟨rfl,rfl⟩
 go_wp2_with fail
 refine (aG (C.out _)).mono ?_
 rintro e G ⟨rfl,rfl⟩
 go_wp2_with fail
 refine (aG (W.out _)).mono ?_
 rintro e G ⟨rfl,rfl⟩
 go_wp2_with fail
 refine (M.out _).mono ?_
 rintro r w1 ⟨nx,vx,X,ex,rfl,L,hX,Q⟩;have s:=aa Q;have ba:=aa L;have HX:=aa hX;clear Q L hX
 go_wp2_with fail
 refine (ai.out _).mono ?_
 rintro r w2 ⟨ny,vy,Y,ey,rfl,J,hY,B⟩;have z:=aa (s.out.trans (B.mono s.out.size));have q:=aa (ba.out.below B);have am:=aa J;have HY:=aa hY;clear B J hY s ba;obtain⟨E,hE⟩:∃ E,iY X ex Y ey=E:=⟨_,rfl⟩;obtain⟨n,m,k,o⟩:=MJ HX.out HY.out hE;have HP:=aa (pK nx ny vx vy ex ey E X Y n m w2 q.out am.out hE o.hn o.hm (by have:=o.hn1;omega) (by have:=o.hm1;omega) (by have:=dw HX.out.lt;omega) (by have:=dw HY.out.lt;omega) o.had o.hbd)
 have H:=aa o;clear o hE
 go_wp2_with fail
 refine HP.out.mono ?_
 rintro r w3 ⟨neg,vs,N,O,rfl,A,bi,hs,t,ad⟩;have F:=aa (z.out.trans (ad.mono z.out.size));obtain⟨p,l,c,rfl⟩:=A.shape;have V:=aa A;have g:Hid (nd N<=1000000/\-10000000<=O/\O<=10000000):=by
  obtain⟨K,hK,h1⟩:=H.out.small;rw [<- hs,bH] at h1
  have h2:=mN hK h1;have h3:=H.out.lo;have h4:=H.out.hi;refine⟨by omega,?_,?_⟩ <;>rcases t with e | ⟨e,_⟩ <;>omega
 have HV:Hid (N≠0->bN neg N O false=R):=fun f=>by rw [<- hR.out];exact ML H.out hs t f
 have HT:Hid (N=0->vI x+vI y=0):=fun f=>by rw [<- H.out.val,<- hs,f,aT,Int.zero_mul]
 clear A bi hs t ad z H HP q am HX HY M ai;have d:=aa (aD w3 neg (.slice p l c) O);have j:=aa (V.out.below d.out);have a:=aa (F.out.trans (d.out.mono F.out.size))
 go_wp2_with fail
 by_cases f:N=0
 ·have D:=aa (Z.out (HT.out f));rw [hR.out] at D
  refine (aY _ _ _ N true _ j.out (decide_eq_true f)).mono ?_
  rintro r w4 ⟨rfl,b⟩;have i:=aa (a.out.trans (b.mono a.out.size));clear b f;rcases D.out with⟨⟨a1,a2⟩,a3⟩| ⟨a1 | ⟨a1,a2⟩,a3⟩
  all_goals
   have bh:=aa a3;clear a3 D
   go_wp2_with (go_at_call 76;refine (aG (bc.out _)).mono ?_;rintro r w5 ⟨rfl,rfl⟩)
   go_ret
   exact⟨bA bh.out,i.out⟩
 ·refine (aY _ _ _ N false _ j.out (decide_eq_false f)).mono ?_
  rintro r w4 ⟨rfl,b⟩;obtain⟨c0,c1,c2⟩:=jQ b;have i:=aa (a.out.trans (b.mono a.out.size));have U:=aa (gJ neg _ O N w4 (j.out.below b) g.out.1 g.out.2.1 g.out.2.2);rw [HV.out f] at U
  clear b f j d a F V g HV HT Z
  go_wp2_with fail
  refine U.out.mono ?_
  rintro r w5 ⟨rfl,ab⟩;have bb:=aa (i.out.trans (ab.mono i.out.size));clear ab
  go_wp2_with fail
  go_ret
  exact⟨rfl,bb.out⟩
theorem fM (x y:Nat) (u v:Int) (w:World) (k:Hid (u=(x:Int))) (i:Hid (v=(y:Int))) (h:U64 u) (l:U64 v) :
  Calls Tryz.prog 50 #[.int .u64 u,.int .u64 v] w fun e m=>e=.returned (.int .u64 (cn (floatBits .add .f64 x y):Int))/\Below w.heap.size w m:=by
 have g:x<18446744073709551616:=by have:=h.2;rw [k.out] at this;omega
 have f:y<18446744073709551616:=by have:=l.2;rw [i.out] at this;omega
 have same:∀ {r:Int},(Calls Tryz.prog 50 #[.int .u64 u,.int .u64 v] w fun e m=>e=.returned (.int .u64 r)/\m=w)->(cn (floatBits .add .f64 x y):Int)=r->Calls Tryz.prog 50 #[.int .u64 u,.int .u64 v] w fun e m=>e=.returned (.int .u64 (cn (floatBits .add .f64 x y):Int))/\Below w.heap.size w m:=fun t e=>by
  rw [e];exact t.mono fun _ _ ⟨a,b⟩=>⟨a,by rw [b];exact Below.refl _ _⟩
 cases j:ah u with
 | true=>
  refine same (kJ u v w h l (Or.inl j)) ?_
  rw [eD (by rw [<- k.out];exact j)];rfl
 | false=>
  cases d:ah v with
  | true=>
   refine same (kJ u v w h l (Or.inr (Or.inl ⟨j,d⟩))) ?_
   rw [fu (by rw [<- i.out];exact d)];rfl
  | false=>
   cases hi:aX u with
   | true=>
    have s:=iv k.out hi;cases c:aX v with
    | true=>
     have n:=iv i.out c
     by_cases p:x=y
     ·refine same (kK u v u w h l j d (Or.inl ⟨hi,c,by rw [k.out,i.out,p];exact beq_self_eq_true _,rfl⟩)) ?_
      rw [pU s n g f,if_pos p,ao,k.out]
     ·refine same (kJ u v w h l (Or.inr (Or.inr ⟨j,d,hi,c,?_⟩))) ?_
      ·rw [k.out,i.out];simp;omega
      ·rw [pU s n g f,if_neg p];rfl
    | false=>
     have o:=fK i.out d c;refine same (kK u v u w h l j d (Or.inr (Or.inl ⟨hi,c,rfl⟩))) ?_
     rw [(lD s o g).1,ao,k.out]
   | false=>
    have q:=fK k.out j hi;cases c:aX v with
    | true=>
     have n:=iv i.out c;refine same (kK u v v w h l j d (Or.inr (Or.inr ⟨hi,c,rfl⟩))) ?_
     rw [(lD n q f).2,ao,i.out]
    | false=>
     have o:=fK i.out d c;have e:cn (floatBits .add .f64 x y)=jc (sB x) (sB y) (vI x+vI y):=by rw [lv q o,ao];rfl
     rw [e];exact AW x y u v _ w k i h l q o rfl j d hi c
theorem xz {op:BinOp} (a:op=.add\/op=.sub\/op=.mul\/op=.quo) (x y:Nat):cn (floatBits op .f64 x y)<18446744073709551616:=by
 cases h:floatBits op .f64 x y with
 | none=>decide
 | some r=>exact cR a h
theorem pV:ah ((9221120237041090561:Nat):Int)=true:=by decide
theorem ID (o:Option Nat):Ag o (cn o):=by
 cases o with
 | none=>exact⟨pV,by decide⟩
 | some r=>rfl
def FitL (l:List Nat):Prop:=∀ x ∈ l,x<18446744073709551616
theorem FitL.get {l:List Nat} (h:FitL l) (i:Nat):l.getD i 0<18446744073709551616:=by
 by_cases hi:i<l.length
 ·have e:l.getD i 0=l[i]:=by simp [List.getD,List.getElem?_eq_getElem hi]
  rw [e];exact h _ (List.getElem_mem hi)
 ·have e:l.getD i 0=0:=by simp [List.getD,List.getElem?_eq_none (show l.length<=i by omega)]
  rw [e];decide
theorem xA (o:Option Nat) (x:Nat):floatBits .mul .f64 (cn o) x=o.bind fun p=>floatBits .mul .f64 p x:=by
 cases o with
 | none=>rw [lz,eD pV];rfl
 | some r=>rfl
theorem xB (o:Option Nat) (x:Nat):floatBits .add .f64 (cn o) x=o.bind fun p=>floatBits .add .f64 p x:=by
 cases o with
 | none=>rw [lz,eD pV];rfl
 | some r=>rfl
theorem pW (x c:Nat) (o:Option Nat):floatBits .add .f64 (cn (floatBits .mul .f64 (cn o) x)) c=gj x o c:=by
 rw [xA,xB];rfl
theorem kv (B n x:Nat) (v:Value) (u:Int) (cs:List Nat) (w:World) (V:OwnF w B 41 uV v cs) (Q:FitL cs) (hu:Hid (u=(x:Int))) (h:Hid (U64 u)) (r:cs.length=n) (hn:n<=1000000) :
  Calls Tryz.prog 103 #[v,.int .u64 u] w fun e C=>e=.returned (.int .u64 (cn (bj cs x):Int))/\Below w.heap.size w C:=by
 obtain⟨p,g,c,rfl,A,O⟩:=V.shape;rw [r];have HF:=hideS Q;have HN:=hideS r;have HR:=hideS O
 by_cases h0:n=0
 ·subst h0;have b:Hid (bj cs x=some 0):=by show _=_;unfold bj;rw [if_pos r]
  rw [b.out];clear V Q r A O HR HF HN
  go_enter Tryz.func103,Tryz.ntmps103
  go_wp2
  go_ret
  exact⟨rfl,Below.refl _ _⟩
 obtain⟨m,rfl⟩:∃ m,n=m+1:=⟨n - 1,by omega⟩
 obtain⟨rfl,_,hg⟩:=A (by omega)
 have ab:w.cell? ⟨g,m,none⟩=some (.int .u64 ((cs.getD m 0:Nat):Int)):=O m (by omega)
 have b:Hid (bj cs x=hornAt cs x m):=by show _=_;unfold bj;rw [if_neg (by omega),r];rfl
 have M:Hid (((cs.getD m 0:Nat):Int)=(cn (hornAt cs x 0):Int)):=by show _=_;unfold hornAt;rw [r];rfl
 have S:Hid (∀ i,hornAt cs x (i+1)=gj x (hornAt cs x i) (cs.getD (m - 1 - i) 0)):=fun i=>by
  show gj x (hornAt cs x i) (cs.getD (cs.length - 2 - i) 0)=_
  rw [r];rfl
 have L:=hideS (af (Q.get m));generalize ((cs.getD m 0:Nat):Int)=p0 at ab M L
 rw [b.out];obtain⟨G,o⟩:∃ G:Int,(cn (hornAt cs x m):Int)=G:=⟨_,rfl⟩;rw [o];have U:=hideS o;have al:((m:Int)+1==0)=false:=by simp;omega
 clear V Q r A O h0 b o
 go_enter Tryz.func103,Tryz.ntmps103
 go_wp2_with fail
 go_loopw [5,6] (fun s i wr=>∃ (t a:Int),-1<=t/\t<(m:Int)/\i=.int .i64 t/\s=.int .u64 a/\Hid (∃ k:Nat,(k:Int)=(m:Int) - 1 - t/\a=(cn (hornAt cs x k):Int))/\Hid (U64 a)/\Hid (Below w.heap.size w wr)) (fun _ i _=>(intOf i+1).toNat)
 case atStart=>exact⟨(m:Int) - 1,p0,by omega,by omega,by congr 1;omega,rfl,⟨0,by omega,M.out⟩,L,Below.refl _ _⟩
 case round=>
  obtain⟨t,a,X,ad,rfl,rfl,HK,HU,J⟩:=hrel
  by_cases R:0<=t
  ·obtain⟨j,rfl⟩:=Int.eq_ofNat_of_zero_le R;obtain⟨k,hk,A⟩:=HK.out;have HA:=hideS A;have hj:m - 1 - k=j:=by omega
   have K:j<cs.length:=by rw [HN.out];omega
   have d:wr.cell? ⟨g,j,none⟩=some (.int .u64 ((cs.getD j 0:Nat):Int)):=(J.out.cell (p:=⟨g,j,none⟩) hg).trans (HR.out j K);have f:=hideS (S.out k);rw [hj] at f
   have E:=hideS (af (HF.out.get j));obtain⟨y,hy⟩:∃ y:Nat,cs.getD j 0=y:=⟨_,rfl⟩;rw [hy] at d f E
   obtain⟨N,I⟩:∃ N:Int,N=(y:Int):=⟨_,rfl⟩;rw [<- I] at d E
   have T:=hideS I;have F:g<wr.heap.size:=Nat.lt_of_lt_of_le hg J.out.size;obtain⟨q,P⟩:∃ q:Int,q=(cn (floatBits .mul .f64 (cn (hornAt cs x k)) x):Int):=⟨_,rfl⟩;obtain⟨z,W⟩:∃ z:Int,z=(cn (hornAt cs x (k+1)):Int):=⟨_,rfl⟩;have HM:Hid (∀ w,Calls Tryz.prog 63 #[.int .u64 a,.int .u64 u] w fun e C=>e=.returned (.int .u64 q)/\Below w.heap.size w C):=fun w=>by rw [P];exact cX _ x a u w HA hu HU.out h.out
   have HD:Hid (∀ w,Calls Tryz.prog 50 #[.int .u64 q,.int .u64 N] w fun e C=>e=.returned (.int .u64 z)/\Below w.heap.size w C):=fun w=>by
    have:=fM (cn (floatBits .mul .f64 (cn (hornAt cs x k)) x)) y q N w P T (by rw [P];exact af (xz (by simp) _ _)) E.out
    rw [pW,<- f.out,<- W] at this
    exact this
   have HZ:Hid (z=(cn (hornAt cs x (k+1)):Int)):=W;have Y:Hid (U64 z):=by rw [HZ.out,f.out,<- pW];exact af (xz (by simp) _ _)
   have HK2:Hid (∃ k:Nat,(k:Int)=(m:Int) - 1 - ((j:Int) - 1)/\z=(cn (hornAt cs x k):Int)):=⟨k+1,by omega,HZ.out⟩
   have ai:(j:Int)<(m:Int)+1:=by omega
   clear P W I hy hj f HA hk A K HK X
   go_wp2_with fail
   go_region_held3 (fun C=>C.cell? ⟨g,j,none⟩=some (.int .u64 N)) (first | exact d | exact (l.cell (p:=⟨g,j,none⟩) F).trans d | exact (D.cell (p:=⟨g,j,none⟩) (Nat.lt_of_lt_of_le F l.size)).trans ((l.cell (p:=⟨g,j,none⟩) F).trans d) | go_keep) (first | ((go_at_call 63;refine (HM.out _).mono ?_;rintro e w3 ⟨rfl,l⟩)) | ((go_at_call 50;refine (HD.out _).mono ?_;rintro e w4 ⟨rfl,D⟩)))
   have H:=hideS (J.out.drew.trans (l.mono (show w.heap.size<=wr.heap.size from J.out.size)))
   have Z:=hideS (H.out.trans (D.mono H.out.size));clear l D H HM HD
   go_wp2_with fail
   go_roundw
   case rel=>exact⟨(j:Int) - 1,z,by omega,by omega,rfl,rfl,HK2,Y,Z⟩
   case measure=>simp [intOf]
  ·obtain rfl:t= -1:=by omega
   have HE:Hid (a=G):=by
    obtain⟨k,hk,A⟩:=HK.out;have:k=m:=by omega
    rw [<- U.out,<- this];exact A
   clear HK;go_wp2
   go_ret
   exact⟨bA HE.out,J.out⟩
end Go.Proofs.YtfdddijdjpijbaaGreat
