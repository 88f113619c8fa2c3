/-  -/
import Derived.Test.YtfdddijdjpijbaaGreatHaw
import Derived.Test.YtfdddijdjpijbaaGreatHar
import Derived.Deep.RegionHeld3
import Derived.Test.YtfdddijdjpijbaaGreatHau
import Derived.Test.YtfdddijdjpijbaaGreatHas
import Derived.LoopTactic
import Derived.Sort.Row
import Derived.Deep.LoopGhost
import Derived.Test.YtfdddijdjpijbaaGreatHaq
set_option maxHeartbeats 3200000
set_option maxRecDepth 20000
namespace Go.Proofs.YtfdddijdjpijbaaGreat
open Go.RowKit
def iY (X:Nat) (ex:Int) (Y:Nat) (ey:Int):Int:=if X=0 then ey else if Y=0 then ex else min ex ey
def sg (neg:Bool) (N:Nat):Int:=if neg then -(N:Int) else (N:Int)
abbrev boxN (w:World) (n:Bool) (v:Value) (e:Int):World:=w.alloc (.cells #[.bool n,v,.int .i64 e] 83)
theorem aD (w:World) (n:Bool) (v:Value) (e:Int):Below w.heap.size w (boxN w n v e):=(Below.refl _ _).alloc (Nat.le_refl _) _
def Six (w:World) (B:Nat) (nx:Bool) (b:Value) (ex:Int) (c:Bool) (a:Value) (ey:Int):Prop:=
 w.cell? ⟨B,0,none⟩=some (.bool nx)/\w.cell? ⟨B,1,none⟩=some b/\w.cell? ⟨B,2,none⟩=some (.int .i64 ex)/\
 w.cell? ⟨B+1,0,none⟩=some (.bool c)/\w.cell? ⟨B+1,1,none⟩=some a/\w.cell? ⟨B+1,2,none⟩=some (.int .i64 ey)
theorem ve (w:World) (nx:Bool) (a:Value) (ex:Int) (d:Bool) (c:Value) (ey:Int):Six (boxN (boxN w nx a ex) d c ey) w.heap.size nx a ex d c ey:=by
 have b:=aD (boxN w nx a ex) d c ey;have f:w.heap.size<(boxN w nx a ex).heap.size:=by simp
 refine⟨?_,?_,?_,?_,?_,?_⟩
 ·rw [b.cell (p:=⟨w.heap.size,0,none⟩) f];simp
 ·rw [b.cell (p:=⟨w.heap.size,1,none⟩) f];simp
 ·rw [b.cell (p:=⟨w.heap.size,2,none⟩) f];simp
 ·have e:w.heap.size+1=(boxN w nx a ex).heap.size:=by simp
  rw [e];simp
 ·have e:w.heap.size+1=(boxN w nx a ex).heap.size:=by simp
  rw [e];simp
 ·have e:w.heap.size+1=(boxN w nx a ex).heap.size:=by simp
  rw [e];simp
theorem Six.below {w m:World} {B:Nat} {nx l:Bool} {k j:Value} {ex ey:Int} {s:Nat} (h:Six w B nx k ex l j ey) (g:Below s w m) (i:B+1<s):Six m B nx k ex l j ey:=by
 obtain⟨a,b,c,d,e,f⟩:=h;exact⟨(g.cell (p:=⟨B,0,none⟩) (by show B<s;omega)).trans a,(g.cell (p:=⟨B,1,none⟩) (by show B<s;omega)).trans b,(g.cell (p:=⟨B,2,none⟩) (by show B<s;omega)).trans c,(g.cell (p:=⟨B+1,0,none⟩) i).trans d,(g.cell (p:=⟨B+1,1,none⟩) i).trans e,(g.cell (p:=⟨B+1,2,none⟩) i).trans f⟩
theorem gK (w:World) (nx:Bool) (b:Value) (ex:Int) (c:Bool) (a:Value) (ey:Int):(boxN (boxN w nx b ex) c a ey).heap.size=w.heap.size+2:=by simp
theorem xp (nx m:Bool) (i k:Value) (ex ey:Int) (X Y:Nat) (w:World) (z:DN w i X) (y:DN w k Y) :
  Calls Tryz.prog 112 #[.agg #[.bool nx,i,.int .i64 ex],.agg #[.bool m,k,.int .i64 ey]] w fun e G=>e=.returned (.int .i64 (iY X ex Y ey))/\Below w.heap.size w G:=by
 have o:=aD w nx i ex;have f:Below w.heap.size w (boxN (boxN w nx i ex) m k ey):=o.trans ((aD (boxN w nx i ex) m k ey).mono (by simp))
 have u:=aa (z.below f);have l:=aa (y.below f);have t:=aa f;have s:=aa (ve w nx i ex m k ey);have g:=aa (gK w nx i ex m k ey);clear o f z y;unfold iY
 by_cases d:X=0
 ·subst d;rw [if_pos rfl]
  go_enter Tryz.func112,Tryz.ntmps112
  go_wp2_with fail
  refine (aY _ _ _ 0 true _ u.out rfl).mono ?_
  rintro x n ⟨rfl,a⟩;have h:=aa (s.out.below a (by rw [g.out];omega))
  have r:w.heap.size+1<n.heap.size:=by have p:=a.size;rw [g.out] at p;omega
  obtain⟨c0,c1,c2,c3,c4,q⟩:=h.out;have c:=aa a;clear a
  go_wp2_with fail
  go_ret
  exact⟨rfl,t.out.trans (c.out.mono (by rw [g.out];omega))⟩
 ·rw [if_neg d];have v:=aa d;clear d
  by_cases d:Y=0
  ·subst d;rw [if_pos rfl]
   go_enter Tryz.func112,Tryz.ntmps112
   go_wp2_with fail
   refine (aY _ _ _ X false _ u.out (decide_eq_false v.out)).mono ?_
   rintro x n ⟨rfl,a⟩;have h:=aa (s.out.below a (by rw [g.out];omega))
   have r:w.heap.size+1<n.heap.size:=by have p:=a.size;rw [g.out] at p;omega
   obtain⟨c0,c1,c2,c3,c4,q⟩:=h.out;have c:=aa a;have l:=aa (l.out.below a);clear a
   go_wp2_with fail
   refine (aY _ _ _ 0 true _ l.out rfl).mono ?_
   rintro x H ⟨rfl,b⟩;obtain⟨D,A,F,C,E,I⟩:=h.out.below b r;clear c0 c1 c2 c3 c4 q;have j:=aa b;clear b
   go_wp2_with fail
   go_ret
   exact⟨rfl,(t.out.trans (c.out.mono (by rw [g.out];omega))).trans (j.out.mono (by omega))⟩
  ·rw [if_neg d];have B:=aa d;clear d
   go_enter Tryz.func112,Tryz.ntmps112
   go_wp2_with fail
   refine (aY _ _ _ X false _ u.out (decide_eq_false v.out)).mono ?_
   rintro x n ⟨rfl,a⟩;have h:=aa (s.out.below a (by rw [g.out];omega))
   have r:w.heap.size+1<n.heap.size:=by have p:=a.size;rw [g.out] at p;omega
   obtain⟨c0,c1,c2,c3,c4,q⟩:=h.out;have c:=aa a;have l:=aa (l.out.below a);clear a
   go_wp2_with fail
   refine (aY _ _ _ Y false _ l.out (decide_eq_false B.out)).mono ?_
   rintro x H ⟨rfl,b⟩;obtain⟨D,A,F,C,E,I⟩:=h.out.below b r;clear c0 c1 c2 c3 c4 q;have j:=aa b;clear b
   go_wp2_with fail
   go_ret
   exact⟨rfl,(t.out.trans (c.out.mono (by rw [g.out];omega))).trans (j.out.mono (by omega))⟩
theorem oP (nx:Bool) (g:Value) (ex e:Int) (X n:Nat) (w:World) (o:DN w g X) (hn:X≠0->ex - e=(n:Int)) (m:n<=100000000) (l:nd X<=10000000) :
  Calls Tryz.prog 113 #[.agg #[.bool nx,g,.int .i64 ex],.int .i64 e] w fun x q=>∃ v,x=.returned v/\DN q v (X*2^n)/\Below w.heap.size w q:=by
 have j:=aa (aD w nx g ex);have k:=aa (o.below j.out);clear o
 by_cases f:X=0
 ·subst f;rw [Nat.zero_mul]
  go_enter Tryz.func113,Tryz.ntmps113
  go_wp2_with fail
  refine (aY _ _ _ 0 true _ k.out rfl).mono ?_
  rintro x p ⟨rfl,a⟩;have b:=aa a;clear a
  go_wp2_with fail
  go_ret
  exact⟨_,rfl,Or.inl ⟨rfl,_,_,rfl⟩,j.out.trans (b.out.mono (by simp))⟩
 ·have u:=hn f;have r:=aa f;clear f hn
  go_enter Tryz.func113,Tryz.ntmps113
  go_wp2_with fail
  refine (aY _ _ _ X false _ k.out (decide_eq_false r.out)).mono ?_
  rintro x p ⟨rfl,a⟩;obtain⟨c1,y⟩:=xh a;have b:=aa a;have s:=aa (k.out.below a);clear a
  go_wp2_with fail
  refine (nI g X n _ s.out l m).mono ?_
  rintro x z ⟨A,rfl,d,c⟩;have h:=aa c;have i:=aa d;clear c d;have t:w.heap.size<=p.heap.size:=by have:=b.out.size;simp at this;omega
  go_wp2_with fail
  go_ret
  exact⟨_,rfl,i.out,(j.out.trans (b.out.mono (by simp))).trans (h.out.mono t)⟩
abbrev pbox (w:World) (nx:Bool) (b:Value) (ex:Int) (c:Bool) (a:Value) (ey:Int):World:=boxN (boxN (boxN w nx b ex) c a ey) false (.slice none 0 0) 0
theorem jS (w:World) (nx:Bool) (b:Value) (ex:Int) (c:Bool) (a:Value) (ey:Int):(pbox w nx b ex c a ey).heap.size=w.heap.size+3:=by simp
theorem dM (w:World) (nx:Bool) (a:Value) (ex:Int) (c:Bool) (b:Value) (ey:Int):Below w.heap.size w (pbox w nx a ex c b ey):=
 ((aD w nx a ex).trans ((aD (boxN w nx a ex) c b ey).mono (by simp))).trans ((aD _ _ _ _).mono (by rw [gK];omega))
theorem ls (w:World) (nx:Bool) (b:Value) (ex:Int) (c:Bool) (a:Value) (ey:Int):Six (pbox w nx b ex c a ey) w.heap.size nx b ex c a ey:=
 (ve w nx b ex c a ey).below (aD _ _ _ _) (by rw [gK];omega)
theorem From.mono {A B:Nat} {v:Value} (h:From B v) (b:A<=B):From A v:=fun a l c e=>Nat.le_trans b (h a l c e)
theorem Mq (w:World) (n:Bool) (v:Value) (e:Int) :
  ((boxN w n v e).cell? ⟨w.heap.size,0,none⟩=some (.bool n)/\(boxN w n v e).cell? ⟨w.heap.size,1,none⟩=some v/\(boxN w n v e).cell? ⟨w.heap.size,2,none⟩=some (.int .i64 e))/\
  ((boxN w n v e).frozen? ⟨w.heap.size,0,none⟩=false/\(boxN w n v e).frozen? ⟨w.heap.size,1,none⟩=false/\(boxN w n v e).frozen? ⟨w.heap.size,2,none⟩=false):=by
 refine⟨⟨?_,?_,?_⟩,?_,?_,?_⟩ <;>first | exact World.frozen?_alloc_new _ _ _ _ | simp
theorem cP {w g:World} {nx m:Bool} {l k:Value} {ex ey:Int} (i:Below (w.heap.size+3) (pbox w nx l ex m k ey) g) :
  (g.cell? ⟨w.heap.size+1+1,0,none⟩=some (.bool false)/\g.cell? ⟨w.heap.size+1+1,1,none⟩=some (.slice none 0 0)/\g.cell? ⟨w.heap.size+1+1,2,none⟩=some (.int .i64 0))/\
  (g.frozen? ⟨w.heap.size+1+1,0,none⟩=false/\g.frozen? ⟨w.heap.size+1+1,1,none⟩=false/\g.frozen? ⟨w.heap.size+1+1,2,none⟩=false):=by
 have j:w.heap.size+1+1<w.heap.size+3:=by omega
 have h:=Mq (boxN (boxN w nx l ex) m k ey) false (.slice none 0 0) 0;rw [gK] at h
 obtain⟨⟨a,b,c⟩,d,e,f⟩:=h;exact⟨⟨(i.cell (p:=⟨w.heap.size+1+1,0,none⟩) j).trans a,(i.cell (p:=⟨w.heap.size+1+1,1,none⟩) j).trans b,(i.cell (p:=⟨w.heap.size+1+1,2,none⟩) j).trans c⟩,
  (i.frozen (p:=⟨w.heap.size+1+1,0,none⟩) j).trans d,(i.frozen (p:=⟨w.heap.size+1+1,1,none⟩) j).trans e,(i.frozen (p:=⟨w.heap.size+1+1,2,none⟩) j).trans f⟩
def gf (w:World) (E S:Int) (x:Ending) (e:World):Prop:=
 ∃ a b d c,x=.returned (.agg #[.bool a,b,.int .i64 c])/\DN e b d/\From w.heap.size b/\sg a d=S/\(c=E\/(c=0/\d=0))/\Below w.heap.size w e
theorem dN {w c:World} {nx g neg:Bool} {f e v:Value} {ex ey E S:Int} {N:Nat} (h:Below (w.heap.size+3) (pbox w nx f ex g e ey) c) (j:DN c v N) (b:From (w.heap.size+3) v) (i:sg neg N=S) :
  gf w E S (.returned (.agg #[.bool neg,v,.int .i64 E])) (((c.setCell ⟨w.heap.size+1+1,0,none⟩ (.bool neg)).setCell ⟨w.heap.size+1+1,1,none⟩ v).setCell ⟨w.heap.size+1+1,2,none⟩ (.int .i64 E)):=by
 refine⟨neg,v,N,E,rfl,((j.set b (a:=⟨w.heap.size+1+1,0,none⟩) (Nat.lt_succ_self _) _).set b (a:=⟨w.heap.size+1+1,1,none⟩) (Nat.lt_succ_self _) _).set b (a:=⟨w.heap.size+1+1,2,none⟩) (Nat.lt_succ_self _) _,b.mono (by omega),i,Or.inl rfl,?_⟩
 have d:w.heap.size<=w.heap.size+1+1:=by omega
 exact ((((dM w nx f ex g e ey).trans (h.mono (by omega))).setCell d _).setCell d _).setCell d _
theorem Ik (nx r:Bool) (D C:Value) (ex ey E:Int) (X Y n m a b:Nat) (w:World) (hX:DN w D X) (hY:DN w C Y)
  (hE:Hid (iY X ex Y ey=E)) (hn:X≠0->ex - E=(n:Int)) (hm:Y≠0->ey - E=(m:Int)) (bv:n<=1000000) (bs:m<=1000000) (bk:nd X<=1000000) (bi:nd Y<=1000000)
  (ha:Hid (X*2^n=a)) (hb:Hid (Y*2^m=b)) (bo:nd a<=10000000) (bc:nd b<=10000000) (hc:nx=r\/a=0\/b=0) :
  Calls Tryz.prog 73 #[.agg #[.bool nx,D,.int .i64 ex],.agg #[.bool r,C,.int .i64 ey]] w (gf w E (sg nx a+sg r b)):=by
 have T:=aa (dM w nx D ex r C ey);have HZ:=aa (jS w nx D ex r C ey);have ac:=aa (ls w nx D ex r C ey);have V:=aa (hX.below T.out);have M:=aa (hY.below T.out);have U:=aa (xp nx r D C ex ey X Y _ V.out M.out);rw [hE.out] at U
 have ai:=aa hn;have HM:=aa hm;have HC:=aa hc;clear hX hY hn hm hc
 go_enter Tryz.func73,Tryz.ntmps73
 go_wp2_with fail
 refine U.out.mono ?_
 rintro x w1 ⟨rfl,y⟩;have bb:w.heap.size+3<=w1.heap.size:=by have h9:=y.size;rw [HZ.out] at h9;exact h9
 have S:=aa (ac.out.below y (by rw [HZ.out];omega))
 have ab:=aa (V.out.below y);have al:=aa (M.out.below y);have am:Hid (Below (w.heap.size+3) (pbox w nx D ex r C ey) w1):=y.mono (by rw [HZ.out];omega)
 obtain⟨c0,c1,c2,c3,c4,c5⟩:=S.out;clear y
 go_wp2_with fail
 refine (oP nx D ex E X n _ ab.out ai.out (by omega) (by omega)).mono ?_
 rintro x w2 ⟨va,rfl,L,B⟩;rw [ha.out] at L
 have bh:w.heap.size+3<=w2.heap.size:=by have h9:=B.size;omega
 have J:=aa (S.out.below B (by omega))
 have as:=aa (al.out.below B);have Z:=aa L;have ba:Hid (Below (w.heap.size+3) (pbox w nx D ex r C ey) w2):=am.out.trans (B.mono bb);clear B L c0 c1 c2 c3 c4 c5;obtain⟨c0,c1,c2,c3,c4,c5⟩:=J.out
 go_wp2_with fail
 refine (oP r C ey E Y m _ as.out HM.out (by omega) (by omega)).mono ?_
 rintro x w3 ⟨vb,rfl,I,A⟩;rw [hb.out] at I
 have l:w.heap.size+3<=w3.heap.size:=by have h9:=A.size;omega
 have ad:=aa (J.out.below A (by omega))
 have H:=aa (Z.out.below A);have P:=aa I;have F:Hid (Below (w.heap.size+3) (pbox w nx D ex r C ey) w3):=ba.out.trans (A.mono bh);clear A I c0 c1 c2 c3 c4 c5 Z;obtain⟨c0,c1,c2,c3,c4,c5⟩:=ad.out;obtain⟨p,c,rfl⟩:=H.out.form;obtain⟨q,d,rfl⟩:=P.out.form;have k:=aa (kt _ _ a b w3 H.out P.out bo bc);obtain⟨N,hN⟩:∃ N,a+b=N:=⟨_,rfl⟩;rw [hN] at k
 have HN:=aa hN;clear hN;clear H P;have ea:a=0->nd a=0:=fun h=>by rw [h];rfl
 have W:b=0->nd b=0:=fun h=>by rw [h];rfl
 have z:a≠0->1<=nd a:=dt;have u:b≠0->1<=nd b:=dt;clear bk bi V M ab al as ac S J ad am ba U ai HM hE ha hb T HZ;generalize nd a=la at *
 generalize nd b=lb at *
 by_cases s:a=0
 ·have K:=ea s;subst K
  by_cases j:b=0
  ·have K:=W j;subst K s j;clear ea W z u;cases nx<;>cases r
   all_goals
    go_wp2_with fail
    refine k.out.mono ?_
    rintro x w4 ⟨v4,rfl,e,g,i⟩;have f:=aa (F.out.trans (i.mono l));obtain⟨⟨Q,R,O⟩,f0,f1,f2⟩:=cP f.out;obtain⟨G,c4,rfl⟩:=e.form;have o:=aa e;have t:=aa (g.mono l);clear e g i
    go_wp2_with fail
    refine bodyPost_ret (v:=.agg #[.bool _,.slice G _ c4,.int .i64 E]) (by simp [results,Tryz.results73,go_sem,Q,R,O]) rfl (dN f.out o.out t.out ?_)
    rw [<- HN.out];simp [sg]
    try omega
  ·have K:=u j;subst s;clear ea W z u j;cases nx<;>cases r
   all_goals
    go_wp2_with fail
    refine k.out.mono ?_
    rintro x w4 ⟨v4,rfl,e,g,i⟩;have f:=aa (F.out.trans (i.mono l));obtain⟨⟨Q,R,O⟩,f0,f1,f2⟩:=cP f.out;obtain⟨G,c4,rfl⟩:=e.form;have o:=aa e;have t:=aa (g.mono l);clear e g i
    go_wp2_with fail
    refine bodyPost_ret (v:=.agg #[.bool _,.slice G _ c4,.int .i64 E]) (by simp [results,Tryz.results73,go_sem,Q,R,O]) rfl (dN f.out o.out t.out ?_)
    rw [<- HN.out];simp [sg]
    try omega
 ·have K:=z s
  by_cases j:b=0
  ·have K:=W j;subst K j;clear ea W z u s;cases nx<;>cases r
   all_goals
    go_wp2_with fail
    refine k.out.mono ?_
    rintro x w4 ⟨v4,rfl,e,g,i⟩;have f:=aa (F.out.trans (i.mono l));obtain⟨⟨Q,R,O⟩,f0,f1,f2⟩:=cP f.out;obtain⟨G,c4,rfl⟩:=e.form;have o:=aa e;have t:=aa (g.mono l);clear e g i
    go_wp2_with fail
    refine bodyPost_ret (v:=.agg #[.bool _,.slice G _ c4,.int .i64 E]) (by simp [results,Tryz.results73,go_sem,Q,R,O]) rfl (dN f.out o.out t.out ?_)
    rw [<- HN.out];simp [sg]
    try omega
  ·have br:=u j;clear ea W z u;have hs:nx=r:=by
    rcases HC.out with h | h | h
    ·exact h
    ·exact absurd h s
    ·exact absurd h j
   clear s j
   ·subst hs;cases nx
    all_goals
     go_wp2_with fail
     refine k.out.mono ?_
     rintro x w4 ⟨v4,rfl,e,g,i⟩;have f:=aa (F.out.trans (i.mono l));obtain⟨⟨Q,R,O⟩,f0,f1,f2⟩:=cP f.out;obtain⟨G,c4,rfl⟩:=e.form;have o:=aa e;have t:=aa (g.mono l);clear e g i
     go_wp2_with fail
     refine bodyPost_ret (v:=.agg #[.bool _,.slice G _ c4,.int .i64 E]) (by simp [results,Tryz.results73,go_sem,Q,R,O]) rfl (dN f.out o.out t.out ?_)
     rw [<- HN.out];simp [sg]
     try omega
theorem mM {w c:World} {nx e:Bool} {d b:Value} {ex ey E S:Int} (f:Below (w.heap.size+3) (pbox w nx d ex e b ey) c) (g:0=S) :
  gf w E S (.returned (.agg #[.bool false,.slice none 0 0,.int .i64 0])) (((c.setCell ⟨w.heap.size+1+1,0,none⟩ (.bool false)).setCell ⟨w.heap.size+1+1,1,none⟩ (.slice none 0 0)).setCell ⟨w.heap.size+1+1,2,none⟩ (.int .i64 0)):=by
 refine⟨false,.slice none 0 0,0,0,rfl,Or.inl ⟨rfl,_,_,rfl⟩,gI _,g,Or.inr ⟨rfl,rfl⟩,?_⟩
 have a:w.heap.size<=w.heap.size+1+1:=by omega
 exact ((((dM w nx d ex e b ey).trans (f.mono (by omega))).setCell a _).setCell a _).setCell a _
theorem AN (nx k:Bool) (F D:Value) (ex ey E:Int) (X Y n m a b:Nat) (w:World) (hX:DN w F X) (hY:DN w D Y)
  (hE:Hid (iY X ex Y ey=E)) (hn:X≠0->ex - E=(n:Int)) (hm:Y≠0->ey - E=(m:Int)) (bz:n<=1000000) (bx:m<=1000000) (bs:nd X<=1000000) (br:nd Y<=1000000)
  (ha:Hid (X*2^n=a)) (hb:Hid (Y*2^m=b)) (bb:nd a<=10000000) (bk:nd b<=10000000) (hs:nx≠k) (as:a≠0) (bh:b≠0) :
  Calls Tryz.prog 73 #[.agg #[.bool nx,F,.int .i64 ex],.agg #[.bool k,D,.int .i64 ey]] w (gf w E (sg nx a+sg k b)):=by
 have U:=aa (dM w nx F ex k D ey);have HZ:=aa (jS w nx F ex k D ey);have ac:=aa (ls w nx F ex k D ey);have W:=aa (hX.below U.out);have N:=aa (hY.below U.out);have V:=aa (xp nx k F D ex ey X Y _ W.out N.out);rw [hE.out] at V
 have ai:=aa hn;have HM:=aa hm;clear hX hY hn hm
 go_enter Tryz.func73,Tryz.ntmps73
 go_wp2_with fail
 refine V.out.mono ?_
 rintro x w1 ⟨rfl,o⟩;have bi:w.heap.size+3<=w1.heap.size:=by have L:=o.size;rw [HZ.out] at L;exact L
 have T:=aa (ac.out.below o (by rw [HZ.out];omega))
 have ab:=aa (W.out.below o);have al:=aa (N.out.below o);have am:Hid (Below (w.heap.size+3) (pbox w nx F ex k D ey) w1):=o.mono (by rw [HZ.out];omega)
 obtain⟨c0,c1,c2,c3,c4,c5⟩:=T.out;clear o
 go_wp2_with fail
 refine (oP nx F ex E X n _ ab.out ai.out (by omega) (by omega)).mono ?_
 rintro x w2 ⟨va,rfl,K,C⟩;rw [ha.out] at K
 have bo:w.heap.size+3<=w2.heap.size:=by have L:=C.size;omega
 have J:=aa (T.out.below C (by omega))
 have ba:=aa (al.out.below C);have Z:=aa K;have bc:Hid (Below (w.heap.size+3) (pbox w nx F ex k D ey) w2):=am.out.trans (C.mono bi);clear C K c0 c1 c2 c3 c4 c5;obtain⟨c0,c1,c2,c3,c4,c5⟩:=J.out
 go_wp2_with fail
 refine (oP k D ey E Y m _ ba.out HM.out (by omega) (by omega)).mono ?_
 rintro x l ⟨vb,rfl,I,t⟩;rw [hb.out] at I
 have Q:w.heap.size+3<=l.heap.size:=by have L:=t.size;omega
 have ad:=aa (J.out.below t (by omega))
 have r:=aa (Z.out.below t);have y:=aa I;have S:Hid (Below (w.heap.size+3) (pbox w nx F ex k D ey) l):=bc.out.trans (t.mono bo);clear t I c0 c1 c2 c3 c4 c5 Z;obtain⟨c0,c1,c2,c3,c4,c5⟩:=ad.out;obtain⟨p,c,rfl⟩:=r.out.form;obtain⟨q,d,rfl⟩:=y.out.form;have e:=aa (cO _ _ a b l r.out y.out bb);have s:=aa fun w' (z:Below l.heap.size l w') (O:b<=a)=>dZ _ _ a b w' (r.out.below z) (y.out.below z) bb O
 have i:=aa fun w' (z:Below l.heap.size l w') (O:a<=b)=>dZ _ _ b a w' (y.out.below z) (r.out.below z) bk O
 clear r y;have hl:((nd a:Int)==0)=false:=by have:=dt as;simp;omega
 have bv:((nd b:Int)==0)=false:=by have:=dt bh;simp;omega
 clear bs br W N ab al ba ac T J ad am bc V ai HM hE ha hb U HZ as bh;generalize nd a=la at *
 generalize nd b=lb at *
 rcases Nat.lt_trichotomy a b with h | h | h
 ·rw [ll h] at e
  have P:=aa (Nat.le_of_lt h);clear s h;cases nx<;>cases k
  all_goals first | exact absurd rfl hs | skip
  all_goals
   go_wp2_with fail
   refine e.out.mono ?_
   rintro x G ⟨rfl,qq,H⟩;have B:=aa (show Below l.heap.size l G by rw [H];exact below_drewN (Below.refl _ _) _)
   have g3:=(B.out.cell (p:=⟨w.heap.size+1,0,none⟩) (by show w.heap.size+1<_;omega)).trans c3
   have A:w.heap.size+3<=G.heap.size:=by have:=B.out.size;omega
   clear H
   go_wp2_with fail
   go_region_with ((go_at_call 116;refine (i.out _ (B.out.drew) P.out).mono ?_;rintro x w4 ⟨v4,rfl,j,u,g⟩;obtain⟨p4,c4,rfl⟩:=j.form;have f:=aa ((S.out.trans (B.out.mono Q)).drew.trans (g.mono A));obtain⟨⟨r0,r1,r2⟩,f0,f1,f2⟩:=cP f.out;have k3:=(g.cell (p:=⟨w.heap.size+1,0,none⟩) (by show w.heap.size+1<G.heap.size;omega)).trans g3;have M:=aa j;have R:=aa (u.mono (show w.heap.size+3<=_ from A));clear j u g))
   all_goals
    go_wp2_with fail
    refine bodyPost_ret (v:=.agg #[.bool _,.slice p4 _ c4,.int .i64 E]) (by simp [results,Tryz.results73,go_sem,r0,r1,r2]) rfl (dN f.out M.out R.out ?_)
    have L:=P.out;simp [sg]
    try omega
 ·rw [lm h] at e
  have P:=aa h;clear s i h;cases nx<;>cases k
  all_goals first | exact absurd rfl hs | skip
  all_goals
   go_wp2_with fail
   refine e.out.mono ?_
   rintro x G ⟨rfl,qq,H⟩;have B:=aa (show Below l.heap.size l G by rw [H];exact below_drewN (Below.refl _ _) _)
   have f:=aa (S.out.trans (B.out.mono Q));obtain⟨⟨r0,r1,r2⟩,f0,f1,f2⟩:=cP f.out;clear H
   go_wp2_with fail
   refine bodyPost_ret (v:=.agg #[.bool false,.slice none 0 0,.int .i64 0]) (by simp [results,Tryz.results73,go_sem,r0,r1,r2]) rfl (mM f.out ?_)
   have L:=P.out;simp [sg]
   try omega
 ·rw [lp h] at e
  have P:=aa (Nat.le_of_lt h);clear i h;cases nx<;>cases k
  all_goals first | exact absurd rfl hs | skip
  all_goals
   go_wp2_with fail
   refine e.out.mono ?_
   rintro x G ⟨rfl,qq,H⟩;have B:=aa (show Below l.heap.size l G by rw [H];exact below_drewN (Below.refl _ _) _)
   have g3:=(B.out.cell (p:=⟨w.heap.size,0,none⟩) (by show w.heap.size<_;omega)).trans c0
   have A:w.heap.size+3<=G.heap.size:=by have:=B.out.size;omega
   clear H
   go_wp2_with fail
   go_region_with ((go_at_call 116;refine (s.out _ (B.out.drew) P.out).mono ?_;rintro x w4 ⟨v4,rfl,j,u,g⟩;obtain⟨p4,c4,rfl⟩:=j.form;have f:=aa ((S.out.trans (B.out.mono Q)).drew.trans (g.mono A));obtain⟨⟨r0,r1,r2⟩,f0,f1,f2⟩:=cP f.out;have k3:=(g.cell (p:=⟨w.heap.size,0,none⟩) (by show w.heap.size<G.heap.size;omega)).trans g3;have M:=aa j;have R:=aa (u.mono (show w.heap.size+3<=_ from A));clear j u g))
   all_goals
    go_wp2_with fail
    refine bodyPost_ret (v:=.agg #[.bool _,.slice p4 _ c4,.int .i64 E]) (by simp [results,Tryz.results73,go_sem,r0,r1,r2]) rfl (dN f.out M.out R.out ?_)
    have L:=P.out;simp [sg]
    try omega
theorem pK (nx a:Bool) (j i:Value) (ex ey E:Int) (X Y n m:Nat) (w:World) (p:DN w j X) (o:DN w i Y)
  (q:iY X ex Y ey=E) (hn:X≠0->ex - E=(n:Int)) (l:Y≠0->ey - E=(m:Int)) (g:n<=1000000) (e:m<=1000000) (b:nd X<=1000000) (d:nd Y<=1000000)
  (c:nd (X*2^n)<=10000000) (f:nd (Y*2^m)<=10000000) :
  Calls Tryz.prog 73 #[.agg #[.bool nx,j,.int .i64 ex],.agg #[.bool a,i,.int .i64 ey]] w (gf w E (sg nx (X*2^n)+sg a (Y*2^m))):=by
 by_cases k:nx=a\/X*2^n=0\/Y*2^m=0
 ·exact Ik nx a j i ex ey E X Y n m _ _ w p o q hn l g e b d rfl rfl c f k
 ·exact AN nx a j i ex ey E X Y n m _ _ w p o q hn l g e b d rfl rfl c f (fun h=>k (Or.inl h)) (fun h=>k (Or.inr (Or.inl h))) (fun h=>k (Or.inr (Or.inr h)))
def sR (P:Program) (c:Region.Mode) (b:Array Oper) (Q:Exit->Act->World->Prop) (S:World->Prop) (L:Nat->Bool):Nat->Array Bool->Act->World->Prop
 | 0,l,a,w=>Region.ready c b l=[]/\Q .normal a w
 | f+1,l,a,w=>(Region.ready c b l=[]->Q .normal a w)/\∀ i ∈ Region.ready c b l,wpOp P b Q i (fun a' d=>(L i=false->S d)/\sR P c b Q S L f (l.setIfInBounds i true) a' d) a w
variable {P:Program} {md:Region.Mode} {ops:Array Oper} {Q:Exit->Act->World->Prop} {S:World->Prop} {L:Nat->Bool}
theorem Ae:∀ (f:Nat) (l:Array Bool) (a:Act) (w:World),sR P md ops Q S L f l a w->wpAny P md ops Q f l a w
 | 0,_,_,_,h=>h
 | f+1,_,_,_,h=>⟨h.1,fun i hi=>wpOp_mono (fun a w k=>Ae f _ a w k.2) (h.2 i hi)⟩
def Ea (b:Region.Mode) (a:Array Oper) (l:Array Bool):Bool:=
 (List.range a.size).all fun k=>!l.getD k false||((a[k]?).map (·.after.all fun e=>!Region.binds b e||l.getD e.on false)).getD true
def Closed (c:Region.Mode) (a:Array Oper) (l:Array Bool):Prop:=∀ k b,a[k]? =some b->l.getD k false=true->∀ e ∈ b.after,Region.binds c e=true->l.getD e.on false=true
theorem GG {l:Array Bool} (h:Ea md ops l=true):Closed md ops l:=fun k g b c e f d=>by
 have a:=List.all_eq_true.1 h k (List.mem_range.2 (Array.getElem?_eq_some_iff.1 b).1)
 rw [c,b] at a
 simp only [Bool.not_true,Bool.false_or,Option.map_some,Option.getD_some,Array.all_eq_true'] at a
 have:=a e f;rw [d] at this
 simpa using this
theorem Cz {l:Array Bool} {j:Nat} (h:Closed md ops l) (m:j ∈ Region.ready md ops l):Closed md ops (l.setIfInBounds j true):=fun k n i d e g f=>by
 by_cases c:j=k
 ·subst c;obtain⟨_,o,a,b⟩:=mem_ready.1 m;rw [i] at a
  obtain rfl:=Option.some.inj a;exact getD_set_true (b e g f)
 ·rw [getD_set_ne false c] at d
  exact getD_set_true (h k n i d e g f)
def wQ (b:Region.Mode) (a:Array Oper):Nat->Nat->Nat->Bool
 | 0,_,_=>false
 | f+1,j,i=>((a[j]?).map (·.after.any fun e=>Region.binds b e&&(e.on==i||wQ b a f e.on i))).getD false
theorem mz {l:Array Bool} (h:Closed md ops l) {i:Nat}:∀ (f j:Nat),wQ md ops f j i=true->(∀ a,ops[j]? =some a->∀ e ∈ a.after,Region.binds md e=true->l.getD e.on false=true)->l.getD i false=true
 | 0,_,hw,_=>by cases hw
 | f+1,j,hw,hd=>by
  unfold wQ at hw
  cases g:ops[j]? with
  | none=>rw [g] at hw;cases hw
  | some a=>
   rw [g] at hw
   simp only [Option.map_some,Option.getD_some,Array.any_eq_true'] at hw
   obtain⟨e,n,b⟩:=hw;rw [Bool.and_eq_true,Bool.or_eq_true,beq_iff_eq] at b
   have m:=hd a g e n b.1;rcases b.2 with c | c
   ·rw [<- c];exact m
   ·exact mz h f e.on c (fun o p q d k=>h e.on o p m q d k)
def LA (b:Region.Mode) (a:Array Oper) (L:Nat->Bool) (i:Nat):Bool:=(List.range a.size).all fun j=>!L j||wQ b a 6 j i
theorem LB {i j:Nat} {l:Array Bool} (h:LA md ops L i=true) (hc:Closed md ops l) (hi:i ∈ Region.ready md ops l) (m:j ∈ Region.ready md ops l):L j=false:=by
 cases p:L j with
 | false=>rfl
 | true=>
  obtain⟨_,q,b,a⟩:=mem_ready.1 m;have g:=List.all_eq_true.1 h j (List.mem_range.2 (Array.getElem?_eq_some_iff.1 b).1)
  rw [p] at g
  have c:=mz hc 6 j (by simpa using g) (fun r k e n o=>by
   rw [b] at k
   obtain rfl:=Option.some.inj k;exact a e n o)
  have f:=(mem_ready.1 hi).1;rcases Nat.lt_or_ge i l.size with d | d
  ·simp [d] at f c;rw [f] at c;cases c
  ·simp [Array.getElem?_eq_none d] at c
theorem CA {i:Nat} {p:Oper} {v:Value} (hi:ops[i]? =some p) (J:Region.noSelect ops=true) (V:LA md ops L i=true) (X:∀ c a w,Q (.panic c) (a.put p.dst v) w->Q (.panic c) a w) :
  ∀ (f:Nat) (l:Array Bool) (a:Act) (w:World),Closed md ops l->(∀ j m,ops[j]? =some m->j≠i->l.getD j true=false->(∀ e ∈ m.after,Region.binds md e=true->e.on≠i)->p.apart ops m=true)->
   i ∈ Region.ready md ops l->YieldsIf P ops S p v a->S w->sR P md ops Q S L f (l.setIfInBounds i true) (a.put p.dst v) w->sR P md ops Q S L (f+1) l a w:=by
 intro f
 induction f with
 | zero=>
  intro l a w _ _ g z q H;refine⟨fun h=>(by rw [h] at g;cases g),fun j o=>?_⟩
  by_cases c:j=i
  ·subst c;exact z.wpOp hi q ⟨fun _=>q,H⟩
  ·have:=ready_mono o c;rw [H.1] at this;cases this
 | succ f T=>
  intro l a w u d g z q H;refine⟨fun h=>(by rw [h] at g;cases g),fun j o=>?_⟩
  by_cases c:j=i
  ·subst c;exact z.wpOp hi q ⟨fun _=>q,H⟩
  ·obtain⟨r,m,n,x⟩:=mem_ready.1 o;have E:∀ e ∈ m.after,Region.binds md e=true->e.on≠i:=fun e O U F=>by
    have t:=x e O U;have G:=(mem_ready.1 g).1;rw [F] at t
    rcases Nat.lt_or_ge i l.size with D | D
    ·simp [D] at G t;rw [G] at t;cases t
    ·simp [Array.getElem?_eq_none D] at t
   have y:L j=false:=LB V u g o;have M:=wpOp_putIf n (d j m n c r E) (fun B b=>Region.noSelect_spec J i p B b hi) (fun B b=>Region.noSelect_spec J j m B b n) X z (H.2 j (ready_mono o c))
   refine wpOp_mono (fun K Y A=>⟨fun _=>A.2.1 y,T (l.setIfInBounds j true) K Y (Cz u o) (fun k R W C I N=>d k R W C ?_ N) (ready_mono g (Ne.symm c)) A.1 (A.2.1 y) ?_⟩) M
   ·by_cases s:j=k
    ·subst s;exact r
    ·rw [getD_set_ne true s] at I;exact I
   ·rw [Array.setIfInBounds_comm _ _ c];exact A.2.2
theorem ig (i:Nat) {b:Oper} (v:Value) {f:Nat} {l:Array Bool} {a:Act} {w:World} (hi:ops[i]? =some b) (n:Region.noSelect ops=true) (j:LA md ops L i=true) (hc:Ea md ops l=true) (k:Region.free md ops l i=true) (e:(Region.ready md ops l).contains i=true)
  (m:∀ c a w,Q (.panic c) (a.put b.dst v) w->Q (.panic c) a w) (o:Region.wanted b (yielded ops a.tmps)=true) (d:S w) (g:∀ w,S w->(execOp a.eval b).run P w=.ok (.value v) w)
  (h:sR P md ops Q S L f (l.setIfInBounds i true) (a.put b.dst v) w):sR P md ops Q S L (f+1) l a w:=
 CA hi n j m f l a w (GG hc) (Region.free_spec hi k) (by simpa using e) (Or.inl ⟨o,g⟩) d h
theorem jI {i:Nat} {f:Nat} {l:Array Bool} {a:Act} {w:World} (c:Region.ready md ops l=[i])
  (e:wpOp P ops Q i (fun a' d=>(L i=false->S d)/\sR P md ops Q S L f (l.setIfInBounds i true) a' d) a w):sR P md ops Q S L (f+1) l a w:=
 ⟨fun h=>(by rw [c] at h;cases h),fun k b=>by
  rw [c] at b
  rcases List.mem_cons.1 b with rfl | b
  ·exact e
  ·cases b⟩
theorem GH {f:Nat} {l:Array Bool} {a:Act} {w:World} (b:Region.ready md ops l=[]) (h:Q .normal a w):sR P md ops Q S L f l a w:=by
 cases f with
 | zero=>exact⟨b,h⟩
 | succ f=>exact⟨fun _=>h,by rw [b];simp⟩
theorem rO {id:Nat} {a:Act} {w:World} (S:World->Prop) (L:Nat->Bool) (b:P.follows .mixedOrders=true)
  (h:sR P .any ops Q S L ops.size (Array.replicate ops.size false) a w.drew):(Code.region id ops true).wp P Q a w:=
 wp_region_any b (Ae _ _ _ _ h)
theorem DU (n lo hi:Int) (w:World) :
  Calls Tryz.prog 175 #[.int .i64 n,.int .i64 lo,.int .i64 hi] w fun e a=>e=.returned (.bool (decide (lo<=n/\n<=hi)))/\a=w:=by
 by_cases c:lo<=n<;>by_cases b:n<=hi
 all_goals
  first | rw [decide_eq_true (⟨c,b⟩:lo<=n/\n<=hi)] | rw [decide_eq_false (fun h:lo<=n/\n<=hi=>by omega)]
  go_enter Tryz.func175,Tryz.ntmps175
  go_wp2
  go_ret
  exact⟨rfl,rfl⟩
theorem Ky (n:Int) (w:World) :
  Calls Tryz.prog 177 #[.int .i64 n] w fun e a=>e=.returned (.bool (decide (1<=n/\n<=8)))/\a=w:=by
 have H:=hideS fun w=>DU n 1 8 w
 generalize decide (1<=n/\n<=8)=b at *
 go_enter Tryz.func177,Tryz.ntmps177
 go_wp2_with (go_at_call 175;refine (H.out _).mono ?_;rintro e a ⟨rfl,rfl⟩)
 go_ret
 exact⟨rfl,rfl⟩
theorem Kz (x:Nat) (w:World) (c:U64 x) :
  Calls Tryz.prog 176 #[.float .f64 x] w fun e f=>e=.returned (.bool (aE x))/\f=w:=by
 have d:=hideS fun w=>aZ x w c
 cases a:ah (x:Int)
 ·rw [a] at d
  have g:=hideS fun w=>iM x _ w c (qH a)
  generalize aE x=b at *
  clear a c;cases b
  all_goals
   go_enter Tryz.func176,Tryz.ntmps176
   go_wp2_with fail
   refine (d.out _).mono ?_
   rintro e f ⟨rfl,rfl⟩
   go_wp2_with fail
   refine (g.out _).mono ?_
   rintro e f ⟨rfl,rfl⟩
   go_wp2_with fail
   go_ret
   exact⟨rfl,rfl⟩
 ·rw [a] at d
  rw [lP a];clear a c
  go_enter Tryz.func176,Tryz.ntmps176
  go_wp2_with fail
  refine (d.out _).mono ?_
  rintro e f ⟨rfl,rfl⟩
  go_wp2_with fail
  go_ret
  exact⟨rfl,rfl⟩
def fZ (f:Flw):Int:=if ¬ (0<=f.day/\f.day<=109572) then 51 else if aE f.am=false then 91 else if ¬ (1<=f.cur/\f.cur<=8) then 140 else 0
inductive ChkF (l:List Flw):Int->Int->Prop
 | many (h:4096<l.length):ChkF l 81 0
 | fine (hl:l.length<=4096) (h:∀ i<l.length,fZ (l.getD i aC)=0):ChkF l 0 0
 | bad (hl:l.length<=4096) (k:Nat) (hk:k<l.length) (e:Int) (he:fZ (l.getD k aC)=e) (h0:e≠0) (h:∀ i<k,fZ (l.getD i aC)=0):ChkF l e k
theorem chkF_from (l:List Flw):∀ n,(∀ i<n,fZ (l.getD i aC)=0)\/∃ k<n,fZ (l.getD k aC)≠0/\∀ i<k,fZ (l.getD i aC)=0
 | 0=>Or.inl (fun i hi=>by omega)
 | n+1=>by
  rcases chkF_from l n with h | ⟨k,b,a,h⟩
  ·by_cases c:fZ (l.getD n aC)=0
   ·refine Or.inl (fun i hi=>?_)
    by_cases d:i<n
    ·exact h i d
    ·obtain rfl:i=n:=by omega
     exact c
   ·exact Or.inr ⟨n,by omega,c,h⟩
  ·exact Or.inr ⟨k,by omega,a,h⟩
theorem wF (l:List Flw):∃ e k,ChkF l e k:=by
 by_cases a:4096<l.length
 ·exact⟨_,_,.many a⟩
 ·rcases chkF_from l l.length with h | ⟨k,c,b,h⟩
  ·exact⟨0,0,.fine (by omega) h⟩
  ·exact⟨_,_,.bad (by omega) k c _ rfl b h⟩
theorem aM {l:List Flw} {e n k f:Int} (h:ChkF l e k) (a:ChkF l n f):e=n/\k=f:=by
 cases h with
 | many h=>cases a with
  | many _=>exact⟨rfl,rfl⟩
  | fine i _=>omega
  | bad i=>omega
 | fine i h=>cases a with
  | many a=>omega
  | fine _ _=>exact⟨rfl,rfl⟩
  | bad _ f g _ b d _=>exact absurd (b.symm.trans (h f g)) d
 | bad i k o _ j m h=>cases a with
  | many a=>omega
  | fine _ a=>exact absurd (j.symm.trans (a k o)) m
  | bad _ f g _ b d a=>
   rcases Nat.lt_trichotomy k f with c | c | c
   ·exact absurd (j.symm.trans (a k c)) m
   ·subst c;exact⟨j.symm.trans b,rfl⟩
   ·exact absurd (b.symm.trans (h f c)) d
def dB (l:List Flw):Prop:=∀ i,(l.getD i aC).am<18446744073709551616
theorem kT {w:World} {g o:Nat} {cs:Array Value} {t:TypeId} (v:Value) (h:w.heap[g]? =some (.cells cs t (0,0))):(w.setCell ⟨g,o,none⟩ v).heap[g]? =some (.cells (cs.setIfInBounds o v) t (0,0)):=by
 rw [Go.Sort.setCell_eq];simp [Go.Sort.mapBlock,Array.getElem?_modify,h,Go.Sort.onCells]
theorem tY (a:Addr) (x:Nat) (m:Mode) (w:World):(store a (.float .f64 x) m).run Tryz.prog w=stored Tryz.prog w a (.float .f64 x) m:=run_store Tryz.prog w a _ m rfl
def eI:Obj:=.cells #[.int .i64 0,.float .f64 0,.int .i64 0] 51
def Ge (w:World) (g:Nat) (f:Flw):World:=((w.setCell ⟨g,0,none⟩ (.int .i64 f.day)).setCell ⟨g,1,none⟩ (.float .f64 f.am)).setCell ⟨g,2,none⟩ (.int .i64 f.cur)
theorem nX (w:World):((w.alloc eI).cell? ⟨w.heap.size,0,none⟩=some (.int .i64 0)/\(w.alloc eI).cell? ⟨w.heap.size,1,none⟩=some (.float .f64 0)/\(w.alloc eI).cell? ⟨w.heap.size,2,none⟩=some (.int .i64 0))/\∀ i,(w.alloc eI).frozen? ⟨w.heap.size,i,none⟩=false:=by
 have h:=heap_alloc_new w eI;unfold eI at h
 refine⟨⟨by unfold eI;simp,by unfold eI;simp,by unfold eI;simp⟩,fun i=>frozen_of_row _ _ i _ _ h⟩
structure FBx (w:World) (f:Flw) (wr:World):Prop where
 t0:wr.cell? ⟨w.heap.size,0,none⟩=some (.int .i64 f.day)
 t1:wr.cell? ⟨w.heap.size,1,none⟩=some (.float .f64 f.am)
 t2:wr.cell? ⟨w.heap.size,2,none⟩=some (.int .i64 f.cur)
 fz:∀ i,wr.frozen? ⟨w.heap.size,i,none⟩=false
 bl:Below w.heap.size w wr
 lt:w.heap.size<wr.heap.size
theorem FBx.step {w wr b:World} {f:Flw} (h:FBx w f wr) (a:Below wr.heap.size wr b):FBx w f b:=
 ⟨(a.cell (p:=⟨w.heap.size,0,none⟩) h.lt).trans h.t0,(a.cell (p:=⟨w.heap.size,1,none⟩) h.lt).trans h.t1,(a.cell (p:=⟨w.heap.size,2,none⟩) h.lt).trans h.t2,fun i=>(a.frozen (p:=⟨w.heap.size,i,none⟩) h.lt).trans (h.fz i),h.bl.trans (a.mono h.bl.size),Nat.lt_of_lt_of_le h.lt a.size⟩
theorem KA {w wr:World} {f:Flw} (h:wr.heap[w.heap.size]? =some (.cells #[.int .i64 f.day,.float .f64 f.am,.int .i64 f.cur] 51)) (a:Below w.heap.size w wr):FBx w f wr:=by
 refine⟨?_,?_,?_,fun i=>frozen_of_row _ _ i _ _ h,a,(Array.getElem?_eq_some_iff.1 h).1⟩
 all_goals
  simp only [World.cell?,h,Option.isSome_none,Bool.false_eq_true,if_false]
  rfl
theorem KB (w:World) (f:Flw):(Ge (w.alloc eI) w.heap.size f).heap[w.heap.size]? =some (.cells #[.int .i64 f.day,.float .f64 f.am,.int .i64 f.cur] 51):=by
 have h:=heap_alloc_new w eI;unfold eI at h
 exact kT _ (kT _ (kT _ h))
theorem zr (w:World) (f:Flw):FBx w f (Ge (w.alloc eI) w.heap.size f):=
 KA (KB w f) ((((Below.refl _ w).alloc (Nat.le_refl _) _).setCell (p:=⟨w.heap.size,0,none⟩) (Nat.le_refl _) _).setCell (p:=⟨w.heap.size,1,none⟩) (Nat.le_refl _) _ |>.setCell (p:=⟨w.heap.size,2,none⟩) (Nat.le_refl _) _)
theorem PW (w:World) (f:Flw):FBx w f (w.alloc (.cells #[.int .i64 f.day,.float .f64 f.am,.int .i64 f.cur] 51)):=
 KA (heap_alloc_new w _) ((Below.refl _ _).alloc (Nat.le_refl _) _)
theorem KC (f:Flw) (w:World) (p:f.am<18446744073709551616) :
  Calls Tryz.prog 159 #[.agg #[.int .i64 f.day,.float .f64 f.am,.int .i64 f.cur]] w fun e c=>e=.returned (.int .i64 (fZ f))/\Below w.heap.size w c:=by
 obtain⟨day,m,cur⟩:=f;have n:=hideS (PW w ⟨day,m,cur⟩);have j:=hideS fun k=>DU day 0 109572 k
 have i:=hideS fun k=>Kz m k (by unfold U64;dsimp only at p;omega)
 have g:=hideS fun k=>Ky cur k
 obtain⟨E,o⟩:∃ E,fZ ⟨day,m,cur⟩=E:=⟨_,rfl⟩;have b:Hid ((if ¬ (0<=day/\day<=109572) then 51 else if aE m=false then 91 else if ¬ (1<=cur/\cur<=8) then 140 else 0)=E):=o
 rw [o];clear o p;dsimp only at *
 by_cases d:0<=day/\day<=109572
 ·rw [decide_eq_true d] at j
  rw [if_neg (not_not_intro d)] at b
  cases l:aE m
  ·rw [l] at i b
   have a:Hid (E=91):=b.out.symm;rw [a.out];clear b a g d l
   go_enter Tryz.func159,Tryz.ntmps159
   go_wp2_with (first | (go_at_call 175;refine (j.out _).mono ?_;rintro e c ⟨rfl,rfl⟩) | (go_at_call 176;refine (i.out _).mono ?_;rintro e c ⟨rfl,rfl⟩))
   go_ret
   exact⟨rfl,n.out.bl⟩
  ·rw [l] at i b
   rw [if_neg (by simp)] at b
   by_cases h:1<=cur/\cur<=8
   ·rw [decide_eq_true h] at g
    have a:Hid (E=0):=by have:=b.out;rw [if_neg (not_not_intro h)] at this;exact this.symm
    rw [a.out];clear b a d l h
    go_enter Tryz.func159,Tryz.ntmps159
    go_wp2_with (first | (go_at_call 175;refine (j.out _).mono ?_;rintro e c ⟨rfl,rfl⟩) | (go_at_call 176;refine (i.out _).mono ?_;rintro e c ⟨rfl,rfl⟩) | (go_at_call 177;refine (g.out _).mono ?_;rintro e c ⟨rfl,rfl⟩))
    go_ret
    exact⟨rfl,n.out.bl⟩
   ·rw [decide_eq_false h] at g
    have a:Hid (E=140):=by have:=b.out;rw [if_pos h] at this;exact this.symm
    rw [a.out];clear b a d l h
    go_enter Tryz.func159,Tryz.ntmps159
    go_wp2_with (first | (go_at_call 175;refine (j.out _).mono ?_;rintro e c ⟨rfl,rfl⟩) | (go_at_call 176;refine (i.out _).mono ?_;rintro e c ⟨rfl,rfl⟩) | (go_at_call 177;refine (g.out _).mono ?_;rintro e c ⟨rfl,rfl⟩))
    go_ret
    exact⟨rfl,n.out.bl⟩
 ·rw [decide_eq_false d] at j
  have a:Hid (E=51):=by have:=b.out;rw [if_pos d] at this;exact this.symm
  rw [a.out];clear b a g i d
  go_enter Tryz.func159,Tryz.ntmps159
  go_wp2_with (go_at_call 175;refine (j.out _).mono ?_;rintro e c ⟨rfl,rfl⟩)
  go_ret
  exact⟨rfl,n.out.bl⟩
theorem BZ (l:List Flw) (p:Option Addr) (b off c N:Nat) (E K:Int) (w:World) (C:JSrc aF w p b off l) (Q:l.length=N) (hc:N<=9223372036854775807) (J:dB l) (D:ChkF l E K) :
  Calls Tryz.prog 125 #[.slice p N c] w fun e w'=>e=.returned (.tuple #[.int .i64 E,.int .i64 K])/\Below w.heap.size w w':=by
 have z:=hideS Q;have W:=hideS D;have HQ:=hideS C;have HF:=hideS J
 by_cases hm:4096<N
 ·obtain⟨rfl,rfl⟩:=aM D (.many (by omega))
  clear D C Q J
  go_enter Tryz.func125,Tryz.ntmps125
  go_wp2
  go_ret2
  exact⟨rfl,Below.refl _ _⟩
 ·have HP:Hid (0<N->p=some ⟨b,off,none⟩):=fun h=>C.at_ (by omega)
  clear D C Q J
  go_enter Tryz.func125,Tryz.ntmps125
  go_wp2_with fail
  go_loopw [12] (fun i v=>∃ k:Nat,k<=N/\i=.int .i64 k/\Hid (∀ j<k,fZ (l.getD j aC)=0)/\Hid (Below w.heap.size w v)) (fun i _=>N - (intOf i).toNat)
  case atStart=>exact⟨0,Nat.zero_le _,rfl,fun j Y=>by omega,Below.refl _ _⟩
  case round=>
   obtain⟨k,hk,rfl,r,t⟩:=hrel
   by_cases B:k<N
   ·obtain rfl:=HP.out (by omega)
    obtain⟨c0,c1,c2⟩:=(HQ.out.below t.out).cell k (by rw [z.out];exact B)
    have m:=hideS fun wx=>KC (l.getD k aC) wx (HF.out k)
    obtain⟨F,G⟩:∃ F,fZ (l.getD k aC)=F:=⟨_,rfl⟩;rw [G] at m
    have A:=hideS G;have a:=hideS (zr v (l.getD k aC));obtain⟨⟨L,S,P⟩,fz⟩:=nX v;have H:=fz 0;have I:=fz 1;have M:=fz 2;clear fz G;obtain⟨q,V⟩:∃ q,l.getD k aC=q:=⟨_,rfl⟩;rw [V] at m a c0 c1 c2
    clear V;obtain⟨Z,qa,qc⟩:=q;dsimp only [aF] at *
    obtain⟨U,n⟩:∃ U,v.alloc eI=U:=⟨_,rfl⟩;rw [n] at L S P H I M a
    unfold eI at n
    obtain⟨X,f⟩:∃ X,Ge U v.heap.size ⟨Z,qa,qc⟩=X:=⟨_,rfl⟩;rw [f] at a
    unfold Ge at f
    dsimp only at f
    have O:=a.out.t0;have T:=a.out.t1;have R:=a.out.t2;dsimp only at O T R
    have u:=tY
    by_cases y:F=0
    ·have x:Hid (∀ j<k+1,fZ (l.getD j aC)=0):=fun j Y=>by
      by_cases c:j<k
      ·exact r.out j c
      ·obtain rfl:j=k:=by omega
       rw [A.out];exact y
     subst y
     go_wp2_with fail
     clear u n f L S P H I M O T R;refine (m.out _).mono ?_
     rintro e w4 ⟨rfl,d⟩;have o:=hideS (t.out.trans ((a.out.step d).bl.mono t.out.size));clear d c0 c1 c2
     go_wp2_with fail
     go_roundw
     case rel=>exact⟨k+1,by omega,by simp,x,o⟩
     case measure=>simp [intOf];omega
    ·have g:F=E/\(k:Int)=K:=aM (.bad (by rw [z.out];omega) k (by rw [z.out];exact B) F A.out y r.out) W.out
     have s:=hideS g;have d7:(F !=0)=true:=bne_iff_ne.2 y;clear y g
     go_wp2_with fail
     clear u n f L S P H I M O T R;refine (m.out _).mono ?_
     rintro e w4 ⟨rfl,d⟩;have o:=hideS (t.out.trans ((a.out.step d).bl.mono t.out.size));clear d
     go_wp2_with fail
     go_ret2
     obtain⟨rfl,rfl⟩:=s.out;exact⟨rfl,o.out⟩
   ·obtain rfl:k=N:=by omega
    have g:(0:Int)=E/\(0:Int)=K:=aM (.fine (by rw [z.out];omega) (by rw [z.out];exact r.out)) W.out
    have s:=hideS g;clear g
    go_wp2_with fail
    go_ret2
    obtain⟨rfl,rfl⟩:=s.out;exact⟨rfl,t.out⟩
def nE (g:Flw->Flw) (l:List Flw) (k:Nat):List Flw:=(List.range k).map fun i=>g (l.getD i aC)
theorem LU (g:Flw->Flw) (l:List Flw) (k:Nat):(nE g l k).length=k:=by unfold nE;simp
theorem GW (g:Flw->Flw) (l:List Flw) (k:Nat):nE g l (k+1)=nE g l k++[g (l.getD k aC)]:=by unfold nE;rw [List.range_succ,List.map_append];rfl
theorem LV (g:Flw->Flw) (l:List Flw):nE g l l.length=l.map g:=by
 apply List.ext_getElem
 ·simp [nE]
 ·intro i b a;have:i<l.length:=by simpa using a
  simp [nE,List.getD,this]
def kn (R j d:Nat):Nat:=R / 2^(32*(j+1))*2^(32*(j+1))+d*2^(32*j)+R % 2^(32*j)
theorem pL (R j d:Nat):kn R j d+dgt R j*2^(32*j)=R+d*2^(32*j):=by
 unfold kn;have a:=Nat.div_add_mod R (2^(32*(j+1)));have b:=fG R j;rw [Nat.mul_comm] at a
 omega
theorem OZ (R j d:Nat) (a:d<4294967296):d*2^(32*j)+R % 2^(32*j)<2^(32*(j+1)):=by
 have c:R % 2^(32*j)<2^(32*j):=Nat.mod_lt _ (Nat.two_pow_pos _);have b:(d+1)*2^(32*j)<=4294967296*2^(32*j):=Nat.mul_le_mul_right _ a;rw [Nat.add_mul,Nat.one_mul] at b
 rw [gH,Nat.mul_comm (2^(32*j))];omega
theorem pM (R j d:Nat) (a:d<4294967296):kn R j d / 2^(32*(j+1))=R / 2^(32*(j+1)):=by
 unfold kn;rw [Nat.add_assoc,Nat.add_comm,Nat.add_mul_div_right _ _ (Nat.two_pow_pos _),Nat.div_eq_of_lt (OZ R j d a),Nat.zero_add]
theorem Mr {R j d T:Nat} (a:R<2^(32*T)) (c:j<T) (b:d<4294967296):kn R j d<2^(32*T):=by
 have e:(2:Nat)^(32*T)=2^(32*(T - (j+1)))*2^(32*(j+1)):=by rw [<- Nat.pow_add];congr 1;omega
 rw [e] at a ⊢
 rw [<- Nat.div_lt_iff_lt_mul (Nat.two_pow_pos _)] at a ⊢
 rw [pM R j d b];exact a
theorem Ms {R S j i:Nat} (h:R / 2^(32*(j+1))=S / 2^(32*(j+1))) (hi:j<i):dgt R i=dgt S i:=by
 unfold dgt;have e:(2:Nat)^(32*i)=2^(32*(j+1))*2^(32*(i - (j+1))):=by rw [<- Nat.pow_add];congr 1;omega
 rw [e,<- Nat.div_div_eq_div_mul,<- Nat.div_div_eq_div_mul,h]
theorem Il (R j d i:Nat) (b:d<4294967296):dgt (kn R j d) i=if i=j then d else dgt R i:=by
 have g:=Nat.two_pow_pos (32*j)
 by_cases h:i=j
 ·subst h;rw [if_pos rfl];have a:=div_step (kn R i d) i;rw [pM R i d b] at a
  have k:kn R i d / 2^(32*i)=R / 2^(32*(i+1))*4294967296+d:=by
   unfold kn;generalize R / 2^(32*(i+1))=q;have e:q*2^(32*(i+1))+d*2^(32*i)=(q*4294967296+d)*2^(32*i):=by rw [gH,Nat.add_mul,Nat.mul_assoc,Nat.mul_comm 4294967296]
   rw [e,Nat.add_comm,Nat.add_mul_div_right _ _ g,Nat.div_eq_of_lt (Nat.mod_lt _ g),Nat.zero_add]
  omega
 ·rw [if_neg h];rcases Nat.lt_or_gt_of_ne h with a | a
  ·have c:=Df (kn R j d) j i;have f:=Df R j i;rw [if_pos a] at c f
   rw [<- c,<- f]
   congr 1
   unfold kn;rw [gH,Nat.mul_comm (2^(32*j)) 4294967296,<- Nat.mul_assoc,<- Nat.add_mul,Nat.mul_add_mod',Nat.mod_mod]
  ·exact Ms (pM R j d b) a
theorem Own.put {w:World} {b n R j d:Nat} {x:Int} (h:Own w b n R) (a:x=(d:Int)) (e:d<4294967296):Own (w.setCell ⟨b,j,none⟩ (.int .u64 x)) b n (kn R j d):=by
 refine (h.set j (.int .u64 x)).congr fun i _=>?_
 rw [Il R j d i e]
 by_cases c:i=j
 ·rw [if_pos c,if_pos c,a]
 ·rw [if_neg c,if_neg c]
theorem ED {M B R i k a b c o s:Nat} (v:R+c*2^(32*(i+k))=M+a*(B % 2^(32*k))*2^(32*i)) (e:b=dgt B k) (f:o=dgt R (i+k)) (g:s=o+a*b+c) :
  kn R (i+k) (s % 4294967296)+s / 4294967296*2^(32*(i+(k+1)))=M+a*(B % 2^(32*(k+1)))*2^(32*i):=by
 have d:=pL R (i+k) (s % 4294967296);rw [<- f] at d
 rw [show i+(k+1)=i+k+1 by omega,gH,fG,<- e,Nat.mul_add a,Nat.add_mul (a*_)]
 have h:a*(b*2^(32*k))*2^(32*i)=a*b*2^(32*(i+k)):=by
  rw [<- Nat.mul_assoc,Nat.mul_assoc,<- Nat.pow_add];congr 2;omega
 rw [h];generalize 2^(32*(i+k))=W at *
 have j:s / 4294967296*(W*4294967296)+s % 4294967296*W=s*W:=by
  rw [Nat.mul_comm W,<- Nat.mul_assoc,<- Nat.add_mul,Nat.div_add_mod']
 have n:s*W=o*W+a*b*W+c*W:=by rw [g,Nat.add_mul,Nat.add_mul]
 generalize s / 4294967296*(W*4294967296)=t at *
 generalize s % 4294967296*W=r at *
 generalize s*W=p at *
 generalize o*W=l at *
 generalize a*b*W=u at *
 generalize c*W=m at *
 generalize a*(B % 2^(32*k))*2^(32*i)=q at *
 omega
theorem EF {o a b c:Nat} (e:o<4294967296) (f:a<4294967296) (d:b<4294967296) (hc:c<4294967296):a*b<=18446744065119617025/\o+a*b+c<18446744073709551616:=by
 have:a*b<=4294967295*4294967295:=Nat.mul_le_mul (by omega) (by omega)
 omega
theorem Dh {A B R i n a c:Nat} (g:R+c*2^(32*(i+n))=(A % 2^(32*i))*B+a*(B % 2^(32*n))*2^(32*i)) (d:B<2^(32*n)) (e:a=dgt A i) (b:R<2^(32*(i+n))) :
  kn R (i+n) c=(A % 2^(32*(i+1)))*B:=by
 have f:=pL R (i+n) c;rw [mI b,Nat.zero_mul] at f
 rw [Nat.mod_eq_of_lt d] at g
 rw [fG,Nat.add_mul,<- e];have:a*B*2^(32*i)=a*2^(32*i)*B:=by rw [Nat.mul_assoc,Nat.mul_comm B,Nat.mul_assoc]
 omega
theorem Di {A B m n:Nat} (b:A<2^(32*m)) (a:B<2^(32*n)):A*B<2^(32*(m+n)):=by
 rw [Nat.mul_add,Nat.pow_add];exact Nat.mul_lt_mul'' b a
theorem sC (g f c d m n A B:Nat) (w:World) (u:Hid (RowIs w g m A)) (K:Hid (RowIs w f n B)) (hg:g<w.heap.size) (hf:f<w.heap.size) (hm:m<=1000000) (hn:n<=1000000) (Z:Hid (A<2^(32*m))) (L:Hid (B<2^(32*n))) :
  Calls Tryz.prog 141 #[.slice (some ⟨g,0,none⟩) m c,.slice (some ⟨f,0,none⟩) n d] w fun e O=>∃ v,e=.returned v/\DN O v (A*B)/\From w.heap.size v/\Below w.heap.size w O:=by
 have C:=fun w=>run_make_row' (P:=Tryz.prog) 33 41 (.int .u64 0) 8 Tryz.underlying33 eA rfl .i64 .i64 (m+n+1) (by omega) (by omega) w
 have V:((m+n+1:Nat):Int)=(m:Int)+(n:Int)+1:=by omega
 rw [V] at C
 clear V;have HO:=aa (pC w (m+n+1))
 go_enter Tryz.func141,Tryz.ntmps141
 go_wp2_with fail
 go_loopg [6] m (fun S i H=>∃ k:Nat,k<=m/\S=m - k/\i=.int .i64 k/\Hid (Own H w.heap.size (m+n+1) ((A % 2^(32*k))*B))/\Hid (Below w.heap.size w H))
 case atStart=>exact⟨0,Nat.zero_le _,by omega,rfl,by rw [Nat.mul_zero,Nat.pow_zero,Nat.mod_one,Nat.zero_mul];exact HO,(Below.refl _ _).alloc (Nat.le_refl _) _⟩
 case round=>
  clear HO C;obtain⟨i,hi,rfl,rfl,h,j⟩:=hrel
  by_cases D:i<m
  ·have r:=(j.out.cell (p:=⟨g,i,none⟩) hg).trans (u.out i D);have t:=aa (u.out i D);have X:=bB A i;have T:Hid ((A % 2^(32*i))*B<2^(32*(i+n))):=Di (Nat.mod_lt _ (Nat.two_pow_pos _)) L.out;have HE:=aa fun R a c (Q:a=dgt A i)=>Dh (A:=A) (B:=B) (R:=R) (i:=i) (n:=n) (a:=a) (c:=c)
   generalize Q:dgt A i=a at r t X
   have I:=aa Q.symm;clear Q
   go_wp2_with fail
   go_loopg [7,8] n (fun S s kk E=>∃ k x R:Nat,k<=n/\S=n - k/\kk=.int .i64 k/\s=.int .u64 x/\x<4294967296/\Hid (R+x*2^(32*(i+k))=(A % 2^(32*i))*B+a*(B % 2^(32*k))*2^(32*i))/\Hid (R<2^(32*(i+n)))/\Hid (Own E w.heap.size (m+n+1) R)/\Hid (Below w.heap.size w E))
   case atStart=>exact⟨0,0,_,Nat.zero_le _,by omega,rfl,rfl,by omega,by show _=_;rw [Nat.mul_zero 32,Nat.pow_zero,Nat.mod_one,Nat.zero_mul,Nat.mul_zero,Nat.zero_mul],T,h,j⟩
   case round=>
    clear h j T r;obtain⟨k,x,R,hk,rfl,rfl,rfl,hx,HS,J,h,j⟩:=hrel;have r:=(j.out.cell (p:=⟨g,i,none⟩) hg).trans t.out
    by_cases l:k<n
    ·have M:=(j.out.cell (p:=⟨f,k,none⟩) hf).trans (K.out k l);have W:=bB B k;have N:=h.out.cell (i:=i+k) (by omega)
     have bo:=bB R (i+k);have fo:=h.out.frozen (i+k);have q:=aa fun b o s (G:b=dgt B k) (F:o=dgt R (i+k)) (hs:s=o+a*b+x)=>ED HS.out G F hs
     generalize G:dgt B k=b at M W
     generalize F:dgt R (i+k)=o at N bo
     have q:=aa (q.out b o _ G.symm F.symm rfl);clear G F;obtain⟨s1,Y⟩:=EF bo X W hx;have w1:IntKind.u64.wrap ((a:Int)*(b:Int))=((a*b:Nat):Int):=by rw [<- Int.natCast_mul,IntKind.wrap_u64];omega
     generalize a*b=y at w1 s1 Y q
     have w2:IntKind.u64.wrap ((o:Int)+(y:Int))=(o:Int)+(y:Int):=by rw [IntKind.wrap_u64];omega
     have w3:IntKind.u64.wrap ((o:Int)+(y:Int)+(x:Int))=((o+y+x:Nat):Int):=by rw [IntKind.wrap_u64];omega
     generalize o+y+x=s at w3 Y q
     have w4:IntKind.i64.wrap ((i:Int)+(k:Int))=(i:Int)+(k:Int):=by rw [IntKind.wrap_i64];omega
     have tn:((i:Int)+(k:Int)).toNat=i+k:=by omega
     have nn:(0:Int)<=(i:Int)+(k:Int):=by omega
     have nm:(i:Int)+(k:Int)<((m+n+1:Nat):Int):=by omega
     go_wp2_with fail
     go_quiet (fail)
     go_wp2_with fail
     go_roundg (n - (k+1))
     case measure=>omega
     case rel=>
      exact⟨k+1,s / 4294967296,kn R (i+k) (s % 4294967296),by omega,rfl,by go_num,by go_num,by omega,q.out,Mr J.out (by omega) (by omega),Own.put (w:=H.drewN nq) h.out (by omega) (by omega),(below_drewN j.out _).setCell (Nat.le_refl _) _⟩
    ·obtain rfl:k=n:=by omega
     have N:=h.out.cell (i:=i+k) (by omega)
     have fo:=h.out.frozen (i+k);have hz:dgt R (i+k)=0:=mI J.out;rw [hz] at N
     have z:=aa (Dh HS.out L.out I.out J.out);clear hz
     go_wp2_with fail
     go_roundg (m - (i+1))
     case measure=>omega
     case rel=>
      refine⟨i+1,by omega,rfl,by go_num,?_,j.out.setCell (Nat.le_refl _) _⟩
      rw [<- z.out];exact Own.put h.out (by omega) hx
  ·obtain rfl:i=m:=by omega
   have e:A % 2^(32*i)=A:=Nat.mod_eq_of_lt Z.out;rw [e] at h
   clear e;have U:Hid (A*B<2^(32*(i+n+1))):=Nat.lt_of_lt_of_le (Di Z.out L.out) (Nat.pow_le_pow_right (by decide) (by omega))
   have l:=h.out.lt;have HD:=aa (nH h.out.row U.out (Nat.le_refl _) l)
   go_wp2_with fail
   refine (du _ _ _ _ _ h.out.row U.out (Nat.le_refl _) (by omega)).mono ?_
   rintro e O ⟨rfl,rfl⟩
   go_wp2_with fail
   go_ret
   exact⟨_,rfl,HD.out,ij _ _ _ _ (Nat.le_refl _),j.out⟩
theorem Im (nx a:Bool) (X Y:Nat):sg (nx !=a) (X*Y)=sg nx X*sg a Y:=by
 cases nx<;>cases a<;>simp [sg,Int.natCast_mul,Int.neg_mul,Int.mul_neg]
theorem vg {w:World} {B:Nat} {nx m:Bool} {l k:Value} {ex ey:Int} (h:Six w B nx l ex m k ey) (i:Nat) (x:Value):Six (w.setCell ⟨B+1+1,i,none⟩ x) B nx l ex m k ey:=by
 obtain⟨a,b,c,d,e,f⟩:=h;have g:B+1+1≠B:=by omega
 have j:B+1+1≠B+1:=by omega
 exact⟨(World.cell?_setCell_far w ⟨B+1+1,i,none⟩ ⟨B,0,none⟩ x g).trans a,(World.cell?_setCell_far w ⟨B+1+1,i,none⟩ ⟨B,1,none⟩ x g).trans b,(World.cell?_setCell_far w ⟨B+1+1,i,none⟩ ⟨B,2,none⟩ x g).trans c,(World.cell?_setCell_far w ⟨B+1+1,i,none⟩ ⟨B+1,0,none⟩ x j).trans d,(World.cell?_setCell_far w ⟨B+1+1,i,none⟩ ⟨B+1,1,none⟩ x j).trans e,(World.cell?_setCell_far w ⟨B+1+1,i,none⟩ ⟨B+1,2,none⟩ x j).trans f⟩
theorem AO (nx f:Bool) (e c:Value) (ex ey:Int) (X Y:Nat) (w:World) (z:DN w e X) (y:DN w c Y) (d:X=0\/Y=0) :
  Calls Tryz.prog 100 #[.agg #[.bool nx,e,.int .i64 ex],.agg #[.bool f,c,.int .i64 ey]] w (gf w (ex+ey) 0):=by
 have j:=aa (dM w nx e ex f c ey);have l:=aa (jS w nx e ex f c ey);have p:=aa (ls w nx e ex f c ey);have k:=aa (z.below j.out);have o:=aa (y.below j.out);have n:=aa d;clear z y d
 by_cases d:X=0
 ·subst d;clear n
  go_enter Tryz.func100,Tryz.ntmps100
  go_wp2_with fail
  refine (aY _ _ _ 0 true _ k.out rfl).mono ?_
  rintro x m ⟨rfl,a⟩;have b:Hid (Below (w.heap.size+3) (pbox w nx e ex f c ey) m):=a.mono (by rw [l.out];omega)
  obtain⟨⟨t,r,q⟩,G,F,B⟩:=cP b.out;clear a
  go_wp2_with fail
  exact bodyPost_ret (v:=.agg #[.bool false,.slice none 0 0,.int .i64 0]) (by simp [results,Tryz.results100,go_sem,t,r,q]) rfl (mM b.out rfl)
 ·have D:Y=0:=by
   rcases n.out with h | h
   ·exact absurd h d
   ·exact h
  subst D;have C:=aa d;clear n d
  go_enter Tryz.func100,Tryz.ntmps100
  go_wp2_with fail
  refine (aY _ _ _ X false _ k.out (decide_eq_false C.out)).mono ?_
  rintro x m ⟨rfl,a⟩;have b:Hid (Below (w.heap.size+3) (pbox w nx e ex f c ey) m):=a.mono (by rw [l.out];omega)
  have s:w.heap.size+3<=m.heap.size:=by have A:=a.size;rw [l.out] at A;exact A
  have u:=aa (o.out.below a);obtain⟨c0,c1,c2,c3,c4,E⟩:=p.out.below a (by rw [l.out];omega)
  clear a
  go_wp2_with fail
  refine (aY _ _ _ 0 true _ u.out rfl).mono ?_
  rintro x H ⟨rfl,g⟩;have i:=aa (b.out.trans (g.mono s));obtain⟨⟨t,r,q⟩,G,F,B⟩:=cP i.out;clear g c0 c1 c2 c3 c4 E
  go_wp2_with fail
  exact bodyPost_ret (v:=.agg #[.bool false,.slice none 0 0,.int .i64 0]) (by simp [results,Tryz.results100,go_sem,t,r,q]) rfl (mM i.out rfl)
theorem AP (nx i:Bool) (g f c d:Nat) (ex ey:Int) (m n X Y:Nat) (w:World) (z:X≠0) (F:Y≠0)
  (hX:DN w (.slice (some ⟨g,0,none⟩) m c) X) (hY:DN w (.slice (some ⟨f,0,none⟩) n d) Y) (A:Hid (RowIs w g m X)) (s:Hid (RowIs w f n Y)) (L:g<w.heap.size) (T:f<w.heap.size) (hm:m<=1000000) (hn:n<=1000000) (B:Hid (X<2^(32*m))) (D:Hid (Y<2^(32*n)))
  (he: -10000000<=ex) (ad:ex<=10000000) (ai: -10000000<=ey) (ac:ey<=10000000) :
  Calls Tryz.prog 100 #[.agg #[.bool nx,.slice (some ⟨g,0,none⟩) m c,.int .i64 ex],.agg #[.bool i,.slice (some ⟨f,0,none⟩) n d,.int .i64 ey]] w (gf w (ex+ey) (sg nx X*sg i Y)):=by
 have r:=aa fun b (e:Below w.heap.size w b)=>sC g f c d m n X Y b (A.out.below L e) (s.out.below T e) (Nat.lt_of_lt_of_le L e.size) (Nat.lt_of_lt_of_le T e.size) hm hn B D
 clear A s B D L T;generalize W:Value.slice (some ⟨g,0,none⟩) m c=q at *
 generalize H:Value.slice (some ⟨f,0,none⟩) n d=p at *
 clear W H;have o:=aa (dM w nx q ex i p ey);have I:=aa (jS w nx q ex i p ey);have J:=aa (ls w nx q ex i p ey);have Z:=aa (hX.below o.out);have R:=aa (hY.below o.out);have V:=aa z;have ab:=aa F;have w1:IntKind.i64.wrap (ex+ey)=ex+ey:=by rw [IntKind.wrap_i64];omega
 clear hX hY z F
 go_enter Tryz.func100,Tryz.ntmps100
 go_wp2_with fail
 refine (aY _ _ _ X false _ Z.out (decide_eq_false V.out)).mono ?_
 rintro x w1 ⟨rfl,a⟩;have Q:Hid (Below (w.heap.size+3) (pbox w nx q ex i p ey) w1):=a.mono (by rw [I.out];omega)
 have K:w.heap.size+3<=w1.heap.size:=by have N:=a.size;rw [I.out] at N;exact N
 have M:=aa (R.out.below a);have C:=aa (J.out.below a (by rw [I.out];omega))
 obtain⟨c0,c1,c2,c3,c4,c5⟩:=C.out;clear a
 go_wp2_with fail
 refine (aY _ _ _ Y false _ M.out (decide_eq_false ab.out)).mono ?_
 rintro x P ⟨rfl,h⟩;have E:=aa (Q.out.trans (h.mono K));have u:w.heap.size+3<=P.heap.size:=by have N:=h.size;omega
 have j:=aa (C.out.below h (by omega))
 have S:=aa (o.out.trans (E.out.mono (by omega)))
 clear h c0 c1 c2 c3 c4 c5;obtain⟨c0,c1,c2,c3,c4,c5⟩:=j.out
 go_wp2_with fail
 go_region_held3 (fun b=>b.cell? ⟨w.heap.size,0,none⟩=some (.bool nx)/\b.cell? ⟨w.heap.size,1,none⟩=some q/\b.cell? ⟨w.heap.size,2,none⟩=some (.int .i64 ex)/\b.cell? ⟨w.heap.size+1,0,none⟩=some (.bool i)/\b.cell? ⟨w.heap.size+1,1,none⟩=some p/\b.cell? ⟨w.heap.size+1,2,none⟩=some (.int .i64 ey)) (first | exact j.out | exact G.out | exact vg (vg (vg G.out 0 _) 1 _) 2 _ | go_keep) ((go_at_call 141;refine (r.out _ (S.out.drew)).mono ?_;rintro x w4 ⟨v4,rfl,l,y,k⟩;obtain⟨p4,q4,rfl⟩:=l.form;have t:=aa (E.out.drew.trans (k.mono u));have G:=aa (Six.below (w:=P.drew) j.out k (show w.heap.size+1<P.heap.size by omega));obtain⟨⟨r0,r1,r2⟩,f0,f1,f2⟩:=cP t.out;have O:=aa l;have U:=aa (y.mono (show w.heap.size+3<=_ from u));clear l y k))
 all_goals
  go_wp2_with fail
  exact bodyPost_ret (v:=.agg #[.bool _,.slice p4 _ q4,.int .i64 (ex+ey)]) (by simp [results,Tryz.results100,go_sem,r0,r1,r2]) rfl (dN t.out O.out U.out (Im nx i X Y))
theorem tf (nx a:Bool) (j i:Value) (ex ey:Int) (X Y:Nat) (w:World) (p:DN w j X) (o:DN w i Y) (v:nd X<=1000000) (hn:nd Y<=1000000)
  (x: -10000000<=ex) (s:ex<=10000000) (u: -10000000<=ey) (t:ey<=10000000) :
  Calls Tryz.prog 100 #[.agg #[.bool nx,j,.int .i64 ex],.agg #[.bool a,i,.int .i64 ey]] w (gf w (ex+ey) (sg nx X*sg a Y)):=by
 by_cases b:X=0\/Y=0
 ·have e:sg nx X*sg a Y=0:=by
   rw [<- Im];rcases b with h | h
   ·rw [h,Nat.zero_mul];cases (nx !=a)<;>rfl
   ·rw [h,Nat.mul_zero];cases (nx !=a)<;>rfl
  rw [e];exact AO nx a j i ex ey X Y w p o b
 ·have r:=p;have q:=o;rcases p with⟨k,_⟩| ⟨k,g,c,rfl,_,z,m⟩
  ·exact absurd (Or.inl k) b
  ·rcases o with⟨l,_⟩| ⟨l,f,d,rfl,_,y,n⟩
   ·exact absurd (Or.inr l) b
   ·exact AP nx a g f c d ex ey (nd X) (nd Y) X Y w k l r q m n z y v hn (dh X) (dh Y) x s u t
def aX (u:Int):Bool:=szI u==9218868437227405312
theorem av (u:Int) (w:World) (h:U64 u) :
  Calls Tryz.prog 72 #[.int .u64 u] w fun e a=>e=.returned (.bool (aX u))/\a=w:=by
 have b:=dK h
 go_enter Tryz.func72,Tryz.ntmps72
 go_wp2
 go_ret
 exact⟨rfl,rfl⟩
theorem MD (u:Int) (w:World) (h:U64 u) (a:szI u=0) :
  Calls Tryz.prog 74 #[.int .u64 u] w fun x b=>∃ v,x=.returned (eC false v 0)/\DN b v 0/\Below w.heap.size w b:=by
 have d:bits .and .u64 u 4503599627370495=0:=by rw [pH h,a];rfl
 have c:bits .and .u64 (u / 4503599627370496) 2047=0:=by
  have:=h.1;have:=h.2;rw [pI (by omega) (by omega)];unfold szI at a;omega
 unfold eC;clear h a
 go_enter Tryz.func74,Tryz.ntmps74
 go_wp2_with fail
 refine bodyPost_ret (v:=.agg #[.bool false,.slice none 0 0,.int .i64 0]) (by simp [results,Tryz.results74,go_sem]) rfl ⟨_,rfl,Or.inl ⟨rfl,_,_,rfl⟩,?_⟩
 exact (Below.refl w.heap.size w).alloc (Nat.le_refl _) _
structure OfR (x:Nat) (neg:Bool) (N:Nat) (e:Int):Prop where
 lt:N<9007199254740992
 lo: -1074<=e
 hi:e<=971
 val:N*2^(e+1074).toNat=aV x
 sgn:N≠0->neg=sB x
 mag:N≠0->N=mg (x % 9223372036854775808)/\e= -1074+(pl (x % 9223372036854775808):Int)
theorem gh {x:Nat} (h:x<18446744073709551616):sgB (x:Int)=sB x:=by
 unfold sgB sB;rcases (show x / 9223372036854775808=0\/x / 9223372036854775808=1 by omega) with e | e
 ·rw [e];show _=false;rw [decide_eq_false_iff_not];omega
 ·rw [e];show _=true;rw [decide_eq_true_eq];omega
theorem eo (x:Nat):szI (x:Int)=((x % 9223372036854775808:Nat):Int):=by unfold szI;omega
theorem eL (x:Nat) (u:Int) (w:World) (g:Hid (u=(x:Int))) (h:U64 u) (m:ag x) :
  Calls Tryz.prog 74 #[.int .u64 u] w fun r d=>∃ neg v N e,r=.returned (.agg #[.bool neg,v,.int .i64 e])/\DN d v N/\OfR x neg N e/\Below w.heap.size w d:=by
 have a:x<18446744073709551616:=by have:=h.2;rw [g.out] at this;omega
 have j:szI u=((x % 9223372036854775808:Nat):Int):=by rw [g.out];exact eo x
 unfold ag at m
 by_cases k:szI u=0
 ·refine (MD u w h k).mono ?_
  rintro r d ⟨v,rfl,b,f⟩;refine⟨false,v,0,0,rfl,b,⟨by decide,by decide,by decide,?_,fun h=>absurd rfl h,fun h=>absurd rfl h⟩,f⟩
  unfold aV;rw [show x % 9223372036854775808=0 by omega,bp,Nat.zero_mul]
 ·refine (OX u w h (by omega) (by omega)).mono ?_
  rintro r d ⟨v,rfl,b,f⟩;have l:(gz (szI u)).toNat=mg (x % 9223372036854775808):=by
   rw [j];generalize x % 9223372036854775808=r at *
   unfold gz mg
   by_cases c:r<4503599627370496
   ·rw [if_pos c,if_pos (by omega)];omega
   ·rw [if_neg c,if_neg (by omega)];omega
  have i:kE (szI u)= -1074+(pl (x % 9223372036854775808):Int):=by
   rw [j];generalize x % 9223372036854775808=r at *
   unfold kE pl
   by_cases c:r<4503599627370496
   ·rw [if_pos (by omega)];omega
   ·rw [if_neg (by omega)];omega
  have n:pl (x % 9223372036854775808)<=2045:=by unfold pl;omega
  rw [l] at b
  refine⟨sgB u,v,_,kE (szI u),rfl,b,⟨nF _,by omega,by omega,?_,fun _=>?_,fun _=>⟨rfl,i⟩⟩,f⟩
  ·rw [i];unfold aV V
   congr 2
   omega
  ·rw [g.out];exact gh a
theorem dw {N:Nat} (h:N<9007199254740992):nd N<=2:=bP (k:=2) (by omega)
def cn (o:Option Nat):Nat:=o.getD 9221120237041090561
theorem lz:cn none=9221120237041090561:=rfl
theorem ao (r:Nat):cn (some r)=r:=rfl
def gO (s:Bool):Int:=if s then 9223372036854775808 else 0
theorem Pd {b:Nat} (h:b<18446744073709551616):b.testBit 63=sgB (b:Int):=by
 rw [Nat.testBit_eq_decide_div_mod_eq];unfold sgB;apply decide_eq_decide.2;omega
theorem vk {u v:Int} (h:U64 u) (e:U64 v):bits .and .u64 (bits .xor .u64 u v) 9223372036854775808=gO (sgB u^^sgB v):=by
 obtain⟨a,rfl⟩:=Int.eq_ofNat_of_zero_le h.1;obtain⟨b,rfl⟩:=Int.eq_ofNat_of_zero_le e.1;have d:a<18446744073709551616:=by have:=h.2;omega
 have c:b<18446744073709551616:=by have:=e.2;omega
 have f:a^^^b<18446744073709551616:=Nat.xor_lt_two_pow (n:=64) d c;rw [bits_xor_u64_nat a b d c,Hb (af f),<- Pd f,Nat.testBit_xor,Pd d,Pd c]
 rfl
theorem bH (neg:Bool) (N:Nat):(sg neg N).natAbs=N:=by unfold sg;cases neg<;>simp
theorem MG (neg:Bool) (N:Nat) (E:Int):U64 (bN neg N E false)/\szI (bN neg N E false)=(if N=0 then 0 else (nearR N E:Int)):=by
 by_cases a:N=0
 ·have:bN neg N E false=0:=by unfold bN;rw [if_pos a]
  rw [this,if_pos a];exact⟨by unfold U64;omega,by decide⟩
 ·rw [fJ neg E a,if_neg a];have b:nearR N E<=9218868437227405312:=Nat.min_le_right _ _;generalize nearR N E=r at *
  unfold U64 szI;cases neg
  ·rw [if_neg (by decide)];omega
  ·rw [if_pos rfl];omega
def lA (T:Nat):Int:=if T=0 then 0 else (nearR T (-2148):Int)
theorem Iz (T:Nat):0<=lA T/\lA T<=9218868437227405312:=by
 unfold lA;have a:nearR T (-2148)<=9218868437227405312:=Nat.min_le_right _ _
 split<;>omega
theorem MH (s:Bool) (T:Nat):(mulR s T:Int)=gO s+lA T:=by
 unfold mulR lA gO wrd
 by_cases a:T=0
 ·rw [if_pos a,if_pos a];cases s<;>simp
 ·rw [if_neg a,if_neg a];generalize nearR T (-2148)=r;cases s<;>simp
theorem MI {x y X Y N:Nat} {nx j neg:Bool} {ex ey E:Int} (e:OfR x nx X ex) (d:OfR y j Y ey) (o:sg neg N=sg nx X*sg j Y) (n:E=ex+ey\/(E=0/\N=0)) :
  U64 (bN neg N E false)/\szI (bN neg N E false)=lA (aV x*aV y)/\nd N<=1000000/\-10000000<=E/\E<=10000000:=by
 have l:N=X*Y:=by
  have:=congrArg Int.natAbs o;rw [Int.natAbs_mul,bH,bH,bH] at this;exact this
 obtain⟨a,b⟩:=MG neg N E;have i:nd N<=1000000:=by
  refine Nat.le_trans (bP (k:=4) ?_) (by omega)
  rw [l];have:=Nat.mul_lt_mul'' e.lt d.lt;omega
 have q:=e.lo;have s:=e.hi;have t:=d.lo;have r:=d.hi;refine⟨a,?_,i,by omega,by omega⟩
 rw [b];unfold lA;have g:aV x*aV y=N*2^((ex+1074).toNat+(ey+1074).toNat):=by
  rw [<- e.val,<- d.val,l,Nat.pow_add,Nat.mul_mul_mul_comm]
 have p:=Nat.two_pow_pos ((ex+1074).toNat+(ey+1074).toNat)
 by_cases c:N=0
 ·rw [if_pos c,if_pos (by rw [g,c,Nat.zero_mul])]
 ·have m:aV x*aV y≠0:=by rw [g];have:=Nat.mul_pos (show 0<N by omega) p;omega
  rw [if_neg c,if_neg m,g];have f:E=ex+ey:=by
   rcases n with h | ⟨_,h⟩
   ·exact h
   ·exact absurd h c
  have:=bf c ((ex+1074).toNat+(ey+1074).toNat) (ex+ey);rw [show ex+ey - (((ex+1074).toNat+(ey+1074).toNat:Nat):Int)= -2148 by omega] at this
  rw [this,f]
theorem bL {x:Nat} {u:Int} (a:u=(x:Int)):szI u=((x % 9223372036854775808:Nat):Int):=by rw [a];exact eo x
theorem fK {x:Nat} {u:Int} (c:u=(x:Int)) (b:ah u=false) (a:aX u=false):ag x:=by
 have:=bL c;unfold ah at b
 unfold aX at a
 unfold ag;rw [decide_eq_false_iff_not] at b
 have d:szI u≠9218868437227405312:=by simpa using a
 omega
theorem iv {x:Nat} {u:Int} (b:u=(x:Int)) (a:aX u=true):x % 9223372036854775808=9218868437227405312:=by
 have:=bL b;unfold aX at a
 have c:szI u=9218868437227405312:=by simpa using a
 omega
theorem lC {x y:Nat} (a:x % 9223372036854775808=9218868437227405312) (b:y % 9223372036854775808=0):floatBits .mul .f64 x y=none/\floatBits .mul .f64 y x=none:=by
 have e:Ieee.double.read y=.number (y / 9223372036854775808 % 2==1) 0 (-1074):=by rw [ax (by omega),b];rfl
 constructor
 ·show ((Ieee.double.read x).product (Ieee.double.read y)).map Ieee.double.write=_
  rw [aS a,e];rfl
 ·show ((Ieee.double.read y).product (Ieee.double.read x)).map Ieee.double.write=_
  rw [aS a,e];rfl
theorem dP (s:Bool):Ieee.double.write (.infinity s)=wrd s 9218868437227405312:=by cases s<;>decide+kernel
theorem fL {r:Nat} (h:r≠0):mg r≠0:=by unfold mg;split<;>omega
theorem gk {x y:Nat} (a:x % 9223372036854775808=9218868437227405312) (b:ag y) (d:y % 9223372036854775808≠0):floatBits .mul .f64 x y=some (wrd (sB x^^sB y) 9218868437227405312)/\floatBits .mul .f64 y x=some (wrd (sB y^^sB x) 9218868437227405312):=by
 have c:=fL d;constructor
 ·show ((Ieee.double.read x).product (Ieee.double.read y)).map Ieee.double.write=_
  rw [aS a,ax b]
  show (if mg (y % 9223372036854775808)=0 then none else some (Ieee.Datum.infinity (_^^_))).map Ieee.double.write=_
  rw [if_neg c]
  show some (Ieee.double.write (.infinity _))=_
  rw [dP];rfl
 ·show ((Ieee.double.read y).product (Ieee.double.read x)).map Ieee.double.write=_
  rw [aS a,ax b]
  show (if mg (y % 9223372036854775808)=0 then none else some (Ieee.Datum.infinity (_^^_))).map Ieee.double.write=_
  rw [if_neg c]
  show some (Ieee.double.write (.infinity _))=_
  rw [dP,Bool.xor_comm];rfl
theorem xu {x y:Nat} (a:x % 9223372036854775808=9218868437227405312) (b:y % 9223372036854775808=9218868437227405312):floatBits .mul .f64 x y=some (wrd (sB x^^sB y) 9218868437227405312):=by
 show ((Ieee.double.read x).product (Ieee.double.read y)).map Ieee.double.write=_
 rw [aS a,aS b]
 show some (Ieee.double.write (.infinity _))=_
 rw [dP];rfl
theorem iw (u v:Int) (w:World) (h:U64 u) (b:U64 v) (hc:ah u=true\/(ah u=false/\ah v=true)\/(ah u=false/\ah v=false/\aX u=true/\(szI v==0)=true)\/(ah u=false/\ah v=false/\aX u=false/\aX v=true/\(szI u==0)=true)) :
  Calls Tryz.prog 63 #[.int .u64 u,.int .u64 v] w fun e a=>e=.returned (.int .u64 9221120237041090561)/\a=w:=by
 have j:=vk h b;rcases hc with c | ⟨c,d⟩| ⟨c,d,f,g⟩| ⟨c,d,f,g,i⟩
 all_goals
  go_enter Tryz.func63,Tryz.ntmps63
  go_wp2_with (first | (go_at_call_of 49 (Value.int IntKind.u64 u);refine (aj u _ h).mono ?_;rintro e a ⟨rfl,rfl⟩) | (go_at_call_of 49 (Value.int IntKind.u64 v);refine (aj v _ b).mono ?_;rintro e a ⟨rfl,rfl⟩) | (go_at_call_of 72 (Value.int IntKind.u64 u);refine (av u _ h).mono ?_;rintro e a ⟨rfl,rfl⟩) | (go_at_call_of 72 (Value.int IntKind.u64 v);refine (av v _ b).mono ?_;rintro e a ⟨rfl,rfl⟩) | (go_at_call_of 76 (Value.int IntKind.u64 u);refine (aH u _ h).mono ?_;rintro e a ⟨rfl,rfl⟩) | (go_at_call_of 76 (Value.int IntKind.u64 v);refine (aH v _ b).mono ?_;rintro e a ⟨rfl,rfl⟩))
  go_ret
  exact⟨rfl,rfl⟩
theorem kH (u v S:Int) (w:World) (h:U64 u) (b:U64 v) (k:bits .and .u64 (bits .xor .u64 u v) 9223372036854775808=S) (j:0<=S) (i:S<=9223372036854775808) (hn:ah u=false) (g:ah v=false) (hc:(aX u=true/\aX v=true/\(szI v==0)=false/\(szI u==0)=false)\/(aX u=true/\aX v=false/\(szI v==0)=false)\/(aX u=false/\aX v=true/\(szI u==0)=false)) :
  Calls Tryz.prog 63 #[.int .u64 u,.int .u64 v] w fun e a=>e=.returned (.int .u64 (S+9218868437227405312))/\a=w:=by
 rcases hc with⟨f,d,c,l⟩| ⟨f,d,c⟩| ⟨f,d,c⟩
 all_goals
  go_enter Tryz.func63,Tryz.ntmps63
  go_wp2_with (first | (go_at_call_of 49 (Value.int IntKind.u64 u);refine (aj u _ h).mono ?_;rintro e a ⟨rfl,rfl⟩) | (go_at_call_of 49 (Value.int IntKind.u64 v);refine (aj v _ b).mono ?_;rintro e a ⟨rfl,rfl⟩) | (go_at_call_of 72 (Value.int IntKind.u64 u);refine (av u _ h).mono ?_;rintro e a ⟨rfl,rfl⟩) | (go_at_call_of 72 (Value.int IntKind.u64 v);refine (av v _ b).mono ?_;rintro e a ⟨rfl,rfl⟩) | (go_at_call_of 76 (Value.int IntKind.u64 u);refine (aH u _ h).mono ?_;rintro e a ⟨rfl,rfl⟩) | (go_at_call_of 76 (Value.int IntKind.u64 v);refine (aH v _ b).mono ?_;rintro e a ⟨rfl,rfl⟩))
  go_ret
  exact⟨rfl,rfl⟩
theorem aG {P:Program} {f:Nat} {args:Array Value} {w:World} {Q:Ending->Prop} (h:Calls P f args w fun e c=>Q e/\c=w):Calls P f args w fun e c=>Q e/\w=c:=
 h.mono fun _ _ ⟨a,b⟩=>⟨a,b.symm⟩
theorem iz (u r:Int) (w:World) (h:U64 u) (d:szI u=r) :
  Calls Tryz.prog 76 #[.int .u64 u] w fun e c=>e=.returned (.int .u64 r)/\w=c:=by
 rw [<- d];exact (aH u w h).mono fun _ _ ⟨a,b⟩=>⟨a,b.symm⟩
theorem AU (x y:Nat) (u v S R:Int) (w:World) (hu:Hid (u=(x:Int))) (hv:Hid (v=(y:Int))) (h:U64 u) (G:U64 v) (L:ag x) (Q:ag y) (hS:bits .and .u64 (bits .xor .u64 u v) 9223372036854775808=S) (ab:0<=S) (ac:S<=9223372036854775808) (hR:Hid (lA (aV x*aV y)=R)) (hn:ah u=false) (t:ah v=false) (hi:aX u=false) (z:aX v=false) :
  Calls Tryz.prog 63 #[.int .u64 u,.int .u64 v] w fun e a=>e=.returned (.int .u64 (S+R))/\Below w.heap.size w a:=by
 have m:=aa L;have l:=aa Q;obtain⟨J,P⟩:=Iz (aV x*aV y);rw [hR.out] at J P
 have s:=aa (aj u · h);have A:=aa (aj v · G);have f:=aa (av u · h);have i:=aa (av v · G);rw [hn] at s
 rw [t] at A
 rw [hi] at f
 rw [z] at i
 have M:=aa fun w=>eL x u w hu h L
 have T:=aa fun w=>eL y v w hv G Q
 clear L Q hn t hi z h G
 go_enter Tryz.func63,Tryz.ntmps63
 go_wp2_with fail
 refine (aG (s.out _)).mono ?_
 rintro e a ⟨rfl,rfl⟩
 go_wp2_with fail
 refine (aG (A.out _)).mono ?_
 rintro e a ⟨rfl,rfl⟩
 go_wp2_with fail
 refine (aG (f.out _)).mono ?_
 rintro e a ⟨rfl,rfl⟩
 go_wp2_with fail
 refine (aG (i.out _)).mono ?_
 rintro e a ⟨rfl,rfl⟩
 go_wp2_with fail
 refine (aG (f.out _)).mono ?_
 rintro e a ⟨rfl,rfl⟩
 go_wp2_with fail
 refine (aG (i.out _)).mono ?_
 rintro e a ⟨rfl,rfl⟩
 go_wp2_with fail
 refine (M.out _).mono ?_
 rintro r w1 ⟨nx,vx,X,ex,rfl,n,hX,F⟩;have d:=aa F;have D:=aa n;have m:=aa hX;clear F n hX
 go_wp2_with fail
 refine (T.out _).mono ?_
 rintro r w2 ⟨ny,vy,Y,ey,rfl,B,hY,j⟩;have k:=aa (d.out.trans (j.mono d.out.size));have b:=aa (D.out.below j);have C:=aa B;have l:=aa hY;clear j B hY d D;have W:=aa (tf nx ny vx vy ex ey X Y w2 b.out C.out (by have:=dw m.out.lt;omega) (by have:=dw l.out.lt;omega) (by have:=m.out.lo;omega) (by have:=m.out.hi;omega) (by have:=l.out.lo;omega) (by have:=l.out.hi;omega))
 go_wp2_with fail
 refine W.out.mono ?_
 rintro r w3 ⟨neg,vs,N,E,rfl,p,U,hs,hE,o⟩;have g:=aa (k.out.trans (o.mono k.out.size));obtain⟨I,H,q3,V,q5⟩:=MI m.out l.out hs hE;rw [hR.out] at H
 have c:=aa (gJ neg vs E N w3 p q3 V q5);obtain⟨Z,hZ⟩:∃ Z,bN neg N E false=Z:=⟨_,rfl⟩;rw [hZ] at c I H
 have O:Hid (∀ w,Calls Tryz.prog 76 #[.int .u64 Z] w fun e a=>e=.returned (.int .u64 R)/\w=a):=fun w=>iz Z R w I H
 clear p U hs hE o k I H q3 V q5 hZ W b C m l
 go_wp2_with fail
 refine c.out.mono ?_
 rintro r w4 ⟨rfl,q⟩;have K:=aa (g.out.trans (q.mono g.out.size));clear q c g
 go_wp2_with fail
 refine (O.out _).mono ?_
 rintro r w5 ⟨rfl,rfl⟩
 go_wp2_with fail
 go_ret
 exact⟨rfl,K.out⟩
theorem Dl (s:Bool):0<=gO s/\gO s<=9223372036854775808:=by unfold gO;split<;>omega
theorem eE (s:Bool) (r:Nat):(wrd s r:Int)=gO s+r:=by unfold wrd gO;cases s<;>simp
theorem cX (x y:Nat) (u v:Int) (w:World) (l:Hid (u=(x:Int))) (i:Hid (v=(y:Int))) (h:U64 u) (g:U64 v) :
  Calls Tryz.prog 63 #[.int .u64 u,.int .u64 v] w fun e p=>e=.returned (.int .u64 (cn (floatBits .mul .f64 x y):Int))/\Below w.heap.size w p:=by
 have s:=vk h g;obtain⟨A,z⟩:=Dl (sgB u^^sgB v);have n:x<18446744073709551616:=by have:=h.2;rw [l.out] at this;omega
 have o:y<18446744073709551616:=by have:=g.2;rw [i.out] at this;omega
 have j:sgB u=sB x:=by rw [l.out];exact gh n
 have k:sgB v=sB y:=by rw [i.out];exact gh o
 have E:=bL l.out;have C:=bL i.out;have same:∀ {r:Int},(Calls Tryz.prog 63 #[.int .u64 u,.int .u64 v] w fun e p=>e=.returned (.int .u64 r)/\p=w)->(cn (floatBits .mul .f64 x y):Int)=r->Calls Tryz.prog 63 #[.int .u64 u,.int .u64 v] w fun e p=>e=.returned (.int .u64 (cn (floatBits .mul .f64 x y):Int))/\Below w.heap.size w p:=fun F e=>by
  rw [e];exact F.mono fun _ _ ⟨a,b⟩=>⟨a,by rw [b];exact Below.refl _ _⟩
 cases f:ah u with
 | true=>
  refine same (iw u v w h g (Or.inl f)) ?_
  rw [eD (by rw [<- l.out];exact f)];rfl
 | false=>
  cases d:ah v with
  | true=>
   refine same (iw u v w h g (Or.inr (Or.inl ⟨f,d⟩))) ?_
   rw [fu (by rw [<- i.out];exact d)];rfl
  | false=>
   cases hi:aX u with
   | true=>
    have B:=iv l.out hi;cases c:aX v with
    | true=>
     have q:=iv i.out c;refine same (kH u v _ w h g s A z f d (Or.inl ⟨hi,c,by rw [C,q];rfl,by rw [E,B];rfl⟩)) ?_
     rw [xu B q,ao,eE,j,k];rfl
    | false=>
     have t:=fK i.out d c
     by_cases m:y % 9223372036854775808=0
     ·refine same (iw u v w h g (Or.inr (Or.inr (Or.inl ⟨f,d,hi,by rw [C,m];rfl⟩)))) ?_
      rw [(lC B m).1];rfl
     ·refine same (kH u v _ w h g s A z f d (Or.inr (Or.inl ⟨hi,c,by rw [C];simp;omega⟩))) ?_
      rw [(gk B t m).1,ao,eE,j,k];rfl
   | false=>
    have D:=fK l.out f hi;cases c:aX v with
    | true=>
     have q:=iv i.out c
     by_cases m:x % 9223372036854775808=0
     ·refine same (iw u v w h g (Or.inr (Or.inr (Or.inr ⟨f,d,hi,c,by rw [E,m];rfl⟩)))) ?_
      rw [(lC q m).2];rfl
     ·refine same (kH u v _ w h g s A z f d (Or.inr (Or.inr ⟨hi,c,by rw [E];simp;omega⟩))) ?_
      rw [(gk q D m).2,ao,eE,j,k];rfl
    | false=>
     have t:=fK i.out d c;have e:(cn (floatBits .mul .f64 x y):Int)=gO (sgB u^^sgB v)+lA (aV x*aV y):=by rw [gg D t,ao,MH,j,k]
     rw [e];exact AU x y u v _ _ w l i h g D t s A z rfl f d hi c
theorem xv (x:Nat):vI x=sg (sB x) (aV x):=rfl
theorem iA (neg:Bool) (N k:Nat):sg neg (N*k)=sg neg N*(k:Int):=by
 unfold sg;cases neg<;>simp [Int.neg_mul]
theorem aT (neg:Bool):sg neg 0=0:=by cases neg<;>rfl
theorem xx {x X n k:Nat} {nx:Bool} {ex:Int} (h:OfR x nx X ex) (b:X≠0->n+k=(ex+1074).toNat):sg nx (X*2^n)*((2^k:Nat):Int)=vI x:=by
 rw [<- iA,Nat.mul_assoc,<- Nat.pow_add,xv,<- h.val]
 by_cases a:X=0
 ·rw [a,Nat.zero_mul,Nat.zero_mul,aT,aT]
 ·rw [b a,h.sgn a]
structure AddR (x y X Y:Nat) (nx ny:Bool) (ex ey E:Int) (n m k:Nat):Prop where
 hn:X≠0->ex - E=(n:Int)
 hm:Y≠0->ey - E=(m:Int)
 hn1:n<=3000
 hm1:m<=3000
 lo: -1074<=E
 hi:E<=971
 hk:E+1074=(k:Int)
 had:nd (X*2^n)<=10000000
 hbd:nd (Y*2^m)<=10000000
 val:(sg nx (X*2^n)+sg ny (Y*2^m))*((2^k:Nat):Int)=vI x+vI y
 small:∃ K,K<=3100/\(sg nx (X*2^n)+sg ny (Y*2^m)).natAbs<2^K
theorem tq {X n K:Nat} (c:K=3060) (h:X<9007199254740992) (hn:n<=3000):X*2^n<2^K:=by
 have b:(2:Nat)^n<=2^(K - 60):=Nat.pow_le_pow_right (by decide) (by omega)
 have a:X*2^n<2^53*2^(K - 60):=Nat.mul_lt_mul_of_lt_of_le h b (Nat.two_pow_pos _);rw [<- Nat.pow_add] at a
 exact Nat.lt_of_lt_of_le a (Nat.pow_le_pow_right (by decide) (by omega))
theorem mN {X K:Nat} (b:K<=3100) (h:X<2^K):nd X<=1000:=by
 obtain⟨k,a⟩:∃ k:Nat,k=97:=⟨_,rfl⟩;have:=bP (N:=X) (k:=k) (Nat.lt_of_lt_of_le h (Nat.pow_le_pow_right (by decide) (by omega)))
 omega
theorem EJ {a b P Q:Nat} {s t:Bool} (e:a<P) (d:b<P) (c:P+P<=Q):(sg s a+sg t b).natAbs<Q:=by
 unfold sg;cases s<;>cases t<;>simp only [Bool.false_eq_true,if_true,if_false]<;>omega
theorem MJ {x y X Y:Nat} {nx f:Bool} {ex ey E:Int} (d:OfR x nx X ex) (c:OfR y f Y ey) (u:iY X ex Y ey=E):∃ n m k,AddR x y X Y nx f ex ey E n m k:=by
 have p:=d.lo;have r:=d.hi;have t:=c.lo;have q:=c.hi;have e: -1074<=E/\E<=971/\(X≠0->E<=ex)/\(Y≠0->E<=ey):=by
  rw [<- u];unfold iY
  by_cases a:X=0
  ·rw [if_pos a];refine⟨t,q,fun h=>absurd a h,fun _=>Int.le_refl _⟩
  ·rw [if_neg a]
   by_cases b:Y=0
   ·rw [if_pos b];exact⟨p,r,fun _=>Int.le_refl _,fun h=>absurd b h⟩
   ·rw [if_neg b];refine⟨by omega,by omega,fun _=>by omega,fun _=>by omega⟩
 obtain⟨v,s,l,o⟩:=e;obtain⟨K,i⟩:∃ K:Nat,K=3060:=⟨_,rfl⟩;have g:=tq (n:=(ex - E).toNat) i d.lt (by omega)
 have j:=tq (n:=(ey - E).toNat) i c.lt (by omega)
 refine⟨(ex - E).toNat,(ey - E).toNat,(E+1074).toNat,⟨fun h=>by have:=l h;omega,fun h=>by have:=o h;omega,by omega,by omega,v,s,by omega,?_,?_,?_,?_⟩⟩
 ·exact Nat.le_trans (mN (by omega) g) (by decide)
 ·exact Nat.le_trans (mN (by omega) j) (by decide)
 ·rw [Int.add_mul,xx d (fun h=>by have:=l h;omega),xx c (fun h=>by have:=o h;omega)]
 ·refine⟨K+1,by omega,EJ g j ?_⟩
  rw [Nat.pow_succ];omega
theorem kI {neg:Bool} {N:Nat} (h:N≠0):decide (sg neg N<0)=neg:=by
 unfold sg;cases neg
 ·simp
 ·simp;omega
theorem ji {S:Int} (k:Nat):(S*((2^k:Nat):Int)<0↔S<0)/\(S*((2^k:Nat):Int)=0↔S=0):=by
 have b:(0:Int)<((2^k:Nat):Int):=by have:=Nat.two_pow_pos k;omega
 refine⟨⟨fun h=>?_,fun h=>Int.mul_neg_of_neg_of_pos h b⟩,⟨fun h=>?_,fun h=>by rw [h,Int.zero_mul]⟩⟩
 ·by_cases a:S<0
  ·exact a
  ·have:=Int.mul_nonneg (by omega:0<=S) (by omega:(0:Int)<=((2^k:Nat):Int));omega
 ·rcases Int.mul_eq_zero.1 h with h | h
  ·exact h
  ·omega
theorem ML {x y X Y n m k N:Nat} {nx l neg:Bool} {ex ey E b:Int} (h:AddR x y X Y nx l ex ey E n m k) (s:sg neg N=sg nx (X*2^n)+sg l (Y*2^m)) (r:b=E\/(b=0/\N=0)) (a:N≠0) :
  bN neg N b false=(jc (sB x) (sB y) (vI x+vI y):Int):=by
 obtain⟨S,c⟩:∃ S,sg neg N=S:=⟨_,rfl⟩;have p:=h.val;rw [<- s,c] at p
 have d:S≠0:=by
  intro e;rw [e] at c
  have:=bH neg N;rw [c] at this;exact a this.symm
 have g:S.natAbs=N:=by rw [<- c];exact bH neg N
 have f:b=E:=by
  rcases r with h | ⟨_,h⟩
  ·exact h
  ·exact absurd h a
 rw [fJ neg b a,f];unfold jc;rw [<- p];obtain⟨j,o⟩:=ji (S:=S) k;rw [if_neg (fun e=>d (o.1 e))]
 unfold aI;rw [if_neg (fun e=>d (o.1 e)),bg,g]
 have q:=bf a k E;rw [show E - (k:Int)= -1074 by have:=h.hk;omega] at q
 rw [q];have i:=kI (neg:=neg) a;rw [c] at i
 cases neg
 ·rw [if_neg (by decide),if_neg (fun e=>by have:=j.1 e;simp at i;omega)];omega
 ·rw [if_pos rfl,if_pos (j.2 (by simpa using i))];omega
theorem IA {r:Nat} (h:V r=0):r=0:=by
 have:=fD (r:=r) (s:=0);rw [bp] at this
 exact this.1 h
theorem IB {x y:Nat} {u v:Int} (c:u=(x:Int)) (o:v=(y:Int)) (h:U64 u) (p:U64 v) (a:vI x+vI y=0) :
  (((szI u==0)=true/\(u==v)=true)/\u=(jc (sB x) (sB y) (vI x+vI y):Int))\/(((szI u==0)=false\/((szI u==0)=true/\(u==v)=false))/\(0:Int)=(jc (sB x) (sB y) (vI x+vI y):Int)):=by
 have r:=bL c;have m:x<18446744073709551616:=by have:=h.2;omega
 have n:y<18446744073709551616:=by have:=p.2;omega
 unfold jc;rw [if_pos a];rw [xv,xv] at a
 by_cases d:szI u=0
 ·have i:x % 9223372036854775808=0:=by omega
  have b:aV x=0:=by unfold aV;rw [i];exact bp
  have g:aV y=0:=by
   rw [b,aT,Int.zero_add] at a
   have:=bH (sB y) (aV y);rw [a] at this;exact this.symm
  have q:y % 9223372036854775808=0:=IA g
  by_cases f:u=v
  ·left
   refine⟨⟨by rw [d];rfl,by rw [f];exact beq_self_eq_true v⟩,?_⟩
   have l:x=y:=by omega
   subst l;unfold sB;rcases (show x=0\/x=9223372036854775808 by omega) with e | e
   ·subst e;rw [c];rfl
   ·subst e;rw [c];rfl
  ·right
   refine⟨Or.inr ⟨by rw [d];rfl,by simpa using f⟩,?_⟩
   unfold sB;rcases (show x=0\/x=9223372036854775808 by omega) with e | e
   ·subst e;rfl
   ·subst e;rcases (show y=0\/y=9223372036854775808 by omega) with e | e
    ·subst e;rfl
    ·exact absurd (by rw [c,o,e]) f
 ·right
  refine⟨Or.inl (by simpa using d),?_⟩
  have b:aV x≠0:=fun e=>d (by have:=IA e;omega)
  cases j:sB x
  ·rfl
  ·cases k:sB y
   ·rfl
   ·rw [j,k] at a;unfold sg at a;simp at a;omega
theorem lD {x y:Nat} (b:x % 9223372036854775808=9218868437227405312) (d:ag y) (a:x<18446744073709551616):floatBits .add .f64 x y=some x/\floatBits .add .f64 y x=some x:=by
 have c:wrd (sB x) 9218868437227405312=x:=by
  unfold wrd sB;rcases (show x / 9223372036854775808=0\/x / 9223372036854775808=1 by omega) with e | e
  ·rw [e];simp;omega
  ·rw [e];simp;omega
 constructor
 ·show ((Ieee.double.read x).sum (Ieee.double.read y)).map Ieee.double.write=_
  rw [aS b,ax d]
  show some (Ieee.double.write (.infinity _))=_
  rw [dP];exact congrArg some c
 ·show ((Ieee.double.read y).sum (Ieee.double.read x)).map Ieee.double.write=_
  rw [aS b,ax d]
  show some (Ieee.double.write (.infinity _))=_
  rw [dP];exact congrArg some c
theorem pU {x y:Nat} (d:x % 9223372036854775808=9218868437227405312) (f:y % 9223372036854775808=9218868437227405312) (a:x<18446744073709551616) (b:y<18446744073709551616):floatBits .add .f64 x y=if x=y then some x else none:=by
 show ((Ieee.double.read x).sum (Ieee.double.read y)).map Ieee.double.write=_
 rw [aS d,aS f];rcases (show x=9218868437227405312\/x=18442240474082181120 by omega) with e | e<;>rcases (show y=9218868437227405312\/y=18442240474082181120 by omega) with c | c<;>subst e<;>subst c<;>decide+kernel
theorem kJ (u v:Int) (w:World) (h:U64 u) (b:U64 v) (hc:ah u=true\/(ah u=false/\ah v=true)\/(ah u=false/\ah v=false/\aX u=true/\aX v=true/\(u==v)=false)) :
  Calls Tryz.prog 50 #[.int .u64 u,.int .u64 v] w fun e a=>e=.returned (.int .u64 9221120237041090561)/\a=w:=by
 rcases hc with c | ⟨c,d⟩| ⟨c,d,f,i,g⟩
 all_goals
  go_enter Tryz.func50,Tryz.ntmps50
  go_wp2_with (first | (go_at_call_of 49 (Value.int IntKind.u64 u);refine (aj u _ h).mono ?_;rintro e a ⟨rfl,rfl⟩) | (go_at_call_of 49 (Value.int IntKind.u64 v);refine (aj v _ b).mono ?_;rintro e a ⟨rfl,rfl⟩) | (go_at_call_of 72 (Value.int IntKind.u64 u);refine (av u _ h).mono ?_;rintro e a ⟨rfl,rfl⟩) | (go_at_call_of 72 (Value.int IntKind.u64 v);refine (av v _ b).mono ?_;rintro e a ⟨rfl,rfl⟩))
  go_ret
  exact⟨rfl,rfl⟩
theorem kK (u v r:Int) (w:World) (h:U64 u) (c:U64 v) (hn:ah u=false) (g:ah v=false) (hc:(aX u=true/\aX v=true/\(u==v)=true/\r=u)\/(aX u=true/\aX v=false/\r=u)\/(aX u=false/\aX v=true/\r=v)) :
  Calls Tryz.prog 50 #[.int .u64 u,.int .u64 v] w fun e a=>e=.returned (.int .u64 r)/\a=w:=by
 rcases hc with⟨f,d,j,b⟩| ⟨f,d,b⟩| ⟨f,d,b⟩
 all_goals
  have i:=aa b;clear b
  go_enter Tryz.func50,Tryz.ntmps50
  go_wp2_with (first | (go_at_call_of 49 (Value.int IntKind.u64 u);refine (aj u _ h).mono ?_;rintro e a ⟨rfl,rfl⟩) | (go_at_call_of 49 (Value.int IntKind.u64 v);refine (aj v _ c).mono ?_;rintro e a ⟨rfl,rfl⟩) | (go_at_call_of 72 (Value.int IntKind.u64 u);refine (av u _ h).mono ?_;rintro e a ⟨rfl,rfl⟩) | (go_at_call_of 72 (Value.int IntKind.u64 v);refine (av v _ c).mono ?_;rintro e a ⟨rfl,rfl⟩))
  go_ret
  exact⟨bA i.out.symm,rfl⟩
theorem AW (x y:Nat) (u v R:Int) (w:World) (hu:Hid (u=(x:Int))) (hv:Hid (v=(y:Int))) (h:U64 u) (S:U64 v) (hx:ag x) (hy:ag y) (hR:Hid ((jc (sB x) (sB y) (vI x+vI y):Int)=R)) (hn:ah u=false) (U:ah v=false) (hi:aX u=false) (W:aX v=false) :
  Calls Tryz.prog 50 #[.int .u64 u,.int .u64 v] w fun e G=>e=.returned (.int .u64 R)/\Below w.heap.size w G:=by
 have T:=aa (aj u · h);have Z:=aa (aj v · S);have z:=aa (av u · h);have ai:=aa (av v · S);rw [hn] at T
 rw [U] at Z
 rw [hi] at z
 rw [W] at ai
 have Q:=aa fun w=>eL x u w hu h hx
 have V:=aa fun w=>eL y v w hv S hy
 have ba:=aa (aH u · h);have am:=aa fun (hT:vI x+vI y=0)=>IB hu.out hv.out h S hT
 clear hx hy hn U hi W h S
 go_enter Tryz.func50,Tryz.ntmps50
 go_wp2_with fail
 refine (aG (T.out _)).mono ?_
 rintro e G ⟨rfl,rfl⟩
 go_wp2_with fail
 refine (aG (Z.out _)).mono ?_
 rintro e G ⟨rfl,rfl⟩
 go_wp2_with fail
 refine (aG (z.out _)).mono ?_
 rintro e G ⟨rfl,rfl⟩
 go_wp2_with fail
 refine (aG (z.out _)).mono ?_
 rintro e G ⟨rfl,rfl⟩
 go_wp2_with fail
 refine (aG (ai.out _)).mono ?_
 rintro e G ⟨rfl,rfl⟩
 go_wp2_with fail
 refine (Q.out _).mono ?_
 rintro r w1 ⟨nx,vx,X,ex,rfl,O,hX,al⟩;have t:=aa al;have ad:=aa O;have HX:=aa hX;clear al O hX
 go_wp2_with fail
 refine (V.out _).mono ?_
 rintro r w2 ⟨ny,vy,Y,ey,rfl,ab,hY,C⟩;have D:=aa (t.out.trans (C.mono t.out.size));have q:=aa (ad.out.below C);have ac:=aa ab;have HY:=aa hY;clear C ab hY t ad;obtain⟨E,hE⟩:∃ E,iY X ex Y ey=E:=⟨_,rfl⟩;obtain⟨n,m,k,o⟩:=MJ HX.out HY.out hE;have HP:=aa (pK nx ny vx vy ex ey E X Y n m w2 q.out ac.out hE o.hn o.hm (by have:=o.hn1;omega) (by have:=o.hm1;omega) (by have:=dw HX.out.lt;omega) (by have:=dw HY.out.lt;omega) o.had o.hbd)
 have H:=aa o;clear o hE
 go_wp2_with fail
 refine HP.out.mono ?_
 rintro r w3 ⟨neg,vs,N,I,rfl,s,bc,hs,A,P⟩;have B:=aa (D.out.trans (P.mono D.out.size));obtain⟨p,l,c,rfl⟩:=s.shape;have L:=aa s;have i:Hid (nd N<=1000000/\-10000000<=I/\I<=10000000):=by
  obtain⟨K,hK,h1⟩:=H.out.small;rw [<- hs,bH] at h1
  have h2:=mN hK h1;have h3:=H.out.lo;have h4:=H.out.hi;refine⟨by omega,?_,?_⟩ <;>rcases A with e | ⟨e,_⟩ <;>omega
 have HV:Hid (N≠0->bN neg N I false=R):=fun f=>by rw [<- hR.out];exact ML H.out hs A f
 have HT:Hid (N=0->vI x+vI y=0):=fun f=>by rw [<- H.out.val,<- hs,f,aT,Int.zero_mul]
 clear s bc hs A P D H HP q ac HX HY Q V;have d:=aa (aD w3 neg (.slice p l c) I);have j:=aa (L.out.below d.out);have a:=aa (B.out.trans (d.out.mono B.out.size))
 go_wp2_with fail
 by_cases f:N=0
 ·have F:=aa (am.out (HT.out f));rw [hR.out] at F
  refine (aY _ _ _ N true _ j.out (decide_eq_true f)).mono ?_
  rintro r w4 ⟨rfl,b⟩;have g:=aa (a.out.trans (b.mono a.out.size));clear b f;rcases F.out with⟨⟨a1,a2⟩,a3⟩| ⟨a1 | ⟨a1,a2⟩,a3⟩
  all_goals
   have as:=aa a3;clear a3 F
   go_wp2_with (go_at_call 76;refine (aG (ba.out _)).mono ?_;rintro r w5 ⟨rfl,rfl⟩)
   go_ret
   exact⟨bA as.out,g.out⟩
 ·refine (aY _ _ _ N false _ j.out (decide_eq_false f)).mono ?_
  rintro r w4 ⟨rfl,b⟩;obtain⟨c0,c1,c2⟩:=jQ b;have g:=aa (a.out.trans (b.mono a.out.size));have J:=aa (gJ neg _ I N w4 (j.out.below b) i.out.1 i.out.2.1 i.out.2.2);rw [HV.out f] at J
  clear b f j d a B L i HV HT am
  go_wp2_with fail
  refine J.out.mono ?_
  rintro r w5 ⟨rfl,M⟩;have bb:=aa (g.out.trans (M.mono g.out.size));clear M
  go_wp2_with fail
  go_ret
  exact⟨rfl,bb.out⟩
theorem fM (x y:Nat) (u v:Int) (w:World) (k:Hid (u=(x:Int))) (i:Hid (v=(y:Int))) (h:U64 u) (l:U64 v) :
  Calls Tryz.prog 50 #[.int .u64 u,.int .u64 v] w fun e m=>e=.returned (.int .u64 (cn (floatBits .add .f64 x y):Int))/\Below w.heap.size w m:=by
 have f:x<18446744073709551616:=by have:=h.2;rw [k.out] at this;omega
 have g:y<18446744073709551616:=by have:=l.2;rw [i.out] at this;omega
 have same:∀ {r:Int},(Calls Tryz.prog 50 #[.int .u64 u,.int .u64 v] w fun e m=>e=.returned (.int .u64 r)/\m=w)->(cn (floatBits .add .f64 x y):Int)=r->Calls Tryz.prog 50 #[.int .u64 u,.int .u64 v] w fun e m=>e=.returned (.int .u64 (cn (floatBits .add .f64 x y):Int))/\Below w.heap.size w m:=fun t e=>by
  rw [e];exact t.mono fun _ _ ⟨a,b⟩=>⟨a,by rw [b];exact Below.refl _ _⟩
 cases j:ah u with
 | true=>
  refine same (kJ u v w h l (Or.inl j)) ?_
  rw [eD (by rw [<- k.out];exact j)];rfl
 | false=>
  cases d:ah v with
  | true=>
   refine same (kJ u v w h l (Or.inr (Or.inl ⟨j,d⟩))) ?_
   rw [fu (by rw [<- i.out];exact d)];rfl
  | false=>
   cases hi:aX u with
   | true=>
    have s:=iv k.out hi;cases c:aX v with
    | true=>
     have o:=iv i.out c
     by_cases p:x=y
     ·refine same (kK u v u w h l j d (Or.inl ⟨hi,c,by rw [k.out,i.out,p];exact beq_self_eq_true _,rfl⟩)) ?_
      rw [pU s o f g,if_pos p,ao,k.out]
     ·refine same (kJ u v w h l (Or.inr (Or.inr ⟨j,d,hi,c,?_⟩))) ?_
      ·rw [k.out,i.out];simp;omega
      ·rw [pU s o f g,if_neg p];rfl
    | false=>
     have n:=fK i.out d c;refine same (kK u v u w h l j d (Or.inr (Or.inl ⟨hi,c,rfl⟩))) ?_
     rw [(lD s n f).1,ao,k.out]
   | false=>
    have q:=fK k.out j hi;cases c:aX v with
    | true=>
     have o:=iv i.out c;refine same (kK u v v w h l j d (Or.inr (Or.inr ⟨hi,c,rfl⟩))) ?_
     rw [(lD o q g).2,ao,i.out]
    | false=>
     have n:=fK i.out d c;have e:cn (floatBits .add .f64 x y)=jc (sB x) (sB y) (vI x+vI y):=by rw [lv q n,ao];rfl
     rw [e];exact AW x y u v _ w k i h l q n rfl j d hi c
theorem xz {op:BinOp} (a:op=.add\/op=.sub\/op=.mul\/op=.quo) (x y:Nat):cn (floatBits op .f64 x y)<18446744073709551616:=by
 cases h:floatBits op .f64 x y with
 | none=>decide
 | some r=>exact cR a h
theorem pV:ah ((9221120237041090561:Nat):Int)=true:=by decide
theorem ID (o:Option Nat):Ag o (cn o):=by
 cases o with
 | none=>exact⟨pV,by decide⟩
 | some r=>rfl
def FitL (l:List Nat):Prop:=∀ x ∈ l,x<18446744073709551616
theorem FitL.get {l:List Nat} (h:FitL l) (i:Nat):l.getD i 0<18446744073709551616:=by
 by_cases hi:i<l.length
 ·have e:l.getD i 0=l[i]:=by simp [List.getD,List.getElem?_eq_getElem hi]
  rw [e];exact h _ (List.getElem_mem hi)
 ·have e:l.getD i 0=0:=by simp [List.getD,List.getElem?_eq_none (show l.length<=i by omega)]
  rw [e];decide
theorem xA (o:Option Nat) (x:Nat):floatBits .mul .f64 (cn o) x=o.bind fun p=>floatBits .mul .f64 p x:=by
 cases o with
 | none=>rw [lz,eD pV];rfl
 | some r=>rfl
theorem xB (o:Option Nat) (x:Nat):floatBits .add .f64 (cn o) x=o.bind fun p=>floatBits .add .f64 p x:=by
 cases o with
 | none=>rw [lz,eD pV];rfl
 | some r=>rfl
theorem pW (x c:Nat) (o:Option Nat):floatBits .add .f64 (cn (floatBits .mul .f64 (cn o) x)) c=gj x o c:=by
 rw [xA,xB];rfl
theorem kv (B n x:Nat) (v:Value) (u:Int) (cs:List Nat) (w:World) (U:OwnF w B 41 uV v cs) (P:FitL cs) (hu:Hid (u=(x:Int))) (h:Hid (U64 u)) (r:cs.length=n) (hn:n<=1000000) :
  Calls Tryz.prog 103 #[v,.int .u64 u] w fun e C=>e=.returned (.int .u64 (cn (bj cs x):Int))/\Below w.heap.size w C:=by
 obtain⟨p,g,c,rfl,A,R⟩:=U.shape;rw [r];have HF:=hideS P;have HN:=hideS r;have HR:=hideS R
 by_cases h0:n=0
 ·subst h0;have b:Hid (bj cs x=some 0):=by show _=_;unfold bj;rw [if_pos r]
  rw [b.out];clear U P r A R HR HF HN
  go_enter Tryz.func103,Tryz.ntmps103
  go_wp2
  go_ret
  exact⟨rfl,Below.refl _ _⟩
 obtain⟨m,rfl⟩:∃ m,n=m+1:=⟨n - 1,by omega⟩
 obtain⟨rfl,_,hg⟩:=A (by omega)
 have Y:w.cell? ⟨g,m,none⟩=some (.int .u64 ((cs.getD m 0:Nat):Int)):=R m (by omega)
 have b:Hid (bj cs x=hornAt cs x m):=by show _=_;unfold bj;rw [if_neg (by omega),r];rfl
 have J:Hid (((cs.getD m 0:Nat):Int)=(cn (hornAt cs x 0):Int)):=by show _=_;unfold hornAt;rw [r];rfl
 have T:Hid (∀ i,hornAt cs x (i+1)=gj x (hornAt cs x i) (cs.getD (m - 1 - i) 0)):=fun i=>by
  show gj x (hornAt cs x i) (cs.getD (cs.length - 2 - i) 0)=_
  rw [r];rfl
 have N:=hideS (af (P.get m));generalize ((cs.getD m 0:Nat):Int)=p0 at Y J N
 rw [b.out];obtain⟨I,l⟩:∃ I:Int,(cn (hornAt cs x m):Int)=I:=⟨_,rfl⟩;rw [l];have W:=hideS l;have al:((m:Int)+1==0)=false:=by simp;omega
 clear U P r A R h0 b l
 go_enter Tryz.func103,Tryz.ntmps103
 go_wp2_with fail
 go_loopw [5,6] (fun s i O=>∃ (t a:Int),-1<=t/\t<(m:Int)/\i=.int .i64 t/\s=.int .u64 a/\Hid (∃ k:Nat,(k:Int)=(m:Int) - 1 - t/\a=(cn (hornAt cs x k):Int))/\Hid (U64 a)/\Hid (Below w.heap.size w O)) (fun _ i _=>(intOf i+1).toNat)
 case atStart=>exact⟨(m:Int) - 1,p0,by omega,by omega,by congr 1;omega,rfl,⟨0,by omega,J.out⟩,N,Below.refl _ _⟩
 case round=>
  obtain⟨t,a,X,ad,rfl,rfl,HK,HU,M⟩:=hrel
  by_cases ac:0<=t
  ·obtain⟨j,rfl⟩:=Int.eq_ofNat_of_zero_le ac;obtain⟨k,hk,A⟩:=HK.out;have HA:=hideS A;have hj:m - 1 - k=j:=by omega
   have K:j<cs.length:=by rw [HN.out];omega
   have o:O.cell? ⟨g,j,none⟩=some (.int .u64 ((cs.getD j 0:Nat):Int)):=(M.out.cell (p:=⟨g,j,none⟩) hg).trans (HR.out j K);have d:=hideS (T.out k);rw [hj] at d
   have G:=hideS (af (HF.out.get j));obtain⟨y,hy⟩:∃ y:Nat,cs.getD j 0=y:=⟨_,rfl⟩;rw [hy] at o d G
   obtain⟨L,F⟩:∃ L:Int,L=(y:Int):=⟨_,rfl⟩;rw [<- F] at o G
   have V:=hideS F;have E:g<O.heap.size:=Nat.lt_of_lt_of_le hg M.out.size;obtain⟨q,Q⟩:∃ q:Int,q=(cn (floatBits .mul .f64 (cn (hornAt cs x k)) x):Int):=⟨_,rfl⟩;obtain⟨z,Z⟩:∃ z:Int,z=(cn (hornAt cs x (k+1)):Int):=⟨_,rfl⟩;have HM:Hid (∀ w,Calls Tryz.prog 63 #[.int .u64 a,.int .u64 u] w fun e C=>e=.returned (.int .u64 q)/\Below w.heap.size w C):=fun w=>by rw [Q];exact cX _ x a u w HA hu HU.out h.out
   have HD:Hid (∀ w,Calls Tryz.prog 50 #[.int .u64 q,.int .u64 L] w fun e C=>e=.returned (.int .u64 z)/\Below w.heap.size w C):=fun w=>by
    have:=fM (cn (floatBits .mul .f64 (cn (hornAt cs x k)) x)) y q L w Q V (by rw [Q];exact af (xz (by simp) _ _)) G.out
    rw [pW,<- d.out,<- Z] at this
    exact this
   have HZ:Hid (z=(cn (hornAt cs x (k+1)):Int)):=Z;have ab:Hid (U64 z):=by rw [HZ.out,d.out,<- pW];exact af (xz (by simp) _ _)
   have HK2:Hid (∃ k:Nat,(k:Int)=(m:Int) - 1 - ((j:Int) - 1)/\z=(cn (hornAt cs x k):Int)):=⟨k+1,by omega,HZ.out⟩
   have ai:(j:Int)<(m:Int)+1:=by omega
   clear Q Z F hy hj d HA hk A K HK X
   go_wp2_with fail
   go_region_held3 (fun C=>C.cell? ⟨g,j,none⟩=some (.int .u64 L)) (first | exact o | exact (f.cell (p:=⟨g,j,none⟩) E).trans o | exact (D.cell (p:=⟨g,j,none⟩) (Nat.lt_of_lt_of_le E f.size)).trans ((f.cell (p:=⟨g,j,none⟩) E).trans o) | go_keep) (first | ((go_at_call 63;refine (HM.out _).mono ?_;rintro e w3 ⟨rfl,f⟩)) | ((go_at_call 50;refine (HD.out _).mono ?_;rintro e w4 ⟨rfl,D⟩)))
   have H:=hideS (M.out.drew.trans (f.mono (show w.heap.size<=O.heap.size from M.out.size)))
   have S:=hideS (H.out.trans (D.mono H.out.size));clear f D H HM HD
   go_wp2_with fail
   go_roundw
   case rel=>exact⟨(j:Int) - 1,z,by omega,by omega,rfl,rfl,HK2,ab,S⟩
   case measure=>simp [intOf]
  ·obtain rfl:t= -1:=by omega
   have HE:Hid (a=I):=by
    obtain⟨k,hk,A⟩:=HK.out;have:k=m:=by omega
    rw [<- W.out,<- this];exact A
   clear HK;go_wp2
   go_ret
   exact⟨bA HE.out,M.out⟩
end Go.Proofs.YtfdddijdjpijbaaGreat
