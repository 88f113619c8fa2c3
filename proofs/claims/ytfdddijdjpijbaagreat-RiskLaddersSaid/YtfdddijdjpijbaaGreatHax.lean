/-  -/
import Derived.Test.YtfdddijdjpijbaaGreatHaw
import Derived.Test.YtfdddijdjpijbaaGreatHar
import Derived.Deep.RegionHeld3
import Derived.Test.YtfdddijdjpijbaaGreatHau
import Derived.Test.YtfdddijdjpijbaaGreatHas
import Derived.LoopTactic
import Derived.Sort.Row
import Derived.Deep.LoopGhost
import Derived.Test.YtfdddijdjpijbaaGreatHaq
set_option maxHeartbeats 3200000
set_option maxRecDepth 20000
namespace Go.Proofs.YtfdddijdjpijbaaGreat
open Go.RowKit
def iQ (X:Nat) (ex:Int) (Y:Nat) (ey:Int):Int:=if X=0 then ey else if Y=0 then ex else min ex ey
def sg (neg:Bool) (N:Nat):Int:=if neg then -(N:Int) else (N:Int)
abbrev boxN (w:World) (n:Bool) (v:Value) (e:Int):World:=w.alloc (.cells #[.bool n,v,.int .i64 e] 83)
theorem aE (w:World) (n:Bool) (v:Value) (e:Int):Below w.heap.size w (boxN w n v e):=(Below.refl _ _).alloc (Nat.le_refl _) _
def Six (w:World) (B:Nat) (nx:Bool) (c:Value) (ex:Int) (b:Bool) (a:Value) (ey:Int):Prop:=
 w.cell? ⟨B,0,none⟩=some (.bool nx)/\w.cell? ⟨B,1,none⟩=some c/\w.cell? ⟨B,2,none⟩=some (.int .i64 ex)/\
 w.cell? ⟨B+1,0,none⟩=some (.bool b)/\w.cell? ⟨B+1,1,none⟩=some a/\w.cell? ⟨B+1,2,none⟩=some (.int .i64 ey)
theorem uC (w:World) (nx:Bool) (a:Value) (ex:Int) (d:Bool) (b:Value) (ey:Int):Six (boxN (boxN w nx a ex) d b ey) w.heap.size nx a ex d b ey:=by
 have f:=aE (boxN w nx a ex) d b ey;have c:w.heap.size<(boxN w nx a ex).heap.size:=by simp
 refine⟨?_,?_,?_,?_,?_,?_⟩
 ·rw [f.cell (p:=⟨w.heap.size,0,none⟩) c];simp
 ·rw [f.cell (p:=⟨w.heap.size,1,none⟩) c];simp
 ·rw [f.cell (p:=⟨w.heap.size,2,none⟩) c];simp
 ·have e:w.heap.size+1=(boxN w nx a ex).heap.size:=by simp
  rw [e];simp
 ·have e:w.heap.size+1=(boxN w nx a ex).heap.size:=by simp
  rw [e];simp
 ·have e:w.heap.size+1=(boxN w nx a ex).heap.size:=by simp
  rw [e];simp
theorem Six.below {w l:World} {B:Nat} {nx j:Bool} {k m:Value} {ex ey:Int} {s:Nat} (h:Six w B nx k ex j m ey) (g:Below s w l) (i:B+1<s):Six l B nx k ex j m ey:=by
 obtain⟨a,b,c,d,e,f⟩:=h;exact⟨(g.cell (p:=⟨B,0,none⟩) (by show B<s;omega)).trans a,(g.cell (p:=⟨B,1,none⟩) (by show B<s;omega)).trans b,(g.cell (p:=⟨B,2,none⟩) (by show B<s;omega)).trans c,(g.cell (p:=⟨B+1,0,none⟩) i).trans d,(g.cell (p:=⟨B+1,1,none⟩) i).trans e,(g.cell (p:=⟨B+1,2,none⟩) i).trans f⟩
theorem gw (w:World) (nx:Bool) (c:Value) (ex:Int) (b:Bool) (a:Value) (ey:Int):(boxN (boxN w nx c ex) b a ey).heap.size=w.heap.size+2:=by simp
theorem wS (nx m:Bool) (h l:Value) (ex ey:Int) (X Y:Nat) (w:World) (z:DN w h X) (v:DN w l Y) :
  Calls Tryz.prog 112 #[.agg #[.bool nx,h,.int .i64 ex],.agg #[.bool m,l,.int .i64 ey]] w fun e F=>e=.returned (.int .i64 (iQ X ex Y ey))/\Below w.heap.size w F:=by
 have n:=aE w nx h ex;have f:Below w.heap.size w (boxN (boxN w nx h ex) m l ey):=n.trans ((aE (boxN w nx h ex) m l ey).mono (by simp))
 have t:=aa (z.below f);have k:=aa (v.below f);have u:=aa f;have s:=aa (uC w nx h ex m l ey);have d:=aa (gw w nx h ex m l ey);clear n f z v;unfold iQ
 by_cases g:X=0
 ·subst g;rw [if_pos rfl]
  go_enter Tryz.func112,Tryz.ntmps112
  go_wp2_with fail
  refine (aZ _ _ _ 0 true _ t.out rfl).mono ?_
  rintro x p ⟨rfl,a⟩;have i:=aa (s.out.below a (by rw [d.out];omega))
  have q:w.heap.size+1<p.heap.size:=by have o:=a.size;rw [d.out] at o;omega
  obtain⟨c0,c1,c2,c3,c4,r⟩:=i.out;have c:=aa a;clear a
  go_wp2_with fail
  go_ret
  exact⟨rfl,u.out.trans (c.out.mono (by rw [d.out];omega))⟩
 ·rw [if_neg g];have y:=aa g;clear g
  by_cases g:Y=0
  ·subst g;rw [if_pos rfl]
   go_enter Tryz.func112,Tryz.ntmps112
   go_wp2_with fail
   refine (aZ _ _ _ X false _ t.out (decide_eq_false y.out)).mono ?_
   rintro x p ⟨rfl,a⟩;have i:=aa (s.out.below a (by rw [d.out];omega))
   have q:w.heap.size+1<p.heap.size:=by have o:=a.size;rw [d.out] at o;omega
   obtain⟨c0,c1,c2,c3,c4,r⟩:=i.out;have c:=aa a;have k:=aa (k.out.below a);clear a
   go_wp2_with fail
   refine (aZ _ _ _ 0 true _ k.out rfl).mono ?_
   rintro x C ⟨rfl,b⟩;obtain⟨H,E,A,I,G,D⟩:=i.out.below b q;clear c0 c1 c2 c3 c4 r;have j:=aa b;clear b
   go_wp2_with fail
   go_ret
   exact⟨rfl,(u.out.trans (c.out.mono (by rw [d.out];omega))).trans (j.out.mono (by omega))⟩
  ·rw [if_neg g];have B:=aa g;clear g
   go_enter Tryz.func112,Tryz.ntmps112
   go_wp2_with fail
   refine (aZ _ _ _ X false _ t.out (decide_eq_false y.out)).mono ?_
   rintro x p ⟨rfl,a⟩;have i:=aa (s.out.below a (by rw [d.out];omega))
   have q:w.heap.size+1<p.heap.size:=by have o:=a.size;rw [d.out] at o;omega
   obtain⟨c0,c1,c2,c3,c4,r⟩:=i.out;have c:=aa a;have k:=aa (k.out.below a);clear a
   go_wp2_with fail
   refine (aZ _ _ _ Y false _ k.out (decide_eq_false B.out)).mono ?_
   rintro x C ⟨rfl,b⟩;obtain⟨H,E,A,I,G,D⟩:=i.out.below b q;clear c0 c1 c2 c3 c4 r;have j:=aa b;clear b
   go_wp2_with fail
   go_ret
   exact⟨rfl,(u.out.trans (c.out.mono (by rw [d.out];omega))).trans (j.out.mono (by omega))⟩
theorem oB (nx:Bool) (f:Value) (ex e:Int) (X n:Nat) (w:World) (q:DN w f X) (hn:X≠0->ex - e=(n:Int)) (h:n<=100000000) (l:nd X<=10000000) :
  Calls Tryz.prog 113 #[.agg #[.bool nx,f,.int .i64 ex],.int .i64 e] w fun x o=>∃ v,x=.returned v/\DN o v (X*2^n)/\Below w.heap.size w o:=by
 have k:=aa (aE w nx f ex);have j:=aa (q.below k.out);clear q
 by_cases g:X=0
 ·subst g;rw [Nat.zero_mul]
  go_enter Tryz.func113,Tryz.ntmps113
  go_wp2_with fail
  refine (aZ _ _ _ 0 true _ j.out rfl).mono ?_
  rintro x p ⟨rfl,a⟩;have b:=aa a;clear a
  go_wp2_with fail
  go_ret
  exact⟨_,rfl,Or.inl ⟨rfl,_,_,rfl⟩,k.out.trans (b.out.mono (by simp))⟩
 ·have A:=hn g;have t:=aa g;clear g hn
  go_enter Tryz.func113,Tryz.ntmps113
  go_wp2_with fail
  refine (aZ _ _ _ X false _ j.out (decide_eq_false t.out)).mono ?_
  rintro x p ⟨rfl,a⟩;obtain⟨c1,z⟩:=wL a;have b:=aa a;have r:=aa (j.out.below a);clear a
  go_wp2_with fail
  refine (nw f X n _ r.out l h).mono ?_
  rintro x y ⟨u,rfl,d,c⟩;have m:=aa c;have i:=aa d;clear c d;have s:w.heap.size<=p.heap.size:=by have:=b.out.size;simp at this;omega
  go_wp2_with fail
  go_ret
  exact⟨_,rfl,i.out,(k.out.trans (b.out.mono (by simp))).trans (m.out.mono s)⟩
abbrev pbox (w:World) (nx:Bool) (c:Value) (ex:Int) (b:Bool) (a:Value) (ey:Int):World:=boxN (boxN (boxN w nx c ex) b a ey) false (.slice none 0 0) 0
theorem jJ (w:World) (nx:Bool) (c:Value) (ex:Int) (b:Bool) (a:Value) (ey:Int):(pbox w nx c ex b a ey).heap.size=w.heap.size+3:=by simp
theorem dG (w:World) (nx:Bool) (a:Value) (ex:Int) (c:Bool) (b:Value) (ey:Int):Below w.heap.size w (pbox w nx a ex c b ey):=
 ((aE w nx a ex).trans ((aE (boxN w nx a ex) c b ey).mono (by simp))).trans ((aE _ _ _ _).mono (by rw [gw];omega))
theorem ll (w:World) (nx:Bool) (c:Value) (ex:Int) (b:Bool) (a:Value) (ey:Int):Six (pbox w nx c ex b a ey) w.heap.size nx c ex b a ey:=
 (uC w nx c ex b a ey).below (aE _ _ _ _) (by rw [gw];omega)
theorem From.mono {A B:Nat} {v:Value} (h:From B v) (b:A<=B):From A v:=fun a l c e=>Nat.le_trans b (h a l c e)
theorem LM (w:World) (n:Bool) (v:Value) (e:Int) :
  ((boxN w n v e).cell? ⟨w.heap.size,0,none⟩=some (.bool n)/\(boxN w n v e).cell? ⟨w.heap.size,1,none⟩=some v/\(boxN w n v e).cell? ⟨w.heap.size,2,none⟩=some (.int .i64 e))/\
  ((boxN w n v e).frozen? ⟨w.heap.size,0,none⟩=false/\(boxN w n v e).frozen? ⟨w.heap.size,1,none⟩=false/\(boxN w n v e).frozen? ⟨w.heap.size,2,none⟩=false):=by
 refine⟨⟨?_,?_,?_⟩,?_,?_,?_⟩ <;>first | exact World.frozen?_alloc_new _ _ _ _ | simp
theorem cM {w g:World} {nx l:Bool} {m k:Value} {ex ey:Int} (j:Below (w.heap.size+3) (pbox w nx m ex l k ey) g) :
  (g.cell? ⟨w.heap.size+1+1,0,none⟩=some (.bool false)/\g.cell? ⟨w.heap.size+1+1,1,none⟩=some (.slice none 0 0)/\g.cell? ⟨w.heap.size+1+1,2,none⟩=some (.int .i64 0))/\
  (g.frozen? ⟨w.heap.size+1+1,0,none⟩=false/\g.frozen? ⟨w.heap.size+1+1,1,none⟩=false/\g.frozen? ⟨w.heap.size+1+1,2,none⟩=false):=by
 have i:w.heap.size+1+1<w.heap.size+3:=by omega
 have h:=LM (boxN (boxN w nx m ex) l k ey) false (.slice none 0 0) 0;rw [gw] at h
 obtain⟨⟨a,b,c⟩,d,e,f⟩:=h;exact⟨⟨(j.cell (p:=⟨w.heap.size+1+1,0,none⟩) i).trans a,(j.cell (p:=⟨w.heap.size+1+1,1,none⟩) i).trans b,(j.cell (p:=⟨w.heap.size+1+1,2,none⟩) i).trans c⟩,
  (j.frozen (p:=⟨w.heap.size+1+1,0,none⟩) i).trans d,(j.frozen (p:=⟨w.heap.size+1+1,1,none⟩) i).trans e,(j.frozen (p:=⟨w.heap.size+1+1,2,none⟩) i).trans f⟩
def fO (w:World) (E S:Int) (x:Ending) (e:World):Prop:=
 ∃ a d c b,x=.returned (.agg #[.bool a,d,.int .i64 b])/\DN e d c/\From w.heap.size d/\sg a c=S/\(b=E\/(b=0/\c=0))/\Below w.heap.size w e
theorem dH {w d:World} {nx f neg:Bool} {g e v:Value} {ex ey E S:Int} {N:Nat} (i:Below (w.heap.size+3) (pbox w nx g ex f e ey) d) (j:DN d v N) (b:From (w.heap.size+3) v) (h:sg neg N=S) :
  fO w E S (.returned (.agg #[.bool neg,v,.int .i64 E])) (((d.setCell ⟨w.heap.size+1+1,0,none⟩ (.bool neg)).setCell ⟨w.heap.size+1+1,1,none⟩ v).setCell ⟨w.heap.size+1+1,2,none⟩ (.int .i64 E)):=by
 refine⟨neg,v,N,E,rfl,((j.set b (a:=⟨w.heap.size+1+1,0,none⟩) (Nat.lt_succ_self _) _).set b (a:=⟨w.heap.size+1+1,1,none⟩) (Nat.lt_succ_self _) _).set b (a:=⟨w.heap.size+1+1,2,none⟩) (Nat.lt_succ_self _) _,b.mono (by omega),h,Or.inl rfl,?_⟩
 have c:w.heap.size<=w.heap.size+1+1:=by omega
 exact ((((dG w nx g ex f e ey).trans (i.mono (by omega))).setCell c _).setCell c _).setCell c _
theorem GY (nx r:Bool) (C D:Value) (ex ey E:Int) (X Y n m a b:Nat) (w:World) (hX:DN w C X) (hY:DN w D Y)
  (hE:Hid (iQ X ex Y ey=E)) (hn:X≠0->ex - E=(n:Int)) (hm:Y≠0->ey - E=(m:Int)) (br:n<=1000000) (bo:m<=1000000) (bh:nd X<=1000000) (bk:nd Y<=1000000)
  (ha:Hid (X*2^n=a)) (hb:Hid (Y*2^m=b)) (ba:nd a<=10000000) (bi:nd b<=10000000) (hc:nx=r\/a=0\/b=0) :
  Calls Tryz.prog 73 #[.agg #[.bool nx,C,.int .i64 ex],.agg #[.bool r,D,.int .i64 ey]] w (fO w E (sg nx a+sg r b)):=by
 have Q:=aa (dG w nx C ex r D ey);have HZ:=aa (jJ w nx C ex r D ey);have ak:=aa (ll w nx C ex r D ey);have I:=aa (hX.below Q.out);have G:=aa (hY.below Q.out);have M:=aa (wS nx r C D ex ey X Y _ I.out G.out);rw [hE.out] at M
 have ab:=aa hn;have HM:=aa hm;have HC:=aa hc;clear hX hY hn hm hc
 go_enter Tryz.func73,Tryz.ntmps73
 go_wp2_with fail
 refine M.out.mono ?_
 rintro x w1 ⟨rfl,y⟩;have bb:w.heap.size+3<=w1.heap.size:=by have h9:=y.size;rw [HZ.out] at h9;exact h9
 have V:=aa (ak.out.below y (by rw [HZ.out];omega))
 have ai:=aa (I.out.below y);have ac:=aa (G.out.below y);have ad:Hid (Below (w.heap.size+3) (pbox w nx C ex r D ey) w1):=y.mono (by rw [HZ.out];omega)
 obtain⟨c0,c1,c2,c3,c4,c5⟩:=V.out;clear y
 go_wp2_with fail
 refine (oB nx C ex E X n _ ai.out ab.out (by omega) (by omega)).mono ?_
 rintro x w2 ⟨va,rfl,J,A⟩;rw [ha.out] at J
 have bc:w.heap.size+3<=w2.heap.size:=by have h9:=A.size;omega
 have K:=aa (V.out.below A (by omega))
 have Z:=aa (ac.out.below A);have al:=aa J;have as:Hid (Below (w.heap.size+3) (pbox w nx C ex r D ey) w2):=ad.out.trans (A.mono bb);clear A J c0 c1 c2 c3 c4 c5;obtain⟨c0,c1,c2,c3,c4,c5⟩:=K.out
 go_wp2_with fail
 refine (oB r D ey E Y m _ Z.out HM.out (by omega) (by omega)).mono ?_
 rintro x w3 ⟨vb,rfl,O,B⟩;rw [hb.out] at O
 have k:w.heap.size+3<=w3.heap.size:=by have h9:=B.size;omega
 have am:=aa (K.out.below B (by omega))
 have H:=aa (al.out.below B);have P:=aa O;have F:Hid (Below (w.heap.size+3) (pbox w nx C ex r D ey) w3):=as.out.trans (B.mono bc);clear B O c0 c1 c2 c3 c4 c5 al;obtain⟨c0,c1,c2,c3,c4,c5⟩:=am.out;obtain⟨p,c,rfl⟩:=H.out.form;obtain⟨q,d,rfl⟩:=P.out.form;have l:=aa (ki _ _ a b w3 H.out P.out ba bi);obtain⟨N,hN⟩:∃ N,a+b=N:=⟨_,rfl⟩;rw [hN] at l
 have HN:=aa hN;clear hN;clear H P;have ea:a=0->nd a=0:=fun h=>by rw [h];rfl
 have W:b=0->nd b=0:=fun h=>by rw [h];rfl
 have z:a≠0->1<=nd a:=dm;have u:b≠0->1<=nd b:=dm;clear bh bk I G ai ac Z ak V K am ad as M ab HM hE ha hb Q HZ;generalize nd a=la at *
 generalize nd b=lb at *
 by_cases o:a=0
 ·have S:=ea o;subst S
  by_cases j:b=0
  ·have S:=W j;subst S o j;clear ea W z u;cases nx<;>cases r
   all_goals
    go_wp2_with fail
    refine l.out.mono ?_
    rintro x w4 ⟨v4,rfl,e,i,f⟩;have g:=aa (F.out.trans (f.mono k));obtain⟨⟨T,U,L⟩,f0,f1,f2⟩:=cM g.out;obtain⟨R,c4,rfl⟩:=e.form;have s:=aa e;have t:=aa (i.mono k);clear e i f
    go_wp2_with fail
    refine bodyPost_ret (v:=.agg #[.bool _,.slice R _ c4,.int .i64 E]) (by simp [results,Tryz.results73,go_sem,T,U,L]) rfl (dH g.out s.out t.out ?_)
    rw [<- HN.out];simp [sg]
    try omega
  ·have S:=u j;subst o;clear ea W z u j;cases nx<;>cases r
   all_goals
    go_wp2_with fail
    refine l.out.mono ?_
    rintro x w4 ⟨v4,rfl,e,i,f⟩;have g:=aa (F.out.trans (f.mono k));obtain⟨⟨T,U,L⟩,f0,f1,f2⟩:=cM g.out;obtain⟨R,c4,rfl⟩:=e.form;have s:=aa e;have t:=aa (i.mono k);clear e i f
    go_wp2_with fail
    refine bodyPost_ret (v:=.agg #[.bool _,.slice R _ c4,.int .i64 E]) (by simp [results,Tryz.results73,go_sem,T,U,L]) rfl (dH g.out s.out t.out ?_)
    rw [<- HN.out];simp [sg]
    try omega
 ·have S:=z o
  by_cases j:b=0
  ·have S:=W j;subst S j;clear ea W z u o;cases nx<;>cases r
   all_goals
    go_wp2_with fail
    refine l.out.mono ?_
    rintro x w4 ⟨v4,rfl,e,i,f⟩;have g:=aa (F.out.trans (f.mono k));obtain⟨⟨T,U,L⟩,f0,f1,f2⟩:=cM g.out;obtain⟨R,c4,rfl⟩:=e.form;have s:=aa e;have t:=aa (i.mono k);clear e i f
    go_wp2_with fail
    refine bodyPost_ret (v:=.agg #[.bool _,.slice R _ c4,.int .i64 E]) (by simp [results,Tryz.results73,go_sem,T,U,L]) rfl (dH g.out s.out t.out ?_)
    rw [<- HN.out];simp [sg]
    try omega
  ·have bs:=u j;clear ea W z u;have hs:nx=r:=by
    rcases HC.out with h | h | h
    ·exact h
    ·exact absurd h o
    ·exact absurd h j
   clear o j
   ·subst hs;cases nx
    all_goals
     go_wp2_with fail
     refine l.out.mono ?_
     rintro x w4 ⟨v4,rfl,e,i,f⟩;have g:=aa (F.out.trans (f.mono k));obtain⟨⟨T,U,L⟩,f0,f1,f2⟩:=cM g.out;obtain⟨R,c4,rfl⟩:=e.form;have s:=aa e;have t:=aa (i.mono k);clear e i f
     go_wp2_with fail
     refine bodyPost_ret (v:=.agg #[.bool _,.slice R _ c4,.int .i64 E]) (by simp [results,Tryz.results73,go_sem,T,U,L]) rfl (dH g.out s.out t.out ?_)
     rw [<- HN.out];simp [sg]
     try omega
theorem mC {w d:World} {nx c:Bool} {e b:Value} {ex ey E S:Int} (g:Below (w.heap.size+3) (pbox w nx e ex c b ey) d) (f:0=S) :
  fO w E S (.returned (.agg #[.bool false,.slice none 0 0,.int .i64 0])) (((d.setCell ⟨w.heap.size+1+1,0,none⟩ (.bool false)).setCell ⟨w.heap.size+1+1,1,none⟩ (.slice none 0 0)).setCell ⟨w.heap.size+1+1,2,none⟩ (.int .i64 0)):=by
 refine⟨false,.slice none 0 0,0,0,rfl,Or.inl ⟨rfl,_,_,rfl⟩,gu _,f,Or.inr ⟨rfl,rfl⟩,?_⟩
 have a:w.heap.size<=w.heap.size+1+1:=by omega
 exact ((((dG w nx e ex c b ey).trans (g.mono (by omega))).setCell a _).setCell a _).setCell a _
theorem An (nx k:Bool) (D F:Value) (ex ey E:Int) (X Y n m a b:Nat) (w:World) (hX:DN w D X) (hY:DN w F Y)
  (hE:Hid (iQ X ex Y ey=E)) (hn:X≠0->ex - E=(n:Int)) (hm:Y≠0->ey - E=(m:Int)) (bv:n<=1000000) (bs:m<=1000000) (bk:nd X<=1000000) (br:nd Y<=1000000)
  (ha:Hid (X*2^n=a)) (hb:Hid (Y*2^m=b)) (ai:nd a<=10000000) (bo:nd b<=10000000) (hs:nx≠k) (ba:a≠0) (am:b≠0) :
  Calls Tryz.prog 73 #[.agg #[.bool nx,D,.int .i64 ex],.agg #[.bool k,F,.int .i64 ey]] w (fO w E (sg nx a+sg k b)):=by
 have Q:=aa (dG w nx D ex k F ey);have HZ:=aa (jJ w nx D ex k F ey);have al:=aa (ll w nx D ex k F ey);have K:=aa (hX.below Q.out);have I:=aa (hY.below Q.out);have N:=aa (wS nx k D F ex ey X Y _ K.out I.out);rw [hE.out] at N
 have ab:=aa hn;have HM:=aa hm;clear hX hY hn hm
 go_enter Tryz.func73,Tryz.ntmps73
 go_wp2_with fail
 refine N.out.mono ?_
 rintro x w1 ⟨rfl,l⟩;have bh:w.heap.size+3<=w1.heap.size:=by have T:=l.size;rw [HZ.out] at T;exact T
 have V:=aa (al.out.below l (by rw [HZ.out];omega))
 have ak:=aa (K.out.below l);have ad:=aa (I.out.below l);have ac:Hid (Below (w.heap.size+3) (pbox w nx D ex k F ey) w1):=l.mono (by rw [HZ.out];omega)
 obtain⟨c0,c1,c2,c3,c4,c5⟩:=V.out;clear l
 go_wp2_with fail
 refine (oB nx D ex E X n _ ak.out ab.out (by omega) (by omega)).mono ?_
 rintro x w2 ⟨va,rfl,L,y⟩;rw [ha.out] at L
 have bi:w.heap.size+3<=w2.heap.size:=by have T:=y.size;omega
 have M:=aa (V.out.below y (by omega))
 have Z:=aa (ad.out.below y);have as:=aa L;have bc:Hid (Below (w.heap.size+3) (pbox w nx D ex k F ey) w2):=ac.out.trans (y.mono bh);clear y L c0 c1 c2 c3 c4 c5;obtain⟨c0,c1,c2,c3,c4,c5⟩:=M.out
 go_wp2_with fail
 refine (oB k F ey E Y m _ Z.out HM.out (by omega) (by omega)).mono ?_
 rintro x o ⟨vb,rfl,O,z⟩;rw [hb.out] at O
 have J:w.heap.size+3<=o.heap.size:=by have T:=z.size;omega
 have bb:=aa (M.out.below z (by omega))
 have s:=aa (as.out.below z);have A:=aa O;have R:Hid (Below (w.heap.size+3) (pbox w nx D ex k F ey) o):=bc.out.trans (z.mono bi);clear z O c0 c1 c2 c3 c4 c5 as;obtain⟨c0,c1,c2,c3,c4,c5⟩:=bb.out;obtain⟨p,c,rfl⟩:=s.out.form;obtain⟨q,d,rfl⟩:=A.out.form;have e:=aa (cL _ _ a b o s.out A.out ai);have C:=aa fun w' (r:Below o.heap.size o w') (P:b<=a)=>dQ _ _ a b w' (s.out.below r) (A.out.below r) ai P
 have i:=aa fun w' (r:Below o.heap.size o w') (P:a<=b)=>dQ _ _ b a w' (A.out.below r) (s.out.below r) bo P
 clear s A;have hl:((nd a:Int)==0)=false:=by have:=dm ba;simp;omega
 have bx:((nd b:Int)==0)=false:=by have:=dm am;simp;omega
 clear bk br K I ak ad Z al V M bb ac bc N ab HM hE ha hb Q HZ ba am;generalize nd a=la at *
 generalize nd b=lb at *
 rcases Nat.lt_trichotomy a b with h | h | h
 ·rw [li h] at e
  have U:=aa (Nat.le_of_lt h);clear C h;cases nx<;>cases k
  all_goals first | exact absurd rfl hs | skip
  all_goals
   go_wp2_with fail
   refine e.out.mono ?_
   rintro x G ⟨rfl,qq,H⟩;have u:=aa (show Below o.heap.size o G by rw [H];exact below_drewN (Below.refl _ _) _)
   have g3:=(u.out.cell (p:=⟨w.heap.size+1,0,none⟩) (by show w.heap.size+1<_;omega)).trans c3
   have t:w.heap.size+3<=G.heap.size:=by have:=u.out.size;omega
   clear H
   go_wp2_with fail
   go_region_with ((go_at_call 116;refine (i.out _ (u.out.drew) U.out).mono ?_;rintro x w4 ⟨v4,rfl,j,B,g⟩;obtain⟨p4,c4,rfl⟩:=j.form;have f:=aa ((R.out.trans (u.out.mono J)).drew.trans (g.mono t));obtain⟨⟨r0,r1,r2⟩,f0,f1,f2⟩:=cM f.out;have k3:=(g.cell (p:=⟨w.heap.size+1,0,none⟩) (by show w.heap.size+1<G.heap.size;omega)).trans g3;have S:=aa j;have W:=aa (B.mono (show w.heap.size+3<=_ from t));clear j B g))
   all_goals
    go_wp2_with fail
    refine bodyPost_ret (v:=.agg #[.bool _,.slice p4 _ c4,.int .i64 E]) (by simp [results,Tryz.results73,go_sem,r0,r1,r2]) rfl (dH f.out S.out W.out ?_)
    have T:=U.out;simp [sg]
    try omega
 ·rw [lj h] at e
  have U:=aa h;clear C i h;cases nx<;>cases k
  all_goals first | exact absurd rfl hs | skip
  all_goals
   go_wp2_with fail
   refine e.out.mono ?_
   rintro x G ⟨rfl,qq,H⟩;have u:=aa (show Below o.heap.size o G by rw [H];exact below_drewN (Below.refl _ _) _)
   have f:=aa (R.out.trans (u.out.mono J));obtain⟨⟨r0,r1,r2⟩,f0,f1,f2⟩:=cM f.out;clear H
   go_wp2_with fail
   refine bodyPost_ret (v:=.agg #[.bool false,.slice none 0 0,.int .i64 0]) (by simp [results,Tryz.results73,go_sem,r0,r1,r2]) rfl (mC f.out ?_)
   have T:=U.out;simp [sg]
   try omega
 ·rw [lk h] at e
  have U:=aa (Nat.le_of_lt h);clear i h;cases nx<;>cases k
  all_goals first | exact absurd rfl hs | skip
  all_goals
   go_wp2_with fail
   refine e.out.mono ?_
   rintro x G ⟨rfl,qq,H⟩;have u:=aa (show Below o.heap.size o G by rw [H];exact below_drewN (Below.refl _ _) _)
   have g3:=(u.out.cell (p:=⟨w.heap.size,0,none⟩) (by show w.heap.size<_;omega)).trans c0
   have t:w.heap.size+3<=G.heap.size:=by have:=u.out.size;omega
   clear H
   go_wp2_with fail
   go_region_with ((go_at_call 116;refine (C.out _ (u.out.drew) U.out).mono ?_;rintro x w4 ⟨v4,rfl,j,B,g⟩;obtain⟨p4,c4,rfl⟩:=j.form;have f:=aa ((R.out.trans (u.out.mono J)).drew.trans (g.mono t));obtain⟨⟨r0,r1,r2⟩,f0,f1,f2⟩:=cM f.out;have k3:=(g.cell (p:=⟨w.heap.size,0,none⟩) (by show w.heap.size<G.heap.size;omega)).trans g3;have S:=aa j;have W:=aa (B.mono (show w.heap.size+3<=_ from t));clear j B g))
   all_goals
    go_wp2_with fail
    refine bodyPost_ret (v:=.agg #[.bool _,.slice p4 _ c4,.int .i64 E]) (by simp [results,Tryz.results73,go_sem,r0,r1,r2]) rfl (dH f.out S.out W.out ?_)
    have T:=U.out;simp [sg]
    try omega
theorem po (nx b:Bool) (j k:Value) (ex ey E:Int) (X Y n m:Nat) (w:World) (p:DN w j X) (l:DN w k Y)
  (q:iQ X ex Y ey=E) (hn:X≠0->ex - E=(n:Int)) (o:Y≠0->ey - E=(m:Int)) (a:n<=1000000) (f:m<=1000000) (g:nd X<=1000000) (e:nd Y<=1000000)
  (c:nd (X*2^n)<=10000000) (d:nd (Y*2^m)<=10000000) :
  Calls Tryz.prog 73 #[.agg #[.bool nx,j,.int .i64 ex],.agg #[.bool b,k,.int .i64 ey]] w (fO w E (sg nx (X*2^n)+sg b (Y*2^m))):=by
 by_cases i:nx=b\/X*2^n=0\/Y*2^m=0
 ·exact GY nx b j k ex ey E X Y n m _ _ w p l q hn o a f g e rfl rfl c d i
 ·exact An nx b j k ex ey E X Y n m _ _ w p l q hn o a f g e rfl rfl c d (fun h=>i (Or.inl h)) (fun h=>i (Or.inr (Or.inl h))) (fun h=>i (Or.inr (Or.inr h)))
def sx (P:Program) (c:Region.Mode) (b:Array Oper) (Q:Exit->Act->World->Prop) (S:World->Prop) (L:Nat->Bool):Nat->Array Bool->Act->World->Prop
 | 0,l,a,w=>Region.ready c b l=[]/\Q .normal a w
 | f+1,l,a,w=>(Region.ready c b l=[]->Q .normal a w)/\∀ i ∈ Region.ready c b l,wpOp P b Q i (fun a' d=>(L i=false->S d)/\sx P c b Q S L f (l.setIfInBounds i true) a' d) a w
variable {P:Program} {md:Region.Mode} {ops:Array Oper} {Q:Exit->Act->World->Prop} {S:World->Prop} {L:Nat->Bool}
theorem zI:∀ (f:Nat) (l:Array Bool) (a:Act) (w:World),sx P md ops Q S L f l a w->wpAny P md ops Q f l a w
 | 0,_,_,_,h=>h
 | f+1,_,_,_,h=>⟨h.1,fun i hi=>wpOp_mono (fun a w k=>zI f _ a w k.2) (h.2 i hi)⟩
def Dw (b:Region.Mode) (a:Array Oper) (l:Array Bool):Bool:=
 (List.range a.size).all fun k=>!l.getD k false||((a[k]?).map (·.after.all fun e=>!Region.binds b e||l.getD e.on false)).getD true
def Closed (c:Region.Mode) (a:Array Oper) (l:Array Bool):Prop:=∀ k b,a[k]? =some b->l.getD k false=true->∀ e ∈ b.after,Region.binds c e=true->l.getD e.on false=true
theorem Gb {l:Array Bool} (h:Dw md ops l=true):Closed md ops l:=fun k g b c e f d=>by
 have a:=List.all_eq_true.1 h k (List.mem_range.2 (Array.getElem?_eq_some_iff.1 b).1)
 rw [c,b] at a
 simp only [Bool.not_true,Bool.false_or,Option.map_some,Option.getD_some,Array.all_eq_true'] at a
 have:=a e f;rw [d] at this
 simpa using this
theorem Cb {l:Array Bool} {j:Nat} (h:Closed md ops l) (m:j ∈ Region.ready md ops l):Closed md ops (l.setIfInBounds j true):=fun k n f d e i g=>by
 by_cases c:j=k
 ·subst c;obtain⟨_,o,a,b⟩:=mem_ready.1 m;rw [f] at a
  obtain rfl:=Option.some.inj a;exact getD_set_true (b e i g)
 ·rw [getD_set_ne false c] at d
  exact getD_set_true (h k n f d e i g)
def vU (b:Region.Mode) (a:Array Oper):Nat->Nat->Nat->Bool
 | 0,_,_=>false
 | f+1,j,i=>((a[j]?).map (·.after.any fun e=>Region.binds b e&&(e.on==i||vU b a f e.on i))).getD false
theorem mp {l:Array Bool} (h:Closed md ops l) {i:Nat}:∀ (f j:Nat),vU md ops f j i=true->(∀ a,ops[j]? =some a->∀ e ∈ a.after,Region.binds md e=true->l.getD e.on false=true)->l.getD i false=true
 | 0,_,hw,_=>by cases hw
 | f+1,j,hw,hd=>by
  unfold vU at hw
  cases d:ops[j]? with
  | none=>rw [d] at hw;cases hw
  | some a=>
   rw [d] at hw
   simp only [Option.map_some,Option.getD_some,Array.any_eq_true'] at hw
   obtain⟨e,o,k⟩:=hw;rw [Bool.and_eq_true,Bool.or_eq_true,beq_iff_eq] at k
   have m:=hd a d e o k.1;rcases k.2 with c | c
   ·rw [<- c];exact m
   ·exact mp h f e.on c (fun p n q b g=>h e.on p n m q b g)
def KW (b:Region.Mode) (a:Array Oper) (L:Nat->Bool) (i:Nat):Bool:=(List.range a.size).all fun j=>!L j||vU b a 6 j i
theorem KX {i j:Nat} {l:Array Bool} (h:KW md ops L i=true) (hc:Closed md ops l) (hi:i ∈ Region.ready md ops l) (m:j ∈ Region.ready md ops l):L j=false:=by
 cases n:L j with
 | false=>rfl
 | true=>
  obtain⟨_,q,a,b⟩:=mem_ready.1 m;have f:=List.all_eq_true.1 h j (List.mem_range.2 (Array.getElem?_eq_some_iff.1 a).1)
  rw [n] at f
  have c:=mp hc 6 j (by simpa using f) (fun r k e p o=>by
   rw [a] at k
   obtain rfl:=Option.some.inj k;exact b e p o)
  have g:=(mem_ready.1 hi).1;rcases Nat.lt_or_ge i l.size with d | d
  ·simp [d] at g c;rw [g] at c;cases c
  ·simp [Array.getElem?_eq_none d] at c
theorem Cc {i:Nat} {o:Oper} {v:Value} (hi:ops[i]? =some o) (J:Region.noSelect ops=true) (T:KW md ops L i=true) (Y:∀ c a w,Q (.panic c) (a.put o.dst v) w->Q (.panic c) a w) :
  ∀ (f:Nat) (l:Array Bool) (a:Act) (w:World),Closed md ops l->(∀ j m,ops[j]? =some m->j≠i->l.getD j true=false->(∀ e ∈ m.after,Region.binds md e=true->e.on≠i)->o.apart ops m=true)->
   i ∈ Region.ready md ops l->YieldsIf P ops S o v a->S w->sx P md ops Q S L f (l.setIfInBounds i true) (a.put o.dst v) w->sx P md ops Q S L (f+1) l a w:=by
 intro f
 induction f with
 | zero=>
  intro l a w _ _ g z x H;refine⟨fun h=>(by rw [h] at g;cases g),fun j p=>?_⟩
  by_cases c:j=i
  ·subst c;exact z.wpOp hi x ⟨fun _=>x,H⟩
  ·have:=ready_mono p c;rw [H.1] at this;cases this
 | succ f M=>
  intro l a w q d g z x H;refine⟨fun h=>(by rw [h] at g;cases g),fun j p=>?_⟩
  by_cases c:j=i
  ·subst c;exact z.wpOp hi x ⟨fun _=>x,H⟩
  ·obtain⟨u,m,n,s⟩:=mem_ready.1 p;have C:∀ e ∈ m.after,Region.binds md e=true->e.on≠i:=fun e W V B=>by
    have t:=s e W V;have I:=(mem_ready.1 g).1;rw [B] at t
    rcases Nat.lt_or_ge i l.size with E | E
    ·simp [E] at I t;rw [I] at t;cases t
    ·simp [Array.getElem?_eq_none E] at t
   have y:L j=false:=KX T q g p;have K:=wpOp_putIf n (d j m n c u C) (fun D b=>Region.noSelect_spec J i o D b hi) (fun D b=>Region.noSelect_spec J j m D b n) Y z (H.2 j (ready_mono p c))
   refine wpOp_mono (fun N O A=>⟨fun _=>A.2.1 y,M (l.setIfInBounds j true) N O (Cb q p) (fun k X U F G R=>d k X U F ?_ R) (ready_mono g (Ne.symm c)) A.1 (A.2.1 y) ?_⟩) K
   ·by_cases r:j=k
    ·subst r;exact u
    ·rw [getD_set_ne true r] at G;exact G
   ·rw [Array.setIfInBounds_comm _ _ c];exact A.2.2
theorem gU (i:Nat) {b:Oper} (v:Value) {f:Nat} {l:Array Bool} {a:Act} {w:World} (hi:ops[i]? =some b) (k:Region.noSelect ops=true) (j:KW md ops L i=true) (hc:Dw md ops l=true) (g:Region.free md ops l i=true) (n:(Region.ready md ops l).contains i=true)
  (o:∀ c a w,Q (.panic c) (a.put b.dst v) w->Q (.panic c) a w) (e:Region.wanted b (yielded ops a.tmps)=true) (m:S w) (d:∀ w,S w->(execOp a.eval b).run P w=.ok (.value v) w)
  (h:sx P md ops Q S L f (l.setIfInBounds i true) (a.put b.dst v) w):sx P md ops Q S L (f+1) l a w:=
 Cc hi k j o f l a w (Gb hc) (Region.free_spec hi g) (by simpa using n) (Or.inl ⟨e,d⟩) m h
theorem jy {i:Nat} {f:Nat} {l:Array Bool} {a:Act} {w:World} (d:Region.ready md ops l=[i])
  (e:wpOp P ops Q i (fun a' c=>(L i=false->S c)/\sx P md ops Q S L f (l.setIfInBounds i true) a' c) a w):sx P md ops Q S L (f+1) l a w:=
 ⟨fun h=>(by rw [d] at h;cases h),fun k b=>by
  rw [d] at b
  rcases List.mem_cons.1 b with rfl | b
  ·exact e
  ·cases b⟩
theorem Gc {f:Nat} {l:Array Bool} {a:Act} {w:World} (b:Region.ready md ops l=[]) (h:Q .normal a w):sx P md ops Q S L f l a w:=by
 cases f with
 | zero=>exact⟨b,h⟩
 | succ f=>exact⟨fun _=>h,by rw [b];simp⟩
theorem ry {id:Nat} {a:Act} {w:World} (S:World->Prop) (L:Nat->Bool) (b:P.follows .mixedOrders=true)
  (h:sx P .any ops Q S L ops.size (Array.replicate ops.size false) a w.drew):(Code.region id ops true).wp P Q a w:=
 wp_region_any b (zI _ _ _ _ h)
theorem Dr (n lo hi:Int) (w:World) :
  Calls Tryz.prog 175 #[.int .i64 n,.int .i64 lo,.int .i64 hi] w fun e a=>e=.returned (.bool (decide (lo<=n/\n<=hi)))/\a=w:=by
 by_cases b:lo<=n<;>by_cases c:n<=hi
 all_goals
  first | rw [decide_eq_true (⟨b,c⟩:lo<=n/\n<=hi)] | rw [decide_eq_false (fun h:lo<=n/\n<=hi=>by omega)]
  go_enter Tryz.func175,Tryz.ntmps175
  go_wp2
  go_ret
  exact⟨rfl,rfl⟩
theorem JT (n:Int) (w:World) :
  Calls Tryz.prog 177 #[.int .i64 n] w fun e a=>e=.returned (.bool (decide (1<=n/\n<=8)))/\a=w:=by
 have H:=hideS fun w=>Dr n 1 8 w
 generalize decide (1<=n/\n<=8)=b at *
 go_enter Tryz.func177,Tryz.ntmps177
 go_wp2_with (go_at_call 175;refine (H.out _).mono ?_;rintro e a ⟨rfl,rfl⟩)
 go_ret
 exact⟨rfl,rfl⟩
theorem JU (x:Nat) (w:World) (f:U64 x) :
  Calls Tryz.prog 176 #[.float .f64 x] w fun e c=>e=.returned (.bool (aM x))/\c=w:=by
 have d:=hideS fun w=>be x w f
 cases a:ah (x:Int)
 ·rw [a] at d
  have g:=hideS fun w=>iF x _ w f (qs a)
  generalize aM x=b at *
  clear a f;cases b
  all_goals
   go_enter Tryz.func176,Tryz.ntmps176
   go_wp2_with fail
   refine (d.out _).mono ?_
   rintro e c ⟨rfl,rfl⟩
   go_wp2_with fail
   refine (g.out _).mono ?_
   rintro e c ⟨rfl,rfl⟩
   go_wp2_with fail
   go_ret
   exact⟨rfl,rfl⟩
 ·rw [a] at d
  rw [oH a];clear a f
  go_enter Tryz.func176,Tryz.ntmps176
  go_wp2_with fail
  refine (d.out _).mono ?_
  rintro e c ⟨rfl,rfl⟩
  go_wp2_with fail
  go_ret
  exact⟨rfl,rfl⟩
def fL (f:Flw):Int:=if ¬ (0<=f.day/\f.day<=109572) then 51 else if aM f.am=false then 91 else if ¬ (1<=f.cur/\f.cur<=8) then 140 else 0
inductive ChkF (l:List Flw):Int->Int->Prop
 | many (h:4096<l.length):ChkF l 81 0
 | fine (hl:l.length<=4096) (h:∀ i<l.length,fL (l.getD i aD)=0):ChkF l 0 0
 | bad (hl:l.length<=4096) (k:Nat) (hk:k<l.length) (e:Int) (he:fL (l.getD k aD)=e) (h0:e≠0) (h:∀ i<k,fL (l.getD i aD)=0):ChkF l e k
theorem chkF_from (l:List Flw):∀ n,(∀ i<n,fL (l.getD i aD)=0)\/∃ k<n,fL (l.getD k aD)≠0/\∀ i<k,fL (l.getD i aD)=0
 | 0=>Or.inl (fun i hi=>by omega)
 | n+1=>by
  rcases chkF_from l n with h | ⟨k,b,a,h⟩
  ·by_cases c:fL (l.getD n aD)=0
   ·refine Or.inl (fun i hi=>?_)
    by_cases d:i<n
    ·exact h i d
    ·obtain rfl:i=n:=by omega
     exact c
   ·exact Or.inr ⟨n,by omega,c,h⟩
  ·exact Or.inr ⟨k,by omega,a,h⟩
theorem vG (l:List Flw):∃ e k,ChkF l e k:=by
 by_cases a:4096<l.length
 ·exact⟨_,_,.many a⟩
 ·rcases chkF_from l l.length with h | ⟨k,b,c,h⟩
  ·exact⟨0,0,.fine (by omega) h⟩
  ·exact⟨_,_,.bad (by omega) k b _ rfl c h⟩
theorem aO {l:List Flw} {e m k f:Int} (h:ChkF l e k) (b:ChkF l m f):e=m/\k=f:=by
 cases h with
 | many h=>cases b with
  | many _=>exact⟨rfl,rfl⟩
  | fine i _=>omega
  | bad i=>omega
 | fine i h=>cases b with
  | many b=>omega
  | fine _ _=>exact⟨rfl,rfl⟩
  | bad _ f g _ a d _=>exact absurd (a.symm.trans (h f g)) d
 | bad i k o _ j n h=>cases b with
  | many b=>omega
  | fine _ b=>exact absurd (j.symm.trans (b k o)) n
  | bad _ f g _ a d b=>
   rcases Nat.lt_trichotomy k f with c | c | c
   ·exact absurd (j.symm.trans (b k c)) n
   ·subst c;exact⟨j.symm.trans a,rfl⟩
   ·exact absurd (a.symm.trans (h f c)) d
def eu (l:List Flw):Prop:=∀ i,(l.getD i aD).am<18446744073709551616
theorem kO {w:World} {g o:Nat} {cs:Array Value} {t:TypeId} (v:Value) (h:w.heap[g]? =some (.cells cs t (0,0))):(w.setCell ⟨g,o,none⟩ v).heap[g]? =some (.cells (cs.setIfInBounds o v) t (0,0)):=by
 rw [Go.Sort.setCell_eq];simp [Go.Sort.mapBlock,Array.getElem?_modify,h,Go.Sort.onCells]
theorem tG (a:Addr) (x:Nat) (m:Mode) (w:World):(store a (.float .f64 x) m).run Tryz.prog w=stored Tryz.prog w a (.float .f64 x) m:=run_store Tryz.prog w a _ m rfl
def ew:Obj:=.cells #[.int .i64 0,.float .f64 0,.int .i64 0] 51
def Fy (w:World) (g:Nat) (f:Flw):World:=((w.setCell ⟨g,0,none⟩ (.int .i64 f.day)).setCell ⟨g,1,none⟩ (.float .f64 f.am)).setCell ⟨g,2,none⟩ (.int .i64 f.cur)
theorem nO (w:World):((w.alloc ew).cell? ⟨w.heap.size,0,none⟩=some (.int .i64 0)/\(w.alloc ew).cell? ⟨w.heap.size,1,none⟩=some (.float .f64 0)/\(w.alloc ew).cell? ⟨w.heap.size,2,none⟩=some (.int .i64 0))/\∀ i,(w.alloc ew).frozen? ⟨w.heap.size,i,none⟩=false:=by
 have h:=heap_alloc_new w ew;unfold ew at h
 refine⟨⟨by unfold ew;simp,by unfold ew;simp,by unfold ew;simp⟩,fun i=>frozen_of_row _ _ i _ _ h⟩
structure FBx (w:World) (f:Flw) (wr:World):Prop where
 t0:wr.cell? ⟨w.heap.size,0,none⟩=some (.int .i64 f.day)
 t1:wr.cell? ⟨w.heap.size,1,none⟩=some (.float .f64 f.am)
 t2:wr.cell? ⟨w.heap.size,2,none⟩=some (.int .i64 f.cur)
 fz:∀ i,wr.frozen? ⟨w.heap.size,i,none⟩=false
 bl:Below w.heap.size w wr
 lt:w.heap.size<wr.heap.size
theorem FBx.step {w wr b:World} {f:Flw} (h:FBx w f wr) (a:Below wr.heap.size wr b):FBx w f b:=
 ⟨(a.cell (p:=⟨w.heap.size,0,none⟩) h.lt).trans h.t0,(a.cell (p:=⟨w.heap.size,1,none⟩) h.lt).trans h.t1,(a.cell (p:=⟨w.heap.size,2,none⟩) h.lt).trans h.t2,fun i=>(a.frozen (p:=⟨w.heap.size,i,none⟩) h.lt).trans (h.fz i),h.bl.trans (a.mono h.bl.size),Nat.lt_of_lt_of_le h.lt a.size⟩
theorem JV {w wr:World} {f:Flw} (h:wr.heap[w.heap.size]? =some (.cells #[.int .i64 f.day,.float .f64 f.am,.int .i64 f.cur] 51)) (a:Below w.heap.size w wr):FBx w f wr:=by
 refine⟨?_,?_,?_,fun i=>frozen_of_row _ _ i _ _ h,a,(Array.getElem?_eq_some_iff.1 h).1⟩
 all_goals
  simp only [World.cell?,h,Option.isSome_none,Bool.false_eq_true,if_false]
  rfl
theorem JW (w:World) (f:Flw):(Fy (w.alloc ew) w.heap.size f).heap[w.heap.size]? =some (.cells #[.int .i64 f.day,.float .f64 f.am,.int .i64 f.cur] 51):=by
 have h:=heap_alloc_new w ew;unfold ew at h
 exact kO _ (kO _ (kO _ h))
theorem yR (w:World) (f:Flw):FBx w f (Fy (w.alloc ew) w.heap.size f):=
 JV (JW w f) ((((Below.refl _ w).alloc (Nat.le_refl _) _).setCell (p:=⟨w.heap.size,0,none⟩) (Nat.le_refl _) _).setCell (p:=⟨w.heap.size,1,none⟩) (Nat.le_refl _) _ |>.setCell (p:=⟨w.heap.size,2,none⟩) (Nat.le_refl _) _)
theorem Ps (w:World) (f:Flw):FBx w f (w.alloc (.cells #[.int .i64 f.day,.float .f64 f.am,.int .i64 f.cur] 51)):=
 JV (heap_alloc_new w _) ((Below.refl _ _).alloc (Nat.le_refl _) _)
theorem JX (f:Flw) (w:World) (p:f.am<18446744073709551616) :
  Calls Tryz.prog 159 #[.agg #[.int .i64 f.day,.float .f64 f.am,.int .i64 f.cur]] w fun e c=>e=.returned (.int .i64 (fL f))/\Below w.heap.size w c:=by
 obtain⟨day,l,cur⟩:=f;have n:=hideS (Ps w ⟨day,l,cur⟩);have j:=hideS fun m=>Dr day 0 109572 m
 have i:=hideS fun m=>JU l m (by unfold U64;dsimp only at p;omega)
 have h:=hideS fun m=>JT cur m
 obtain⟨E,o⟩:∃ E,fL ⟨day,l,cur⟩=E:=⟨_,rfl⟩;have b:Hid ((if ¬ (0<=day/\day<=109572) then 51 else if aM l=false then 91 else if ¬ (1<=cur/\cur<=8) then 140 else 0)=E):=o
 rw [o];clear o p;dsimp only at *
 by_cases d:0<=day/\day<=109572
 ·rw [decide_eq_true d] at j
  rw [if_neg (not_not_intro d)] at b
  cases k:aM l
  ·rw [k] at i b
   have a:Hid (E=91):=b.out.symm;rw [a.out];clear b a h d k
   go_enter Tryz.func159,Tryz.ntmps159
   go_wp2_with (first | (go_at_call 175;refine (j.out _).mono ?_;rintro e c ⟨rfl,rfl⟩) | (go_at_call 176;refine (i.out _).mono ?_;rintro e c ⟨rfl,rfl⟩))
   go_ret
   exact⟨rfl,n.out.bl⟩
  ·rw [k] at i b
   rw [if_neg (by simp)] at b
   by_cases g:1<=cur/\cur<=8
   ·rw [decide_eq_true g] at h
    have a:Hid (E=0):=by have:=b.out;rw [if_neg (not_not_intro g)] at this;exact this.symm
    rw [a.out];clear b a d k g
    go_enter Tryz.func159,Tryz.ntmps159
    go_wp2_with (first | (go_at_call 175;refine (j.out _).mono ?_;rintro e c ⟨rfl,rfl⟩) | (go_at_call 176;refine (i.out _).mono ?_;rintro e c ⟨rfl,rfl⟩) | (go_at_call 177;refine (h.out _).mono ?_;rintro e c ⟨rfl,rfl⟩))
    go_ret
    exact⟨rfl,n.out.bl⟩
   ·rw [decide_eq_false g] at h
    have a:Hid (E=140):=by have:=b.out;rw [if_pos g] at this;exact this.symm
    rw [a.out];clear b a d k g
    go_enter Tryz.func159,Tryz.ntmps159
    go_wp2_with (first | (go_at_call 175;refine (j.out _).mono ?_;rintro e c ⟨rfl,rfl⟩) | (go_at_call 176;refine (i.out _).mono ?_;rintro e c ⟨rfl,rfl⟩) | (go_at_call 177;refine (h.out _).mono ?_;rintro e c ⟨rfl,rfl⟩))
    go_ret
    exact⟨rfl,n.out.bl⟩
 ·rw [decide_eq_false d] at j
  have a:Hid (E=51):=by have:=b.out;rw [if_pos d] at this;exact this.symm
  rw [a.out];clear b a h i d
  go_enter Tryz.func159,Tryz.ntmps159
  go_wp2_with (go_at_call 175;refine (j.out _).mono ?_;rintro e c ⟨rfl,rfl⟩)
  go_ret
  exact⟨rfl,n.out.bl⟩
theorem BB (l:List Flw) (p:Option Addr) (b off c N:Nat) (E K:Int) (w:World) (C:JSrc aF w p b off l) (T:l.length=N) (hc:N<=9223372036854775807) (Q:eu l) (D:ChkF l E K) :
  Calls Tryz.prog 125 #[.slice p N c] w fun e w'=>e=.returned (.tuple #[.int .i64 E,.int .i64 K])/\Below w.heap.size w w':=by
 have B:=hideS T;have W:=hideS D;have HQ:=hideS C;have Y:=hideS Q
 by_cases hm:4096<N
 ·obtain⟨rfl,rfl⟩:=aO D (.many (by omega))
  clear D C T Q
  go_enter Tryz.func125,Tryz.ntmps125
  go_wp2
  go_ret2
  exact⟨rfl,Below.refl _ _⟩
 ·have HP:Hid (0<N->p=some ⟨b,off,none⟩):=fun h=>C.at_ (by omega)
  clear D C T Q
  go_enter Tryz.func125,Tryz.ntmps125
  go_wp2_with fail
  go_loopw [12] (fun i v=>∃ k:Nat,k<=N/\i=.int .i64 k/\Hid (∀ j<k,fL (l.getD j aD)=0)/\Hid (Below w.heap.size w v)) (fun i _=>N - (intOf i).toNat)
  case atStart=>exact⟨0,Nat.zero_le _,rfl,fun j Z=>by omega,Below.refl _ _⟩
  case round=>
   obtain⟨k,hk,rfl,o,t⟩:=hrel
   by_cases A:k<N
   ·obtain rfl:=HP.out (by omega)
    obtain⟨c0,c1,c2⟩:=(HQ.out.below t.out).cell k (by rw [B.out];exact A)
    have m:=hideS fun wx=>JX (l.getD k aD) wx (Y.out k)
    obtain⟨F,I⟩:∃ F,fL (l.getD k aD)=F:=⟨_,rfl⟩;rw [I] at m
    have y:=hideS I;have a:=hideS (yR v (l.getD k aD));obtain⟨⟨G,M,U⟩,fz⟩:=nO v;have J:=fz 0;have O:=fz 1;have S:=fz 2;clear fz I;obtain⟨q,V⟩:∃ q,l.getD k aD=q:=⟨_,rfl⟩;rw [V] at m a c0 c1 c2
    clear V;obtain⟨qd,qa,qc⟩:=q;dsimp only [aF] at *
    obtain⟨L,n⟩:∃ L,v.alloc ew=L:=⟨_,rfl⟩;rw [n] at G M U J O S a
    unfold ew at n
    obtain⟨X,g⟩:∃ X,Fy L v.heap.size ⟨qd,qa,qc⟩=X:=⟨_,rfl⟩;rw [g] at a
    unfold Fy at g
    dsimp only at g
    have R:=a.out.t0;have H:=a.out.t1;have P:=a.out.t2;dsimp only at R H P
    have z:=tG
    by_cases x:F=0
    ·have u:Hid (∀ j<k+1,fL (l.getD j aD)=0):=fun j Z=>by
      by_cases c:j<k
      ·exact o.out j c
      ·obtain rfl:j=k:=by omega
       rw [y.out];exact x
     subst x
     go_wp2_with fail
     clear z n g G M U J O S R H P;refine (m.out _).mono ?_
     rintro e w4 ⟨rfl,d⟩;have s:=hideS (t.out.trans ((a.out.step d).bl.mono t.out.size));clear d c0 c1 c2
     go_wp2_with fail
     go_roundw
     case rel=>exact⟨k+1,by omega,by simp,u,s⟩
     case measure=>simp [intOf];omega
    ·have f:F=E/\(k:Int)=K:=aO (.bad (by rw [B.out];omega) k (by rw [B.out];exact A) F y.out x o.out) W.out
     have r:=hideS f;have d7:(F !=0)=true:=bne_iff_ne.2 x;clear x f
     go_wp2_with fail
     clear z n g G M U J O S R H P;refine (m.out _).mono ?_
     rintro e w4 ⟨rfl,d⟩;have s:=hideS (t.out.trans ((a.out.step d).bl.mono t.out.size));clear d
     go_wp2_with fail
     go_ret2
     obtain⟨rfl,rfl⟩:=r.out;exact⟨rfl,s.out⟩
   ·obtain rfl:k=N:=by omega
    have f:(0:Int)=E/\(0:Int)=K:=aO (.fine (by rw [B.out];omega) (by rw [B.out];exact o.out)) W.out
    have r:=hideS f;clear f
    go_wp2_with fail
    go_ret2
    obtain⟨rfl,rfl⟩:=r.out;exact⟨rfl,t.out⟩
def nj (g:Flw->Flw) (l:List Flw) (k:Nat):List Flw:=(List.range k).map fun i=>g (l.getD i aD)
theorem Ln (g:Flw->Flw) (l:List Flw) (k:Nat):(nj g l k).length=k:=by unfold nj;simp
theorem Gs (g:Flw->Flw) (l:List Flw) (k:Nat):nj g l (k+1)=nj g l k++[g (l.getD k aD)]:=by unfold nj;rw [List.range_succ,List.map_append];rfl
theorem Lo (g:Flw->Flw) (l:List Flw):nj g l l.length=l.map g:=by
 apply List.ext_getElem
 ·simp [nj]
 ·intro i b a;have:i<l.length:=by simpa using a
  simp [nj,List.getD,this]
def ka (R j d:Nat):Nat:=R / 2^(32*(j+1))*2^(32*(j+1))+d*2^(32*j)+R % 2^(32*j)
theorem pu (R j d:Nat):ka R j d+dgt R j*2^(32*j)=R+d*2^(32*j):=by
 unfold ka;have a:=Nat.div_add_mod R (2^(32*(j+1)));have b:=fj R j;rw [Nat.mul_comm] at a
 omega
theorem Ov (R j d:Nat) (b:d<4294967296):d*2^(32*j)+R % 2^(32*j)<2^(32*(j+1)):=by
 have c:R % 2^(32*j)<2^(32*j):=Nat.mod_lt _ (Nat.two_pow_pos _);have a:(d+1)*2^(32*j)<=4294967296*2^(32*j):=Nat.mul_le_mul_right _ b;rw [Nat.add_mul,Nat.one_mul] at a
 rw [gr,Nat.mul_comm (2^(32*j))];omega
theorem pw (R j d:Nat) (a:d<4294967296):ka R j d / 2^(32*(j+1))=R / 2^(32*(j+1)):=by
 unfold ka;rw [Nat.add_assoc,Nat.add_comm,Nat.add_mul_div_right _ _ (Nat.two_pow_pos _),Nat.div_eq_of_lt (Ov R j d a),Nat.zero_add]
theorem LN {R j d T:Nat} (a:R<2^(32*T)) (c:j<T) (b:d<4294967296):ka R j d<2^(32*T):=by
 have e:(2:Nat)^(32*T)=2^(32*(T - (j+1)))*2^(32*(j+1)):=by rw [<- Nat.pow_add];congr 1;omega
 rw [e] at a ⊢
 rw [<- Nat.div_lt_iff_lt_mul (Nat.two_pow_pos _)] at a ⊢
 rw [pw R j d b];exact a
theorem LO {R S j i:Nat} (h:R / 2^(32*(j+1))=S / 2^(32*(j+1))) (hi:j<i):dgt R i=dgt S i:=by
 unfold dgt;have e:(2:Nat)^(32*i)=2^(32*(j+1))*2^(32*(i - (j+1))):=by rw [<- Nat.pow_add];congr 1;omega
 rw [e,<- Nat.div_div_eq_div_mul,<- Nat.div_div_eq_div_mul,h]
theorem GZ (R j d i:Nat) (g:d<4294967296):dgt (ka R j d) i=if i=j then d else dgt R i:=by
 have b:=Nat.two_pow_pos (32*j)
 by_cases h:i=j
 ·subst h;rw [if_pos rfl];have a:=div_step (ka R i d) i;rw [pw R i d g] at a
  have k:ka R i d / 2^(32*i)=R / 2^(32*(i+1))*4294967296+d:=by
   unfold ka;generalize R / 2^(32*(i+1))=q;have e:q*2^(32*(i+1))+d*2^(32*i)=(q*4294967296+d)*2^(32*i):=by rw [gr,Nat.add_mul,Nat.mul_assoc,Nat.mul_comm 4294967296]
   rw [e,Nat.add_comm,Nat.add_mul_div_right _ _ b,Nat.div_eq_of_lt (Nat.mod_lt _ b),Nat.zero_add]
  omega
 ·rw [if_neg h];rcases Nat.lt_or_gt_of_ne h with a | a
  ·have f:=CF (ka R j d) j i;have c:=CF R j i;rw [if_pos a] at f c
   rw [<- f,<- c]
   congr 1
   unfold ka;rw [gr,Nat.mul_comm (2^(32*j)) 4294967296,<- Nat.mul_assoc,<- Nat.add_mul,Nat.mul_add_mod',Nat.mod_mod]
  ·exact LO (pw R j d g) a
theorem Own.put {w:World} {b n R j d:Nat} {x:Int} (h:Own w b n R) (a:x=(d:Int)) (e:d<4294967296):Own (w.setCell ⟨b,j,none⟩ (.int .u64 x)) b n (ka R j d):=by
 refine (h.set j (.int .u64 x)).congr fun i _=>?_
 rw [GZ R j d i e]
 by_cases c:i=j
 ·rw [if_pos c,if_pos c,a]
 ·rw [if_neg c,if_neg c]
theorem DZ {M B R i k a b c o s:Nat} (u:R+c*2^(32*(i+k))=M+a*(B % 2^(32*k))*2^(32*i)) (h:b=dgt B k) (e:o=dgt R (i+k)) (g:s=o+a*b+c) :
  ka R (i+k) (s % 4294967296)+s / 4294967296*2^(32*(i+(k+1)))=M+a*(B % 2^(32*(k+1)))*2^(32*i):=by
 have f:=pu R (i+k) (s % 4294967296);rw [<- e] at f
 rw [show i+(k+1)=i+k+1 by omega,gr,fj,<- h,Nat.mul_add a,Nat.add_mul (a*_)]
 have d:a*(b*2^(32*k))*2^(32*i)=a*b*2^(32*(i+k)):=by
  rw [<- Nat.mul_assoc,Nat.mul_assoc,<- Nat.pow_add];congr 2;omega
 rw [d];generalize 2^(32*(i+k))=W at *
 have q:s / 4294967296*(W*4294967296)+s % 4294967296*W=s*W:=by
  rw [Nat.mul_comm W,<- Nat.mul_assoc,<- Nat.add_mul,Nat.div_add_mod']
 have m:s*W=o*W+a*b*W+c*W:=by rw [g,Nat.add_mul,Nat.add_mul]
 generalize s / 4294967296*(W*4294967296)=j at *
 generalize s % 4294967296*W=n at *
 generalize s*W=r at *
 generalize o*W=v at *
 generalize a*b*W=l at *
 generalize c*W=p at *
 generalize a*(B % 2^(32*k))*2^(32*i)=t at *
 omega
theorem Ea {o a b c:Nat} (e:o<4294967296) (d:a<4294967296) (f:b<4294967296) (hc:c<4294967296):a*b<=18446744065119617025/\o+a*b+c<18446744073709551616:=by
 have:a*b<=4294967295*4294967295:=Nat.mul_le_mul (by omega) (by omega)
 omega
theorem CH {A B R i n a c:Nat} (e:R+c*2^(32*(i+n))=(A % 2^(32*i))*B+a*(B % 2^(32*n))*2^(32*i)) (f:B<2^(32*n)) (d:a=dgt A i) (b:R<2^(32*(i+n))) :
  ka R (i+n) c=(A % 2^(32*(i+1)))*B:=by
 have g:=pu R (i+n) c;rw [mw b,Nat.zero_mul] at g
 rw [Nat.mod_eq_of_lt f] at e
 rw [fj,Nat.add_mul,<- d];have:a*B*2^(32*i)=a*2^(32*i)*B:=by rw [Nat.mul_assoc,Nat.mul_comm B,Nat.mul_assoc]
 omega
theorem CI {A B m n:Nat} (b:A<2^(32*m)) (a:B<2^(32*n)):A*B<2^(32*(m+n)):=by
 rw [Nat.mul_add,Nat.pow_add];exact Nat.mul_lt_mul'' b a
theorem rZ (g f c d m n A B:Nat) (w:World) (u:Hid (RowIs w g m A)) (M:Hid (RowIs w f n B)) (Z:g<w.heap.size) (hf:f<w.heap.size) (hm:m<=1000000) (hn:n<=1000000) (hA:Hid (A<2^(32*m))) (K:Hid (B<2^(32*n))) :
  Calls Tryz.prog 141 #[.slice (some ⟨g,0,none⟩) m c,.slice (some ⟨f,0,none⟩) n d] w fun e O=>∃ v,e=.returned v/\DN O v (A*B)/\From w.heap.size v/\Below w.heap.size w O:=by
 have z:=fun w=>run_make_row' (P:=Tryz.prog) 33 41 (.int .u64 0) 8 Tryz.underlying33 dT rfl .i64 .i64 (m+n+1) (by omega) (by omega) w
 have ec:((m+n+1:Nat):Int)=(m:Int)+(n:Int)+1:=by omega
 rw [ec] at z
 clear ec;have HO:=aa (oY w (m+n+1))
 go_enter Tryz.func141,Tryz.ntmps141
 go_wp2_with fail
 go_loopg [6] m (fun I i L=>∃ k:Nat,k<=m/\I=m - k/\i=.int .i64 k/\Hid (Own L w.heap.size (m+n+1) ((A % 2^(32*k))*B))/\Hid (Below w.heap.size w L))
 case atStart=>exact⟨0,Nat.zero_le _,by omega,rfl,by rw [Nat.mul_zero,Nat.pow_zero,Nat.mod_one,Nat.zero_mul];exact HO,(Below.refl _ _).alloc (Nat.le_refl _) _⟩
 case round=>
  clear HO z;obtain⟨i,hi,rfl,rfl,h,j⟩:=hrel
  by_cases C:i<m
  ·have r:=(j.out.cell (p:=⟨g,i,none⟩) Z).trans (u.out i C);have y:=aa (u.out i C);have ba:=bw A i;have HM:Hid ((A % 2^(32*i))*B<2^(32*(i+n))):=CI (Nat.mod_lt _ (Nat.two_pow_pos _)) K.out;have HE:=aa fun R a c (Q:a=dgt A i)=>CH (A:=A) (B:=B) (R:=R) (i:=i) (n:=n) (a:=a) (c:=c)
   generalize Q:dgt A i=a at r y ba
   have S:=aa Q.symm;clear Q
   go_wp2_with fail
   go_loopg [7,8] n (fun I s kk E=>∃ k x R:Nat,k<=n/\I=n - k/\kk=.int .i64 k/\s=.int .u64 x/\x<4294967296/\Hid (R+x*2^(32*(i+k))=(A % 2^(32*i))*B+a*(B % 2^(32*k))*2^(32*i))/\Hid (R<2^(32*(i+n)))/\Hid (Own E w.heap.size (m+n+1) R)/\Hid (Below w.heap.size w E))
   case atStart=>exact⟨0,0,_,Nat.zero_le _,by omega,rfl,rfl,by omega,by show _=_;rw [Nat.mul_zero 32,Nat.pow_zero,Nat.mod_one,Nat.zero_mul,Nat.mul_zero,Nat.zero_mul],HM,h,j⟩
   case round=>
    clear h j HM r;obtain⟨k,x,R,hk,rfl,rfl,rfl,hx,U,N,h,j⟩:=hrel;have r:=(j.out.cell (p:=⟨g,i,none⟩) Z).trans y.out
    by_cases q:k<n
    ·have H:=(j.out.cell (p:=⟨f,k,none⟩) hf).trans (M.out k q);have W:=bw B k;have J:=h.out.cell (i:=i+k) (by omega)
     have T:=bw R (i+k);have fo:=h.out.frozen (i+k);have l:=aa fun b o s (G:b=dgt B k) (F:o=dgt R (i+k)) (hs:s=o+a*b+x)=>DZ U.out G F hs
     generalize G:dgt B k=b at H W
     generalize F:dgt R (i+k)=o at J T
     have l:=aa (l.out b o _ G.symm F.symm rfl);clear G F;obtain⟨s1,V⟩:=Ea T ba W hx;have w1:IntKind.u64.wrap ((a:Int)*(b:Int))=((a*b:Nat):Int):=by rw [<- Int.natCast_mul,IntKind.wrap_u64];omega
     generalize a*b=t at w1 s1 V l
     have w2:IntKind.u64.wrap ((o:Int)+(t:Int))=(o:Int)+(t:Int):=by rw [IntKind.wrap_u64];omega
     have w3:IntKind.u64.wrap ((o:Int)+(t:Int)+(x:Int))=((o+t+x:Nat):Int):=by rw [IntKind.wrap_u64];omega
     generalize o+t+x=s at w3 V l
     have w4:IntKind.i64.wrap ((i:Int)+(k:Int))=(i:Int)+(k:Int):=by rw [IntKind.wrap_i64];omega
     have tn:((i:Int)+(k:Int)).toNat=i+k:=by omega
     have nn:(0:Int)<=(i:Int)+(k:Int):=by omega
     have nm:(i:Int)+(k:Int)<((m+n+1:Nat):Int):=by omega
     go_wp2_with fail
     go_quiet (fail)
     go_wp2_with fail
     go_roundg (n - (k+1))
     case measure=>omega
     case rel=>
      exact⟨k+1,s / 4294967296,ka R (i+k) (s % 4294967296),by omega,rfl,by go_num,by go_num,by omega,l.out,LN N.out (by omega) (by omega),Own.put (w:=L.drewN nq) h.out (by omega) (by omega),(below_drewN j.out _).setCell (Nat.le_refl _) _⟩
    ·obtain rfl:k=n:=by omega
     have J:=h.out.cell (i:=i+k) (by omega)
     have fo:=h.out.frozen (i+k);have Y:dgt R (i+k)=0:=mw N.out;rw [Y] at J
     have D:=aa (CH U.out K.out S.out N.out);clear Y
     go_wp2_with fail
     go_roundg (m - (i+1))
     case measure=>omega
     case rel=>
      refine⟨i+1,by omega,rfl,by go_num,?_,j.out.setCell (Nat.le_refl _) _⟩
      rw [<- D.out];exact Own.put h.out (by omega) hx
  ·obtain rfl:i=m:=by omega
   have e:A % 2^(32*i)=A:=Nat.mod_eq_of_lt hA.out;rw [e] at h
   clear e;have X:Hid (A*B<2^(32*(i+n+1))):=Nat.lt_of_lt_of_le (CI hA.out K.out) (Nat.pow_le_pow_right (by decide) (by omega))
   have q:=h.out.lt;have HD:=aa (nv h.out.row X.out (Nat.le_refl _) q)
   go_wp2_with fail
   refine (dq _ _ _ _ _ h.out.row X.out (Nat.le_refl _) (by omega)).mono ?_
   rintro e O ⟨rfl,rfl⟩
   go_wp2_with fail
   go_ret
   exact⟨_,rfl,HD.out,gX _ _ _ _ (Nat.le_refl _),j.out⟩
theorem Ha (nx a:Bool) (X Y:Nat):sg (nx !=a) (X*Y)=sg nx X*sg a Y:=by
 cases nx<;>cases a<;>simp [sg,Int.natCast_mul,Int.neg_mul,Int.mul_neg]
theorem uD {w:World} {B:Nat} {nx k:Bool} {l m:Value} {ex ey:Int} (h:Six w B nx l ex k m ey) (i:Nat) (x:Value):Six (w.setCell ⟨B+1+1,i,none⟩ x) B nx l ex k m ey:=by
 obtain⟨a,b,c,d,e,f⟩:=h;have g:B+1+1≠B:=by omega
 have j:B+1+1≠B+1:=by omega
 exact⟨(World.cell?_setCell_far w ⟨B+1+1,i,none⟩ ⟨B,0,none⟩ x g).trans a,(World.cell?_setCell_far w ⟨B+1+1,i,none⟩ ⟨B,1,none⟩ x g).trans b,(World.cell?_setCell_far w ⟨B+1+1,i,none⟩ ⟨B,2,none⟩ x g).trans c,(World.cell?_setCell_far w ⟨B+1+1,i,none⟩ ⟨B+1,0,none⟩ x j).trans d,(World.cell?_setCell_far w ⟨B+1+1,i,none⟩ ⟨B+1,1,none⟩ x j).trans e,(World.cell?_setCell_far w ⟨B+1+1,i,none⟩ ⟨B+1,2,none⟩ x j).trans f⟩
theorem Ao (nx f:Bool) (c e:Value) (ex ey:Int) (X Y:Nat) (w:World) (A:DN w c X) (y:DN w e Y) (d:X=0\/Y=0) :
  Calls Tryz.prog 100 #[.agg #[.bool nx,c,.int .i64 ex],.agg #[.bool f,e,.int .i64 ey]] w (fO w (ex+ey) 0):=by
 have j:=aa (dG w nx c ex f e ey);have l:=aa (jJ w nx c ex f e ey);have q:=aa (ll w nx c ex f e ey);have i:=aa (A.below j.out);have o:=aa (y.below j.out);have t:=aa d;clear A y d
 by_cases d:X=0
 ·subst d;clear t
  go_enter Tryz.func100,Tryz.ntmps100
  go_wp2_with fail
  refine (aZ _ _ _ 0 true _ i.out rfl).mono ?_
  rintro x m ⟨rfl,a⟩;have b:Hid (Below (w.heap.size+3) (pbox w nx c ex f e ey) m):=a.mono (by rw [l.out];omega)
  obtain⟨⟨r,s,n⟩,C,E,F⟩:=cM b.out;clear a
  go_wp2_with fail
  exact bodyPost_ret (v:=.agg #[.bool false,.slice none 0 0,.int .i64 0]) (by simp [results,Tryz.results100,go_sem,r,s,n]) rfl (mC b.out rfl)
 ·have B:Y=0:=by
   rcases t.out with h | h
   ·exact absurd h d
   ·exact h
  subst B;have D:=aa d;clear t d
  go_enter Tryz.func100,Tryz.ntmps100
  go_wp2_with fail
  refine (aZ _ _ _ X false _ i.out (decide_eq_false D.out)).mono ?_
  rintro x m ⟨rfl,a⟩;have b:Hid (Below (w.heap.size+3) (pbox w nx c ex f e ey) m):=a.mono (by rw [l.out];omega)
  have p:w.heap.size+3<=m.heap.size:=by have z:=a.size;rw [l.out] at z;exact z
  have u:=aa (o.out.below a);obtain⟨c0,c1,c2,c3,c4,G⟩:=q.out.below a (by rw [l.out];omega)
  clear a
  go_wp2_with fail
  refine (aZ _ _ _ 0 true _ u.out rfl).mono ?_
  rintro x H ⟨rfl,g⟩;have k:=aa (b.out.trans (g.mono p));obtain⟨⟨r,s,n⟩,C,E,F⟩:=cM k.out;clear g c0 c1 c2 c3 c4 G
  go_wp2_with fail
  exact bodyPost_ret (v:=.agg #[.bool false,.slice none 0 0,.int .i64 0]) (by simp [results,Tryz.results100,go_sem,r,s,n]) rfl (mC k.out rfl)
theorem Ap (nx i:Bool) (g f c d:Nat) (ex ey:Int) (m n X Y:Nat) (w:World) (t:X≠0) (r:Y≠0)
  (hX:DN w (.slice (some ⟨g,0,none⟩) m c) X) (hY:DN w (.slice (some ⟨f,0,none⟩) n d) Y) (q:Hid (RowIs w g m X)) (u:Hid (RowIs w f n Y)) (hg:g<w.heap.size) (N:f<w.heap.size) (hm:m<=1000000) (hn:n<=1000000) (z:Hid (X<2^(32*m))) (s:Hid (Y<2^(32*n)))
  (he: -10000000<=ex) (ad:ex<=10000000) (ac: -10000000<=ey) (ai:ey<=10000000) :
  Calls Tryz.prog 100 #[.agg #[.bool nx,.slice (some ⟨g,0,none⟩) m c,.int .i64 ex],.agg #[.bool i,.slice (some ⟨f,0,none⟩) n d,.int .i64 ey]] w (fO w (ex+ey) (sg nx X*sg i Y)):=by
 have p:=aa fun e (b:Below w.heap.size w e)=>rZ g f c d m n X Y e (q.out.below hg b) (u.out.below N b) (Nat.lt_of_lt_of_le hg b.size) (Nat.lt_of_lt_of_le N b.size) hm hn z s
 clear q u z s hg N;generalize K:Value.slice (some ⟨g,0,none⟩) m c=D at *
 generalize I:Value.slice (some ⟨f,0,none⟩) n d=G at *
 clear K I;have l:=aa (dG w nx D ex i G ey);have R:=aa (jJ w nx D ex i G ey);have O:=aa (ll w nx D ex i G ey);have J:=aa (hX.below l.out);have H:=aa (hY.below l.out);have V:=aa t;have Z:=aa r;have P:IntKind.i64.wrap (ex+ey)=ex+ey:=by rw [IntKind.wrap_i64];omega
 clear hX hY t r
 go_enter Tryz.func100,Tryz.ntmps100
 go_wp2_with fail
 refine (aZ _ _ _ X false _ J.out (decide_eq_false V.out)).mono ?_
 rintro x P ⟨rfl,a⟩;have L:Hid (Below (w.heap.size+3) (pbox w nx D ex i G ey) P):=a.mono (by rw [R.out];omega)
 have Q:w.heap.size+3<=P.heap.size:=by have W:=a.size;rw [R.out] at W;exact W
 have M:=aa (H.out.below a);have E:=aa (O.out.below a (by rw [R.out];omega))
 obtain⟨c0,c1,c2,c3,c4,c5⟩:=E.out;clear a
 go_wp2_with fail
 refine (aZ _ _ _ Y false _ M.out (decide_eq_false Z.out)).mono ?_
 rintro x U ⟨rfl,h⟩;have F:=aa (L.out.trans (h.mono Q));have A:w.heap.size+3<=U.heap.size:=by have W:=h.size;omega
 have j:=aa (E.out.below h (by omega))
 have S:=aa (l.out.trans (F.out.mono (by omega)))
 clear h c0 c1 c2 c3 c4 c5;obtain⟨c0,c1,c2,c3,c4,c5⟩:=j.out
 go_wp2_with fail
 go_region_held3 (fun e=>e.cell? ⟨w.heap.size,0,none⟩=some (.bool nx)/\e.cell? ⟨w.heap.size,1,none⟩=some D/\e.cell? ⟨w.heap.size,2,none⟩=some (.int .i64 ex)/\e.cell? ⟨w.heap.size+1,0,none⟩=some (.bool i)/\e.cell? ⟨w.heap.size+1,1,none⟩=some G/\e.cell? ⟨w.heap.size+1,2,none⟩=some (.int .i64 ey)) (first | exact j.out | exact C.out | exact uD (uD (uD C.out 0 _) 1 _) 2 _ | go_keep) ((go_at_call 141;refine (p.out _ (S.out.drew)).mono ?_;rintro x w4 ⟨v4,rfl,o,B,k⟩;obtain⟨p4,q4,rfl⟩:=o.form;have y:=aa (F.out.drew.trans (k.mono A));have C:=aa (Six.below (w:=U.drew) j.out k (show w.heap.size+1<U.heap.size by omega));obtain⟨⟨r0,r1,r2⟩,f0,f1,f2⟩:=cM y.out;have T:=aa o;have ab:=aa (B.mono (show w.heap.size+3<=_ from A));clear o B k))
 all_goals
  go_wp2_with fail
  exact bodyPost_ret (v:=.agg #[.bool _,.slice p4 _ q4,.int .i64 (ex+ey)]) (by simp [results,Tryz.results100,go_sem,r0,r1,r2]) rfl (dH y.out T.out ab.out (Ha nx i X Y))
theorem sK (nx a:Bool) (m u:Value) (ex ey:Int) (X Y:Nat) (w:World) (s:DN w m X) (l:DN w u Y) (v:nd X<=1000000) (hn:nd Y<=1000000)
  (z: -10000000<=ex) (j:ex<=10000000) (n: -10000000<=ey) (o:ey<=10000000) :
  Calls Tryz.prog 100 #[.agg #[.bool nx,m,.int .i64 ex],.agg #[.bool a,u,.int .i64 ey]] w (fO w (ex+ey) (sg nx X*sg a Y)):=by
 by_cases b:X=0\/Y=0
 ·have e:sg nx X*sg a Y=0:=by
   rw [<- Ha];rcases b with h | h
   ·rw [h,Nat.zero_mul];cases (nx !=a)<;>rfl
   ·rw [h,Nat.mul_zero];cases (nx !=a)<;>rfl
  rw [e];exact Ao nx a m u ex ey X Y w s l b
 ·have i:=s;have r:=l;rcases s with⟨q,_⟩| ⟨q,g,c,rfl,_,x,t⟩
  ·exact absurd (Or.inl q) b
  ·rcases l with⟨k,_⟩| ⟨k,f,d,rfl,_,y,p⟩
   ·exact absurd (Or.inr k) b
   ·exact Ap nx a g f c d ex ey (nd X) (nd Y) X Y w q k i r t p x y v hn (cZ X) (cZ Y) z j n o
def aY (u:Int):Bool:=szI u==9218868437227405312
theorem aw (u:Int) (w:World) (h:U64 u) :
  Calls Tryz.prog 72 #[.int .u64 u] w fun e a=>e=.returned (.bool (aY u))/\a=w:=by
 have b:=dD h
 go_enter Tryz.func72,Tryz.ntmps72
 go_wp2
 go_ret
 exact⟨rfl,rfl⟩
theorem LZ (u:Int) (w:World) (h:U64 u) (a:szI u=0) :
  Calls Tryz.prog 74 #[.int .u64 u] w fun x b=>∃ v,x=.returned (dU false v 0)/\DN b v 0/\Below w.heap.size w b:=by
 have d:bits .and .u64 u 4503599627370495=0:=by rw [ph h,a];rfl
 have c:bits .and .u64 (u / 4503599627370496) 2047=0:=by
  have:=h.1;have:=h.2;rw [pj (by omega) (by omega)];unfold szI at a;omega
 unfold dU;clear h a
 go_enter Tryz.func74,Tryz.ntmps74
 go_wp2_with fail
 refine bodyPost_ret (v:=.agg #[.bool false,.slice none 0 0,.int .i64 0]) (by simp [results,Tryz.results74,go_sem]) rfl ⟨_,rfl,Or.inl ⟨rfl,_,_,rfl⟩,?_⟩
 exact (Below.refl w.heap.size w).alloc (Nat.le_refl _) _
structure OfR (x:Nat) (neg:Bool) (N:Nat) (e:Int):Prop where
 lt:N<9007199254740992
 lo: -1074<=e
 hi:e<=971
 val:N*2^(e+1074).toNat=aV x
 sgn:N≠0->neg=sB x
 mag:N≠0->N=mg (x % 9223372036854775808)/\e= -1074+(pl (x % 9223372036854775808):Int)
theorem fQ {x:Nat} (h:x<18446744073709551616):sgB (x:Int)=sB x:=by
 unfold sgB sB;rcases (show x / 9223372036854775808=0\/x / 9223372036854775808=1 by omega) with e | e
 ·rw [e];show _=false;rw [decide_eq_false_iff_not];omega
 ·rw [e];show _=true;rw [decide_eq_true_eq];omega
theorem dR (x:Nat):szI (x:Int)=((x % 9223372036854775808:Nat):Int):=by unfold szI;omega
theorem eC (x:Nat) (u:Int) (w:World) (f:Hid (u=(x:Int))) (h:U64 u) (m:af x) :
  Calls Tryz.prog 74 #[.int .u64 u] w fun r b=>∃ neg v N e,r=.returned (.agg #[.bool neg,v,.int .i64 e])/\DN b v N/\OfR x neg N e/\Below w.heap.size w b:=by
 have a:x<18446744073709551616:=by have:=h.2;rw [f.out] at this;omega
 have i:szI u=((x % 9223372036854775808:Nat):Int):=by rw [f.out];exact dR x
 unfold af at m
 by_cases k:szI u=0
 ·refine (LZ u w h k).mono ?_
  rintro r b ⟨v,rfl,d,g⟩;refine⟨false,v,0,0,rfl,d,⟨by decide,by decide,by decide,?_,fun h=>absurd rfl h,fun h=>absurd rfl h⟩,g⟩
  unfold aV;rw [show x % 9223372036854775808=0 by omega,bp,Nat.zero_mul]
 ·refine (Ot u w h (by omega) (by omega)).mono ?_
  rintro r b ⟨v,rfl,d,g⟩;have l:(fZ (szI u)).toNat=mg (x % 9223372036854775808):=by
   rw [i];generalize x % 9223372036854775808=r at *
   unfold fZ mg
   by_cases c:r<4503599627370496
   ·rw [if_pos c,if_pos (by omega)];omega
   ·rw [if_neg c,if_neg (by omega)];omega
  have j:kw (szI u)= -1074+(pl (x % 9223372036854775808):Int):=by
   rw [i];generalize x % 9223372036854775808=r at *
   unfold kw pl
   by_cases c:r<4503599627370496
   ·rw [if_pos (by omega)];omega
   ·rw [if_neg (by omega)];omega
  have n:pl (x % 9223372036854775808)<=2045:=by unfold pl;omega
  rw [l] at d
  refine⟨sgB u,v,_,kw (szI u),rfl,d,⟨ns _,by omega,by omega,?_,fun _=>?_,fun _=>⟨rfl,j⟩⟩,g⟩
  ·rw [j];unfold aV V
   congr 2
   omega
  ·rw [f.out];exact fQ a
theorem dr {N:Nat} (h:N<9007199254740992):nd N<=2:=bL (k:=2) (by omega)
def cn (o:Option Nat):Nat:=o.getD 9221120237041090561
theorem lu:cn none=9221120237041090561:=rfl
theorem ar (r:Nat):cn (some r)=r:=rfl
def gB (s:Bool):Int:=if s then 9223372036854775808 else 0
theorem OA {b:Nat} (h:b<18446744073709551616):b.testBit 63=sgB (b:Int):=by
 rw [Nat.testBit_eq_decide_div_mod_eq];unfold sgB;apply decide_eq_decide.2;omega
theorem uG {u v:Int} (h:U64 u) (f:U64 v):bits .and .u64 (bits .xor .u64 u v) 9223372036854775808=gB (sgB u^^sgB v):=by
 obtain⟨a,rfl⟩:=Int.eq_ofNat_of_zero_le h.1;obtain⟨b,rfl⟩:=Int.eq_ofNat_of_zero_le f.1;have c:a<18446744073709551616:=by have:=h.2;omega
 have d:b<18446744073709551616:=by have:=f.2;omega
 have e:a^^^b<18446744073709551616:=Nat.xor_lt_two_pow (n:=64) c d;rw [bits_xor_u64_nat a b c d,Gx (ag e),<- OA e,Nat.testBit_xor,OA c,OA d]
 rfl
theorem bF (neg:Bool) (N:Nat):(sg neg N).natAbs=N:=by unfold sg;cases neg<;>simp
theorem Mc (neg:Bool) (N:Nat) (E:Int):U64 (bJ neg N E false)/\szI (bJ neg N E false)=(if N=0 then 0 else (nearR N E:Int)):=by
 by_cases a:N=0
 ·have:bJ neg N E false=0:=by unfold bJ;rw [if_pos a]
  rw [this,if_pos a];exact⟨by unfold U64;omega,by decide⟩
 ·rw [fw neg E a,if_neg a];have b:nearR N E<=9218868437227405312:=Nat.min_le_right _ _;generalize nearR N E=r at *
  unfold U64 szI;cases neg
  ·rw [if_neg (by decide)];omega
  ·rw [if_pos rfl];omega
def lv (T:Nat):Int:=if T=0 then 0 else (nearR T (-2148):Int)
theorem Hp (T:Nat):0<=lv T/\lv T<=9218868437227405312:=by
 unfold lv;have a:nearR T (-2148)<=9218868437227405312:=Nat.min_le_right _ _
 split<;>omega
theorem Md (s:Bool) (T:Nat):(mulR s T:Int)=gB s+lv T:=by
 unfold mulR lv gB wrd
 by_cases a:T=0
 ·rw [if_pos a,if_pos a];cases s<;>simp
 ·rw [if_neg a,if_neg a];generalize nearR T (-2148)=r;cases s<;>simp
theorem Me {x y X Y N:Nat} {nx j neg:Bool} {ex ey E:Int} (e:OfR x nx X ex) (d:OfR y j Y ey) (o:sg neg N=sg nx X*sg j Y) (p:E=ex+ey\/(E=0/\N=0)) :
  U64 (bJ neg N E false)/\szI (bJ neg N E false)=lv (aV x*aV y)/\nd N<=1000000/\-10000000<=E/\E<=10000000:=by
 have l:N=X*Y:=by
  have:=congrArg Int.natAbs o;rw [Int.natAbs_mul,bF,bF,bF] at this;exact this
 obtain⟨a,b⟩:=Mc neg N E;have i:nd N<=1000000:=by
  refine Nat.le_trans (bL (k:=4) ?_) (by omega)
  rw [l];have:=Nat.mul_lt_mul'' e.lt d.lt;omega
 have r:=e.lo;have t:=e.hi;have q:=d.lo;have s:=d.hi;refine⟨a,?_,i,by omega,by omega⟩
 rw [b];unfold lv;have g:aV x*aV y=N*2^((ex+1074).toNat+(ey+1074).toNat):=by
  rw [<- e.val,<- d.val,l,Nat.pow_add,Nat.mul_mul_mul_comm]
 have m:=Nat.two_pow_pos ((ex+1074).toNat+(ey+1074).toNat)
 by_cases c:N=0
 ·rw [if_pos c,if_pos (by rw [g,c,Nat.zero_mul])]
 ·have n:aV x*aV y≠0:=by rw [g];have:=Nat.mul_pos (show 0<N by omega) m;omega
  rw [if_neg c,if_neg n,g];have f:E=ex+ey:=by
   rcases p with h | ⟨_,h⟩
   ·exact h
   ·exact absurd h c
  have:=bf c ((ex+1074).toNat+(ey+1074).toNat) (ex+ey);rw [show ex+ey - (((ex+1074).toNat+(ey+1074).toNat:Nat):Int)= -2148 by omega] at this
  rw [this,f]
theorem bI {x:Nat} {u:Int} (a:u=(x:Int)):szI u=((x % 9223372036854775808:Nat):Int):=by rw [a];exact dR x
theorem fx {x:Nat} {u:Int} (c:u=(x:Int)) (a:ah u=false) (b:aY u=false):af x:=by
 have:=bI c;unfold ah at a
 unfold aY at b
 unfold af;rw [decide_eq_false_iff_not] at a
 have d:szI u≠9218868437227405312:=by simpa using b
 omega
theorem il {x:Nat} {u:Int} (b:u=(x:Int)) (a:aY u=true):x % 9223372036854775808=9218868437227405312:=by
 have:=bI b;unfold aY at a
 have c:szI u=9218868437227405312:=by simpa using a
 omega
theorem lw {x y:Nat} (a:x % 9223372036854775808=9218868437227405312) (b:y % 9223372036854775808=0):floatBits .mul .f64 x y=none/\floatBits .mul .f64 y x=none:=by
 have e:Ieee.double.read y=.number (y / 9223372036854775808 % 2==1) 0 (-1074):=by rw [ay (by omega),b];rfl
 constructor
 ·show ((Ieee.double.read x).product (Ieee.double.read y)).map Ieee.double.write=_
  rw [aS a,e];rfl
 ·show ((Ieee.double.read y).product (Ieee.double.read x)).map Ieee.double.write=_
  rw [aS a,e];rfl
theorem dJ (s:Bool):Ieee.double.write (.infinity s)=wrd s 9218868437227405312:=by cases s<;>decide+kernel
theorem fy {r:Nat} (h:r≠0):mg r≠0:=by unfold mg;split<;>omega
theorem fS {x y:Nat} (b:x % 9223372036854775808=9218868437227405312) (a:af y) (d:y % 9223372036854775808≠0):floatBits .mul .f64 x y=some (wrd (sB x^^sB y) 9218868437227405312)/\floatBits .mul .f64 y x=some (wrd (sB y^^sB x) 9218868437227405312):=by
 have c:=fy d;constructor
 ·show ((Ieee.double.read x).product (Ieee.double.read y)).map Ieee.double.write=_
  rw [aS b,ay a]
  show (if mg (y % 9223372036854775808)=0 then none else some (Ieee.Datum.infinity (_^^_))).map Ieee.double.write=_
  rw [if_neg c]
  show some (Ieee.double.write (.infinity _))=_
  rw [dJ];rfl
 ·show ((Ieee.double.read y).product (Ieee.double.read x)).map Ieee.double.write=_
  rw [aS b,ay a]
  show (if mg (y % 9223372036854775808)=0 then none else some (Ieee.Datum.infinity (_^^_))).map Ieee.double.write=_
  rw [if_neg c]
  show some (Ieee.double.write (.infinity _))=_
  rw [dJ,Bool.xor_comm];rfl
theorem wW {x y:Nat} (b:x % 9223372036854775808=9218868437227405312) (a:y % 9223372036854775808=9218868437227405312):floatBits .mul .f64 x y=some (wrd (sB x^^sB y) 9218868437227405312):=by
 show ((Ieee.double.read x).product (Ieee.double.read y)).map Ieee.double.write=_
 rw [aS b,aS a]
 show some (Ieee.double.write (.infinity _))=_
 rw [dJ];rfl
theorem im (u v:Int) (w:World) (h:U64 u) (b:U64 v) (hc:ah u=true\/(ah u=false/\ah v=true)\/(ah u=false/\ah v=false/\aY u=true/\(szI v==0)=true)\/(ah u=false/\ah v=false/\aY u=false/\aY v=true/\(szI u==0)=true)) :
  Calls Tryz.prog 63 #[.int .u64 u,.int .u64 v] w fun e a=>e=.returned (.int .u64 9221120237041090561)/\a=w:=by
 have j:=uG h b;rcases hc with c | ⟨c,d⟩| ⟨c,d,f,g⟩| ⟨c,d,f,g,i⟩
 all_goals
  go_enter Tryz.func63,Tryz.ntmps63
  go_wp2_with (first | (go_at_call_of 49 (Value.int IntKind.u64 u);refine (aj u _ h).mono ?_;rintro e a ⟨rfl,rfl⟩) | (go_at_call_of 49 (Value.int IntKind.u64 v);refine (aj v _ b).mono ?_;rintro e a ⟨rfl,rfl⟩) | (go_at_call_of 72 (Value.int IntKind.u64 u);refine (aw u _ h).mono ?_;rintro e a ⟨rfl,rfl⟩) | (go_at_call_of 72 (Value.int IntKind.u64 v);refine (aw v _ b).mono ?_;rintro e a ⟨rfl,rfl⟩) | (go_at_call_of 76 (Value.int IntKind.u64 u);refine (aI u _ h).mono ?_;rintro e a ⟨rfl,rfl⟩) | (go_at_call_of 76 (Value.int IntKind.u64 v);refine (aI v _ b).mono ?_;rintro e a ⟨rfl,rfl⟩))
  go_ret
  exact⟨rfl,rfl⟩
theorem kB (u v S:Int) (w:World) (h:U64 u) (b:U64 v) (k:bits .and .u64 (bits .xor .u64 u v) 9223372036854775808=S) (g:0<=S) (j:S<=9223372036854775808) (hn:ah u=false) (i:ah v=false) (hc:(aY u=true/\aY v=true/\(szI v==0)=false/\(szI u==0)=false)\/(aY u=true/\aY v=false/\(szI v==0)=false)\/(aY u=false/\aY v=true/\(szI u==0)=false)) :
  Calls Tryz.prog 63 #[.int .u64 u,.int .u64 v] w fun e a=>e=.returned (.int .u64 (S+9218868437227405312))/\a=w:=by
 rcases hc with⟨c,f,d,l⟩| ⟨c,f,d⟩| ⟨c,f,d⟩
 all_goals
  go_enter Tryz.func63,Tryz.ntmps63
  go_wp2_with (first | (go_at_call_of 49 (Value.int IntKind.u64 u);refine (aj u _ h).mono ?_;rintro e a ⟨rfl,rfl⟩) | (go_at_call_of 49 (Value.int IntKind.u64 v);refine (aj v _ b).mono ?_;rintro e a ⟨rfl,rfl⟩) | (go_at_call_of 72 (Value.int IntKind.u64 u);refine (aw u _ h).mono ?_;rintro e a ⟨rfl,rfl⟩) | (go_at_call_of 72 (Value.int IntKind.u64 v);refine (aw v _ b).mono ?_;rintro e a ⟨rfl,rfl⟩) | (go_at_call_of 76 (Value.int IntKind.u64 u);refine (aI u _ h).mono ?_;rintro e a ⟨rfl,rfl⟩) | (go_at_call_of 76 (Value.int IntKind.u64 v);refine (aI v _ b).mono ?_;rintro e a ⟨rfl,rfl⟩))
  go_ret
  exact⟨rfl,rfl⟩
theorem aG {P:Program} {f:Nat} {args:Array Value} {w:World} {Q:Ending->Prop} (h:Calls P f args w fun e c=>Q e/\c=w):Calls P f args w fun e c=>Q e/\w=c:=
 h.mono fun _ _ ⟨a,b⟩=>⟨a,b.symm⟩
theorem io (u r:Int) (w:World) (h:U64 u) (d:szI u=r) :
  Calls Tryz.prog 76 #[.int .u64 u] w fun e c=>e=.returned (.int .u64 r)/\w=c:=by
 rw [<- d];exact (aI u w h).mono fun _ _ ⟨a,b⟩=>⟨a,b.symm⟩
theorem Av (x y:Nat) (u v S R:Int) (w:World) (hu:Hid (u=(x:Int))) (hv:Hid (v=(y:Int))) (h:U64 u) (H:U64 v) (U:af x) (I:af y) (hS:bits .and .u64 (bits .xor .u64 u v) 9223372036854775808=S) (ac:0<=S) (ab:S<=9223372036854775808) (hR:Hid (lv (aV x*aV y)=R)) (hn:ah u=false) (A:ah v=false) (hi:aY u=false) (z:aY v=false) :
  Calls Tryz.prog 63 #[.int .u64 u,.int .u64 v] w fun e a=>e=.returned (.int .u64 (S+R))/\Below w.heap.size w a:=by
 have m:=aa U;have l:=aa I;obtain⟨J,K⟩:=Hp (aV x*aV y);rw [hR.out] at J K
 have n:=aa (aj u · h);have D:=aa (aj v · H);have i:=aa (aw u · h);have f:=aa (aw v · H);rw [hn] at n
 rw [A] at D
 rw [hi] at i
 rw [z] at f
 have O:=aa fun w=>eC x u w hu h U
 have P:=aa fun w=>eC y v w hv H I
 clear U I hn A hi z h H
 go_enter Tryz.func63,Tryz.ntmps63
 go_wp2_with fail
 refine (aG (n.out _)).mono ?_
 rintro e a ⟨rfl,rfl⟩
 go_wp2_with fail
 refine (aG (D.out _)).mono ?_
 rintro e a ⟨rfl,rfl⟩
 go_wp2_with fail
 refine (aG (i.out _)).mono ?_
 rintro e a ⟨rfl,rfl⟩
 go_wp2_with fail
 refine (aG (f.out _)).mono ?_
 rintro e a ⟨rfl,rfl⟩
 go_wp2_with fail
 refine (aG (i.out _)).mono ?_
 rintro e a ⟨rfl,rfl⟩
 go_wp2_with fail
 refine (aG (f.out _)).mono ?_
 rintro e a ⟨rfl,rfl⟩
 go_wp2_with fail
 refine (O.out _).mono ?_
 rintro r w1 ⟨nx,vx,X,ex,rfl,p,hX,s⟩;have c:=aa s;have q:=aa p;have m:=aa hX;clear s p hX
 go_wp2_with fail
 refine (P.out _).mono ?_
 rintro r w2 ⟨ny,vy,Y,ey,rfl,t,hY,g⟩;have k:=aa (c.out.trans (g.mono c.out.size));have b:=aa (q.out.below g);have o:=aa t;have l:=aa hY;clear g t hY c q;have HT:=aa (sK nx ny vx vy ex ey X Y w2 b.out o.out (by have:=dr m.out.lt;omega) (by have:=dr l.out.lt;omega) (by have:=m.out.lo;omega) (by have:=m.out.hi;omega) (by have:=l.out.lo;omega) (by have:=l.out.hi;omega))
 go_wp2_with fail
 refine HT.out.mono ?_
 rintro r w3 ⟨neg,vs,N,E,rfl,F,Q,hs,hE,C⟩;have j:=aa (k.out.trans (C.mono k.out.size));obtain⟨T,G,W,q4,q5⟩:=Me m.out l.out hs hE;rw [hR.out] at G
 have d:=aa (gv neg vs E N w3 F W q4 q5);obtain⟨Z,V⟩:∃ Z,bJ neg N E false=Z:=⟨_,rfl⟩;rw [V] at d T G
 have L:Hid (∀ w,Calls Tryz.prog 76 #[.int .u64 Z] w fun e a=>e=.returned (.int .u64 R)/\w=a):=fun w=>io Z R w T G
 clear F Q hs hE C k T G W q4 q5 V HT b o m l
 go_wp2_with fail
 refine d.out.mono ?_
 rintro r w4 ⟨rfl,B⟩;have M:=aa (j.out.trans (B.mono j.out.size));clear B d j
 go_wp2_with fail
 refine (L.out _).mono ?_
 rintro r w5 ⟨rfl,rfl⟩
 go_wp2_with fail
 go_ret
 exact⟨rfl,M.out⟩
theorem CL (s:Bool):0<=gB s/\gB s<=9223372036854775808:=by unfold gB;split<;>omega
theorem dW (s:Bool) (r:Nat):(wrd s r:Int)=gB s+r:=by unfold wrd gB;cases s<;>simp
theorem cU (x y:Nat) (u v:Int) (w:World) (l:Hid (u=(x:Int))) (i:Hid (v=(y:Int))) (h:U64 u) (g:U64 v) :
  Calls Tryz.prog 63 #[.int .u64 u,.int .u64 v] w fun e p=>e=.returned (.int .u64 (cn (floatBits .mul .f64 x y):Int))/\Below w.heap.size w p:=by
 have A:=uG h g;obtain⟨t,z⟩:=CL (sgB u^^sgB v);have q:x<18446744073709551616:=by have:=h.2;rw [l.out] at this;omega
 have o:y<18446744073709551616:=by have:=g.2;rw [i.out] at this;omega
 have k:sgB u=sB x:=by rw [l.out];exact fQ q
 have j:sgB v=sB y:=by rw [i.out];exact fQ o
 have E:=bI l.out;have D:=bI i.out;have same:∀ {r:Int},(Calls Tryz.prog 63 #[.int .u64 u,.int .u64 v] w fun e p=>e=.returned (.int .u64 r)/\p=w)->(cn (floatBits .mul .f64 x y):Int)=r->Calls Tryz.prog 63 #[.int .u64 u,.int .u64 v] w fun e p=>e=.returned (.int .u64 (cn (floatBits .mul .f64 x y):Int))/\Below w.heap.size w p:=fun F e=>by
  rw [e];exact F.mono fun _ _ ⟨a,b⟩=>⟨a,by rw [b];exact Below.refl _ _⟩
 cases f:ah u with
 | true=>
  refine same (im u v w h g (Or.inl f)) ?_
  rw [dV (by rw [<- l.out];exact f)];rfl
 | false=>
  cases c:ah v with
  | true=>
   refine same (im u v w h g (Or.inr (Or.inl ⟨f,c⟩))) ?_
   rw [eR (by rw [<- i.out];exact c)];rfl
  | false=>
   cases hi:aY u with
   | true=>
    have B:=il l.out hi;cases d:aY v with
    | true=>
     have n:=il i.out d;refine same (kB u v _ w h g A t z f c (Or.inl ⟨hi,d,by rw [D,n];rfl,by rw [E,B];rfl⟩)) ?_
     rw [wW B n,ar,dW,k,j];rfl
    | false=>
     have s:=fx i.out c d
     by_cases m:y % 9223372036854775808=0
     ·refine same (im u v w h g (Or.inr (Or.inr (Or.inl ⟨f,c,hi,by rw [D,m];rfl⟩)))) ?_
      rw [(lw B m).1];rfl
     ·refine same (kB u v _ w h g A t z f c (Or.inr (Or.inl ⟨hi,d,by rw [D];simp;omega⟩))) ?_
      rw [(fS B s m).1,ar,dW,k,j];rfl
   | false=>
    have C:=fx l.out f hi;cases d:aY v with
    | true=>
     have n:=il i.out d
     by_cases m:x % 9223372036854775808=0
     ·refine same (im u v w h g (Or.inr (Or.inr (Or.inr ⟨f,c,hi,d,by rw [E,m];rfl⟩)))) ?_
      rw [(lw n m).2];rfl
     ·refine same (kB u v _ w h g A t z f c (Or.inr (Or.inr ⟨hi,d,by rw [E];simp;omega⟩))) ?_
      rw [(fS n C m).2,ar,dW,k,j];rfl
    | false=>
     have s:=fx i.out c d;have e:(cn (floatBits .mul .f64 x y):Int)=gB (sgB u^^sgB v)+lv (aV x*aV y):=by rw [fP C s,ar,Md,k,j]
     rw [e];exact Av x y u v _ _ w l i h g C s A t z rfl f c hi d
theorem wX (x:Nat):vI x=sg (sB x) (aV x):=rfl
theorem ip (neg:Bool) (N k:Nat):sg neg (N*k)=sg neg N*(k:Int):=by
 unfold sg;cases neg<;>simp [Int.neg_mul]
theorem aT (neg:Bool):sg neg 0=0:=by cases neg<;>rfl
theorem wY {x X n k:Nat} {nx:Bool} {ex:Int} (h:OfR x nx X ex) (b:X≠0->n+k=(ex+1074).toNat):sg nx (X*2^n)*((2^k:Nat):Int)=vI x:=by
 rw [<- ip,Nat.mul_assoc,<- Nat.pow_add,wX,<- h.val]
 by_cases a:X=0
 ·rw [a,Nat.zero_mul,Nat.zero_mul,aT,aT]
 ·rw [b a,h.sgn a]
structure AddR (x y X Y:Nat) (nx ny:Bool) (ex ey E:Int) (n m k:Nat):Prop where
 hn:X≠0->ex - E=(n:Int)
 hm:Y≠0->ey - E=(m:Int)
 hn1:n<=3000
 hm1:m<=3000
 lo: -1074<=E
 hi:E<=971
 hk:E+1074=(k:Int)
 had:nd (X*2^n)<=10000000
 hbd:nd (Y*2^m)<=10000000
 val:(sg nx (X*2^n)+sg ny (Y*2^m))*((2^k:Nat):Int)=vI x+vI y
 small:∃ K,K<=3100/\(sg nx (X*2^n)+sg ny (Y*2^m)).natAbs<2^K
theorem sP {X n K:Nat} (c:K=3060) (h:X<9007199254740992) (hn:n<=3000):X*2^n<2^K:=by
 have b:(2:Nat)^n<=2^(K - 60):=Nat.pow_le_pow_right (by decide) (by omega)
 have a:X*2^n<2^53*2^(K - 60):=Nat.mul_lt_mul_of_lt_of_le h b (Nat.two_pow_pos _);rw [<- Nat.pow_add] at a
 exact Nat.lt_of_lt_of_le a (Nat.pow_le_pow_right (by decide) (by omega))
theorem mD {X K:Nat} (a:K<=3100) (h:X<2^K):nd X<=1000:=by
 obtain⟨k,b⟩:∃ k:Nat,k=97:=⟨_,rfl⟩;have:=bL (N:=X) (k:=k) (Nat.lt_of_lt_of_le h (Nat.pow_le_pow_right (by decide) (by omega)))
 omega
theorem Ee {a b P Q:Nat} {s t:Bool} (d:a<P) (e:b<P) (c:P+P<=Q):(sg s a+sg t b).natAbs<Q:=by
 unfold sg;cases s<;>cases t<;>simp only [Bool.false_eq_true,if_true,if_false]<;>omega
theorem Mf {x y X Y:Nat} {nx j:Bool} {ex ey E:Int} (d:OfR x nx X ex) (c:OfR y j Y ey) (v:iQ X ex Y ey=E):∃ n m k,AddR x y X Y nx j ex ey E n m k:=by
 have r:=d.lo;have u:=d.hi;have p:=c.lo;have t:=c.hi;have e: -1074<=E/\E<=971/\(X≠0->E<=ex)/\(Y≠0->E<=ey):=by
  rw [<- v];unfold iQ
  by_cases a:X=0
  ·rw [if_pos a];refine⟨p,t,fun h=>absurd a h,fun _=>Int.le_refl _⟩
  ·rw [if_neg a]
   by_cases b:Y=0
   ·rw [if_pos b];exact⟨r,u,fun _=>Int.le_refl _,fun h=>absurd b h⟩
   ·rw [if_neg b];refine⟨by omega,by omega,fun _=>by omega,fun _=>by omega⟩
 obtain⟨q,s,l,g⟩:=e;obtain⟨K,i⟩:∃ K:Nat,K=3060:=⟨_,rfl⟩;have o:=sP (n:=(ex - E).toNat) i d.lt (by omega)
 have f:=sP (n:=(ey - E).toNat) i c.lt (by omega)
 refine⟨(ex - E).toNat,(ey - E).toNat,(E+1074).toNat,⟨fun h=>by have:=l h;omega,fun h=>by have:=g h;omega,by omega,by omega,q,s,by omega,?_,?_,?_,?_⟩⟩
 ·exact Nat.le_trans (mD (by omega) o) (by decide)
 ·exact Nat.le_trans (mD (by omega) f) (by decide)
 ·rw [Int.add_mul,wY d (fun h=>by have:=l h;omega),wY c (fun h=>by have:=g h;omega)]
 ·refine⟨K+1,by omega,Ee o f ?_⟩
  rw [Nat.pow_succ];omega
theorem kC {neg:Bool} {N:Nat} (h:N≠0):decide (sg neg N<0)=neg:=by
 unfold sg;cases neg
 ·simp
 ·simp;omega
theorem ja {S:Int} (k:Nat):(S*((2^k:Nat):Int)<0↔S<0)/\(S*((2^k:Nat):Int)=0↔S=0):=by
 have a:(0:Int)<((2^k:Nat):Int):=by have:=Nat.two_pow_pos k;omega
 refine⟨⟨fun h=>?_,fun h=>Int.mul_neg_of_neg_of_pos h a⟩,⟨fun h=>?_,fun h=>by rw [h,Int.zero_mul]⟩⟩
 ·by_cases b:S<0
  ·exact b
  ·have:=Int.mul_nonneg (by omega:0<=S) (by omega:(0:Int)<=((2^k:Nat):Int));omega
 ·rcases Int.mul_eq_zero.1 h with h | h
  ·exact h
  ·omega
theorem Mg {x y X Y n m k N:Nat} {nx l neg:Bool} {ex ey E a:Int} (h:AddR x y X Y nx l ex ey E n m k) (r:sg neg N=sg nx (X*2^n)+sg l (Y*2^m)) (s:a=E\/(a=0/\N=0)) (b:N≠0) :
  bJ neg N a false=(iU (sB x) (sB y) (vI x+vI y):Int):=by
 obtain⟨S,d⟩:∃ S,sg neg N=S:=⟨_,rfl⟩;have j:=h.val;rw [<- r,d] at j
 have c:S≠0:=by
  intro e;rw [e] at d
  have:=bF neg N;rw [d] at this;exact b this.symm
 have g:S.natAbs=N:=by rw [<- d];exact bF neg N
 have f:a=E:=by
  rcases s with h | ⟨_,h⟩
  ·exact h
  ·exact absurd h b
 rw [fw neg a b,f];unfold iU;rw [<- j];obtain⟨o,p⟩:=ja (S:=S) k;rw [if_neg (fun e=>c (p.1 e))]
 unfold aJ;rw [if_neg (fun e=>c (p.1 e)),bg,g]
 have q:=bf b k E;rw [show E - (k:Int)= -1074 by have:=h.hk;omega] at q
 rw [q];have i:=kC (neg:=neg) b;rw [d] at i
 cases neg
 ·rw [if_neg (by decide),if_neg (fun e=>by have:=o.1 e;simp at i;omega)];omega
 ·rw [if_pos rfl,if_pos (o.2 (by simpa using i))];omega
theorem Hr {r:Nat} (h:V r=0):r=0:=by
 have:=eX (r:=r) (s:=0);rw [bp] at this
 exact this.1 h
theorem Hs {x y:Nat} {u v:Int} (c:u=(x:Int)) (p:v=(y:Int)) (h:U64 u) (q:U64 v) (a:vI x+vI y=0) :
  (((szI u==0)=true/\(u==v)=true)/\u=(iU (sB x) (sB y) (vI x+vI y):Int))\/(((szI u==0)=false\/((szI u==0)=true/\(u==v)=false))/\(0:Int)=(iU (sB x) (sB y) (vI x+vI y):Int)):=by
 have r:=bI c;have n:x<18446744073709551616:=by have:=h.2;omega
 have m:y<18446744073709551616:=by have:=q.2;omega
 unfold iU;rw [if_pos a];rw [wX,wX] at a
 by_cases d:szI u=0
 ·have i:x % 9223372036854775808=0:=by omega
  have b:aV x=0:=by unfold aV;rw [i];exact bp
  have l:aV y=0:=by
   rw [b,aT,Int.zero_add] at a
   have:=bF (sB y) (aV y);rw [a] at this;exact this.symm
  have o:y % 9223372036854775808=0:=Hr l
  by_cases f:u=v
  ·left
   refine⟨⟨by rw [d];rfl,by rw [f];exact beq_self_eq_true v⟩,?_⟩
   have j:x=y:=by omega
   subst j;unfold sB;rcases (show x=0\/x=9223372036854775808 by omega) with e | e
   ·subst e;rw [c];rfl
   ·subst e;rw [c];rfl
  ·right
   refine⟨Or.inr ⟨by rw [d];rfl,by simpa using f⟩,?_⟩
   unfold sB;rcases (show x=0\/x=9223372036854775808 by omega) with e | e
   ·subst e;rfl
   ·subst e;rcases (show y=0\/y=9223372036854775808 by omega) with e | e
    ·subst e;rfl
    ·exact absurd (by rw [c,p,e]) f
 ·right
  refine⟨Or.inl (by simpa using d),?_⟩
  have b:aV x≠0:=fun e=>d (by have:=Hr e;omega)
  cases k:sB x
  ·rfl
  ·cases g:sB y
   ·rfl
   ·rw [k,g] at a;unfold sg at a;simp at a;omega
theorem lz {x y:Nat} (d:x % 9223372036854775808=9218868437227405312) (a:af y) (c:x<18446744073709551616):floatBits .add .f64 x y=some x/\floatBits .add .f64 y x=some x:=by
 have b:wrd (sB x) 9218868437227405312=x:=by
  unfold wrd sB;rcases (show x / 9223372036854775808=0\/x / 9223372036854775808=1 by omega) with e | e
  ·rw [e];simp;omega
  ·rw [e];simp;omega
 constructor
 ·show ((Ieee.double.read x).sum (Ieee.double.read y)).map Ieee.double.write=_
  rw [aS d,ay a]
  show some (Ieee.double.write (.infinity _))=_
  rw [dJ];exact congrArg some b
 ·show ((Ieee.double.read y).sum (Ieee.double.read x)).map Ieee.double.write=_
  rw [aS d,ay a]
  show some (Ieee.double.write (.infinity _))=_
  rw [dJ];exact congrArg some b
theorem pH {x y:Nat} (f:x % 9223372036854775808=9218868437227405312) (d:y % 9223372036854775808=9218868437227405312) (b:x<18446744073709551616) (a:y<18446744073709551616):floatBits .add .f64 x y=if x=y then some x else none:=by
 show ((Ieee.double.read x).sum (Ieee.double.read y)).map Ieee.double.write=_
 rw [aS f,aS d];rcases (show x=9218868437227405312\/x=18442240474082181120 by omega) with e | e<;>rcases (show y=9218868437227405312\/y=18442240474082181120 by omega) with c | c<;>subst e<;>subst c<;>decide+kernel
theorem kD (u v:Int) (w:World) (h:U64 u) (c:U64 v) (hc:ah u=true\/(ah u=false/\ah v=true)\/(ah u=false/\ah v=false/\aY u=true/\aY v=true/\(u==v)=false)) :
  Calls Tryz.prog 50 #[.int .u64 u,.int .u64 v] w fun e a=>e=.returned (.int .u64 9221120237041090561)/\a=w:=by
 rcases hc with b | ⟨b,d⟩| ⟨b,d,g,i,f⟩
 all_goals
  go_enter Tryz.func50,Tryz.ntmps50
  go_wp2_with (first | (go_at_call_of 49 (Value.int IntKind.u64 u);refine (aj u _ h).mono ?_;rintro e a ⟨rfl,rfl⟩) | (go_at_call_of 49 (Value.int IntKind.u64 v);refine (aj v _ c).mono ?_;rintro e a ⟨rfl,rfl⟩) | (go_at_call_of 72 (Value.int IntKind.u64 u);refine (aw u _ h).mono ?_;rintro e a ⟨rfl,rfl⟩) | (go_at_call_of 72 (Value.int IntKind.u64 v);refine (aw v _ c).mono ?_;rintro e a ⟨rfl,rfl⟩))
  go_ret
  exact⟨rfl,rfl⟩
theorem kE (u v r:Int) (w:World) (h:U64 u) (f:U64 v) (hn:ah u=false) (g:ah v=false) (hc:(aY u=true/\aY v=true/\(u==v)=true/\r=u)\/(aY u=true/\aY v=false/\r=u)\/(aY u=false/\aY v=true/\r=v)) :
  Calls Tryz.prog 50 #[.int .u64 u,.int .u64 v] w fun e a=>e=.returned (.int .u64 r)/\a=w:=by
 rcases hc with⟨c,d,j,b⟩| ⟨c,d,b⟩| ⟨c,d,b⟩
 all_goals
  have i:=aa b;clear b
  go_enter Tryz.func50,Tryz.ntmps50
  go_wp2_with (first | (go_at_call_of 49 (Value.int IntKind.u64 u);refine (aj u _ h).mono ?_;rintro e a ⟨rfl,rfl⟩) | (go_at_call_of 49 (Value.int IntKind.u64 v);refine (aj v _ f).mono ?_;rintro e a ⟨rfl,rfl⟩) | (go_at_call_of 72 (Value.int IntKind.u64 u);refine (aw u _ h).mono ?_;rintro e a ⟨rfl,rfl⟩) | (go_at_call_of 72 (Value.int IntKind.u64 v);refine (aw v _ f).mono ?_;rintro e a ⟨rfl,rfl⟩))
  go_ret
  exact⟨bu i.out.symm,rfl⟩
theorem Aw (x y:Nat) (u v R:Int) (w:World) (hu:Hid (u=(x:Int))) (hv:Hid (v=(y:Int))) (h:U64 u) (h':U64 v) (hx:af x) (hy:af y) (hR:Hid ((iU (sB x) (sB y) (vI x+vI y):Int)=R)) (hn:ah u=false) (U:ah v=false) (hi:aY u=false) (T:aY v=false) :
  Calls Tryz.prog 50 #[.int .u64 u,.int .u64 v] w fun e G=>e=.returned (.int .u64 R)/\Below w.heap.size w G:=by
 have I:=aa (aj u · h);have ab:=aa (aj v · h');have B:=aa (aw u · h);have S:=aa (aw v · h');rw [hn] at I
 rw [U] at ab
 rw [hi] at B
 rw [T] at S
 have ac:=aa fun w=>eC x u w hu h hx
 have ad:=aa fun w=>eC y v w hv h' hy
 have am:=aa (aI u · h);have ai:=aa fun (hT:vI x+vI y=0)=>Hs hu.out hv.out h h' hT
 clear hx hy hn U hi T h h'
 go_enter Tryz.func50,Tryz.ntmps50
 go_wp2_with fail
 refine (aG (I.out _)).mono ?_
 rintro e G ⟨rfl,rfl⟩
 go_wp2_with fail
 refine (aG (ab.out _)).mono ?_
 rintro e G ⟨rfl,rfl⟩
 go_wp2_with fail
 refine (aG (B.out _)).mono ?_
 rintro e G ⟨rfl,rfl⟩
 go_wp2_with fail
 refine (aG (B.out _)).mono ?_
 rintro e G ⟨rfl,rfl⟩
 go_wp2_with fail
 refine (aG (S.out _)).mono ?_
 rintro e G ⟨rfl,rfl⟩
 go_wp2_with fail
 refine (ac.out _).mono ?_
 rintro r w1 ⟨nx,vx,X,ex,rfl,L,hX,O⟩;have z:=aa O;have M:=aa L;have HX:=aa hX;clear O L hX
 go_wp2_with fail
 refine (ad.out _).mono ?_
 rintro r w2 ⟨ny,vy,Y,ey,rfl,P,hY,A⟩;have F:=aa (z.out.trans (A.mono z.out.size));have q:=aa (M.out.below A);have J:=aa P;have HY:=aa hY;clear A P hY z M;obtain⟨E,hE⟩:∃ E,iQ X ex Y ey=E:=⟨_,rfl⟩;obtain⟨n,m,k,o⟩:=Mf HX.out HY.out hE;have HP:=aa (po nx ny vx vy ex ey E X Y n m w2 q.out J.out hE o.hn o.hm (by have:=o.hn1;omega) (by have:=o.hm1;omega) (by have:=dr HX.out.lt;omega) (by have:=dr HY.out.lt;omega) o.had o.hbd)
 have H:=aa o;clear o hE
 go_wp2_with fail
 refine HP.out.mono ?_
 rintro r w3 ⟨neg,vs,N,V,rfl,D,as,hs,t,Z⟩;have C:=aa (F.out.trans (Z.mono F.out.size));obtain⟨p,l,c,rfl⟩:=D.shape;have ak:=aa D;have j:Hid (nd N<=1000000/\-10000000<=V/\V<=10000000):=by
  obtain⟨K,hK,h1⟩:=H.out.small;rw [<- hs,bF] at h1
  have h2:=mD hK h1;have h3:=H.out.lo;have h4:=H.out.hi;refine⟨by omega,?_,?_⟩ <;>rcases t with e | ⟨e,_⟩ <;>omega
 have HV:Hid (N≠0->bJ neg N V false=R):=fun f=>by rw [<- hR.out];exact Mg H.out hs t f
 have HT:Hid (N=0->vI x+vI y=0):=fun f=>by rw [<- H.out.val,<- hs,f,aT,Int.zero_mul]
 clear D as hs t Z F H HP q J HX HY ac ad;have d:=aa (aE w3 neg (.slice p l c) V);have i:=aa (ak.out.below d.out);have a:=aa (C.out.trans (d.out.mono C.out.size))
 go_wp2_with fail
 by_cases f:N=0
 ·have s:=aa (ai.out (HT.out f));rw [hR.out] at s
  refine (aZ _ _ _ N true _ i.out (decide_eq_true f)).mono ?_
  rintro r w4 ⟨rfl,b⟩;have g:=aa (a.out.trans (b.mono a.out.size));clear b f;rcases s.out with⟨⟨a1,a2⟩,a3⟩| ⟨a1 | ⟨a1,a2⟩,a3⟩
  all_goals
   have al:=aa a3;clear a3 s
   go_wp2_with (go_at_call 76;refine (aG (am.out _)).mono ?_;rintro r w5 ⟨rfl,rfl⟩)
   go_ret
   exact⟨bu al.out,g.out⟩
 ·refine (aZ _ _ _ N false _ i.out (decide_eq_false f)).mono ?_
  rintro r w4 ⟨rfl,b⟩;obtain⟨c0,c1,c2⟩:=jH b;have g:=aa (a.out.trans (b.mono a.out.size));have Q:=aa (gv neg _ V N w4 (i.out.below b) j.out.1 j.out.2.1 j.out.2.2);rw [HV.out f] at Q
  clear b f i d a C ak j HV HT ai
  go_wp2_with fail
  refine Q.out.mono ?_
  rintro r w5 ⟨rfl,W⟩;have ba:=aa (g.out.trans (W.mono g.out.size));clear W
  go_wp2_with fail
  go_ret
  exact⟨rfl,ba.out⟩
theorem fA (x y:Nat) (u v:Int) (w:World) (j:Hid (u=(x:Int))) (i:Hid (v=(y:Int))) (h:U64 u) (l:U64 v) :
  Calls Tryz.prog 50 #[.int .u64 u,.int .u64 v] w fun e m=>e=.returned (.int .u64 (cn (floatBits .add .f64 x y):Int))/\Below w.heap.size w m:=by
 have g:x<18446744073709551616:=by have:=h.2;rw [j.out] at this;omega
 have f:y<18446744073709551616:=by have:=l.2;rw [i.out] at this;omega
 have same:∀ {r:Int},(Calls Tryz.prog 50 #[.int .u64 u,.int .u64 v] w fun e m=>e=.returned (.int .u64 r)/\m=w)->(cn (floatBits .add .f64 x y):Int)=r->Calls Tryz.prog 50 #[.int .u64 u,.int .u64 v] w fun e m=>e=.returned (.int .u64 (cn (floatBits .add .f64 x y):Int))/\Below w.heap.size w m:=fun t e=>by
  rw [e];exact t.mono fun _ _ ⟨a,b⟩=>⟨a,by rw [b];exact Below.refl _ _⟩
 cases k:ah u with
 | true=>
  refine same (kD u v w h l (Or.inl k)) ?_
  rw [dV (by rw [<- j.out];exact k)];rfl
 | false=>
  cases d:ah v with
  | true=>
   refine same (kD u v w h l (Or.inr (Or.inl ⟨k,d⟩))) ?_
   rw [eR (by rw [<- i.out];exact d)];rfl
  | false=>
   cases hi:aY u with
   | true=>
    have s:=il j.out hi;cases c:aY v with
    | true=>
     have n:=il i.out c
     by_cases q:x=y
     ·refine same (kE u v u w h l k d (Or.inl ⟨hi,c,by rw [j.out,i.out,q];exact beq_self_eq_true _,rfl⟩)) ?_
      rw [pH s n g f,if_pos q,ar,j.out]
     ·refine same (kD u v w h l (Or.inr (Or.inr ⟨k,d,hi,c,?_⟩))) ?_
      ·rw [j.out,i.out];simp;omega
      ·rw [pH s n g f,if_neg q];rfl
    | false=>
     have o:=fx i.out d c;refine same (kE u v u w h l k d (Or.inr (Or.inl ⟨hi,c,rfl⟩))) ?_
     rw [(lz s o g).1,ar,j.out]
   | false=>
    have p:=fx j.out k hi;cases c:aY v with
    | true=>
     have n:=il i.out c;refine same (kE u v v w h l k d (Or.inr (Or.inr ⟨hi,c,rfl⟩))) ?_
     rw [(lz n p f).2,ar,i.out]
    | false=>
     have o:=fx i.out d c;have e:cn (floatBits .add .f64 x y)=iU (sB x) (sB y) (vI x+vI y):=by rw [lp p o,ar];rfl
     rw [e];exact Aw x y u v _ w j i h l p o rfl k d hi c
theorem xc {op:BinOp} (a:op=.add\/op=.sub\/op=.mul\/op=.quo) (x y:Nat):cn (floatBits op .f64 x y)<18446744073709551616:=by
 cases h:floatBits op .f64 x y with
 | none=>decide
 | some r=>exact jb a h
theorem pI:ah ((9221120237041090561:Nat):Int)=true:=by decide
theorem Hu (o:Option Nat):Ag o (cn o):=by
 cases o with
 | none=>exact⟨pI,by decide⟩
 | some r=>rfl
def FitL (l:List Nat):Prop:=∀ x ∈ l,x<18446744073709551616
theorem FitL.get {l:List Nat} (h:FitL l) (i:Nat):l.getD i 0<18446744073709551616:=by
 by_cases hi:i<l.length
 ·have e:l.getD i 0=l[i]:=by simp [List.getD,List.getElem?_eq_getElem hi]
  rw [e];exact h _ (List.getElem_mem hi)
 ·have e:l.getD i 0=0:=by simp [List.getD,List.getElem?_eq_none (show l.length<=i by omega)]
  rw [e];decide
theorem isS (a:Nat) (u:Int) (w:World) (b:Hid (u=(a:Int))) (h:Hid (U64 a)) :
  Calls Tryz.prog 17 #[.float .f64 a,.int .u64 u] w fun e c=>e=.returned (.bool true)/\c=w:=by
 have:=Oj a u w h.out (by rw [b.out];exact h.out)
 rw [b.out,gV] at this
 rw [b.out];exact this
theorem Hv (H b off c n:Nat) (p:Option Addr) (s:Value) (xs:List Nat) (w:World) (A:Src w p b off xs) (t:OwnF w H 41 uV s xs) (B:FitL xs) (m:xs.length=n) (hn:n<=200) :
  Calls Tryz.prog 12 #[.slice p n c,s] w fun e G=>e=.returned (.bool true)/\∃ q,G=w.drewN q:=by
 obtain⟨J,F,c2,rfl,z,v⟩:=t.shape;have h:=hideS B;have y:=hideS A;have D:=hideS z;have o:=hideS v;rw [m];have I:=hideS m.symm;clear A t B z v m
 go_enter Tryz.func12,Tryz.ntmps12
 go_wp2
 go_loopw [5] (fun i j=>∃ k:Nat,k<=n/\i=.int .i64 k/\Hid (∃ q,j=w.drewN q)) (fun i _=>n - (intOf i).toNat)
 case atStart=>exact⟨0,Nat.zero_le _,rfl,⟨0,rfl⟩⟩
 case round=>
  obtain⟨k,K,rfl,d⟩:=hrel
  by_cases l:k<n
  ·have r:k<xs.length:=by rw [<- I.out];exact l
   obtain rfl:=y.out.at_ (by omega)
   obtain rfl:=(D.out (by omega)).1
   have f:j.cell? ⟨b,off+k,none⟩=some (.float .f64 (xs.getD k 0)):=by obtain⟨q,e⟩:=d.out;rw [e];exact y.out.cell k r
   have a:j.cell? ⟨F,k,none⟩=some (.int .u64 ((xs.getD k 0:Nat):Int)):=by obtain⟨q,e⟩:=d.out;rw [e];exact o.out k r
   have C:=hideS (ag (h.out.get k));clear r;generalize xs.getD k 0=x at f a C
   obtain⟨u,g⟩:∃ u:Int,u=(x:Int):=⟨_,rfl⟩;rw [<- g] at a
   have E:=hideS g;clear g;go_wp2
   go_quiet ((go_at_call 17;exact Calls.quiet_of_same (isS x u _ E C)))
   go_wp2
   go_roundw
   case rel=>exact⟨k+1,by omega,by simp,by obtain⟨q,e⟩:=d.out;exact⟨q+nq,by rw [e,World.drewN_drewN]⟩⟩
   case measure=>simp [intOf];omega
  ·obtain rfl:k=n:=by omega
   go_wp2
   go_ret
   exact⟨rfl,d.out⟩
theorem xd (o:Option Nat) (x:Nat):floatBits .mul .f64 (cn o) x=o.bind fun p=>floatBits .mul .f64 p x:=by
 cases o with
 | none=>rw [lu,dV pI];rfl
 | some r=>rfl
theorem xe (o:Option Nat) (x:Nat):floatBits .add .f64 (cn o) x=o.bind fun p=>floatBits .add .f64 p x:=by
 cases o with
 | none=>rw [lu,dV pI];rfl
 | some r=>rfl
theorem pJ (x c:Nat) (o:Option Nat):floatBits .add .f64 (cn (floatBits .mul .f64 (cn o) x)) c=fR x o c:=by
 rw [xd,xe];rfl
theorem km (B n x:Nat) (v:Value) (u:Int) (cs:List Nat) (w:World) (W:OwnF w B 41 uV v cs) (P:FitL cs) (hu:Hid (u=(x:Int))) (h:Hid (U64 u)) (A:cs.length=n) (hn:n<=1000000) :
  Calls Tryz.prog 103 #[v,.int .u64 u] w fun e C=>e=.returned (.int .u64 (cn (bj cs x):Int))/\Below w.heap.size w C:=by
 obtain⟨p,g,c,rfl,r,O⟩:=W.shape;rw [A];have HF:=hideS P;have HN:=hideS A;have HR:=hideS O
 by_cases h0:n=0
 ·subst h0;have b:Hid (bj cs x=some 0):=by show _=_;unfold bj;rw [if_pos A]
  rw [b.out];clear W P A r O HR HF HN
  go_enter Tryz.func103,Tryz.ntmps103
  go_wp2
  go_ret
  exact⟨rfl,Below.refl _ _⟩
 obtain⟨m,rfl⟩:∃ m,n=m+1:=⟨n - 1,by omega⟩
 obtain⟨rfl,_,hg⟩:=r (by omega)
 have S:w.cell? ⟨g,m,none⟩=some (.int .u64 ((cs.getD m 0:Nat):Int)):=O m (by omega)
 have b:Hid (bj cs x=hornAt cs x m):=by show _=_;unfold bj;rw [if_neg (by omega),A];rfl
 have L:Hid (((cs.getD m 0:Nat):Int)=(cn (hornAt cs x 0):Int)):=by show _=_;unfold hornAt;rw [A];rfl
 have ab:Hid (∀ i,hornAt cs x (i+1)=fR x (hornAt cs x i) (cs.getD (m - 1 - i) 0)):=fun i=>by
  show fR x (hornAt cs x i) (cs.getD (cs.length - 2 - i) 0)=_
  rw [A];rfl
 have M:=hideS (ag (P.get m));generalize ((cs.getD m 0:Nat):Int)=p0 at S L M
 rw [b.out];obtain⟨E,o⟩:∃ E:Int,(cn (hornAt cs x m):Int)=E:=⟨_,rfl⟩;rw [o];have V:=hideS o;have ai:((m:Int)+1==0)=false:=by simp;omega
 clear W P A r O h0 b o
 go_enter Tryz.func103,Tryz.ntmps103
 go_wp2_with fail
 go_loopw [5,6] (fun s i R=>∃ (t a:Int),-1<=t/\t<(m:Int)/\i=.int .i64 t/\s=.int .u64 a/\Hid (∃ k:Nat,(k:Int)=(m:Int) - 1 - t/\a=(cn (hornAt cs x k):Int))/\Hid (U64 a)/\Hid (Below w.heap.size w R)) (fun _ i _=>(intOf i+1).toNat)
 case atStart=>exact⟨(m:Int) - 1,p0,by omega,by omega,by congr 1;omega,rfl,⟨0,by omega,L.out⟩,M,Below.refl _ _⟩
 case round=>
  obtain⟨t,a,U,ad,rfl,rfl,HK,HU,J⟩:=hrel
  by_cases ac:0<=t
  ·obtain⟨j,rfl⟩:=Int.eq_ofNat_of_zero_le ac;obtain⟨k,hk,r⟩:=HK.out;have HA:=hideS r;have hj:m - 1 - k=j:=by omega
   have K:j<cs.length:=by rw [HN.out];omega
   have d:R.cell? ⟨g,j,none⟩=some (.int .u64 ((cs.getD j 0:Nat):Int)):=(J.out.cell (p:=⟨g,j,none⟩) hg).trans (HR.out j K);have f:=hideS (ab.out k);rw [hj] at f
   have I:=hideS (ag (HF.out.get j));obtain⟨y,hy⟩:∃ y:Nat,cs.getD j 0=y:=⟨_,rfl⟩;rw [hy] at d f I
   obtain⟨N,F⟩:∃ N:Int,N=(y:Int):=⟨_,rfl⟩;rw [<- F] at d I
   have Y:=hideS F;have G:g<R.heap.size:=Nat.lt_of_lt_of_le hg J.out.size;obtain⟨q,Q⟩:∃ q:Int,q=(cn (floatBits .mul .f64 (cn (hornAt cs x k)) x):Int):=⟨_,rfl⟩;obtain⟨z,Z⟩:∃ z:Int,z=(cn (hornAt cs x (k+1)):Int):=⟨_,rfl⟩;have HM:Hid (∀ w,Calls Tryz.prog 63 #[.int .u64 a,.int .u64 u] w fun e C=>e=.returned (.int .u64 q)/\Below w.heap.size w C):=fun w=>by rw [Q];exact cU _ x a u w HA hu HU.out h.out
   have HD:Hid (∀ w,Calls Tryz.prog 50 #[.int .u64 q,.int .u64 N] w fun e C=>e=.returned (.int .u64 z)/\Below w.heap.size w C):=fun w=>by
    have:=fA (cn (floatBits .mul .f64 (cn (hornAt cs x k)) x)) y q N w Q Y (by rw [Q];exact ag (xc (by simp) _ _)) I.out
    rw [pJ,<- f.out,<- Z] at this
    exact this
   have HZ:Hid (z=(cn (hornAt cs x (k+1)):Int)):=Z;have T:Hid (U64 z):=by rw [HZ.out,f.out,<- pJ];exact ag (xc (by simp) _ _)
   have HK2:Hid (∃ k:Nat,(k:Int)=(m:Int) - 1 - ((j:Int) - 1)/\z=(cn (hornAt cs x k):Int)):=⟨k+1,by omega,HZ.out⟩
   have ak:(j:Int)<(m:Int)+1:=by omega
   clear Q Z F hy hj f HA hk r K HK U
   go_wp2_with fail
   go_region_held3 (fun C=>C.cell? ⟨g,j,none⟩=some (.int .u64 N)) (first | exact d | exact (l.cell (p:=⟨g,j,none⟩) G).trans d | exact (D.cell (p:=⟨g,j,none⟩) (Nat.lt_of_lt_of_le G l.size)).trans ((l.cell (p:=⟨g,j,none⟩) G).trans d) | go_keep) (first | ((go_at_call 63;refine (HM.out _).mono ?_;rintro e w3 ⟨rfl,l⟩)) | ((go_at_call 50;refine (HD.out _).mono ?_;rintro e w4 ⟨rfl,D⟩)))
   have H:=hideS (J.out.drew.trans (l.mono (show w.heap.size<=R.heap.size from J.out.size)))
   have X:=hideS (H.out.trans (D.mono H.out.size));clear l D H HM HD
   go_wp2_with fail
   go_roundw
   case rel=>exact⟨(j:Int) - 1,z,by omega,by omega,rfl,rfl,HK2,T,X⟩
   case measure=>simp [intOf]
  ·obtain rfl:t= -1:=by omega
   have HE:Hid (a=E):=by
    obtain⟨k,hk,r⟩:=HK.out;have:k=m:=by omega
    rw [<- V.out,<- this];exact r
   clear HK;go_wp2
   go_ret
   exact⟨bu HE.out,J.out⟩
end Go.Proofs.YtfdddijdjpijbaaGreat
