/-  -/
import Derived.Test.YtfdddijdjpijbaaGreatHaw
import Derived.Test.YtfdddijdjpijbaaGreatHar
import Derived.Deep.RegionHeld3
import Derived.Test.YtfdddijdjpijbaaGreatHau
import Derived.Test.YtfdddijdjpijbaaGreatHas
import Derived.LoopTactic
import Derived.Sort.Row
import Derived.Deep.LoopGhost
import Derived.Test.YtfdddijdjpijbaaGreatHaq
set_option maxHeartbeats 3200000
set_option maxRecDepth 20000
namespace Go.Proofs.YtfdddijdjpijbaaGreat
open Go.RowKit
def iQ (X:Nat) (ex:Int) (Y:Nat) (ey:Int):Int:=if X=0 then ey else if Y=0 then ex else min ex ey
def sg (neg:Bool) (N:Nat):Int:=if neg then -(N:Int) else (N:Int)
abbrev boxN (w:World) (n:Bool) (v:Value) (e:Int):World:=w.alloc (.cells #[.bool n,v,.int .i64 e] 83)
theorem aE (w:World) (n:Bool) (v:Value) (e:Int):Below w.heap.size w (boxN w n v e):=(Below.refl _ _).alloc (Nat.le_refl _) _
def Six (w:World) (B:Nat) (nx:Bool) (b:Value) (ex:Int) (a:Bool) (c:Value) (ey:Int):Prop:=
 w.cell? ⟨B,0,none⟩=some (.bool nx)/\w.cell? ⟨B,1,none⟩=some b/\w.cell? ⟨B,2,none⟩=some (.int .i64 ex)/\
 w.cell? ⟨B+1,0,none⟩=some (.bool a)/\w.cell? ⟨B+1,1,none⟩=some c/\w.cell? ⟨B+1,2,none⟩=some (.int .i64 ey)
theorem uC (w:World) (nx:Bool) (a:Value) (ex:Int) (b:Bool) (c:Value) (ey:Int):Six (boxN (boxN w nx a ex) b c ey) w.heap.size nx a ex b c ey:=by
 have f:=aE (boxN w nx a ex) b c ey;have d:w.heap.size<(boxN w nx a ex).heap.size:=by simp
 refine⟨?_,?_,?_,?_,?_,?_⟩
 ·rw [f.cell (p:=⟨w.heap.size,0,none⟩) d];simp
 ·rw [f.cell (p:=⟨w.heap.size,1,none⟩) d];simp
 ·rw [f.cell (p:=⟨w.heap.size,2,none⟩) d];simp
 ·have e:w.heap.size+1=(boxN w nx a ex).heap.size:=by simp
  rw [e];simp
 ·have e:w.heap.size+1=(boxN w nx a ex).heap.size:=by simp
  rw [e];simp
 ·have e:w.heap.size+1=(boxN w nx a ex).heap.size:=by simp
  rw [e];simp
theorem Six.below {w m:World} {B:Nat} {nx j:Bool} {k l:Value} {ex ey:Int} {s:Nat} (h:Six w B nx k ex j l ey) (g:Below s w m) (i:B+1<s):Six m B nx k ex j l ey:=by
 obtain⟨a,b,c,d,e,f⟩:=h;exact⟨(g.cell (p:=⟨B,0,none⟩) (by show B<s;omega)).trans a,(g.cell (p:=⟨B,1,none⟩) (by show B<s;omega)).trans b,(g.cell (p:=⟨B,2,none⟩) (by show B<s;omega)).trans c,(g.cell (p:=⟨B+1,0,none⟩) i).trans d,(g.cell (p:=⟨B+1,1,none⟩) i).trans e,(g.cell (p:=⟨B+1,2,none⟩) i).trans f⟩
theorem gw (w:World) (nx:Bool) (b:Value) (ex:Int) (a:Bool) (c:Value) (ey:Int):(boxN (boxN w nx b ex) a c ey).heap.size=w.heap.size+2:=by simp
theorem wS (nx m:Bool) (i l:Value) (ex ey:Int) (X Y:Nat) (w:World) (v:DN w i X) (z:DN w l Y) :
  Calls Tryz.prog 112 #[.agg #[.bool nx,i,.int .i64 ex],.agg #[.bool m,l,.int .i64 ey]] w fun e H=>e=.returned (.int .i64 (iQ X ex Y ey))/\Below w.heap.size w H:=by
 have o:=aE w nx i ex;have f:Below w.heap.size w (boxN (boxN w nx i ex) m l ey):=o.trans ((aE (boxN w nx i ex) m l ey).mono (by simp))
 have u:=aa (v.below f);have k:=aa (z.below f);have t:=aa f;have s:=aa (uC w nx i ex m l ey);have g:=aa (gw w nx i ex m l ey);clear o f v z;unfold iQ
 by_cases d:X=0
 ·subst d;rw [if_pos rfl]
  go_enter Tryz.func112,Tryz.ntmps112
  go_wp2_with fail
  refine (aZ _ _ _ 0 true _ u.out rfl).mono ?_
  rintro x n ⟨rfl,a⟩;have h:=aa (s.out.below a (by rw [g.out];omega))
  have q:w.heap.size+1<n.heap.size:=by have p:=a.size;rw [g.out] at p;omega
  obtain⟨c0,c1,c2,c3,c4,r⟩:=h.out;have c:=aa a;clear a
  go_wp2_with fail
  go_ret
  exact⟨rfl,t.out.trans (c.out.mono (by rw [g.out];omega))⟩
 ·rw [if_neg d];have y:=aa d;clear d
  by_cases d:Y=0
  ·subst d;rw [if_pos rfl]
   go_enter Tryz.func112,Tryz.ntmps112
   go_wp2_with fail
   refine (aZ _ _ _ X false _ u.out (decide_eq_false y.out)).mono ?_
   rintro x n ⟨rfl,a⟩;have h:=aa (s.out.below a (by rw [g.out];omega))
   have q:w.heap.size+1<n.heap.size:=by have p:=a.size;rw [g.out] at p;omega
   obtain⟨c0,c1,c2,c3,c4,r⟩:=h.out;have c:=aa a;have k:=aa (k.out.below a);clear a
   go_wp2_with fail
   refine (aZ _ _ _ 0 true _ k.out rfl).mono ?_
   rintro x D ⟨rfl,b⟩;obtain⟨E,A,G,I,B,F⟩:=h.out.below b q;clear c0 c1 c2 c3 c4 r;have j:=aa b;clear b
   go_wp2_with fail
   go_ret
   exact⟨rfl,(t.out.trans (c.out.mono (by rw [g.out];omega))).trans (j.out.mono (by omega))⟩
  ·rw [if_neg d];have C:=aa d;clear d
   go_enter Tryz.func112,Tryz.ntmps112
   go_wp2_with fail
   refine (aZ _ _ _ X false _ u.out (decide_eq_false y.out)).mono ?_
   rintro x n ⟨rfl,a⟩;have h:=aa (s.out.below a (by rw [g.out];omega))
   have q:w.heap.size+1<n.heap.size:=by have p:=a.size;rw [g.out] at p;omega
   obtain⟨c0,c1,c2,c3,c4,r⟩:=h.out;have c:=aa a;have k:=aa (k.out.below a);clear a
   go_wp2_with fail
   refine (aZ _ _ _ Y false _ k.out (decide_eq_false C.out)).mono ?_
   rintro x D ⟨rfl,b⟩;obtain⟨E,A,G,I,B,F⟩:=h.out.below b q;clear c0 c1 c2 c3 c4 r;have j:=aa b;clear b
   go_wp2_with fail
   go_ret
   exact⟨rfl,(t.out.trans (c.out.mono (by rw [g.out];omega))).trans (j.out.mono (by omega))⟩
theorem oB (nx:Bool) (g:Value) (ex e:Int) (X n:Nat) (w:World) (o:DN w g X) (hn:X≠0->ex - e=(n:Int)) (k:n<=100000000) (j:nd X<=10000000) :
  Calls Tryz.prog 113 #[.agg #[.bool nx,g,.int .i64 ex],.int .i64 e] w fun x q=>∃ v,x=.returned v/\DN q v (X*2^n)/\Below w.heap.size w q:=by
 have i:=aa (aE w nx g ex);have m:=aa (o.below i.out);clear o
 by_cases f:X=0
 ·subst f;rw [Nat.zero_mul]
  go_enter Tryz.func113,Tryz.ntmps113
  go_wp2_with fail
  refine (aZ _ _ _ 0 true _ m.out rfl).mono ?_
  rintro x p ⟨rfl,a⟩;have b:=aa a;clear a
  go_wp2_with fail
  go_ret
  exact⟨_,rfl,Or.inl ⟨rfl,_,_,rfl⟩,i.out.trans (b.out.mono (by simp))⟩
 ·have A:=hn f;have t:=aa f;clear f hn
  go_enter Tryz.func113,Tryz.ntmps113
  go_wp2_with fail
  refine (aZ _ _ _ X false _ m.out (decide_eq_false t.out)).mono ?_
  rintro x p ⟨rfl,a⟩;obtain⟨c1,u⟩:=wL a;have b:=aa a;have r:=aa (m.out.below a);clear a
  go_wp2_with fail
  refine (nw g X n _ r.out j k).mono ?_
  rintro x z ⟨y,rfl,c,d⟩;have l:=aa d;have h:=aa c;clear d c;have s:w.heap.size<=p.heap.size:=by have:=b.out.size;simp at this;omega
  go_wp2_with fail
  go_ret
  exact⟨_,rfl,h.out,(i.out.trans (b.out.mono (by simp))).trans (l.out.mono s)⟩
abbrev pbox (w:World) (nx:Bool) (b:Value) (ex:Int) (a:Bool) (c:Value) (ey:Int):World:=boxN (boxN (boxN w nx b ex) a c ey) false (.slice none 0 0) 0
theorem jJ (w:World) (nx:Bool) (b:Value) (ex:Int) (a:Bool) (c:Value) (ey:Int):(pbox w nx b ex a c ey).heap.size=w.heap.size+3:=by simp
theorem dG (w:World) (nx:Bool) (a:Value) (ex:Int) (b:Bool) (c:Value) (ey:Int):Below w.heap.size w (pbox w nx a ex b c ey):=
 ((aE w nx a ex).trans ((aE (boxN w nx a ex) b c ey).mono (by simp))).trans ((aE _ _ _ _).mono (by rw [gw];omega))
theorem ll (w:World) (nx:Bool) (b:Value) (ex:Int) (a:Bool) (c:Value) (ey:Int):Six (pbox w nx b ex a c ey) w.heap.size nx b ex a c ey:=
 (uC w nx b ex a c ey).below (aE _ _ _ _) (by rw [gw];omega)
theorem From.mono {A B:Nat} {v:Value} (h:From B v) (b:A<=B):From A v:=fun a l c e=>Nat.le_trans b (h a l c e)
theorem LM (w:World) (n:Bool) (v:Value) (e:Int) :
  ((boxN w n v e).cell? ⟨w.heap.size,0,none⟩=some (.bool n)/\(boxN w n v e).cell? ⟨w.heap.size,1,none⟩=some v/\(boxN w n v e).cell? ⟨w.heap.size,2,none⟩=some (.int .i64 e))/\
  ((boxN w n v e).frozen? ⟨w.heap.size,0,none⟩=false/\(boxN w n v e).frozen? ⟨w.heap.size,1,none⟩=false/\(boxN w n v e).frozen? ⟨w.heap.size,2,none⟩=false):=by
 refine⟨⟨?_,?_,?_⟩,?_,?_,?_⟩ <;>first | exact World.frozen?_alloc_new _ _ _ _ | simp
theorem cM {w g:World} {nx k:Bool} {l m:Value} {ex ey:Int} (j:Below (w.heap.size+3) (pbox w nx l ex k m ey) g) :
  (g.cell? ⟨w.heap.size+1+1,0,none⟩=some (.bool false)/\g.cell? ⟨w.heap.size+1+1,1,none⟩=some (.slice none 0 0)/\g.cell? ⟨w.heap.size+1+1,2,none⟩=some (.int .i64 0))/\
  (g.frozen? ⟨w.heap.size+1+1,0,none⟩=false/\g.frozen? ⟨w.heap.size+1+1,1,none⟩=false/\g.frozen? ⟨w.heap.size+1+1,2,none⟩=false):=by
 have i:w.heap.size+1+1<w.heap.size+3:=by omega
 have h:=LM (boxN (boxN w nx l ex) k m ey) false (.slice none 0 0) 0;rw [gw] at h
 obtain⟨⟨a,b,c⟩,d,e,f⟩:=h;exact⟨⟨(j.cell (p:=⟨w.heap.size+1+1,0,none⟩) i).trans a,(j.cell (p:=⟨w.heap.size+1+1,1,none⟩) i).trans b,(j.cell (p:=⟨w.heap.size+1+1,2,none⟩) i).trans c⟩,
  (j.frozen (p:=⟨w.heap.size+1+1,0,none⟩) i).trans d,(j.frozen (p:=⟨w.heap.size+1+1,1,none⟩) i).trans e,(j.frozen (p:=⟨w.heap.size+1+1,2,none⟩) i).trans f⟩
def fO (w:World) (E S:Int) (x:Ending) (e:World):Prop:=
 ∃ a c d b,x=.returned (.agg #[.bool a,c,.int .i64 b])/\DN e c d/\From w.heap.size c/\sg a d=S/\(b=E\/(b=0/\d=0))/\Below w.heap.size w e
theorem dH {w d:World} {nx e neg:Bool} {f g v:Value} {ex ey E S:Int} {N:Nat} (j:Below (w.heap.size+3) (pbox w nx f ex e g ey) d) (h:DN d v N) (b:From (w.heap.size+3) v) (i:sg neg N=S) :
  fO w E S (.returned (.agg #[.bool neg,v,.int .i64 E])) (((d.setCell ⟨w.heap.size+1+1,0,none⟩ (.bool neg)).setCell ⟨w.heap.size+1+1,1,none⟩ v).setCell ⟨w.heap.size+1+1,2,none⟩ (.int .i64 E)):=by
 refine⟨neg,v,N,E,rfl,((h.set b (a:=⟨w.heap.size+1+1,0,none⟩) (Nat.lt_succ_self _) _).set b (a:=⟨w.heap.size+1+1,1,none⟩) (Nat.lt_succ_self _) _).set b (a:=⟨w.heap.size+1+1,2,none⟩) (Nat.lt_succ_self _) _,b.mono (by omega),i,Or.inl rfl,?_⟩
 have c:w.heap.size<=w.heap.size+1+1:=by omega
 exact ((((dG w nx f ex e g ey).trans (j.mono (by omega))).setCell c _).setCell c _).setCell c _
theorem GY (nx o:Bool) (C D:Value) (ex ey E:Int) (X Y n m a b:Nat) (w:World) (hX:DN w C X) (hY:DN w D Y)
  (hE:Hid (iQ X ex Y ey=E)) (hn:X≠0->ex - E=(n:Int)) (hm:Y≠0->ey - E=(m:Int)) (bs:n<=1000000) (bx:m<=1000000) (bk:nd X<=1000000) (bh:nd Y<=1000000)
  (ha:Hid (X*2^n=a)) (hb:Hid (Y*2^m=b)) (bc:nd a<=10000000) (bo:nd b<=10000000) (hc:nx=o\/a=0\/b=0) :
  Calls Tryz.prog 73 #[.agg #[.bool nx,C,.int .i64 ex],.agg #[.bool o,D,.int .i64 ey]] w (fO w E (sg nx a+sg o b)):=by
 have H:=aa (dG w nx C ex o D ey);have HZ:=aa (jJ w nx C ex o D ey);have ab:=aa (ll w nx C ex o D ey);have J:=aa (hX.below H.out);have T:=aa (hY.below H.out);have M:=aa (wS nx o C D ex ey X Y _ J.out T.out);rw [hE.out] at M
 have ba:=aa hn;have HM:=aa hm;have HC:=aa hc;clear hX hY hn hm hc
 go_enter Tryz.func73,Tryz.ntmps73
 go_wp2_with fail
 refine M.out.mono ?_
 rintro x w1 ⟨rfl,u⟩;have br:w.heap.size+3<=w1.heap.size:=by have h9:=u.size;rw [HZ.out] at h9;exact h9
 have V:=aa (ab.out.below u (by rw [HZ.out];omega))
 have am:=aa (J.out.below u);have bb:=aa (T.out.below u);have ak:Hid (Below (w.heap.size+3) (pbox w nx C ex o D ey) w1):=u.mono (by rw [HZ.out];omega)
 obtain⟨c0,c1,c2,c3,c4,c5⟩:=V.out;clear u
 go_wp2_with fail
 refine (oB nx C ex E X n _ am.out ba.out (by omega) (by omega)).mono ?_
 rintro x w2 ⟨va,rfl,G,z⟩;rw [ha.out] at G
 have bi:w.heap.size+3<=w2.heap.size:=by have h9:=z.size;omega
 have P:=aa (V.out.below z (by omega))
 have ad:=aa (bb.out.below z);have ai:=aa G;have al:Hid (Below (w.heap.size+3) (pbox w nx C ex o D ey) w2):=ak.out.trans (z.mono br);clear z G c0 c1 c2 c3 c4 c5;obtain⟨c0,c1,c2,c3,c4,c5⟩:=P.out
 go_wp2_with fail
 refine (oB o D ey E Y m _ ad.out HM.out (by omega) (by omega)).mono ?_
 rintro x w3 ⟨vb,rfl,R,B⟩;rw [hb.out] at R
 have l:w.heap.size+3<=w3.heap.size:=by have h9:=B.size;omega
 have Z:=aa (P.out.below B (by omega))
 have Q:=aa (ai.out.below B);have I:=aa R;have F:Hid (Below (w.heap.size+3) (pbox w nx C ex o D ey) w3):=al.out.trans (B.mono bi);clear B R c0 c1 c2 c3 c4 c5 ai;obtain⟨c0,c1,c2,c3,c4,c5⟩:=Z.out;obtain⟨p,c,rfl⟩:=Q.out.form;obtain⟨q,d,rfl⟩:=I.out.form;have k:=aa (ki _ _ a b w3 Q.out I.out bc bo);obtain⟨N,hN⟩:∃ N,a+b=N:=⟨_,rfl⟩;rw [hN] at k
 have HN:=aa hN;clear hN;clear Q I;have ea:a=0->nd a=0:=fun h=>by rw [h];rfl
 have W:b=0->nd b=0:=fun h=>by rw [h];rfl
 have A:a≠0->1<=nd a:=dm;have y:b≠0->1<=nd b:=dm;clear bk bh J T am bb ad ab V P Z ak al M ba HM hE ha hb H HZ;generalize nd a=la at *
 generalize nd b=lb at *
 by_cases t:a=0
 ·have O:=ea t;subst O
  by_cases j:b=0
  ·have O:=W j;subst O t j;clear ea W A y;cases nx<;>cases o
   all_goals
    go_wp2_with fail
    refine k.out.mono ?_
    rintro x w4 ⟨v4,rfl,e,i,g⟩;have f:=aa (F.out.trans (g.mono l));obtain⟨⟨L,K,S⟩,f0,f1,f2⟩:=cM f.out;obtain⟨U,c4,rfl⟩:=e.form;have s:=aa e;have r:=aa (i.mono l);clear e i g
    go_wp2_with fail
    refine bodyPost_ret (v:=.agg #[.bool _,.slice U _ c4,.int .i64 E]) (by simp [results,Tryz.results73,go_sem,L,K,S]) rfl (dH f.out s.out r.out ?_)
    rw [<- HN.out];simp [sg]
    try omega
  ·have O:=y j;subst t;clear ea W A y j;cases nx<;>cases o
   all_goals
    go_wp2_with fail
    refine k.out.mono ?_
    rintro x w4 ⟨v4,rfl,e,i,g⟩;have f:=aa (F.out.trans (g.mono l));obtain⟨⟨L,K,S⟩,f0,f1,f2⟩:=cM f.out;obtain⟨U,c4,rfl⟩:=e.form;have s:=aa e;have r:=aa (i.mono l);clear e i g
    go_wp2_with fail
    refine bodyPost_ret (v:=.agg #[.bool _,.slice U _ c4,.int .i64 E]) (by simp [results,Tryz.results73,go_sem,L,K,S]) rfl (dH f.out s.out r.out ?_)
    rw [<- HN.out];simp [sg]
    try omega
 ·have O:=A t
  by_cases j:b=0
  ·have O:=W j;subst O j;clear ea W A y t;cases nx<;>cases o
   all_goals
    go_wp2_with fail
    refine k.out.mono ?_
    rintro x w4 ⟨v4,rfl,e,i,g⟩;have f:=aa (F.out.trans (g.mono l));obtain⟨⟨L,K,S⟩,f0,f1,f2⟩:=cM f.out;obtain⟨U,c4,rfl⟩:=e.form;have s:=aa e;have r:=aa (i.mono l);clear e i g
    go_wp2_with fail
    refine bodyPost_ret (v:=.agg #[.bool _,.slice U _ c4,.int .i64 E]) (by simp [results,Tryz.results73,go_sem,L,K,S]) rfl (dH f.out s.out r.out ?_)
    rw [<- HN.out];simp [sg]
    try omega
  ·have bv:=y j;clear ea W A y;have hs:nx=o:=by
    rcases HC.out with h | h | h
    ·exact h
    ·exact absurd h t
    ·exact absurd h j
   clear t j
   ·subst hs;cases nx
    all_goals
     go_wp2_with fail
     refine k.out.mono ?_
     rintro x w4 ⟨v4,rfl,e,i,g⟩;have f:=aa (F.out.trans (g.mono l));obtain⟨⟨L,K,S⟩,f0,f1,f2⟩:=cM f.out;obtain⟨U,c4,rfl⟩:=e.form;have s:=aa e;have r:=aa (i.mono l);clear e i g
     go_wp2_with fail
     refine bodyPost_ret (v:=.agg #[.bool _,.slice U _ c4,.int .i64 E]) (by simp [results,Tryz.results73,go_sem,L,K,S]) rfl (dH f.out s.out r.out ?_)
     rw [<- HN.out];simp [sg]
     try omega
theorem mC {w e:World} {nx b:Bool} {c d:Value} {ex ey E S:Int} (g:Below (w.heap.size+3) (pbox w nx c ex b d ey) e) (f:0=S) :
  fO w E S (.returned (.agg #[.bool false,.slice none 0 0,.int .i64 0])) (((e.setCell ⟨w.heap.size+1+1,0,none⟩ (.bool false)).setCell ⟨w.heap.size+1+1,1,none⟩ (.slice none 0 0)).setCell ⟨w.heap.size+1+1,2,none⟩ (.int .i64 0)):=by
 refine⟨false,.slice none 0 0,0,0,rfl,Or.inl ⟨rfl,_,_,rfl⟩,gu _,f,Or.inr ⟨rfl,rfl⟩,?_⟩
 have a:w.heap.size<=w.heap.size+1+1:=by omega
 exact ((((dG w nx c ex b d ey).trans (g.mono (by omega))).setCell a _).setCell a _).setCell a _
theorem An (nx k:Bool) (D F:Value) (ex ey E:Int) (X Y n m a b:Nat) (w:World) (hX:DN w D X) (hY:DN w F Y)
  (hE:Hid (iQ X ex Y ey=E)) (hn:X≠0->ex - E=(n:Int)) (hm:Y≠0->ey - E=(m:Int)) (bx:n<=1000000) (ca:m<=1000000) (br:nd X<=1000000) (bk:nd Y<=1000000)
  (ha:Hid (X*2^n=a)) (hb:Hid (Y*2^m=b)) (Z:nd a<=10000000) (bs:nd b<=10000000) (hs:nx≠k) (bi:a≠0) (ba:b≠0) :
  Calls Tryz.prog 73 #[.agg #[.bool nx,D,.int .i64 ex],.agg #[.bool k,F,.int .i64 ey]] w (fO w E (sg nx a+sg k b)):=by
 have J:=aa (dG w nx D ex k F ey);have HZ:=aa (jJ w nx D ex k F ey);have ad:=aa (ll w nx D ex k F ey);have K:=aa (hX.below J.out);have V:=aa (hY.below J.out);have N:=aa (wS nx k D F ex ey X Y _ K.out V.out);rw [hE.out] at N
 have bc:=aa hn;have HM:=aa hm;clear hX hY hn hm
 go_enter Tryz.func73,Tryz.ntmps73
 go_wp2_with fail
 refine N.out.mono ?_
 rintro x w1 ⟨rfl,l⟩;have bv:w.heap.size+3<=w1.heap.size:=by have L:=l.size;rw [HZ.out] at L;exact L
 have W:=aa (ad.out.below l (by rw [HZ.out];omega))
 have bb:=aa (K.out.below l);have bh:=aa (V.out.below l);have al:Hid (Below (w.heap.size+3) (pbox w nx D ex k F ey) w1):=l.mono (by rw [HZ.out];omega)
 obtain⟨c0,c1,c2,c3,c4,c5⟩:=W.out;clear l
 go_wp2_with fail
 refine (oB nx D ex E X n _ bb.out bc.out (by omega) (by omega)).mono ?_
 rintro x w2 ⟨va,rfl,I,u⟩;rw [ha.out] at I
 have bo:w.heap.size+3<=w2.heap.size:=by have L:=u.size;omega
 have P:=aa (W.out.below u (by omega))
 have ai:=aa (bh.out.below u);have ak:=aa I;have am:Hid (Below (w.heap.size+3) (pbox w nx D ex k F ey) w2):=al.out.trans (u.mono bv);clear u I c0 c1 c2 c3 c4 c5;obtain⟨c0,c1,c2,c3,c4,c5⟩:=P.out
 go_wp2_with fail
 refine (oB k F ey E Y m _ ai.out HM.out (by omega) (by omega)).mono ?_
 rintro x o ⟨vb,rfl,S,z⟩;rw [hb.out] at S
 have R:w.heap.size+3<=o.heap.size:=by have L:=z.size;omega
 have ab:=aa (P.out.below z (by omega))
 have y:=aa (ak.out.below z);have r:=aa S;have T:Hid (Below (w.heap.size+3) (pbox w nx D ex k F ey) o):=am.out.trans (z.mono bo);clear z S c0 c1 c2 c3 c4 c5 ak;obtain⟨c0,c1,c2,c3,c4,c5⟩:=ab.out;obtain⟨p,c,rfl⟩:=y.out.form;obtain⟨q,d,rfl⟩:=r.out.form;have e:=aa (cL _ _ a b o y.out r.out Z);have s:=aa fun w' (B:Below o.heap.size o w') (Q:b<=a)=>dQ _ _ a b w' (y.out.below B) (r.out.below B) Z Q
 have g:=aa fun w' (B:Below o.heap.size o w') (Q:a<=b)=>dQ _ _ b a w' (r.out.below B) (y.out.below B) bs Q
 clear y r;have hl:((nd a:Int)==0)=false:=by have:=dm bi;simp;omega
 have bz:((nd b:Int)==0)=false:=by have:=dm ba;simp;omega
 clear br bk K V bb bh ai ad W P ab al am N bc HM hE ha hb J HZ bi ba;generalize nd a=la at *
 generalize nd b=lb at *
 rcases Nat.lt_trichotomy a b with h | h | h
 ·rw [li h] at e
  have O:=aa (Nat.le_of_lt h);clear s h;cases nx<;>cases k
  all_goals first | exact absurd rfl hs | skip
  all_goals
   go_wp2_with fail
   refine e.out.mono ?_
   rintro x G ⟨rfl,qq,H⟩;have C:=aa (show Below o.heap.size o G by rw [H];exact below_drewN (Below.refl _ _) _)
   have g3:=(C.out.cell (p:=⟨w.heap.size+1,0,none⟩) (by show w.heap.size+1<_;omega)).trans c3
   have t:w.heap.size+3<=G.heap.size:=by have:=C.out.size;omega
   clear H
   go_wp2_with fail
   go_region_with ((go_at_call 116;refine (g.out _ (C.out.drew) O.out).mono ?_;rintro x w4 ⟨v4,rfl,j,A,i⟩;obtain⟨p4,c4,rfl⟩:=j.form;have f:=aa ((T.out.trans (C.out.mono R)).drew.trans (i.mono t));obtain⟨⟨r0,r1,r2⟩,f0,f1,f2⟩:=cM f.out;have k3:=(i.cell (p:=⟨w.heap.size+1,0,none⟩) (by show w.heap.size+1<G.heap.size;omega)).trans g3;have U:=aa j;have M:=aa (A.mono (show w.heap.size+3<=_ from t));clear j A i))
   all_goals
    go_wp2_with fail
    refine bodyPost_ret (v:=.agg #[.bool _,.slice p4 _ c4,.int .i64 E]) (by simp [results,Tryz.results73,go_sem,r0,r1,r2]) rfl (dH f.out U.out M.out ?_)
    have L:=O.out;simp [sg]
    try omega
 ·rw [lj h] at e
  have O:=aa h;clear s g h;cases nx<;>cases k
  all_goals first | exact absurd rfl hs | skip
  all_goals
   go_wp2_with fail
   refine e.out.mono ?_
   rintro x G ⟨rfl,qq,H⟩;have C:=aa (show Below o.heap.size o G by rw [H];exact below_drewN (Below.refl _ _) _)
   have f:=aa (T.out.trans (C.out.mono R));obtain⟨⟨r0,r1,r2⟩,f0,f1,f2⟩:=cM f.out;clear H
   go_wp2_with fail
   refine bodyPost_ret (v:=.agg #[.bool false,.slice none 0 0,.int .i64 0]) (by simp [results,Tryz.results73,go_sem,r0,r1,r2]) rfl (mC f.out ?_)
   have L:=O.out;simp [sg]
   try omega
 ·rw [lk h] at e
  have O:=aa (Nat.le_of_lt h);clear g h;cases nx<;>cases k
  all_goals first | exact absurd rfl hs | skip
  all_goals
   go_wp2_with fail
   refine e.out.mono ?_
   rintro x G ⟨rfl,qq,H⟩;have C:=aa (show Below o.heap.size o G by rw [H];exact below_drewN (Below.refl _ _) _)
   have g3:=(C.out.cell (p:=⟨w.heap.size,0,none⟩) (by show w.heap.size<_;omega)).trans c0
   have t:w.heap.size+3<=G.heap.size:=by have:=C.out.size;omega
   clear H
   go_wp2_with fail
   go_region_with ((go_at_call 116;refine (s.out _ (C.out.drew) O.out).mono ?_;rintro x w4 ⟨v4,rfl,j,A,i⟩;obtain⟨p4,c4,rfl⟩:=j.form;have f:=aa ((T.out.trans (C.out.mono R)).drew.trans (i.mono t));obtain⟨⟨r0,r1,r2⟩,f0,f1,f2⟩:=cM f.out;have k3:=(i.cell (p:=⟨w.heap.size,0,none⟩) (by show w.heap.size<G.heap.size;omega)).trans g3;have U:=aa j;have M:=aa (A.mono (show w.heap.size+3<=_ from t));clear j A i))
   all_goals
    go_wp2_with fail
    refine bodyPost_ret (v:=.agg #[.bool _,.slice p4 _ c4,.int .i64 E]) (by simp [results,Tryz.results73,go_sem,r0,r1,r2]) rfl (dH f.out U.out M.out ?_)
    have L:=O.out;simp [sg]
    try omega
theorem po (nx a:Bool) (i j:Value) (ex ey E:Int) (X Y n m:Nat) (w:World) (l:DN w i X) (p:DN w j Y)
  (o:iQ X ex Y ey=E) (hn:X≠0->ex - E=(n:Int)) (q:Y≠0->ey - E=(m:Int)) (g:n<=1000000) (f:m<=1000000) (c:nd X<=1000000) (d:nd Y<=1000000)
  (b:nd (X*2^n)<=10000000) (e:nd (Y*2^m)<=10000000) :
  Calls Tryz.prog 73 #[.agg #[.bool nx,i,.int .i64 ex],.agg #[.bool a,j,.int .i64 ey]] w (fO w E (sg nx (X*2^n)+sg a (Y*2^m))):=by
 by_cases k:nx=a\/X*2^n=0\/Y*2^m=0
 ·exact GY nx a i j ex ey E X Y n m _ _ w l p o hn q g f c d rfl rfl b e k
 ·exact An nx a i j ex ey E X Y n m _ _ w l p o hn q g f c d rfl rfl b e (fun h=>k (Or.inl h)) (fun h=>k (Or.inr (Or.inl h))) (fun h=>k (Or.inr (Or.inr h)))
def sx (P:Program) (c:Region.Mode) (b:Array Oper) (Q:Exit->Act->World->Prop) (S:World->Prop) (L:Nat->Bool):Nat->Array Bool->Act->World->Prop
 | 0,l,a,w=>Region.ready c b l=[]/\Q .normal a w
 | f+1,l,a,w=>(Region.ready c b l=[]->Q .normal a w)/\∀ i ∈ Region.ready c b l,wpOp P b Q i (fun a' d=>(L i=false->S d)/\sx P c b Q S L f (l.setIfInBounds i true) a' d) a w
variable {P:Program} {md:Region.Mode} {ops:Array Oper} {Q:Exit->Act->World->Prop} {S:World->Prop} {L:Nat->Bool}
theorem zI:∀ (f:Nat) (l:Array Bool) (a:Act) (w:World),sx P md ops Q S L f l a w->wpAny P md ops Q f l a w
 | 0,_,_,_,h=>h
 | f+1,_,_,_,h=>⟨h.1,fun i hi=>wpOp_mono (fun a w k=>zI f _ a w k.2) (h.2 i hi)⟩
def Dw (b:Region.Mode) (a:Array Oper) (l:Array Bool):Bool:=
 (List.range a.size).all fun k=>!l.getD k false||((a[k]?).map (·.after.all fun e=>!Region.binds b e||l.getD e.on false)).getD true
def Closed (c:Region.Mode) (a:Array Oper) (l:Array Bool):Prop:=∀ k b,a[k]? =some b->l.getD k false=true->∀ e ∈ b.after,Region.binds c e=true->l.getD e.on false=true
theorem Gb {l:Array Bool} (h:Dw md ops l=true):Closed md ops l:=fun k g b c e d f=>by
 have a:=List.all_eq_true.1 h k (List.mem_range.2 (Array.getElem?_eq_some_iff.1 b).1)
 rw [c,b] at a
 simp only [Bool.not_true,Bool.false_or,Option.map_some,Option.getD_some,Array.all_eq_true'] at a
 have:=a e d;rw [f] at this
 simpa using this
theorem Cb {l:Array Bool} {j:Nat} (h:Closed md ops l) (n:j ∈ Region.ready md ops l):Closed md ops (l.setIfInBounds j true):=fun k m f d e g i=>by
 by_cases c:j=k
 ·subst c;obtain⟨_,o,b,a⟩:=mem_ready.1 n;rw [f] at b
  obtain rfl:=Option.some.inj b;exact getD_set_true (a e g i)
 ·rw [getD_set_ne false c] at d
  exact getD_set_true (h k m f d e g i)
def vU (b:Region.Mode) (a:Array Oper):Nat->Nat->Nat->Bool
 | 0,_,_=>false
 | f+1,j,i=>((a[j]?).map (·.after.any fun e=>Region.binds b e&&(e.on==i||vU b a f e.on i))).getD false
theorem mp {l:Array Bool} (h:Closed md ops l) {i:Nat}:∀ (f j:Nat),vU md ops f j i=true->(∀ a,ops[j]? =some a->∀ e ∈ a.after,Region.binds md e=true->l.getD e.on false=true)->l.getD i false=true
 | 0,_,hw,_=>by cases hw
 | f+1,j,hw,hd=>by
  unfold vU at hw
  cases b:ops[j]? with
  | none=>rw [b] at hw;cases hw
  | some a=>
   rw [b] at hw
   simp only [Option.map_some,Option.getD_some,Array.any_eq_true'] at hw
   obtain⟨e,q,k⟩:=hw;rw [Bool.and_eq_true,Bool.or_eq_true,beq_iff_eq] at k
   have m:=hd a b e q k.1;rcases k.2 with c | c
   ·rw [<- c];exact m
   ·exact mp h f e.on c (fun n p o d g=>h e.on n p m o d g)
def KW (b:Region.Mode) (a:Array Oper) (L:Nat->Bool) (i:Nat):Bool:=(List.range a.size).all fun j=>!L j||vU b a 6 j i
theorem KX {i j:Nat} {l:Array Bool} (h:KW md ops L i=true) (hc:Closed md ops l) (hi:i ∈ Region.ready md ops l) (m:j ∈ Region.ready md ops l):L j=false:=by
 cases p:L j with
 | false=>rfl
 | true=>
  obtain⟨_,q,b,a⟩:=mem_ready.1 m;have k:=List.all_eq_true.1 h j (List.mem_range.2 (Array.getElem?_eq_some_iff.1 b).1)
  rw [p] at k
  have c:=mp hc 6 j (by simpa using k) (fun r g e n o=>by
   rw [b] at g
   obtain rfl:=Option.some.inj g;exact a e n o)
  have f:=(mem_ready.1 hi).1;rcases Nat.lt_or_ge i l.size with d | d
  ·simp [d] at f c;rw [f] at c;cases c
  ·simp [Array.getElem?_eq_none d] at c
theorem Cc {i:Nat} {p:Oper} {v:Value} (hi:ops[i]? =some p) (I:Region.noSelect ops=true) (X:KW md ops L i=true) (K:∀ c a w,Q (.panic c) (a.put p.dst v) w->Q (.panic c) a w) :
  ∀ (f:Nat) (l:Array Bool) (a:Act) (w:World),Closed md ops l->(∀ j m,ops[j]? =some m->j≠i->l.getD j true=false->(∀ e ∈ m.after,Region.binds md e=true->e.on≠i)->p.apart ops m=true)->
   i ∈ Region.ready md ops l->YieldsIf P ops S p v a->S w->sx P md ops Q S L f (l.setIfInBounds i true) (a.put p.dst v) w->sx P md ops Q S L (f+1) l a w:=by
 intro f
 induction f with
 | zero=>
  intro l a w _ _ g z s H;refine⟨fun h=>(by rw [h] at g;cases g),fun j o=>?_⟩
  by_cases c:j=i
  ·subst c;exact z.wpOp hi s ⟨fun _=>s,H⟩
  ·have:=ready_mono o c;rw [H.1] at this;cases this
 | succ f N=>
  intro l a w t d g z s H;refine⟨fun h=>(by rw [h] at g;cases g),fun j o=>?_⟩
  by_cases c:j=i
  ·subst c;exact z.wpOp hi s ⟨fun _=>s,H⟩
  ·obtain⟨r,m,n,q⟩:=mem_ready.1 o;have E:∀ e ∈ m.after,Region.binds md e=true->e.on≠i:=fun e Y R D=>by
    have u:=q e Y R;have G:=(mem_ready.1 g).1;rw [D] at u
    rcases Nat.lt_or_ge i l.size with F | F
    ·simp [F] at G u;rw [G] at u;cases u
    ·simp [Array.getElem?_eq_none F] at u
   have x:L j=false:=KX X t g o;have M:=wpOp_putIf n (d j m n c r E) (fun C b=>Region.noSelect_spec I i p C b hi) (fun C b=>Region.noSelect_spec I j m C b n) K z (H.2 j (ready_mono o c))
   refine wpOp_mono (fun W T A=>⟨fun _=>A.2.1 x,N (l.setIfInBounds j true) W T (Cb t o) (fun k U O B J V=>d k U O B ?_ V) (ready_mono g (Ne.symm c)) A.1 (A.2.1 x) ?_⟩) M
   ·by_cases y:j=k
    ·subst y;exact r
    ·rw [getD_set_ne true y] at J;exact J
   ·rw [Array.setIfInBounds_comm _ _ c];exact A.2.2
theorem gU (i:Nat) {b:Oper} (v:Value) {f:Nat} {l:Array Bool} {a:Act} {w:World} (hi:ops[i]? =some b) (n:Region.noSelect ops=true) (o:KW md ops L i=true) (hc:Dw md ops l=true) (k:Region.free md ops l i=true) (m:(Region.ready md ops l).contains i=true)
  (d:∀ c a w,Q (.panic c) (a.put b.dst v) w->Q (.panic c) a w) (g:Region.wanted b (yielded ops a.tmps)=true) (e:S w) (j:∀ w,S w->(execOp a.eval b).run P w=.ok (.value v) w)
  (h:sx P md ops Q S L f (l.setIfInBounds i true) (a.put b.dst v) w):sx P md ops Q S L (f+1) l a w:=
 Cc hi n o d f l a w (Gb hc) (Region.free_spec hi k) (by simpa using m) (Or.inl ⟨g,j⟩) e h
theorem jy {i:Nat} {f:Nat} {l:Array Bool} {a:Act} {w:World} (d:Region.ready md ops l=[i])
  (e:wpOp P ops Q i (fun a' c=>(L i=false->S c)/\sx P md ops Q S L f (l.setIfInBounds i true) a' c) a w):sx P md ops Q S L (f+1) l a w:=
 ⟨fun h=>(by rw [d] at h;cases h),fun k b=>by
  rw [d] at b
  rcases List.mem_cons.1 b with rfl | b
  ·exact e
  ·cases b⟩
theorem Gc {f:Nat} {l:Array Bool} {a:Act} {w:World} (b:Region.ready md ops l=[]) (h:Q .normal a w):sx P md ops Q S L f l a w:=by
 cases f with
 | zero=>exact⟨b,h⟩
 | succ f=>exact⟨fun _=>h,by rw [b];simp⟩
theorem ry {id:Nat} {a:Act} {w:World} (S:World->Prop) (L:Nat->Bool) (b:P.follows .mixedOrders=true)
  (h:sx P .any ops Q S L ops.size (Array.replicate ops.size false) a w.drew):(Code.region id ops true).wp P Q a w:=
 wp_region_any b (zI _ _ _ _ h)
theorem Dr (n lo hi:Int) (w:World) :
  Calls Tryz.prog 175 #[.int .i64 n,.int .i64 lo,.int .i64 hi] w fun e a=>e=.returned (.bool (decide (lo<=n/\n<=hi)))/\a=w:=by
 by_cases c:lo<=n<;>by_cases b:n<=hi
 all_goals
  first | rw [decide_eq_true (⟨c,b⟩:lo<=n/\n<=hi)] | rw [decide_eq_false (fun h:lo<=n/\n<=hi=>by omega)]
  go_enter Tryz.func175,Tryz.ntmps175
  go_wp2
  go_ret
  exact⟨rfl,rfl⟩
theorem JT (n:Int) (w:World) :
  Calls Tryz.prog 177 #[.int .i64 n] w fun e a=>e=.returned (.bool (decide (1<=n/\n<=8)))/\a=w:=by
 have H:=hideS fun w=>Dr n 1 8 w
 generalize decide (1<=n/\n<=8)=b at *
 go_enter Tryz.func177,Tryz.ntmps177
 go_wp2_with (go_at_call 175;refine (H.out _).mono ?_;rintro e a ⟨rfl,rfl⟩)
 go_ret
 exact⟨rfl,rfl⟩
theorem JU (x:Nat) (w:World) (d:U64 x) :
  Calls Tryz.prog 176 #[.float .f64 x] w fun e c=>e=.returned (.bool (aM x))/\c=w:=by
 have f:=hideS fun w=>be x w d
 cases a:ah (x:Int)
 ·rw [a] at f
  have g:=hideS fun w=>iF x _ w d (qs a)
  generalize aM x=b at *
  clear a d;cases b
  all_goals
   go_enter Tryz.func176,Tryz.ntmps176
   go_wp2_with fail
   refine (f.out _).mono ?_
   rintro e c ⟨rfl,rfl⟩
   go_wp2_with fail
   refine (g.out _).mono ?_
   rintro e c ⟨rfl,rfl⟩
   go_wp2_with fail
   go_ret
   exact⟨rfl,rfl⟩
 ·rw [a] at f
  rw [oH a];clear a d
  go_enter Tryz.func176,Tryz.ntmps176
  go_wp2_with fail
  refine (f.out _).mono ?_
  rintro e c ⟨rfl,rfl⟩
  go_wp2_with fail
  go_ret
  exact⟨rfl,rfl⟩
def fL (f:Flw):Int:=if ¬ (0<=f.day/\f.day<=109572) then 51 else if aM f.am=false then 91 else if ¬ (1<=f.cur/\f.cur<=8) then 140 else 0
inductive ChkF (l:List Flw):Int->Int->Prop
 | many (h:4096<l.length):ChkF l 81 0
 | fine (hl:l.length<=4096) (h:∀ i<l.length,fL (l.getD i aD)=0):ChkF l 0 0
 | bad (hl:l.length<=4096) (k:Nat) (hk:k<l.length) (e:Int) (he:fL (l.getD k aD)=e) (h0:e≠0) (h:∀ i<k,fL (l.getD i aD)=0):ChkF l e k
theorem chkF_from (l:List Flw):∀ n,(∀ i<n,fL (l.getD i aD)=0)\/∃ k<n,fL (l.getD k aD)≠0/\∀ i<k,fL (l.getD i aD)=0
 | 0=>Or.inl (fun i hi=>by omega)
 | n+1=>by
  rcases chkF_from l n with h | ⟨k,b,a,h⟩
  ·by_cases c:fL (l.getD n aD)=0
   ·refine Or.inl (fun i hi=>?_)
    by_cases d:i<n
    ·exact h i d
    ·obtain rfl:i=n:=by omega
     exact c
   ·exact Or.inr ⟨n,by omega,c,h⟩
  ·exact Or.inr ⟨k,by omega,a,h⟩
theorem vG (l:List Flw):∃ e k,ChkF l e k:=by
 by_cases b:4096<l.length
 ·exact⟨_,_,.many b⟩
 ·rcases chkF_from l l.length with h | ⟨k,c,a,h⟩
  ·exact⟨0,0,.fine (by omega) h⟩
  ·exact⟨_,_,.bad (by omega) k c _ rfl a h⟩
theorem aO {l:List Flw} {e n k d:Int} (h:ChkF l e k) (b:ChkF l n d):e=n/\k=d:=by
 cases h with
 | many h=>cases b with
  | many _=>exact⟨rfl,rfl⟩
  | fine i _=>omega
  | bad i=>omega
 | fine i h=>cases b with
  | many b=>omega
  | fine _ _=>exact⟨rfl,rfl⟩
  | bad _ d g _ a f _=>exact absurd (a.symm.trans (h d g)) f
 | bad i k o _ j m h=>cases b with
  | many b=>omega
  | fine _ b=>exact absurd (j.symm.trans (b k o)) m
  | bad _ d g _ a f b=>
   rcases Nat.lt_trichotomy k d with c | c | c
   ·exact absurd (j.symm.trans (b k c)) m
   ·subst c;exact⟨j.symm.trans a,rfl⟩
   ·exact absurd (a.symm.trans (h d c)) f
def eu (l:List Flw):Prop:=∀ i,(l.getD i aD).am<18446744073709551616
theorem kO {w:World} {g o:Nat} {cs:Array Value} {t:TypeId} (v:Value) (h:w.heap[g]? =some (.cells cs t (0,0))):(w.setCell ⟨g,o,none⟩ v).heap[g]? =some (.cells (cs.setIfInBounds o v) t (0,0)):=by
 rw [Go.Sort.setCell_eq];simp [Go.Sort.mapBlock,Array.getElem?_modify,h,Go.Sort.onCells]
theorem tG (a:Addr) (x:Nat) (m:Mode) (w:World):(store a (.float .f64 x) m).run Tryz.prog w=stored Tryz.prog w a (.float .f64 x) m:=run_store Tryz.prog w a _ m rfl
def ew:Obj:=.cells #[.int .i64 0,.float .f64 0,.int .i64 0] 51
def Fy (w:World) (g:Nat) (f:Flw):World:=((w.setCell ⟨g,0,none⟩ (.int .i64 f.day)).setCell ⟨g,1,none⟩ (.float .f64 f.am)).setCell ⟨g,2,none⟩ (.int .i64 f.cur)
theorem nO (w:World):((w.alloc ew).cell? ⟨w.heap.size,0,none⟩=some (.int .i64 0)/\(w.alloc ew).cell? ⟨w.heap.size,1,none⟩=some (.float .f64 0)/\(w.alloc ew).cell? ⟨w.heap.size,2,none⟩=some (.int .i64 0))/\∀ i,(w.alloc ew).frozen? ⟨w.heap.size,i,none⟩=false:=by
 have h:=heap_alloc_new w ew;unfold ew at h
 refine⟨⟨by unfold ew;simp,by unfold ew;simp,by unfold ew;simp⟩,fun i=>frozen_of_row _ _ i _ _ h⟩
structure FBx (w:World) (f:Flw) (wr:World):Prop where
 t0:wr.cell? ⟨w.heap.size,0,none⟩=some (.int .i64 f.day)
 t1:wr.cell? ⟨w.heap.size,1,none⟩=some (.float .f64 f.am)
 t2:wr.cell? ⟨w.heap.size,2,none⟩=some (.int .i64 f.cur)
 fz:∀ i,wr.frozen? ⟨w.heap.size,i,none⟩=false
 bl:Below w.heap.size w wr
 lt:w.heap.size<wr.heap.size
theorem FBx.step {w wr b:World} {f:Flw} (h:FBx w f wr) (a:Below wr.heap.size wr b):FBx w f b:=
 ⟨(a.cell (p:=⟨w.heap.size,0,none⟩) h.lt).trans h.t0,(a.cell (p:=⟨w.heap.size,1,none⟩) h.lt).trans h.t1,(a.cell (p:=⟨w.heap.size,2,none⟩) h.lt).trans h.t2,fun i=>(a.frozen (p:=⟨w.heap.size,i,none⟩) h.lt).trans (h.fz i),h.bl.trans (a.mono h.bl.size),Nat.lt_of_lt_of_le h.lt a.size⟩
theorem JV {w wr:World} {f:Flw} (h:wr.heap[w.heap.size]? =some (.cells #[.int .i64 f.day,.float .f64 f.am,.int .i64 f.cur] 51)) (a:Below w.heap.size w wr):FBx w f wr:=by
 refine⟨?_,?_,?_,fun i=>frozen_of_row _ _ i _ _ h,a,(Array.getElem?_eq_some_iff.1 h).1⟩
 all_goals
  simp only [World.cell?,h,Option.isSome_none,Bool.false_eq_true,if_false]
  rfl
theorem JW (w:World) (f:Flw):(Fy (w.alloc ew) w.heap.size f).heap[w.heap.size]? =some (.cells #[.int .i64 f.day,.float .f64 f.am,.int .i64 f.cur] 51):=by
 have h:=heap_alloc_new w ew;unfold ew at h
 exact kO _ (kO _ (kO _ h))
theorem yR (w:World) (f:Flw):FBx w f (Fy (w.alloc ew) w.heap.size f):=
 JV (JW w f) ((((Below.refl _ w).alloc (Nat.le_refl _) _).setCell (p:=⟨w.heap.size,0,none⟩) (Nat.le_refl _) _).setCell (p:=⟨w.heap.size,1,none⟩) (Nat.le_refl _) _ |>.setCell (p:=⟨w.heap.size,2,none⟩) (Nat.le_refl _) _)
theorem Ps (w:World) (f:Flw):FBx w f (w.alloc (.cells #[.int .i64 f.day,.float .f64 f.am,.int .i64 f.cur] 51)):=
 JV (heap_alloc_new w _) ((Below.refl _ _).alloc (Nat.le_refl _) _)
theorem JX (f:Flw) (w:World) (p:f.am<18446744073709551616) :
  Calls Tryz.prog 159 #[.agg #[.int .i64 f.day,.float .f64 f.am,.int .i64 f.cur]] w fun e c=>e=.returned (.int .i64 (fL f))/\Below w.heap.size w c:=by
 obtain⟨day,m,cur⟩:=f;have n:=hideS (Ps w ⟨day,m,cur⟩);have g:=hideS fun l=>Dr day 0 109572 l
 have h:=hideS fun l=>JU m l (by unfold U64;dsimp only at p;omega)
 have i:=hideS fun l=>JT cur l
 obtain⟨E,o⟩:∃ E,fL ⟨day,m,cur⟩=E:=⟨_,rfl⟩;have b:Hid ((if ¬ (0<=day/\day<=109572) then 51 else if aM m=false then 91 else if ¬ (1<=cur/\cur<=8) then 140 else 0)=E):=o
 rw [o];clear o p;dsimp only at *
 by_cases d:0<=day/\day<=109572
 ·rw [decide_eq_true d] at g
  rw [if_neg (not_not_intro d)] at b
  cases k:aM m
  ·rw [k] at h b
   have a:Hid (E=91):=b.out.symm;rw [a.out];clear b a i d k
   go_enter Tryz.func159,Tryz.ntmps159
   go_wp2_with (first | (go_at_call 175;refine (g.out _).mono ?_;rintro e c ⟨rfl,rfl⟩) | (go_at_call 176;refine (h.out _).mono ?_;rintro e c ⟨rfl,rfl⟩))
   go_ret
   exact⟨rfl,n.out.bl⟩
  ·rw [k] at h b
   rw [if_neg (by simp)] at b
   by_cases j:1<=cur/\cur<=8
   ·rw [decide_eq_true j] at i
    have a:Hid (E=0):=by have:=b.out;rw [if_neg (not_not_intro j)] at this;exact this.symm
    rw [a.out];clear b a d k j
    go_enter Tryz.func159,Tryz.ntmps159
    go_wp2_with (first | (go_at_call 175;refine (g.out _).mono ?_;rintro e c ⟨rfl,rfl⟩) | (go_at_call 176;refine (h.out _).mono ?_;rintro e c ⟨rfl,rfl⟩) | (go_at_call 177;refine (i.out _).mono ?_;rintro e c ⟨rfl,rfl⟩))
    go_ret
    exact⟨rfl,n.out.bl⟩
   ·rw [decide_eq_false j] at i
    have a:Hid (E=140):=by have:=b.out;rw [if_pos j] at this;exact this.symm
    rw [a.out];clear b a d k j
    go_enter Tryz.func159,Tryz.ntmps159
    go_wp2_with (first | (go_at_call 175;refine (g.out _).mono ?_;rintro e c ⟨rfl,rfl⟩) | (go_at_call 176;refine (h.out _).mono ?_;rintro e c ⟨rfl,rfl⟩) | (go_at_call 177;refine (i.out _).mono ?_;rintro e c ⟨rfl,rfl⟩))
    go_ret
    exact⟨rfl,n.out.bl⟩
 ·rw [decide_eq_false d] at g
  have a:Hid (E=51):=by have:=b.out;rw [if_pos d] at this;exact this.symm
  rw [a.out];clear b a i h d
  go_enter Tryz.func159,Tryz.ntmps159
  go_wp2_with (go_at_call 175;refine (g.out _).mono ?_;rintro e c ⟨rfl,rfl⟩)
  go_ret
  exact⟨rfl,n.out.bl⟩
theorem BB (l:List Flw) (p:Option Addr) (b off c N:Nat) (E K:Int) (w:World) (C:JSrc aF w p b off l) (P:l.length=N) (hc:N<=9223372036854775807) (J:eu l) (B:ChkF l E K) :
  Calls Tryz.prog 125 #[.slice p N c] w fun e w'=>e=.returned (.tuple #[.int .i64 E,.int .i64 K])/\Below w.heap.size w w':=by
 have y:=hideS P;have U:=hideS B;have HQ:=hideS C;have HF:=hideS J
 by_cases hm:4096<N
 ·obtain⟨rfl,rfl⟩:=aO B (.many (by omega))
  clear B C P J
  go_enter Tryz.func125,Tryz.ntmps125
  go_wp2
  go_ret2
  exact⟨rfl,Below.refl _ _⟩
 ·have Y:Hid (0<N->p=some ⟨b,off,none⟩):=fun h=>C.at_ (by omega)
  clear B C P J
  go_enter Tryz.func125,Tryz.ntmps125
  go_wp2_with fail
  go_loopw [12] (fun i wr=>∃ k:Nat,k<=N/\i=.int .i64 k/\Hid (∀ j<k,fL (l.getD j aD)=0)/\Hid (Below w.heap.size w wr)) (fun i _=>N - (intOf i).toNat)
  case atStart=>exact⟨0,Nat.zero_le _,rfl,fun j X=>by omega,Below.refl _ _⟩
  case round=>
   obtain⟨k,hk,rfl,o,t⟩:=hrel
   by_cases v:k<N
   ·obtain rfl:=Y.out (by omega)
    obtain⟨c0,c1,c2⟩:=(HQ.out.below t.out).cell k (by rw [y.out];exact v)
    have m:=hideS fun wx=>JX (l.getD k aD) wx (HF.out k)
    obtain⟨F,hF⟩:∃ F,fL (l.getD k aD)=F:=⟨_,rfl⟩;rw [hF] at m
    have A:=hideS hF;have a:=hideS (yR wr (l.getD k aD));obtain⟨⟨R,G,H⟩,fz⟩:=nO wr;have S:=fz 0;have L:=fz 1;have O:=fz 2;clear fz hF;obtain⟨q,T⟩:∃ q,l.getD k aD=q:=⟨_,rfl⟩;rw [T] at m a c0 c1 c2
    clear T;obtain⟨W,qa,qc⟩:=q;dsimp only [aF] at *
    obtain⟨I,n⟩:∃ I,wr.alloc ew=I:=⟨_,rfl⟩;rw [n] at R G H S L O a
    unfold ew at n
    obtain⟨V,f⟩:∃ V,Fy I wr.heap.size ⟨W,qa,qc⟩=V:=⟨_,rfl⟩;rw [f] at a
    unfold Fy at f
    dsimp only at f
    have M:=a.out.t0;have D:=a.out.t1;have Q:=a.out.t2;dsimp only at M D Q
    have u:=tG
    by_cases x:F=0
    ·have z:Hid (∀ j<k+1,fL (l.getD j aD)=0):=fun j X=>by
      by_cases c:j<k
      ·exact o.out j c
      ·obtain rfl:j=k:=by omega
       rw [A.out];exact x
     subst x
     go_wp2_with fail
     clear u n f R G H S L O M D Q;refine (m.out _).mono ?_
     rintro e Z ⟨rfl,g⟩;have s:=hideS (t.out.trans ((a.out.step g).bl.mono t.out.size));clear g c0 c1 c2
     go_wp2_with fail
     go_roundw
     case rel=>exact⟨k+1,by omega,by simp,z,s⟩
     case measure=>simp [intOf];omega
    ·have d:F=E/\(k:Int)=K:=aO (.bad (by rw [y.out];omega) k (by rw [y.out];exact v) F A.out x o.out) U.out
     have r:=hideS d;have d7:(F !=0)=true:=bne_iff_ne.2 x;clear x d
     go_wp2_with fail
     clear u n f R G H S L O M D Q;refine (m.out _).mono ?_
     rintro e Z ⟨rfl,g⟩;have s:=hideS (t.out.trans ((a.out.step g).bl.mono t.out.size));clear g
     go_wp2_with fail
     go_ret2
     obtain⟨rfl,rfl⟩:=r.out;exact⟨rfl,s.out⟩
   ·obtain rfl:k=N:=by omega
    have d:(0:Int)=E/\(0:Int)=K:=aO (.fine (by rw [y.out];omega) (by rw [y.out];exact o.out)) U.out
    have r:=hideS d;clear d
    go_wp2_with fail
    go_ret2
    obtain⟨rfl,rfl⟩:=r.out;exact⟨rfl,t.out⟩
def nj (g:Flw->Flw) (l:List Flw) (k:Nat):List Flw:=(List.range k).map fun i=>g (l.getD i aD)
theorem Ln (g:Flw->Flw) (l:List Flw) (k:Nat):(nj g l k).length=k:=by unfold nj;simp
theorem Gs (g:Flw->Flw) (l:List Flw) (k:Nat):nj g l (k+1)=nj g l k++[g (l.getD k aD)]:=by unfold nj;rw [List.range_succ,List.map_append];rfl
theorem Lo (g:Flw->Flw) (l:List Flw):nj g l l.length=l.map g:=by
 apply List.ext_getElem
 ·simp [nj]
 ·intro i b a;have:i<l.length:=by simpa using a
  simp [nj,List.getD,this]
def ka (R j d:Nat):Nat:=R / 2^(32*(j+1))*2^(32*(j+1))+d*2^(32*j)+R % 2^(32*j)
theorem pu (R j d:Nat):ka R j d+dgt R j*2^(32*j)=R+d*2^(32*j):=by
 unfold ka;have a:=Nat.div_add_mod R (2^(32*(j+1)));have b:=fj R j;rw [Nat.mul_comm] at a
 omega
theorem Ov (R j d:Nat) (a:d<4294967296):d*2^(32*j)+R % 2^(32*j)<2^(32*(j+1)):=by
 have c:R % 2^(32*j)<2^(32*j):=Nat.mod_lt _ (Nat.two_pow_pos _);have b:(d+1)*2^(32*j)<=4294967296*2^(32*j):=Nat.mul_le_mul_right _ a;rw [Nat.add_mul,Nat.one_mul] at b
 rw [gr,Nat.mul_comm (2^(32*j))];omega
theorem pw (R j d:Nat) (a:d<4294967296):ka R j d / 2^(32*(j+1))=R / 2^(32*(j+1)):=by
 unfold ka;rw [Nat.add_assoc,Nat.add_comm,Nat.add_mul_div_right _ _ (Nat.two_pow_pos _),Nat.div_eq_of_lt (Ov R j d a),Nat.zero_add]
theorem LN {R j d T:Nat} (a:R<2^(32*T)) (c:j<T) (b:d<4294967296):ka R j d<2^(32*T):=by
 have e:(2:Nat)^(32*T)=2^(32*(T - (j+1)))*2^(32*(j+1)):=by rw [<- Nat.pow_add];congr 1;omega
 rw [e] at a ⊢
 rw [<- Nat.div_lt_iff_lt_mul (Nat.two_pow_pos _)] at a ⊢
 rw [pw R j d b];exact a
theorem LO {R S j i:Nat} (h:R / 2^(32*(j+1))=S / 2^(32*(j+1))) (hi:j<i):dgt R i=dgt S i:=by
 unfold dgt;have e:(2:Nat)^(32*i)=2^(32*(j+1))*2^(32*(i - (j+1))):=by rw [<- Nat.pow_add];congr 1;omega
 rw [e,<- Nat.div_div_eq_div_mul,<- Nat.div_div_eq_div_mul,h]
theorem GZ (R j d i:Nat) (b:d<4294967296):dgt (ka R j d) i=if i=j then d else dgt R i:=by
 have c:=Nat.two_pow_pos (32*j)
 by_cases h:i=j
 ·subst h;rw [if_pos rfl];have a:=div_step (ka R i d) i;rw [pw R i d b] at a
  have k:ka R i d / 2^(32*i)=R / 2^(32*(i+1))*4294967296+d:=by
   unfold ka;generalize R / 2^(32*(i+1))=q;have e:q*2^(32*(i+1))+d*2^(32*i)=(q*4294967296+d)*2^(32*i):=by rw [gr,Nat.add_mul,Nat.mul_assoc,Nat.mul_comm 4294967296]
   rw [e,Nat.add_comm,Nat.add_mul_div_right _ _ c,Nat.div_eq_of_lt (Nat.mod_lt _ c),Nat.zero_add]
  omega
 ·rw [if_neg h];rcases Nat.lt_or_gt_of_ne h with a | a
  ·have f:=CF (ka R j d) j i;have g:=CF R j i;rw [if_pos a] at f g
   rw [<- f,<- g]
   congr 1
   unfold ka;rw [gr,Nat.mul_comm (2^(32*j)) 4294967296,<- Nat.mul_assoc,<- Nat.add_mul,Nat.mul_add_mod',Nat.mod_mod]
  ·exact LO (pw R j d b) a
theorem Own.put {w:World} {b n R j d:Nat} {x:Int} (h:Own w b n R) (e:x=(d:Int)) (a:d<4294967296):Own (w.setCell ⟨b,j,none⟩ (.int .u64 x)) b n (ka R j d):=by
 refine (h.set j (.int .u64 x)).congr fun i _=>?_
 rw [GZ R j d i a]
 by_cases c:i=j
 ·rw [if_pos c,if_pos c,e]
 ·rw [if_neg c,if_neg c]
theorem DZ {M B R i k a b c o s:Nat} (n:R+c*2^(32*(i+k))=M+a*(B % 2^(32*k))*2^(32*i)) (g:b=dgt B k) (h:o=dgt R (i+k)) (e:s=o+a*b+c) :
  ka R (i+k) (s % 4294967296)+s / 4294967296*2^(32*(i+(k+1)))=M+a*(B % 2^(32*(k+1)))*2^(32*i):=by
 have d:=pu R (i+k) (s % 4294967296);rw [<- h] at d
 rw [show i+(k+1)=i+k+1 by omega,gr,fj,<- g,Nat.mul_add a,Nat.add_mul (a*_)]
 have f:a*(b*2^(32*k))*2^(32*i)=a*b*2^(32*(i+k)):=by
  rw [<- Nat.mul_assoc,Nat.mul_assoc,<- Nat.pow_add];congr 2;omega
 rw [f];generalize 2^(32*(i+k))=W at *
 have p:s / 4294967296*(W*4294967296)+s % 4294967296*W=s*W:=by
  rw [Nat.mul_comm W,<- Nat.mul_assoc,<- Nat.add_mul,Nat.div_add_mod']
 have q:s*W=o*W+a*b*W+c*W:=by rw [e,Nat.add_mul,Nat.add_mul]
 generalize s / 4294967296*(W*4294967296)=j at *
 generalize s % 4294967296*W=u at *
 generalize s*W=m at *
 generalize o*W=l at *
 generalize a*b*W=r at *
 generalize c*W=t at *
 generalize a*(B % 2^(32*k))*2^(32*i)=v at *
 omega
theorem Ea {o a b c:Nat} (d:o<4294967296) (e:a<4294967296) (f:b<4294967296) (hc:c<4294967296):a*b<=18446744065119617025/\o+a*b+c<18446744073709551616:=by
 have:a*b<=4294967295*4294967295:=Nat.mul_le_mul (by omega) (by omega)
 omega
theorem CH {A B R i n a c:Nat} (e:R+c*2^(32*(i+n))=(A % 2^(32*i))*B+a*(B % 2^(32*n))*2^(32*i)) (f:B<2^(32*n)) (g:a=dgt A i) (b:R<2^(32*(i+n))) :
  ka R (i+n) c=(A % 2^(32*(i+1)))*B:=by
 have d:=pu R (i+n) c;rw [mw b,Nat.zero_mul] at d
 rw [Nat.mod_eq_of_lt f] at e
 rw [fj,Nat.add_mul,<- g];have:a*B*2^(32*i)=a*2^(32*i)*B:=by rw [Nat.mul_assoc,Nat.mul_comm B,Nat.mul_assoc]
 omega
theorem CI {A B m n:Nat} (b:A<2^(32*m)) (a:B<2^(32*n)):A*B<2^(32*(m+n)):=by
 rw [Nat.mul_add,Nat.pow_add];exact Nat.mul_lt_mul'' b a
theorem rZ (g f c d m n A B:Nat) (w:World) (C:Hid (RowIs w g m A)) (H:Hid (RowIs w f n B)) (W:g<w.heap.size) (hf:f<w.heap.size) (hm:m<=1000000) (hn:n<=1000000) (S:Hid (A<2^(32*m))) (I:Hid (B<2^(32*n))) :
  Calls Tryz.prog 141 #[.slice (some ⟨g,0,none⟩) m c,.slice (some ⟨f,0,none⟩) n d] w fun e M=>∃ v,e=.returned v/\DN M v (A*B)/\From w.heap.size v/\Below w.heap.size w M:=by
 have E:=fun w=>run_make_row' (P:=Tryz.prog) 33 41 (.int .u64 0) 8 Tryz.underlying33 dT rfl .i64 .i64 (m+n+1) (by omega) (by omega) w
 have U:((m+n+1:Nat):Int)=(m:Int)+(n:Int)+1:=by omega
 rw [U] at E
 clear U;have HO:=aa (oY w (m+n+1))
 go_enter Tryz.func141,Tryz.ntmps141
 go_wp2_with fail
 go_loopg [6] m (fun O i wr=>∃ k:Nat,k<=m/\O=m - k/\i=.int .i64 k/\Hid (Own wr w.heap.size (m+n+1) ((A % 2^(32*k))*B))/\Hid (Below w.heap.size w wr))
 case atStart=>exact⟨0,Nat.zero_le _,by omega,rfl,by rw [Nat.mul_zero,Nat.pow_zero,Nat.mod_one,Nat.zero_mul];exact HO,(Below.refl _ _).alloc (Nat.le_refl _) _⟩
 case round=>
  clear HO E;obtain⟨i,hi,rfl,rfl,h,j⟩:=hrel
  by_cases u:i<m
  ·have r:=(j.out.cell (p:=⟨g,i,none⟩) W).trans (C.out i u);have D:=aa (C.out i u);have ba:=bw A i;have HM:Hid ((A % 2^(32*i))*B<2^(32*(i+n))):=CI (Nat.mod_lt _ (Nat.two_pow_pos _)) I.out;have HE:=aa fun R a c (L:a=dgt A i)=>CH (A:=A) (B:=B) (R:=R) (i:=i) (n:=n) (a:=a) (c:=c)
   generalize L:dgt A i=a at r D ba
   have K:=aa L.symm;clear L
   go_wp2_with fail
   go_loopg [7,8] n (fun O s kk t=>∃ k x R:Nat,k<=n/\O=n - k/\kk=.int .i64 k/\s=.int .u64 x/\x<4294967296/\Hid (R+x*2^(32*(i+k))=(A % 2^(32*i))*B+a*(B % 2^(32*k))*2^(32*i))/\Hid (R<2^(32*(i+n)))/\Hid (Own t w.heap.size (m+n+1) R)/\Hid (Below w.heap.size w t))
   case atStart=>exact⟨0,0,_,Nat.zero_le _,by omega,rfl,rfl,by omega,by show _=_;rw [Nat.mul_zero 32,Nat.pow_zero,Nat.mod_one,Nat.zero_mul,Nat.mul_zero,Nat.zero_mul],HM,h,j⟩
   case round=>
    clear h j HM r;obtain⟨k,x,R,hk,rfl,rfl,rfl,T,HS,N,h,j⟩:=hrel;have r:=(j.out.cell (p:=⟨g,i,none⟩) W).trans D.out
    by_cases l:k<n
    ·have J:=(j.out.cell (p:=⟨f,k,none⟩) hf).trans (H.out k l);have X:=bw B k;have Q:=h.out.cell (i:=i+k) (by omega)
     have Z:=bw R (i+k);have fo:=h.out.frozen (i+k);have q:=aa fun b o s (G:b=dgt B k) (F:o=dgt R (i+k)) (hs:s=o+a*b+x)=>DZ HS.out G F hs
     generalize G:dgt B k=b at J X
     generalize F:dgt R (i+k)=o at Q Z
     have q:=aa (q.out b o _ G.symm F.symm rfl);clear G F;obtain⟨s1,s2⟩:=Ea Z ba X T;have w1:IntKind.u64.wrap ((a:Int)*(b:Int))=((a*b:Nat):Int):=by rw [<- Int.natCast_mul,IntKind.wrap_u64];omega
     generalize a*b=z at w1 s1 s2 q
     have w2:IntKind.u64.wrap ((o:Int)+(z:Int))=(o:Int)+(z:Int):=by rw [IntKind.wrap_u64];omega
     have w3:IntKind.u64.wrap ((o:Int)+(z:Int)+(x:Int))=((o+z+x:Nat):Int):=by rw [IntKind.wrap_u64];omega
     generalize o+z+x=s at w3 s2 q
     have w4:IntKind.i64.wrap ((i:Int)+(k:Int))=(i:Int)+(k:Int):=by rw [IntKind.wrap_i64];omega
     have tn:((i:Int)+(k:Int)).toNat=i+k:=by omega
     have nn:(0:Int)<=(i:Int)+(k:Int):=by omega
     have nm:(i:Int)+(k:Int)<((m+n+1:Nat):Int):=by omega
     go_wp2_with fail
     go_quiet (fail)
     go_wp2_with fail
     go_roundg (n - (k+1))
     case measure=>omega
     case rel=>
      exact⟨k+1,s / 4294967296,ka R (i+k) (s % 4294967296),by omega,rfl,by go_num,by go_num,by omega,q.out,LN N.out (by omega) (by omega),Own.put (w:=wr.drewN nq) h.out (by omega) (by omega),(below_drewN j.out _).setCell (Nat.le_refl _) _⟩
    ·obtain rfl:k=n:=by omega
     have Q:=h.out.cell (i:=i+k) (by omega)
     have fo:=h.out.frozen (i+k);have Y:dgt R (i+k)=0:=mw N.out;rw [Y] at Q
     have y:=aa (CH HS.out I.out K.out N.out);clear Y
     go_wp2_with fail
     go_roundg (m - (i+1))
     case measure=>omega
     case rel=>
      refine⟨i+1,by omega,rfl,by go_num,?_,j.out.setCell (Nat.le_refl _) _⟩
      rw [<- y.out];exact Own.put h.out (by omega) T
  ·obtain rfl:i=m:=by omega
   have e:A % 2^(32*i)=A:=Nat.mod_eq_of_lt S.out;rw [e] at h
   clear e;have V:Hid (A*B<2^(32*(i+n+1))):=Nat.lt_of_lt_of_le (CI S.out I.out) (Nat.pow_le_pow_right (by decide) (by omega))
   have l:=h.out.lt;have HD:=aa (nv h.out.row V.out (Nat.le_refl _) l)
   go_wp2_with fail
   refine (dq _ _ _ _ _ h.out.row V.out (Nat.le_refl _) (by omega)).mono ?_
   rintro e M ⟨rfl,rfl⟩
   go_wp2_with fail
   go_ret
   exact⟨_,rfl,HD.out,gX _ _ _ _ (Nat.le_refl _),j.out⟩
theorem Ha (nx a:Bool) (X Y:Nat):sg (nx !=a) (X*Y)=sg nx X*sg a Y:=by
 cases nx<;>cases a<;>simp [sg,Int.natCast_mul,Int.neg_mul,Int.mul_neg]
theorem uD {w:World} {B:Nat} {nx k:Bool} {l m:Value} {ex ey:Int} (h:Six w B nx l ex k m ey) (i:Nat) (x:Value):Six (w.setCell ⟨B+1+1,i,none⟩ x) B nx l ex k m ey:=by
 obtain⟨a,b,c,d,e,f⟩:=h;have j:B+1+1≠B:=by omega
 have g:B+1+1≠B+1:=by omega
 exact⟨(World.cell?_setCell_far w ⟨B+1+1,i,none⟩ ⟨B,0,none⟩ x j).trans a,(World.cell?_setCell_far w ⟨B+1+1,i,none⟩ ⟨B,1,none⟩ x j).trans b,(World.cell?_setCell_far w ⟨B+1+1,i,none⟩ ⟨B,2,none⟩ x j).trans c,(World.cell?_setCell_far w ⟨B+1+1,i,none⟩ ⟨B+1,0,none⟩ x g).trans d,(World.cell?_setCell_far w ⟨B+1+1,i,none⟩ ⟨B+1,1,none⟩ x g).trans e,(World.cell?_setCell_far w ⟨B+1+1,i,none⟩ ⟨B+1,2,none⟩ x g).trans f⟩
theorem Ao (nx f:Bool) (d e:Value) (ex ey:Int) (X Y:Nat) (w:World) (y:DN w d X) (A:DN w e Y) (c:X=0\/Y=0) :
  Calls Tryz.prog 100 #[.agg #[.bool nx,d,.int .i64 ex],.agg #[.bool f,e,.int .i64 ey]] w (fO w (ex+ey) 0):=by
 have g:=aa (dG w nx d ex f e ey);have m:=aa (jJ w nx d ex f e ey);have r:=aa (ll w nx d ex f e ey);have j:=aa (y.below g.out);have o:=aa (A.below g.out);have t:=aa c;clear y A c
 by_cases c:X=0
 ·subst c;clear t
  go_enter Tryz.func100,Tryz.ntmps100
  go_wp2_with fail
  refine (aZ _ _ _ 0 true _ j.out rfl).mono ?_
  rintro x l ⟨rfl,a⟩;have b:Hid (Below (w.heap.size+3) (pbox w nx d ex f e ey) l):=a.mono (by rw [m.out];omega)
  obtain⟨⟨s,q,n⟩,C,B,E⟩:=cM b.out;clear a
  go_wp2_with fail
  exact bodyPost_ret (v:=.agg #[.bool false,.slice none 0 0,.int .i64 0]) (by simp [results,Tryz.results100,go_sem,s,q,n]) rfl (mC b.out rfl)
 ·have D:Y=0:=by
   rcases t.out with h | h
   ·exact absurd h c
   ·exact h
  subst D;have F:=aa c;clear t c
  go_enter Tryz.func100,Tryz.ntmps100
  go_wp2_with fail
  refine (aZ _ _ _ X false _ j.out (decide_eq_false F.out)).mono ?_
  rintro x l ⟨rfl,a⟩;have b:Hid (Below (w.heap.size+3) (pbox w nx d ex f e ey) l):=a.mono (by rw [m.out];omega)
  have u:w.heap.size+3<=l.heap.size:=by have z:=a.size;rw [m.out] at z;exact z
  have p:=aa (o.out.below a);obtain⟨c0,c1,c2,c3,c4,G⟩:=r.out.below a (by rw [m.out];omega)
  clear a
  go_wp2_with fail
  refine (aZ _ _ _ 0 true _ p.out rfl).mono ?_
  rintro x H ⟨rfl,k⟩;have i:=aa (b.out.trans (k.mono u));obtain⟨⟨s,q,n⟩,C,B,E⟩:=cM i.out;clear k c0 c1 c2 c3 c4 G
  go_wp2_with fail
  exact bodyPost_ret (v:=.agg #[.bool false,.slice none 0 0,.int .i64 0]) (by simp [results,Tryz.results100,go_sem,s,q,n]) rfl (mC i.out rfl)
theorem Ap (nx i:Bool) (g f c d:Nat) (ex ey:Int) (m n X Y:Nat) (w:World) (r:X≠0) (p:Y≠0)
  (hX:DN w (.slice (some ⟨g,0,none⟩) m c) X) (hY:DN w (.slice (some ⟨f,0,none⟩) n d) Y) (F:Hid (RowIs w g m X)) (G:Hid (RowIs w f n Y)) (V:g<w.heap.size) (R:f<w.heap.size) (hm:m<=1000000) (hn:n<=1000000) (y:Hid (X<2^(32*m))) (C:Hid (Y<2^(32*n)))
  (he: -10000000<=ex) (ai:ex<=10000000) (al: -10000000<=ey) (ak:ey<=10000000) :
  Calls Tryz.prog 100 #[.agg #[.bool nx,.slice (some ⟨g,0,none⟩) m c,.int .i64 ex],.agg #[.bool i,.slice (some ⟨f,0,none⟩) n d,.int .i64 ey]] w (fO w (ex+ey) (sg nx X*sg i Y)):=by
 have A:=aa fun h (e:Below w.heap.size w h)=>rZ g f c d m n X Y h (F.out.below V e) (G.out.below R e) (Nat.lt_of_lt_of_le V e.size) (Nat.lt_of_lt_of_le R e.size) hm hn y C
 clear F G y C V R;generalize H:Value.slice (some ⟨g,0,none⟩) m c=t at *
 generalize P:Value.slice (some ⟨f,0,none⟩) n d=z at *
 clear H P;have j:=aa (dG w nx t ex i z ey);have W:=aa (jJ w nx t ex i z ey);have I:=aa (ll w nx t ex i z ey);have J:=aa (hX.below j.out);have T:=aa (hY.below j.out);have M:=aa r;have ab:=aa p;have L:IntKind.i64.wrap (ex+ey)=ex+ey:=by rw [IntKind.wrap_i64];omega
 clear hX hY r p
 go_enter Tryz.func100,Tryz.ntmps100
 go_wp2_with fail
 refine (aZ _ _ _ X false _ J.out (decide_eq_false M.out)).mono ?_
 rintro x L ⟨rfl,a⟩;have Q:Hid (Below (w.heap.size+3) (pbox w nx t ex i z ey) L):=a.mono (by rw [W.out];omega)
 have ad:w.heap.size+3<=L.heap.size:=by have K:=a.size;rw [W.out] at K;exact K
 have U:=aa (T.out.below a);have E:=aa (I.out.below a (by rw [W.out];omega))
 obtain⟨c0,c1,c2,c3,c4,c5⟩:=E.out;clear a
 go_wp2_with fail
 refine (aZ _ _ _ Y false _ U.out (decide_eq_false ab.out)).mono ?_
 rintro x Z ⟨rfl,b⟩;have u:=aa (Q.out.trans (b.mono ad));have B:w.heap.size+3<=Z.heap.size:=by have K:=b.size;omega
 have l:=aa (E.out.below b (by omega))
 have O:=aa (j.out.trans (u.out.mono (by omega)))
 clear b c0 c1 c2 c3 c4 c5;obtain⟨c0,c1,c2,c3,c4,c5⟩:=l.out
 go_wp2_with fail
 go_region_held3 (fun h=>h.cell? ⟨w.heap.size,0,none⟩=some (.bool nx)/\h.cell? ⟨w.heap.size,1,none⟩=some t/\h.cell? ⟨w.heap.size,2,none⟩=some (.int .i64 ex)/\h.cell? ⟨w.heap.size+1,0,none⟩=some (.bool i)/\h.cell? ⟨w.heap.size+1,1,none⟩=some z/\h.cell? ⟨w.heap.size+1,2,none⟩=some (.int .i64 ey)) (first | exact l.out | exact q.out | exact uD (uD (uD q.out 0 _) 1 _) 2 _ | go_keep) ((go_at_call 141;refine (A.out _ (O.out.drew)).mono ?_;rintro x w4 ⟨v4,rfl,o,D,k⟩;obtain⟨p4,q4,rfl⟩:=o.form;have s:=aa (u.out.drew.trans (k.mono B));have q:=aa (Six.below (w:=Z.drew) l.out k (show w.heap.size+1<Z.heap.size by omega));obtain⟨⟨r0,r1,r2⟩,f0,f1,f2⟩:=cM s.out;have S:=aa o;have N:=aa (D.mono (show w.heap.size+3<=_ from B));clear o D k))
 all_goals
  go_wp2_with fail
  exact bodyPost_ret (v:=.agg #[.bool _,.slice p4 _ q4,.int .i64 (ex+ey)]) (by simp [results,Tryz.results100,go_sem,r0,r1,r2]) rfl (dH s.out S.out N.out (Ha nx i X Y))
theorem sK (nx a:Bool) (n p:Value) (ex ey:Int) (X Y:Nat) (w:World) (i:DN w n X) (k:DN w p Y) (v:nd X<=1000000) (hn:nd Y<=1000000)
  (z: -10000000<=ex) (s:ex<=10000000) (r: -10000000<=ey) (m:ey<=10000000) :
  Calls Tryz.prog 100 #[.agg #[.bool nx,n,.int .i64 ex],.agg #[.bool a,p,.int .i64 ey]] w (fO w (ex+ey) (sg nx X*sg a Y)):=by
 by_cases b:X=0\/Y=0
 ·have e:sg nx X*sg a Y=0:=by
   rw [<- Ha];rcases b with h | h
   ·rw [h,Nat.zero_mul];cases (nx !=a)<;>rfl
   ·rw [h,Nat.mul_zero];cases (nx !=a)<;>rfl
  rw [e];exact Ao nx a n p ex ey X Y w i k b
 ·have u:=i;have l:=k;rcases i with⟨o,_⟩| ⟨o,g,c,rfl,_,x,q⟩
  ·exact absurd (Or.inl o) b
  ·rcases k with⟨j,_⟩| ⟨j,f,d,rfl,_,y,t⟩
   ·exact absurd (Or.inr j) b
   ·exact Ap nx a g f c d ex ey (nd X) (nd Y) X Y w o j u l q t x y v hn (cZ X) (cZ Y) z s r m
def aY (u:Int):Bool:=szI u==9218868437227405312
theorem aw (u:Int) (w:World) (h:U64 u) :
  Calls Tryz.prog 72 #[.int .u64 u] w fun e a=>e=.returned (.bool (aY u))/\a=w:=by
 have b:=dD h
 go_enter Tryz.func72,Tryz.ntmps72
 go_wp2
 go_ret
 exact⟨rfl,rfl⟩
theorem LZ (u:Int) (w:World) (h:U64 u) (a:szI u=0) :
  Calls Tryz.prog 74 #[.int .u64 u] w fun x b=>∃ v,x=.returned (dU false v 0)/\DN b v 0/\Below w.heap.size w b:=by
 have d:bits .and .u64 u 4503599627370495=0:=by rw [ph h,a];rfl
 have c:bits .and .u64 (u / 4503599627370496) 2047=0:=by
  have:=h.1;have:=h.2;rw [pj (by omega) (by omega)];unfold szI at a;omega
 unfold dU;clear h a
 go_enter Tryz.func74,Tryz.ntmps74
 go_wp2_with fail
 refine bodyPost_ret (v:=.agg #[.bool false,.slice none 0 0,.int .i64 0]) (by simp [results,Tryz.results74,go_sem]) rfl ⟨_,rfl,Or.inl ⟨rfl,_,_,rfl⟩,?_⟩
 exact (Below.refl w.heap.size w).alloc (Nat.le_refl _) _
structure OfR (x:Nat) (neg:Bool) (N:Nat) (e:Int):Prop where
 lt:N<9007199254740992
 lo: -1074<=e
 hi:e<=971
 val:N*2^(e+1074).toNat=aV x
 sgn:N≠0->neg=sB x
 mag:N≠0->N=mg (x % 9223372036854775808)/\e= -1074+(pl (x % 9223372036854775808):Int)
theorem fQ {x:Nat} (h:x<18446744073709551616):sgB (x:Int)=sB x:=by
 unfold sgB sB;rcases (show x / 9223372036854775808=0\/x / 9223372036854775808=1 by omega) with e | e
 ·rw [e];show _=false;rw [decide_eq_false_iff_not];omega
 ·rw [e];show _=true;rw [decide_eq_true_eq];omega
theorem dR (x:Nat):szI (x:Int)=((x % 9223372036854775808:Nat):Int):=by unfold szI;omega
theorem eC (x:Nat) (u:Int) (w:World) (g:Hid (u=(x:Int))) (h:U64 u) (l:af x) :
  Calls Tryz.prog 74 #[.int .u64 u] w fun r b=>∃ neg v N e,r=.returned (.agg #[.bool neg,v,.int .i64 e])/\DN b v N/\OfR x neg N e/\Below w.heap.size w b:=by
 have a:x<18446744073709551616:=by have:=h.2;rw [g.out] at this;omega
 have i:szI u=((x % 9223372036854775808:Nat):Int):=by rw [g.out];exact dR x
 unfold af at l
 by_cases k:szI u=0
 ·refine (LZ u w h k).mono ?_
  rintro r b ⟨v,rfl,d,f⟩;refine⟨false,v,0,0,rfl,d,⟨by decide,by decide,by decide,?_,fun h=>absurd rfl h,fun h=>absurd rfl h⟩,f⟩
  unfold aV;rw [show x % 9223372036854775808=0 by omega,bp,Nat.zero_mul]
 ·refine (Ot u w h (by omega) (by omega)).mono ?_
  rintro r b ⟨v,rfl,d,f⟩;have m:(fZ (szI u)).toNat=mg (x % 9223372036854775808):=by
   rw [i];generalize x % 9223372036854775808=r at *
   unfold fZ mg
   by_cases c:r<4503599627370496
   ·rw [if_pos c,if_pos (by omega)];omega
   ·rw [if_neg c,if_neg (by omega)];omega
  have j:kw (szI u)= -1074+(pl (x % 9223372036854775808):Int):=by
   rw [i];generalize x % 9223372036854775808=r at *
   unfold kw pl
   by_cases c:r<4503599627370496
   ·rw [if_pos (by omega)];omega
   ·rw [if_neg (by omega)];omega
  have n:pl (x % 9223372036854775808)<=2045:=by unfold pl;omega
  rw [m] at d
  refine⟨sgB u,v,_,kw (szI u),rfl,d,⟨ns _,by omega,by omega,?_,fun _=>?_,fun _=>⟨rfl,j⟩⟩,f⟩
  ·rw [j];unfold aV V
   congr 2
   omega
  ·rw [g.out];exact fQ a
theorem dr {N:Nat} (h:N<9007199254740992):nd N<=2:=bL (k:=2) (by omega)
def cn (o:Option Nat):Nat:=o.getD 9221120237041090561
theorem lu:cn none=9221120237041090561:=rfl
theorem ar (r:Nat):cn (some r)=r:=rfl
def gB (s:Bool):Int:=if s then 9223372036854775808 else 0
theorem OA {b:Nat} (h:b<18446744073709551616):b.testBit 63=sgB (b:Int):=by
 rw [Nat.testBit_eq_decide_div_mod_eq];unfold sgB;apply decide_eq_decide.2;omega
theorem uG {u v:Int} (h:U64 u) (f:U64 v):bits .and .u64 (bits .xor .u64 u v) 9223372036854775808=gB (sgB u^^sgB v):=by
 obtain⟨a,rfl⟩:=Int.eq_ofNat_of_zero_le h.1;obtain⟨b,rfl⟩:=Int.eq_ofNat_of_zero_le f.1;have c:a<18446744073709551616:=by have:=h.2;omega
 have d:b<18446744073709551616:=by have:=f.2;omega
 have e:a^^^b<18446744073709551616:=Nat.xor_lt_two_pow (n:=64) c d;rw [bits_xor_u64_nat a b c d,Gx (ag e),<- OA e,Nat.testBit_xor,OA c,OA d]
 rfl
theorem bF (neg:Bool) (N:Nat):(sg neg N).natAbs=N:=by unfold sg;cases neg<;>simp
theorem Mc (neg:Bool) (N:Nat) (E:Int):U64 (bJ neg N E false)/\szI (bJ neg N E false)=(if N=0 then 0 else (nearR N E:Int)):=by
 by_cases a:N=0
 ·have:bJ neg N E false=0:=by unfold bJ;rw [if_pos a]
  rw [this,if_pos a];exact⟨by unfold U64;omega,by decide⟩
 ·rw [fw neg E a,if_neg a];have b:nearR N E<=9218868437227405312:=Nat.min_le_right _ _;generalize nearR N E=r at *
  unfold U64 szI;cases neg
  ·rw [if_neg (by decide)];omega
  ·rw [if_pos rfl];omega
def lv (T:Nat):Int:=if T=0 then 0 else (nearR T (-2148):Int)
theorem Hp (T:Nat):0<=lv T/\lv T<=9218868437227405312:=by
 unfold lv;have a:nearR T (-2148)<=9218868437227405312:=Nat.min_le_right _ _
 split<;>omega
theorem Md (s:Bool) (T:Nat):(mulR s T:Int)=gB s+lv T:=by
 unfold mulR lv gB wrd
 by_cases a:T=0
 ·rw [if_pos a,if_pos a];cases s<;>simp
 ·rw [if_neg a,if_neg a];generalize nearR T (-2148)=r;cases s<;>simp
theorem Me {x y X Y N:Nat} {nx j neg:Bool} {ex ey E:Int} (d:OfR x nx X ex) (e:OfR y j Y ey) (o:sg neg N=sg nx X*sg j Y) (p:E=ex+ey\/(E=0/\N=0)) :
  U64 (bJ neg N E false)/\szI (bJ neg N E false)=lv (aV x*aV y)/\nd N<=1000000/\-10000000<=E/\E<=10000000:=by
 have l:N=X*Y:=by
  have:=congrArg Int.natAbs o;rw [Int.natAbs_mul,bF,bF,bF] at this;exact this
 obtain⟨a,b⟩:=Mc neg N E;have i:nd N<=1000000:=by
  refine Nat.le_trans (bL (k:=4) ?_) (by omega)
  rw [l];have:=Nat.mul_lt_mul'' d.lt e.lt;omega
 have r:=d.lo;have t:=d.hi;have s:=e.lo;have q:=e.hi;refine⟨a,?_,i,by omega,by omega⟩
 rw [b];unfold lv;have f:aV x*aV y=N*2^((ex+1074).toNat+(ey+1074).toNat):=by
  rw [<- d.val,<- e.val,l,Nat.pow_add,Nat.mul_mul_mul_comm]
 have m:=Nat.two_pow_pos ((ex+1074).toNat+(ey+1074).toNat)
 by_cases c:N=0
 ·rw [if_pos c,if_pos (by rw [f,c,Nat.zero_mul])]
 ·have n:aV x*aV y≠0:=by rw [f];have:=Nat.mul_pos (show 0<N by omega) m;omega
  rw [if_neg c,if_neg n,f];have g:E=ex+ey:=by
   rcases p with h | ⟨_,h⟩
   ·exact h
   ·exact absurd h c
  have:=bf c ((ex+1074).toNat+(ey+1074).toNat) (ex+ey);rw [show ex+ey - (((ex+1074).toNat+(ey+1074).toNat:Nat):Int)= -2148 by omega] at this
  rw [this,g]
theorem bI {x:Nat} {u:Int} (a:u=(x:Int)):szI u=((x % 9223372036854775808:Nat):Int):=by rw [a];exact dR x
theorem fx {x:Nat} {u:Int} (c:u=(x:Int)) (a:ah u=false) (b:aY u=false):af x:=by
 have:=bI c;unfold ah at a
 unfold aY at b
 unfold af;rw [decide_eq_false_iff_not] at a
 have d:szI u≠9218868437227405312:=by simpa using b
 omega
theorem il {x:Nat} {u:Int} (b:u=(x:Int)) (a:aY u=true):x % 9223372036854775808=9218868437227405312:=by
 have:=bI b;unfold aY at a
 have c:szI u=9218868437227405312:=by simpa using a
 omega
theorem lw {x y:Nat} (a:x % 9223372036854775808=9218868437227405312) (b:y % 9223372036854775808=0):floatBits .mul .f64 x y=none/\floatBits .mul .f64 y x=none:=by
 have e:Ieee.double.read y=.number (y / 9223372036854775808 % 2==1) 0 (-1074):=by rw [ay (by omega),b];rfl
 constructor
 ·show ((Ieee.double.read x).product (Ieee.double.read y)).map Ieee.double.write=_
  rw [aS a,e];rfl
 ·show ((Ieee.double.read y).product (Ieee.double.read x)).map Ieee.double.write=_
  rw [aS a,e];rfl
theorem dJ (s:Bool):Ieee.double.write (.infinity s)=wrd s 9218868437227405312:=by cases s<;>decide+kernel
theorem fy {r:Nat} (h:r≠0):mg r≠0:=by unfold mg;split<;>omega
theorem fS {x y:Nat} (b:x % 9223372036854775808=9218868437227405312) (c:af y) (d:y % 9223372036854775808≠0):floatBits .mul .f64 x y=some (wrd (sB x^^sB y) 9218868437227405312)/\floatBits .mul .f64 y x=some (wrd (sB y^^sB x) 9218868437227405312):=by
 have a:=fy d;constructor
 ·show ((Ieee.double.read x).product (Ieee.double.read y)).map Ieee.double.write=_
  rw [aS b,ay c]
  show (if mg (y % 9223372036854775808)=0 then none else some (Ieee.Datum.infinity (_^^_))).map Ieee.double.write=_
  rw [if_neg a]
  show some (Ieee.double.write (.infinity _))=_
  rw [dJ];rfl
 ·show ((Ieee.double.read y).product (Ieee.double.read x)).map Ieee.double.write=_
  rw [aS b,ay c]
  show (if mg (y % 9223372036854775808)=0 then none else some (Ieee.Datum.infinity (_^^_))).map Ieee.double.write=_
  rw [if_neg a]
  show some (Ieee.double.write (.infinity _))=_
  rw [dJ,Bool.xor_comm];rfl
theorem wW {x y:Nat} (b:x % 9223372036854775808=9218868437227405312) (a:y % 9223372036854775808=9218868437227405312):floatBits .mul .f64 x y=some (wrd (sB x^^sB y) 9218868437227405312):=by
 show ((Ieee.double.read x).product (Ieee.double.read y)).map Ieee.double.write=_
 rw [aS b,aS a]
 show some (Ieee.double.write (.infinity _))=_
 rw [dJ];rfl
theorem im (u v:Int) (w:World) (h:U64 u) (b:U64 v) (hc:ah u=true\/(ah u=false/\ah v=true)\/(ah u=false/\ah v=false/\aY u=true/\(szI v==0)=true)\/(ah u=false/\ah v=false/\aY u=false/\aY v=true/\(szI u==0)=true)) :
  Calls Tryz.prog 63 #[.int .u64 u,.int .u64 v] w fun e a=>e=.returned (.int .u64 9221120237041090561)/\a=w:=by
 have i:=uG h b;rcases hc with c | ⟨c,d⟩| ⟨c,d,g,f⟩| ⟨c,d,g,f,j⟩
 all_goals
  go_enter Tryz.func63,Tryz.ntmps63
  go_wp2_with (first | (go_at_call_of 49 (Value.int IntKind.u64 u);refine (aj u _ h).mono ?_;rintro e a ⟨rfl,rfl⟩) | (go_at_call_of 49 (Value.int IntKind.u64 v);refine (aj v _ b).mono ?_;rintro e a ⟨rfl,rfl⟩) | (go_at_call_of 72 (Value.int IntKind.u64 u);refine (aw u _ h).mono ?_;rintro e a ⟨rfl,rfl⟩) | (go_at_call_of 72 (Value.int IntKind.u64 v);refine (aw v _ b).mono ?_;rintro e a ⟨rfl,rfl⟩) | (go_at_call_of 76 (Value.int IntKind.u64 u);refine (aI u _ h).mono ?_;rintro e a ⟨rfl,rfl⟩) | (go_at_call_of 76 (Value.int IntKind.u64 v);refine (aI v _ b).mono ?_;rintro e a ⟨rfl,rfl⟩))
  go_ret
  exact⟨rfl,rfl⟩
theorem kB (u v S:Int) (w:World) (h:U64 u) (b:U64 v) (k:bits .and .u64 (bits .xor .u64 u v) 9223372036854775808=S) (j:0<=S) (i:S<=9223372036854775808) (hn:ah u=false) (g:ah v=false) (hc:(aY u=true/\aY v=true/\(szI v==0)=false/\(szI u==0)=false)\/(aY u=true/\aY v=false/\(szI v==0)=false)\/(aY u=false/\aY v=true/\(szI u==0)=false)) :
  Calls Tryz.prog 63 #[.int .u64 u,.int .u64 v] w fun e a=>e=.returned (.int .u64 (S+9218868437227405312))/\a=w:=by
 rcases hc with⟨d,c,f,l⟩| ⟨d,c,f⟩| ⟨d,c,f⟩
 all_goals
  go_enter Tryz.func63,Tryz.ntmps63
  go_wp2_with (first | (go_at_call_of 49 (Value.int IntKind.u64 u);refine (aj u _ h).mono ?_;rintro e a ⟨rfl,rfl⟩) | (go_at_call_of 49 (Value.int IntKind.u64 v);refine (aj v _ b).mono ?_;rintro e a ⟨rfl,rfl⟩) | (go_at_call_of 72 (Value.int IntKind.u64 u);refine (aw u _ h).mono ?_;rintro e a ⟨rfl,rfl⟩) | (go_at_call_of 72 (Value.int IntKind.u64 v);refine (aw v _ b).mono ?_;rintro e a ⟨rfl,rfl⟩) | (go_at_call_of 76 (Value.int IntKind.u64 u);refine (aI u _ h).mono ?_;rintro e a ⟨rfl,rfl⟩) | (go_at_call_of 76 (Value.int IntKind.u64 v);refine (aI v _ b).mono ?_;rintro e a ⟨rfl,rfl⟩))
  go_ret
  exact⟨rfl,rfl⟩
theorem aG {P:Program} {f:Nat} {args:Array Value} {w:World} {Q:Ending->Prop} (h:Calls P f args w fun e c=>Q e/\c=w):Calls P f args w fun e c=>Q e/\w=c:=
 h.mono fun _ _ ⟨a,b⟩=>⟨a,b.symm⟩
theorem io (u r:Int) (w:World) (h:U64 u) (d:szI u=r) :
  Calls Tryz.prog 76 #[.int .u64 u] w fun e c=>e=.returned (.int .u64 r)/\w=c:=by
 rw [<- d];exact (aI u w h).mono fun _ _ ⟨a,b⟩=>⟨a,b.symm⟩
theorem Av (x y:Nat) (u v S R:Int) (w:World) (hu:Hid (u=(x:Int))) (hv:Hid (v=(y:Int))) (h:U64 u) (H:U64 v) (K:af x) (M:af y) (hS:bits .and .u64 (bits .xor .u64 u v) 9223372036854775808=S) (ab:0<=S) (ad:S<=9223372036854775808) (hR:Hid (lv (aV x*aV y)=R)) (hn:ah u=false) (o:ah v=false) (hi:aY u=false) (A:aY v=false) :
  Calls Tryz.prog 63 #[.int .u64 u,.int .u64 v] w fun e a=>e=.returned (.int .u64 (S+R))/\Below w.heap.size w a:=by
 have m:=aa K;have l:=aa M;obtain⟨P,J⟩:=Hp (aV x*aV y);rw [hR.out] at P J
 have F:=aa (aj u · h);have z:=aa (aj v · H);have k:=aa (aw u · h);have i:=aa (aw v · H);rw [hn] at F
 rw [o] at z
 rw [hi] at k
 rw [A] at i
 have T:=aa fun w=>eC x u w hu h K
 have U:=aa fun w=>eC y v w hv H M
 clear K M hn o hi A h H
 go_enter Tryz.func63,Tryz.ntmps63
 go_wp2_with fail
 refine (aG (F.out _)).mono ?_
 rintro e a ⟨rfl,rfl⟩
 go_wp2_with fail
 refine (aG (z.out _)).mono ?_
 rintro e a ⟨rfl,rfl⟩
 go_wp2_with fail
 refine (aG (k.out _)).mono ?_
 rintro e a ⟨rfl,rfl⟩
 go_wp2_with fail
 refine (aG (i.out _)).mono ?_
 rintro e a ⟨rfl,rfl⟩
 go_wp2_with fail
 refine (aG (k.out _)).mono ?_
 rintro e a ⟨rfl,rfl⟩
 go_wp2_with fail
 refine (aG (i.out _)).mono ?_
 rintro e a ⟨rfl,rfl⟩
 go_wp2_with fail
 refine (T.out _).mono ?_
 rintro r w1 ⟨nx,vx,X,ex,rfl,n,V,p⟩;have c:=aa p;have B:=aa n;have m:=aa V;clear p n V
 go_wp2_with fail
 refine (U.out _).mono ?_
 rintro r w2 ⟨ny,vy,Y,ey,rfl,t,hY,f⟩;have d:=aa (c.out.trans (f.mono c.out.size));have b:=aa (B.out.below f);have D:=aa t;have l:=aa hY;clear f t hY c B;have HT:=aa (sK nx ny vx vy ex ey X Y w2 b.out D.out (by have:=dr m.out.lt;omega) (by have:=dr l.out.lt;omega) (by have:=m.out.lo;omega) (by have:=m.out.hi;omega) (by have:=l.out.lo;omega) (by have:=l.out.hi;omega))
 go_wp2_with fail
 refine HT.out.mono ?_
 rintro r w3 ⟨neg,vs,N,E,rfl,q,Q,hs,hE,C⟩;have j:=aa (d.out.trans (C.mono d.out.size));obtain⟨I,G,q3,q4,W⟩:=Me m.out l.out hs hE;rw [hR.out] at G
 have g:=aa (gv neg vs E N w3 q q3 q4 W);obtain⟨Z,hZ⟩:∃ Z,bJ neg N E false=Z:=⟨_,rfl⟩;rw [hZ] at g I G
 have O:Hid (∀ w,Calls Tryz.prog 76 #[.int .u64 Z] w fun e a=>e=.returned (.int .u64 R)/\w=a):=fun w=>io Z R w I G
 clear q Q hs hE C d I G q3 q4 W hZ HT b D m l
 go_wp2_with fail
 refine g.out.mono ?_
 rintro r w4 ⟨rfl,s⟩;have L:=aa (j.out.trans (s.mono j.out.size));clear s g j
 go_wp2_with fail
 refine (O.out _).mono ?_
 rintro r w5 ⟨rfl,rfl⟩
 go_wp2_with fail
 go_ret
 exact⟨rfl,L.out⟩
theorem CL (s:Bool):0<=gB s/\gB s<=9223372036854775808:=by unfold gB;split<;>omega
theorem dW (s:Bool) (r:Nat):(wrd s r:Int)=gB s+r:=by unfold wrd gB;cases s<;>simp
theorem cU (x y:Nat) (u v:Int) (w:World) (m:Hid (u=(x:Int))) (k:Hid (v=(y:Int))) (h:U64 u) (g:U64 v) :
  Calls Tryz.prog 63 #[.int .u64 u,.int .u64 v] w fun e p=>e=.returned (.int .u64 (cn (floatBits .mul .f64 x y):Int))/\Below w.heap.size w p:=by
 have z:=uG h g;obtain⟨t,B⟩:=CL (sgB u^^sgB v);have o:x<18446744073709551616:=by have:=h.2;rw [m.out] at this;omega
 have n:y<18446744073709551616:=by have:=g.2;rw [k.out] at this;omega
 have j:sgB u=sB x:=by rw [m.out];exact fQ o
 have i:sgB v=sB y:=by rw [k.out];exact fQ n
 have C:=bI m.out;have E:=bI k.out;have same:∀ {r:Int},(Calls Tryz.prog 63 #[.int .u64 u,.int .u64 v] w fun e p=>e=.returned (.int .u64 r)/\p=w)->(cn (floatBits .mul .f64 x y):Int)=r->Calls Tryz.prog 63 #[.int .u64 u,.int .u64 v] w fun e p=>e=.returned (.int .u64 (cn (floatBits .mul .f64 x y):Int))/\Below w.heap.size w p:=fun F e=>by
  rw [e];exact F.mono fun _ _ ⟨a,b⟩=>⟨a,by rw [b];exact Below.refl _ _⟩
 cases f:ah u with
 | true=>
  refine same (im u v w h g (Or.inl f)) ?_
  rw [dV (by rw [<- m.out];exact f)];rfl
 | false=>
  cases c:ah v with
  | true=>
   refine same (im u v w h g (Or.inr (Or.inl ⟨f,c⟩))) ?_
   rw [eR (by rw [<- k.out];exact c)];rfl
  | false=>
   cases hi:aY u with
   | true=>
    have A:=il m.out hi;cases d:aY v with
    | true=>
     have q:=il k.out d;refine same (kB u v _ w h g z t B f c (Or.inl ⟨hi,d,by rw [E,q];rfl,by rw [C,A];rfl⟩)) ?_
     rw [wW A q,ar,dW,j,i];rfl
    | false=>
     have s:=fx k.out c d
     by_cases l:y % 9223372036854775808=0
     ·refine same (im u v w h g (Or.inr (Or.inr (Or.inl ⟨f,c,hi,by rw [E,l];rfl⟩)))) ?_
      rw [(lw A l).1];rfl
     ·refine same (kB u v _ w h g z t B f c (Or.inr (Or.inl ⟨hi,d,by rw [E];simp;omega⟩))) ?_
      rw [(fS A s l).1,ar,dW,j,i];rfl
   | false=>
    have D:=fx m.out f hi;cases d:aY v with
    | true=>
     have q:=il k.out d
     by_cases l:x % 9223372036854775808=0
     ·refine same (im u v w h g (Or.inr (Or.inr (Or.inr ⟨f,c,hi,d,by rw [C,l];rfl⟩)))) ?_
      rw [(lw q l).2];rfl
     ·refine same (kB u v _ w h g z t B f c (Or.inr (Or.inr ⟨hi,d,by rw [C];simp;omega⟩))) ?_
      rw [(fS q D l).2,ar,dW,j,i];rfl
    | false=>
     have s:=fx k.out c d;have e:(cn (floatBits .mul .f64 x y):Int)=gB (sgB u^^sgB v)+lv (aV x*aV y):=by rw [fP D s,ar,Md,j,i]
     rw [e];exact Av x y u v _ _ w m k h g D s z t B rfl f c hi d
theorem wX (x:Nat):vI x=sg (sB x) (aV x):=rfl
theorem ip (neg:Bool) (N k:Nat):sg neg (N*k)=sg neg N*(k:Int):=by
 unfold sg;cases neg<;>simp [Int.neg_mul]
theorem aT (neg:Bool):sg neg 0=0:=by cases neg<;>rfl
theorem wY {x X n k:Nat} {nx:Bool} {ex:Int} (h:OfR x nx X ex) (b:X≠0->n+k=(ex+1074).toNat):sg nx (X*2^n)*((2^k:Nat):Int)=vI x:=by
 rw [<- ip,Nat.mul_assoc,<- Nat.pow_add,wX,<- h.val]
 by_cases a:X=0
 ·rw [a,Nat.zero_mul,Nat.zero_mul,aT,aT]
 ·rw [b a,h.sgn a]
structure AddR (x y X Y:Nat) (nx ny:Bool) (ex ey E:Int) (n m k:Nat):Prop where
 hn:X≠0->ex - E=(n:Int)
 hm:Y≠0->ey - E=(m:Int)
 hn1:n<=3000
 hm1:m<=3000
 lo: -1074<=E
 hi:E<=971
 hk:E+1074=(k:Int)
 had:nd (X*2^n)<=10000000
 hbd:nd (Y*2^m)<=10000000
 val:(sg nx (X*2^n)+sg ny (Y*2^m))*((2^k:Nat):Int)=vI x+vI y
 small:∃ K,K<=3100/\(sg nx (X*2^n)+sg ny (Y*2^m)).natAbs<2^K
theorem sP {X n K:Nat} (c:K=3060) (h:X<9007199254740992) (hn:n<=3000):X*2^n<2^K:=by
 have b:(2:Nat)^n<=2^(K - 60):=Nat.pow_le_pow_right (by decide) (by omega)
 have a:X*2^n<2^53*2^(K - 60):=Nat.mul_lt_mul_of_lt_of_le h b (Nat.two_pow_pos _);rw [<- Nat.pow_add] at a
 exact Nat.lt_of_lt_of_le a (Nat.pow_le_pow_right (by decide) (by omega))
theorem mD {X K:Nat} (a:K<=3100) (h:X<2^K):nd X<=1000:=by
 obtain⟨k,b⟩:∃ k:Nat,k=97:=⟨_,rfl⟩;have:=bL (N:=X) (k:=k) (Nat.lt_of_lt_of_le h (Nat.pow_le_pow_right (by decide) (by omega)))
 omega
theorem Ee {a b P Q:Nat} {s t:Bool} (e:a<P) (d:b<P) (c:P+P<=Q):(sg s a+sg t b).natAbs<Q:=by
 unfold sg;cases s<;>cases t<;>simp only [Bool.false_eq_true,if_true,if_false]<;>omega
theorem Mf {x y X Y:Nat} {nx f:Bool} {ex ey E:Int} (c:OfR x nx X ex) (d:OfR y f Y ey) (u:iQ X ex Y ey=E):∃ n m k,AddR x y X Y nx f ex ey E n m k:=by
 have s:=c.lo;have v:=c.hi;have t:=d.lo;have p:=d.hi;have e: -1074<=E/\E<=971/\(X≠0->E<=ex)/\(Y≠0->E<=ey):=by
  rw [<- u];unfold iQ
  by_cases a:X=0
  ·rw [if_pos a];refine⟨t,p,fun h=>absurd a h,fun _=>Int.le_refl _⟩
  ·rw [if_neg a]
   by_cases b:Y=0
   ·rw [if_pos b];exact⟨s,v,fun _=>Int.le_refl _,fun h=>absurd b h⟩
   ·rw [if_neg b];refine⟨by omega,by omega,fun _=>by omega,fun _=>by omega⟩
 obtain⟨r,q,i,g⟩:=e;obtain⟨K,l⟩:∃ K:Nat,K=3060:=⟨_,rfl⟩;have j:=sP (n:=(ex - E).toNat) l c.lt (by omega)
 have o:=sP (n:=(ey - E).toNat) l d.lt (by omega)
 refine⟨(ex - E).toNat,(ey - E).toNat,(E+1074).toNat,⟨fun h=>by have:=i h;omega,fun h=>by have:=g h;omega,by omega,by omega,r,q,by omega,?_,?_,?_,?_⟩⟩
 ·exact Nat.le_trans (mD (by omega) j) (by decide)
 ·exact Nat.le_trans (mD (by omega) o) (by decide)
 ·rw [Int.add_mul,wY c (fun h=>by have:=i h;omega),wY d (fun h=>by have:=g h;omega)]
 ·refine⟨K+1,by omega,Ee j o ?_⟩
  rw [Nat.pow_succ];omega
theorem kC {neg:Bool} {N:Nat} (h:N≠0):decide (sg neg N<0)=neg:=by
 unfold sg;cases neg
 ·simp
 ·simp;omega
theorem ja {S:Int} (k:Nat):(S*((2^k:Nat):Int)<0↔S<0)/\(S*((2^k:Nat):Int)=0↔S=0):=by
 have a:(0:Int)<((2^k:Nat):Int):=by have:=Nat.two_pow_pos k;omega
 refine⟨⟨fun h=>?_,fun h=>Int.mul_neg_of_neg_of_pos h a⟩,⟨fun h=>?_,fun h=>by rw [h,Int.zero_mul]⟩⟩
 ·by_cases b:S<0
  ·exact b
  ·have:=Int.mul_nonneg (by omega:0<=S) (by omega:(0:Int)<=((2^k:Nat):Int));omega
 ·rcases Int.mul_eq_zero.1 h with h | h
  ·exact h
  ·omega
theorem Mg {x y X Y n m k N:Nat} {nx j neg:Bool} {ex ey E d:Int} (h:AddR x y X Y nx j ex ey E n m k) (r:sg neg N=sg nx (X*2^n)+sg j (Y*2^m)) (s:d=E\/(d=0/\N=0)) (a:N≠0) :
  bJ neg N d false=(iU (sB x) (sB y) (vI x+vI y):Int):=by
 obtain⟨S,b⟩:∃ S,sg neg N=S:=⟨_,rfl⟩;have q:=h.val;rw [<- r,b] at q
 have c:S≠0:=by
  intro e;rw [e] at b
  have:=bF neg N;rw [b] at this;exact a this.symm
 have f:S.natAbs=N:=by rw [<- b];exact bF neg N
 have g:d=E:=by
  rcases s with h | ⟨_,h⟩
  ·exact h
  ·exact absurd h a
 rw [fw neg d a,g];unfold iU;rw [<- q];obtain⟨o,l⟩:=ja (S:=S) k;rw [if_neg (fun e=>c (l.1 e))]
 unfold aJ;rw [if_neg (fun e=>c (l.1 e)),bg,f]
 have p:=bf a k E;rw [show E - (k:Int)= -1074 by have:=h.hk;omega] at p
 rw [p];have i:=kC (neg:=neg) a;rw [b] at i
 cases neg
 ·rw [if_neg (by decide),if_neg (fun e=>by have:=o.1 e;simp at i;omega)];omega
 ·rw [if_pos rfl,if_pos (o.2 (by simpa using i))];omega
theorem Hr {r:Nat} (h:V r=0):r=0:=by
 have:=eX (r:=r) (s:=0);rw [bp] at this
 exact this.1 h
theorem Hs {x y:Nat} {u v:Int} (d:u=(x:Int)) (p:v=(y:Int)) (h:U64 u) (q:U64 v) (a:vI x+vI y=0) :
  (((szI u==0)=true/\(u==v)=true)/\u=(iU (sB x) (sB y) (vI x+vI y):Int))\/(((szI u==0)=false\/((szI u==0)=true/\(u==v)=false))/\(0:Int)=(iU (sB x) (sB y) (vI x+vI y):Int)):=by
 have r:=bI d;have n:x<18446744073709551616:=by have:=h.2;omega
 have m:y<18446744073709551616:=by have:=q.2;omega
 unfold iU;rw [if_pos a];rw [wX,wX] at a
 by_cases c:szI u=0
 ·have g:x % 9223372036854775808=0:=by omega
  have b:aV x=0:=by unfold aV;rw [g];exact bp
  have k:aV y=0:=by
   rw [b,aT,Int.zero_add] at a
   have:=bF (sB y) (aV y);rw [a] at this;exact this.symm
  have o:y % 9223372036854775808=0:=Hr k
  by_cases f:u=v
  ·left
   refine⟨⟨by rw [c];rfl,by rw [f];exact beq_self_eq_true v⟩,?_⟩
   have i:x=y:=by omega
   subst i;unfold sB;rcases (show x=0\/x=9223372036854775808 by omega) with e | e
   ·subst e;rw [d];rfl
   ·subst e;rw [d];rfl
  ·right
   refine⟨Or.inr ⟨by rw [c];rfl,by simpa using f⟩,?_⟩
   unfold sB;rcases (show x=0\/x=9223372036854775808 by omega) with e | e
   ·subst e;rfl
   ·subst e;rcases (show y=0\/y=9223372036854775808 by omega) with e | e
    ·subst e;rfl
    ·exact absurd (by rw [d,p,e]) f
 ·right
  refine⟨Or.inl (by simpa using c),?_⟩
  have b:aV x≠0:=fun e=>c (by have:=Hr e;omega)
  cases l:sB x
  ·rfl
  ·cases j:sB y
   ·rfl
   ·rw [l,j] at a;unfold sg at a;simp at a;omega
theorem lz {x y:Nat} (c:x % 9223372036854775808=9218868437227405312) (d:af y) (b:x<18446744073709551616):floatBits .add .f64 x y=some x/\floatBits .add .f64 y x=some x:=by
 have a:wrd (sB x) 9218868437227405312=x:=by
  unfold wrd sB;rcases (show x / 9223372036854775808=0\/x / 9223372036854775808=1 by omega) with e | e
  ·rw [e];simp;omega
  ·rw [e];simp;omega
 constructor
 ·show ((Ieee.double.read x).sum (Ieee.double.read y)).map Ieee.double.write=_
  rw [aS c,ay d]
  show some (Ieee.double.write (.infinity _))=_
  rw [dJ];exact congrArg some a
 ·show ((Ieee.double.read y).sum (Ieee.double.read x)).map Ieee.double.write=_
  rw [aS c,ay d]
  show some (Ieee.double.write (.infinity _))=_
  rw [dJ];exact congrArg some a
theorem pH {x y:Nat} (d:x % 9223372036854775808=9218868437227405312) (f:y % 9223372036854775808=9218868437227405312) (a:x<18446744073709551616) (b:y<18446744073709551616):floatBits .add .f64 x y=if x=y then some x else none:=by
 show ((Ieee.double.read x).sum (Ieee.double.read y)).map Ieee.double.write=_
 rw [aS d,aS f];rcases (show x=9218868437227405312\/x=18442240474082181120 by omega) with e | e<;>rcases (show y=9218868437227405312\/y=18442240474082181120 by omega) with c | c<;>subst e<;>subst c<;>decide+kernel
theorem kD (u v:Int) (w:World) (h:U64 u) (c:U64 v) (hc:ah u=true\/(ah u=false/\ah v=true)\/(ah u=false/\ah v=false/\aY u=true/\aY v=true/\(u==v)=false)) :
  Calls Tryz.prog 50 #[.int .u64 u,.int .u64 v] w fun e a=>e=.returned (.int .u64 9221120237041090561)/\a=w:=by
 rcases hc with b | ⟨b,d⟩| ⟨b,d,g,f,i⟩
 all_goals
  go_enter Tryz.func50,Tryz.ntmps50
  go_wp2_with (first | (go_at_call_of 49 (Value.int IntKind.u64 u);refine (aj u _ h).mono ?_;rintro e a ⟨rfl,rfl⟩) | (go_at_call_of 49 (Value.int IntKind.u64 v);refine (aj v _ c).mono ?_;rintro e a ⟨rfl,rfl⟩) | (go_at_call_of 72 (Value.int IntKind.u64 u);refine (aw u _ h).mono ?_;rintro e a ⟨rfl,rfl⟩) | (go_at_call_of 72 (Value.int IntKind.u64 v);refine (aw v _ c).mono ?_;rintro e a ⟨rfl,rfl⟩))
  go_ret
  exact⟨rfl,rfl⟩
theorem kE (u v r:Int) (w:World) (h:U64 u) (f:U64 v) (hn:ah u=false) (g:ah v=false) (hc:(aY u=true/\aY v=true/\(u==v)=true/\r=u)\/(aY u=true/\aY v=false/\r=u)\/(aY u=false/\aY v=true/\r=v)) :
  Calls Tryz.prog 50 #[.int .u64 u,.int .u64 v] w fun e a=>e=.returned (.int .u64 r)/\a=w:=by
 rcases hc with⟨d,c,j,b⟩| ⟨d,c,b⟩| ⟨d,c,b⟩
 all_goals
  have i:=aa b;clear b
  go_enter Tryz.func50,Tryz.ntmps50
  go_wp2_with (first | (go_at_call_of 49 (Value.int IntKind.u64 u);refine (aj u _ h).mono ?_;rintro e a ⟨rfl,rfl⟩) | (go_at_call_of 49 (Value.int IntKind.u64 v);refine (aj v _ f).mono ?_;rintro e a ⟨rfl,rfl⟩) | (go_at_call_of 72 (Value.int IntKind.u64 u);refine (aw u _ h).mono ?_;rintro e a ⟨rfl,rfl⟩) | (go_at_call_of 72 (Value.int IntKind.u64 v);refine (aw v _ f).mono ?_;rintro e a ⟨rfl,rfl⟩))
  go_ret
  exact⟨bu i.out.symm,rfl⟩
theorem Aw (x y:Nat) (u v R:Int) (w:World) (hu:Hid (u=(x:Int))) (hv:Hid (v=(y:Int))) (h:U64 u) (h':U64 v) (hx:af x) (hy:af y) (hR:Hid ((iU (sB x) (sB y) (vI x+vI y):Int)=R)) (hn:ah u=false) (L:ah v=false) (hi:aY u=false) (S:aY v=false) :
  Calls Tryz.prog 50 #[.int .u64 u,.int .u64 v] w fun e H=>e=.returned (.int .u64 R)/\Below w.heap.size w H:=by
 have ab:=aa (aj u · h);have P:=aa (aj v · h');have F:=aa (aw u · h);have U:=aa (aw v · h');rw [hn] at ab
 rw [L] at P
 rw [hi] at F
 rw [S] at U
 have ad:=aa fun w=>eC x u w hu h hx
 have ak:=aa fun w=>eC y v w hv h' hy
 have al:=aa (aI u · h);have ai:=aa fun (hT:vI x+vI y=0)=>Hs hu.out hv.out h h' hT
 clear hx hy hn L hi S h h'
 go_enter Tryz.func50,Tryz.ntmps50
 go_wp2_with fail
 refine (aG (ab.out _)).mono ?_
 rintro e H ⟨rfl,rfl⟩
 go_wp2_with fail
 refine (aG (P.out _)).mono ?_
 rintro e H ⟨rfl,rfl⟩
 go_wp2_with fail
 refine (aG (F.out _)).mono ?_
 rintro e H ⟨rfl,rfl⟩
 go_wp2_with fail
 refine (aG (F.out _)).mono ?_
 rintro e H ⟨rfl,rfl⟩
 go_wp2_with fail
 refine (aG (U.out _)).mono ?_
 rintro e H ⟨rfl,rfl⟩
 go_wp2_with fail
 refine (ad.out _).mono ?_
 rintro r w1 ⟨nx,vx,X,ex,rfl,I,hX,M⟩;have t:=aa M;have T:=aa I;have HX:=aa hX;clear M I hX
 go_wp2_with fail
 refine (ak.out _).mono ?_
 rintro r w2 ⟨ny,vy,Y,ey,rfl,O,hY,A⟩;have z:=aa (t.out.trans (A.mono t.out.size));have o:=aa (T.out.below A);have W:=aa O;have HY:=aa hY;clear A O hY t T;obtain⟨E,hE⟩:∃ E,iQ X ex Y ey=E:=⟨_,rfl⟩;obtain⟨n,m,k,q⟩:=Mf HX.out HY.out hE;have HP:=aa (po nx ny vx vy ex ey E X Y n m w2 o.out W.out hE q.hn q.hm (by have:=q.hn1;omega) (by have:=q.hm1;omega) (by have:=dr HX.out.lt;omega) (by have:=dr HY.out.lt;omega) q.had q.hbd)
 have G:=aa q;clear q hE
 go_wp2_with fail
 refine HP.out.mono ?_
 rintro r w3 ⟨neg,vs,N,E',rfl,s,bb,hs,C,V⟩;have D:=aa (z.out.trans (V.mono z.out.size));obtain⟨p,l,c,rfl⟩:=s.shape;have Z:=aa s;have j:Hid (nd N<=1000000/\-10000000<=E'/\E'<=10000000):=by
  obtain⟨K,hK,h1⟩:=G.out.small;rw [<- hs,bF] at h1
  have h2:=mD hK h1;have h3:=G.out.lo;have h4:=G.out.hi;refine⟨by omega,?_,?_⟩ <;>rcases C with e | ⟨e,_⟩ <;>omega
 have HV:Hid (N≠0->bJ neg N E' false=R):=fun f=>by rw [<- hR.out];exact Mg G.out hs C f
 have HT:Hid (N=0->vI x+vI y=0):=fun f=>by rw [<- G.out.val,<- hs,f,aT,Int.zero_mul]
 clear s bb hs C V z G HP o W HX HY ad ak;have d:=aa (aE w3 neg (.slice p l c) E');have i:=aa (Z.out.below d.out);have a:=aa (D.out.trans (d.out.mono D.out.size))
 go_wp2_with fail
 by_cases f:N=0
 ·have B:=aa (ai.out (HT.out f));rw [hR.out] at B
  refine (aZ _ _ _ N true _ i.out (decide_eq_true f)).mono ?_
  rintro r w4 ⟨rfl,b⟩;have g:=aa (a.out.trans (b.mono a.out.size));clear b f;rcases B.out with⟨⟨a1,a2⟩,a3⟩| ⟨a1 | ⟨a1,a2⟩,a3⟩
  all_goals
   have am:=aa a3;clear a3 B
   go_wp2_with (go_at_call 76;refine (aG (al.out _)).mono ?_;rintro r w5 ⟨rfl,rfl⟩)
   go_ret
   exact⟨bu am.out,g.out⟩
 ·refine (aZ _ _ _ N false _ i.out (decide_eq_false f)).mono ?_
  rintro r w4 ⟨rfl,b⟩;obtain⟨c0,c1,c2⟩:=jH b;have g:=aa (a.out.trans (b.mono a.out.size));have Q:=aa (gv neg _ E' N w4 (i.out.below b) j.out.1 j.out.2.1 j.out.2.2);rw [HV.out f] at Q
  clear b f i d a D Z j HV HT ai
  go_wp2_with fail
  refine Q.out.mono ?_
  rintro r w5 ⟨rfl,J⟩;have ba:=aa (g.out.trans (J.mono g.out.size));clear J
  go_wp2_with fail
  go_ret
  exact⟨rfl,ba.out⟩
theorem fA (x y:Nat) (u v:Int) (w:World) (j:Hid (u=(x:Int))) (i:Hid (v=(y:Int))) (h:U64 u) (l:U64 v) :
  Calls Tryz.prog 50 #[.int .u64 u,.int .u64 v] w fun e m=>e=.returned (.int .u64 (cn (floatBits .add .f64 x y):Int))/\Below w.heap.size w m:=by
 have g:x<18446744073709551616:=by have:=h.2;rw [j.out] at this;omega
 have f:y<18446744073709551616:=by have:=l.2;rw [i.out] at this;omega
 have same:∀ {r:Int},(Calls Tryz.prog 50 #[.int .u64 u,.int .u64 v] w fun e m=>e=.returned (.int .u64 r)/\m=w)->(cn (floatBits .add .f64 x y):Int)=r->Calls Tryz.prog 50 #[.int .u64 u,.int .u64 v] w fun e m=>e=.returned (.int .u64 (cn (floatBits .add .f64 x y):Int))/\Below w.heap.size w m:=fun t e=>by
  rw [e];exact t.mono fun _ _ ⟨a,b⟩=>⟨a,by rw [b];exact Below.refl _ _⟩
 cases k:ah u with
 | true=>
  refine same (kD u v w h l (Or.inl k)) ?_
  rw [dV (by rw [<- j.out];exact k)];rfl
 | false=>
  cases d:ah v with
  | true=>
   refine same (kD u v w h l (Or.inr (Or.inl ⟨k,d⟩))) ?_
   rw [eR (by rw [<- i.out];exact d)];rfl
  | false=>
   cases hi:aY u with
   | true=>
    have q:=il j.out hi;cases c:aY v with
    | true=>
     have o:=il i.out c
     by_cases p:x=y
     ·refine same (kE u v u w h l k d (Or.inl ⟨hi,c,by rw [j.out,i.out,p];exact beq_self_eq_true _,rfl⟩)) ?_
      rw [pH q o g f,if_pos p,ar,j.out]
     ·refine same (kD u v w h l (Or.inr (Or.inr ⟨k,d,hi,c,?_⟩))) ?_
      ·rw [j.out,i.out];simp;omega
      ·rw [pH q o g f,if_neg p];rfl
    | false=>
     have n:=fx i.out d c;refine same (kE u v u w h l k d (Or.inr (Or.inl ⟨hi,c,rfl⟩))) ?_
     rw [(lz q n g).1,ar,j.out]
   | false=>
    have s:=fx j.out k hi;cases c:aY v with
    | true=>
     have o:=il i.out c;refine same (kE u v v w h l k d (Or.inr (Or.inr ⟨hi,c,rfl⟩))) ?_
     rw [(lz o s f).2,ar,i.out]
    | false=>
     have n:=fx i.out d c;have e:cn (floatBits .add .f64 x y)=iU (sB x) (sB y) (vI x+vI y):=by rw [lp s n,ar];rfl
     rw [e];exact Aw x y u v _ w j i h l s n rfl k d hi c
theorem xc {op:BinOp} (a:op=.add\/op=.sub\/op=.mul\/op=.quo) (x y:Nat):cn (floatBits op .f64 x y)<18446744073709551616:=by
 cases h:floatBits op .f64 x y with
 | none=>decide
 | some r=>exact jb a h
theorem pI:ah ((9221120237041090561:Nat):Int)=true:=by decide
theorem Hu (o:Option Nat):Ag o (cn o):=by
 cases o with
 | none=>exact⟨pI,by decide⟩
 | some r=>rfl
def FitL (l:List Nat):Prop:=∀ x ∈ l,x<18446744073709551616
theorem FitL.get {l:List Nat} (h:FitL l) (i:Nat):l.getD i 0<18446744073709551616:=by
 by_cases hi:i<l.length
 ·have e:l.getD i 0=l[i]:=by simp [List.getD,List.getElem?_eq_getElem hi]
  rw [e];exact h _ (List.getElem_mem hi)
 ·have e:l.getD i 0=0:=by simp [List.getD,List.getElem?_eq_none (show l.length<=i by omega)]
  rw [e];decide
theorem isS (a:Nat) (u:Int) (w:World) (b:Hid (u=(a:Int))) (h:Hid (U64 a)) :
  Calls Tryz.prog 17 #[.float .f64 a,.int .u64 u] w fun e c=>e=.returned (.bool true)/\c=w:=by
 have:=Oj a u w h.out (by rw [b.out];exact h.out)
 rw [b.out,gV] at this
 rw [b.out];exact this
theorem Hv (G b off c n:Nat) (p:Option Addr) (z:Value) (xs:List Nat) (w:World) (A:Src w p b off xs) (t:OwnF w G 41 uV z xs) (y:FitL xs) (l:xs.length=n) (hn:n<=200) :
  Calls Tryz.prog 12 #[.slice p n c,z] w fun e H=>e=.returned (.bool true)/\∃ q,H=w.drewN q:=by
 obtain⟨I,E,c2,rfl,r,s⟩:=t.shape;have o:=hideS y;have B:=hideS A;have C:=hideS r;have f:=hideS s;rw [l];have F:=hideS l.symm;clear A t y r s l
 go_enter Tryz.func12,Tryz.ntmps12
 go_wp2
 go_loopw [5] (fun i wr=>∃ k:Nat,k<=n/\i=.int .i64 k/\Hid (∃ q,wr=w.drewN q)) (fun i _=>n - (intOf i).toNat)
 case atStart=>exact⟨0,Nat.zero_le _,rfl,⟨0,rfl⟩⟩
 case round=>
  obtain⟨k,J,rfl,d⟩:=hrel
  by_cases h:k<n
  ·have g:k<xs.length:=by rw [<- F.out];exact h
   obtain rfl:=B.out.at_ (by omega)
   obtain rfl:=(C.out (by omega)).1
   have j:wr.cell? ⟨b,off+k,none⟩=some (.float .f64 (xs.getD k 0)):=by obtain⟨q,e⟩:=d.out;rw [e];exact B.out.cell k g
   have a:wr.cell? ⟨E,k,none⟩=some (.int .u64 ((xs.getD k 0:Nat):Int)):=by obtain⟨q,e⟩:=d.out;rw [e];exact f.out k g
   have v:=hideS (ag (o.out.get k));clear g;generalize xs.getD k 0=x at j a v
   obtain⟨u,m⟩:∃ u:Int,u=(x:Int):=⟨_,rfl⟩;rw [<- m] at a
   have D:=hideS m;clear m;go_wp2
   go_quiet ((go_at_call 17;exact Calls.quiet_of_same (isS x u _ D v)))
   go_wp2
   go_roundw
   case rel=>exact⟨k+1,by omega,by simp,by obtain⟨q,e⟩:=d.out;exact⟨q+nq,by rw [e,World.drewN_drewN]⟩⟩
   case measure=>simp [intOf];omega
  ·obtain rfl:k=n:=by omega
   go_wp2
   go_ret
   exact⟨rfl,d.out⟩
theorem xd (o:Option Nat) (x:Nat):floatBits .mul .f64 (cn o) x=o.bind fun p=>floatBits .mul .f64 p x:=by
 cases o with
 | none=>rw [lu,dV pI];rfl
 | some r=>rfl
theorem xe (o:Option Nat) (x:Nat):floatBits .add .f64 (cn o) x=o.bind fun p=>floatBits .add .f64 p x:=by
 cases o with
 | none=>rw [lu,dV pI];rfl
 | some r=>rfl
theorem pJ (x c:Nat) (o:Option Nat):floatBits .add .f64 (cn (floatBits .mul .f64 (cn o) x)) c=fR x o c:=by
 rw [xd,xe];rfl
theorem km (B n x:Nat) (v:Value) (u:Int) (cs:List Nat) (w:World) (R:OwnF w B 41 uV v cs) (P:FitL cs) (hu:Hid (u=(x:Int))) (h:Hid (U64 u)) (A:cs.length=n) (hn:n<=1000000) :
  Calls Tryz.prog 103 #[v,.int .u64 u] w fun e I=>e=.returned (.int .u64 (cn (bj cs x):Int))/\Below w.heap.size w I:=by
 obtain⟨p,g,c,rfl,r,O⟩:=R.shape;rw [A];have HF:=hideS P;have HN:=hideS A;have HR:=hideS O
 by_cases h0:n=0
 ·subst h0;have b:Hid (bj cs x=some 0):=by show _=_;unfold bj;rw [if_pos A]
  rw [b.out];clear R P A r O HR HF HN
  go_enter Tryz.func103,Tryz.ntmps103
  go_wp2
  go_ret
  exact⟨rfl,Below.refl _ _⟩
 obtain⟨m,rfl⟩:∃ m,n=m+1:=⟨n - 1,by omega⟩
 obtain⟨rfl,_,hg⟩:=r (by omega)
 have X:w.cell? ⟨g,m,none⟩=some (.int .u64 ((cs.getD m 0:Nat):Int)):=O m (by omega)
 have b:Hid (bj cs x=hornAt cs x m):=by show _=_;unfold bj;rw [if_neg (by omega),A];rfl
 have N:Hid (((cs.getD m 0:Nat):Int)=(cn (hornAt cs x 0):Int)):=by show _=_;unfold hornAt;rw [A];rfl
 have S:Hid (∀ i,hornAt cs x (i+1)=fR x (hornAt cs x i) (cs.getD (m - 1 - i) 0)):=fun i=>by
  show fR x (hornAt cs x i) (cs.getD (cs.length - 2 - i) 0)=_
  rw [A];rfl
 have M:=hideS (ag (P.get m));generalize ((cs.getD m 0:Nat):Int)=p0 at X N M
 rw [b.out];obtain⟨D,l⟩:∃ D:Int,(cn (hornAt cs x m):Int)=D:=⟨_,rfl⟩;rw [l];have Y:=hideS l;have ad:((m:Int)+1==0)=false:=by simp;omega
 clear R P A r O h0 b l
 go_enter Tryz.func103,Tryz.ntmps103
 go_wp2_with fail
 go_loopw [5,6] (fun s i wr=>∃ (t a:Int),-1<=t/\t<(m:Int)/\i=.int .i64 t/\s=.int .u64 a/\Hid (∃ k:Nat,(k:Int)=(m:Int) - 1 - t/\a=(cn (hornAt cs x k):Int))/\Hid (U64 a)/\Hid (Below w.heap.size w wr)) (fun _ i _=>(intOf i+1).toNat)
 case atStart=>exact⟨(m:Int) - 1,p0,by omega,by omega,by congr 1;omega,rfl,⟨0,by omega,N.out⟩,M,Below.refl _ _⟩
 case round=>
  obtain⟨t,a,V,ai,rfl,rfl,HK,HU,K⟩:=hrel
  by_cases Z:0<=t
  ·obtain⟨j,rfl⟩:=Int.eq_ofNat_of_zero_le Z;obtain⟨k,hk,r⟩:=HK.out;have HA:=hideS r;have hj:m - 1 - k=j:=by omega
   have J:j<cs.length:=by rw [HN.out];omega
   have d:wr.cell? ⟨g,j,none⟩=some (.int .u64 ((cs.getD j 0:Nat):Int)):=(K.out.cell (p:=⟨g,j,none⟩) hg).trans (HR.out j J);have f:=hideS (S.out k);rw [hj] at f
   have C:=hideS (ag (HF.out.get j));obtain⟨y,hy⟩:∃ y:Nat,cs.getD j 0=y:=⟨_,rfl⟩;rw [hy] at d f C
   obtain⟨L,H⟩:∃ L:Int,L=(y:Int):=⟨_,rfl⟩;rw [<- H] at d C
   have ab:=hideS H;have G:g<wr.heap.size:=Nat.lt_of_lt_of_le hg K.out.size;obtain⟨q,Q⟩:∃ q:Int,q=(cn (floatBits .mul .f64 (cn (hornAt cs x k)) x):Int):=⟨_,rfl⟩;obtain⟨z,U⟩:∃ z:Int,z=(cn (hornAt cs x (k+1)):Int):=⟨_,rfl⟩;have HM:Hid (∀ w,Calls Tryz.prog 63 #[.int .u64 a,.int .u64 u] w fun e I=>e=.returned (.int .u64 q)/\Below w.heap.size w I):=fun w=>by rw [Q];exact cU _ x a u w HA hu HU.out h.out
   have HD:Hid (∀ w,Calls Tryz.prog 50 #[.int .u64 q,.int .u64 L] w fun e I=>e=.returned (.int .u64 z)/\Below w.heap.size w I):=fun w=>by
    have:=fA (cn (floatBits .mul .f64 (cn (hornAt cs x k)) x)) y q L w Q ab (by rw [Q];exact ag (xc (by simp) _ _)) C.out
    rw [pJ,<- f.out,<- U] at this
    exact this
   have HZ:Hid (z=(cn (hornAt cs x (k+1)):Int)):=U;have W:Hid (U64 z):=by rw [HZ.out,f.out,<- pJ];exact ag (xc (by simp) _ _)
   have HK2:Hid (∃ k:Nat,(k:Int)=(m:Int) - 1 - ((j:Int) - 1)/\z=(cn (hornAt cs x k):Int)):=⟨k+1,by omega,HZ.out⟩
   have ak:(j:Int)<(m:Int)+1:=by omega
   clear Q U H hy hj f HA hk r J HK V
   go_wp2_with fail
   go_region_held3 (fun I=>I.cell? ⟨g,j,none⟩=some (.int .u64 L)) (first | exact d | exact (o.cell (p:=⟨g,j,none⟩) G).trans d | exact (E.cell (p:=⟨g,j,none⟩) (Nat.lt_of_lt_of_le G o.size)).trans ((o.cell (p:=⟨g,j,none⟩) G).trans d) | go_keep) (first | ((go_at_call 63;refine (HM.out _).mono ?_;rintro e w3 ⟨rfl,o⟩)) | ((go_at_call 50;refine (HD.out _).mono ?_;rintro e w4 ⟨rfl,E⟩)))
   have F:=hideS (K.out.drew.trans (o.mono (show w.heap.size<=wr.heap.size from K.out.size)))
   have T:=hideS (F.out.trans (E.mono F.out.size));clear o E F HM HD
   go_wp2_with fail
   go_roundw
   case rel=>exact⟨(j:Int) - 1,z,by omega,by omega,rfl,rfl,HK2,W,T⟩
   case measure=>simp [intOf]
  ·obtain rfl:t= -1:=by omega
   have HE:Hid (a=D):=by
    obtain⟨k,hk,r⟩:=HK.out;have:k=m:=by omega
    rw [<- Y.out,<- this];exact r
   clear HK;go_wp2
   go_ret
   exact⟨bu HE.out,K.out⟩
end Go.Proofs.YtfdddijdjpijbaaGreat
