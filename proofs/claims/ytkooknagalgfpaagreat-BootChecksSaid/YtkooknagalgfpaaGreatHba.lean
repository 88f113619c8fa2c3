/-  -/
import Derived.Test.YtkooknagalgfpaaGreatHaz
import Derived.Test.YtkooknagalgfpaaGreatHav
import Derived.Deep.RegionHeld3
import Derived.Test.YtkooknagalgfpaaGreatHam
namespace Go.Proofs.YtkooknagalgfpaaGreat
open Go.RowKit

def nr (X:Nat) (ex:Int) (Y:Nat) (ey:Int):Int:=if X=0 then ey else if Y=0 then ex else min ex ey
def sg (neg:Bool) (N:Nat):Int:=if neg then -(N:Int) else (N:Int)

abbrev boxN (w:World) (n:Bool) (v:Value) (e:Int):World:=w.alloc (.cells #[.bool n,v,.int .i64 e] 117)
theorem aJ (w:World) (n:Bool) (v:Value) (e:Int):Below w.heap.size w (boxN w n v e):=(Below.refl _ _).alloc (Nat.le_refl _) _

def Six (w:World) (B:Nat) (nx:Bool) (vx:Value) (ex:Int) (ny:Bool) (vy:Value) (ey:Int):Prop:=
 w.cell? ⟨B,0,none⟩=some (.bool nx)∧w.cell? ⟨B,1,none⟩=some vx∧w.cell? ⟨B,2,none⟩=some (.int .i64 ex)∧
 w.cell? ⟨B+1,0,none⟩=some (.bool ny)∧w.cell? ⟨B+1,1,none⟩=some vy∧w.cell? ⟨B+1,2,none⟩=some (.int .i64 ey)
theorem uF (w:World) (nx:Bool) (vx:Value) (ex:Int) (ny:Bool) (vy:Value) (ey:Int):Six (boxN (boxN w nx vx ex) ny vy ey) w.heap.size nx vx ex ny vy ey:=by
 have hb:=aJ (boxN w nx vx ex) ny vy ey
 have hs:w.heap.size<(boxN w nx vx ex).heap.size:=by simp
 refine⟨?_,?_,?_,?_,?_,?_⟩
 ·rw [hb.cell (p:=⟨w.heap.size,0,none⟩) hs];simp
 ·rw [hb.cell (p:=⟨w.heap.size,1,none⟩) hs];simp
 ·rw [hb.cell (p:=⟨w.heap.size,2,none⟩) hs];simp
 ·have e:w.heap.size+1=(boxN w nx vx ex).heap.size:=by simp
  rw [e];simp
 ·have e:w.heap.size+1=(boxN w nx vx ex).heap.size:=by simp
  rw [e];simp
 ·have e:w.heap.size+1=(boxN w nx vx ex).heap.size:=by simp
  rw [e];simp
theorem Six.below {w w':World} {B:Nat} {nx ny:Bool} {vx vy:Value} {ex ey:Int} {s:Nat} (h:Six w B nx vx ex ny vy ey) (hb:Below s w w') (hs:B+1<s):Six w' B nx vx ex ny vy ey:=by
 obtain⟨a,b,c,d,e,f⟩:=h
 exact⟨(hb.cell (p:=⟨B,0,none⟩) (by show B<s;omega)).trans a,(hb.cell (p:=⟨B,1,none⟩) (by show B<s;omega)).trans b,(hb.cell (p:=⟨B,2,none⟩) (by show B<s;omega)).trans c,(hb.cell (p:=⟨B+1,0,none⟩) hs).trans d,(hb.cell (p:=⟨B+1,1,none⟩) hs).trans e,(hb.cell (p:=⟨B+1,2,none⟩) hs).trans f⟩
theorem gg (w:World) (nx:Bool) (vx:Value) (ex:Int) (ny:Bool) (vy:Value) (ey:Int):(boxN (boxN w nx vx ex) ny vy ey).heap.size=w.heap.size+2:=by simp

set_option maxHeartbeats 800000 in
theorem xr (nx ny:Bool) (vx vy:Value) (ex ey:Int) (X Y:Nat) (w:World) (hX:DN w vx X) (hY:DN w vy Y) :
  Calls Tryz.prog 132 #[.agg #[.bool nx,vx,.int .i64 ex],.agg #[.bool ny,vy,.int .i64 ey]] w fun e w'=>e=.returned (.int .i64 (nr X ex Y ey))∧Below w.heap.size w w':=by
 have hbx:=aJ w nx vx ex
 have hby:Below w.heap.size w (boxN (boxN w nx vx ex) ny vy ey):=hbx.trans ((aJ (boxN w nx vx ex) ny vy ey).mono (by simp))
 have H1:=ae (hX.below hby)
 have H2:=ae (hY.below hby)
 have HB:=ae hby
 have H6:=ae (uF w nx vx ex ny vy ey)
 have HZ:=ae (gg w nx vx ex ny vy ey)
 clear hbx hby hX hY
 unfold nr
 by_cases h0:X=0
 ·subst h0
  rw [if_pos rfl]
  go_enter Tryz.func132,Tryz.ntmps132
  go_wp2_with fail
  refine (aT _ _ _ 0 true _ H1.out rfl).mono ?_
  rintro x w1 ⟨rfl,hb1⟩
  have H7:=ae (H6.out.below hb1 (by rw [HZ.out];omega))
  have hz:w.heap.size+1<w1.heap.size:=by have h9:=hb1.size;rw [HZ.out] at h9;omega
  obtain⟨c0,c1,c2,c3,c4,c5⟩:=H7.out
  have HB1:=ae hb1
  clear hb1
  go_wp2_with fail
  go_ret
  exact⟨rfl,HB.out.trans (HB1.out.mono (by rw [HZ.out];omega))⟩
 ·rw [if_neg h0]
  have HX:=ae h0
  clear h0
  by_cases h0:Y=0
  ·subst h0
   rw [if_pos rfl]
   go_enter Tryz.func132,Tryz.ntmps132
   go_wp2_with fail
   refine (aT _ _ _ X false _ H1.out (decide_eq_false HX.out)).mono ?_
   rintro x w1 ⟨rfl,hb1⟩
   have H7:=ae (H6.out.below hb1 (by rw [HZ.out];omega))
   have hz:w.heap.size+1<w1.heap.size:=by have h9:=hb1.size;rw [HZ.out] at h9;omega
   obtain⟨c0,c1,c2,c3,c4,c5⟩:=H7.out
   have HB1:=ae hb1
   have H2:=ae (H2.out.below hb1)
   clear hb1
   go_wp2_with fail
   refine (aT _ _ _ 0 true _ H2.out rfl).mono ?_
   rintro x w2 ⟨rfl,hb2⟩
   obtain⟨d0,d1,d2,d3,d4,d5⟩:=H7.out.below hb2 hz
   clear c0 c1 c2 c3 c4 c5
   have HB2:=ae hb2
   clear hb2
   go_wp2_with fail
   go_ret
   exact⟨rfl,(HB.out.trans (HB1.out.mono (by rw [HZ.out];omega))).trans (HB2.out.mono (by omega))⟩
  ·rw [if_neg h0]
   have HY:=ae h0
   clear h0
   go_enter Tryz.func132,Tryz.ntmps132
   go_wp2_with fail
   refine (aT _ _ _ X false _ H1.out (decide_eq_false HX.out)).mono ?_
   rintro x w1 ⟨rfl,hb1⟩
   have H7:=ae (H6.out.below hb1 (by rw [HZ.out];omega))
   have hz:w.heap.size+1<w1.heap.size:=by have h9:=hb1.size;rw [HZ.out] at h9;omega
   obtain⟨c0,c1,c2,c3,c4,c5⟩:=H7.out
   have HB1:=ae hb1
   have H2:=ae (H2.out.below hb1)
   clear hb1
   go_wp2_with fail
   refine (aT _ _ _ Y false _ H2.out (decide_eq_false HY.out)).mono ?_
   rintro x w2 ⟨rfl,hb2⟩
   obtain⟨d0,d1,d2,d3,d4,d5⟩:=H7.out.below hb2 hz
   clear c0 c1 c2 c3 c4 c5
   have HB2:=ae hb2
   clear hb2
   go_wp2_with fail
   go_ret
   exact⟨rfl,(HB.out.trans (HB1.out.mono (by rw [HZ.out];omega))).trans (HB2.out.mono (by omega))⟩

set_option maxHeartbeats 800000 in
theorem nZ (nx:Bool) (vx:Value) (ex e:Int) (X n:Nat) (w:World) (hX:DN w vx X) (hn:X≠0→ex - e=(n:Int)) (hn1:n≤100000000) (hnd:nd X≤10000000) :
  Calls Tryz.prog 133 #[.agg #[.bool nx,vx,.int .i64 ex],.int .i64 e] w fun x w'=>∃ v,x=.returned v∧DN w' v (X*2^n)∧Below w.heap.size w w':=by
 have HB:=ae (aJ w nx vx ex)
 have H1:=ae (hX.below HB.out)
 clear hX
 by_cases h0:X=0
 ·subst h0
  rw [Nat.zero_mul]
  go_enter Tryz.func133,Tryz.ntmps133
  go_wp2_with fail
  refine (aT _ _ _ 0 true _ H1.out rfl).mono ?_
  rintro x w1 ⟨rfl,hb1⟩
  have HB1:=ae hb1
  clear hb1
  go_wp2_with fail
  go_ret
  exact⟨_,rfl,Or.inl ⟨rfl,_,_,rfl⟩,HB.out.trans (HB1.out.mono (by simp))⟩
 ·have he:=hn h0
  have HX:=ae h0
  clear h0 hn
  go_enter Tryz.func133,Tryz.ntmps133
  go_wp2_with fail
  refine (aT _ _ _ X false _ H1.out (decide_eq_false HX.out)).mono ?_
  rintro x w1 ⟨rfl,hb1⟩
  obtain⟨c1,f1⟩:=xk hb1
  have HB1:=ae hb1
  have H2:=ae (H1.out.below hb1)
  clear hb1
  go_wp2_with fail
  refine (np vx X n _ H2.out hnd hn1).mono ?_
  rintro x w2 ⟨v2,rfl,hd2,hb2⟩
  have HB2:=ae hb2
  have HD2:=ae hd2
  clear hb2 hd2
  have hz:w.heap.size≤w1.heap.size:=by have:=HB1.out.size;simp at this;omega
  go_wp2_with fail
  go_ret
  exact⟨_,rfl,HD2.out,(HB.out.trans (HB1.out.mono (by simp))).trans (HB2.out.mono hz)⟩

end Go.Proofs.YtkooknagalgfpaaGreat
namespace Go.Proofs.YtkooknagalgfpaaGreat
open Go.RowKit

abbrev pbox (w:World) (nx:Bool) (vx:Value) (ex:Int) (ny:Bool) (vy:Value) (ey:Int):World:=boxN (boxN (boxN w nx vx ex) ny vy ey) false (.slice none 0 0) 0
theorem jt (w:World) (nx:Bool) (vx:Value) (ex:Int) (ny:Bool) (vy:Value) (ey:Int):(pbox w nx vx ex ny vy ey).heap.size=w.heap.size+3:=by simp
theorem dC (w:World) (nx:Bool) (vx:Value) (ex:Int) (ny:Bool) (vy:Value) (ey:Int):Below w.heap.size w (pbox w nx vx ex ny vy ey):=
 ((aJ w nx vx ex).trans ((aJ (boxN w nx vx ex) ny vy ey).mono (by simp))).trans ((aJ _ _ _ _).mono (by rw [gg];omega))
theorem kY (w:World) (nx:Bool) (vx:Value) (ex:Int) (ny:Bool) (vy:Value) (ey:Int):Six (pbox w nx vx ex ny vy ey) w.heap.size nx vx ex ny vy ey:=
 (uF w nx vx ex ny vy ey).below (aJ _ _ _ _) (by rw [gg];omega)
theorem From.mono {A B:Nat} {v:Value} (h:From B v) (hle:A≤B):From A v:=fun a l c e=>Nat.le_trans hle (h a l c e)

theorem LJ (w:World) (n:Bool) (v:Value) (e:Int) :
  ((boxN w n v e).cell? ⟨w.heap.size,0,none⟩=some (.bool n)∧(boxN w n v e).cell? ⟨w.heap.size,1,none⟩=some v∧(boxN w n v e).cell? ⟨w.heap.size,2,none⟩=some (.int .i64 e))∧
  ((boxN w n v e).frozen? ⟨w.heap.size,0,none⟩=false∧(boxN w n v e).frozen? ⟨w.heap.size,1,none⟩=false∧(boxN w n v e).frozen? ⟨w.heap.size,2,none⟩=false):=by
 refine⟨⟨?_,?_,?_⟩,?_,?_,?_⟩ <;>first | exact World.frozen?_alloc_new _ _ _ _ | simp
theorem cF {w w':World} {nx ny:Bool} {vx vy:Value} {ex ey:Int} (hb:Below (w.heap.size+3) (pbox w nx vx ex ny vy ey) w') :
  (w'.cell? ⟨w.heap.size+1+1,0,none⟩=some (.bool false)∧w'.cell? ⟨w.heap.size+1+1,1,none⟩=some (.slice none 0 0)∧w'.cell? ⟨w.heap.size+1+1,2,none⟩=some (.int .i64 0))∧
  (w'.frozen? ⟨w.heap.size+1+1,0,none⟩=false∧w'.frozen? ⟨w.heap.size+1+1,1,none⟩=false∧w'.frozen? ⟨w.heap.size+1+1,2,none⟩=false):=by
 have hs:w.heap.size+1+1<w.heap.size+3:=by omega
 have h:=LJ (boxN (boxN w nx vx ex) ny vy ey) false (.slice none 0 0) 0
 rw [gg] at h
 obtain⟨⟨a,b,c⟩,d,e,f⟩:=h
 exact⟨⟨(hb.cell (p:=⟨w.heap.size+1+1,0,none⟩) hs).trans a,(hb.cell (p:=⟨w.heap.size+1+1,1,none⟩) hs).trans b,(hb.cell (p:=⟨w.heap.size+1+1,2,none⟩) hs).trans c⟩,
  (hb.frozen (p:=⟨w.heap.size+1+1,0,none⟩) hs).trans d,(hb.frozen (p:=⟨w.heap.size+1+1,1,none⟩) hs).trans e,(hb.frozen (p:=⟨w.heap.size+1+1,2,none⟩) hs).trans f⟩

def fB (w:World) (E S:Int) (x:Ending) (w':World):Prop:=
 ∃ neg' v' N' E',x=.returned (.agg #[.bool neg',v',.int .i64 E'])∧DN w' v' N'∧From w.heap.size v'∧sg neg' N'=S∧(E'=E∨(E'=0∧N'=0))∧Below w.heap.size w w'

theorem dD {w w4:World} {nx ny neg:Bool} {vx vy v:Value} {ex ey E S:Int} {N:Nat} (hb:Below (w.heap.size+3) (pbox w nx vx ex ny vy ey) w4) (hd:DN w4 v N) (hf:From (w.heap.size+3) v) (hs:sg neg N=S) :
  fB w E S (.returned (.agg #[.bool neg,v,.int .i64 E])) (((w4.setCell ⟨w.heap.size+1+1,0,none⟩ (.bool neg)).setCell ⟨w.heap.size+1+1,1,none⟩ v).setCell ⟨w.heap.size+1+1,2,none⟩ (.int .i64 E)):=by
 refine⟨neg,v,N,E,rfl,((hd.set hf (a:=⟨w.heap.size+1+1,0,none⟩) (Nat.lt_succ_self _) _).set hf (a:=⟨w.heap.size+1+1,1,none⟩) (Nat.lt_succ_self _) _).set hf (a:=⟨w.heap.size+1+1,2,none⟩) (Nat.lt_succ_self _) _,hf.mono (by omega),hs,Or.inl rfl,?_⟩
 have h9:w.heap.size≤w.heap.size+1+1:=by omega
 exact ((((dC w nx vx ex ny vy ey).trans (hb.mono (by omega))).setCell h9 _).setCell h9 _).setCell h9 _

set_option maxHeartbeats 1600000 in
theorem Hf (nx ny:Bool) (vx vy:Value) (ex ey E:Int) (X Y n m a b:Nat) (w:World) (hX:DN w vx X) (hY:DN w vy Y)
  (hE:Hid (nr X ex Y ey=E)) (hn:X≠0→ex - E=(n:Int)) (hm:Y≠0→ey - E=(m:Int)) (hn1:n≤1000000) (hm1:m≤1000000) (hXd:nd X≤1000000) (hYd:nd Y≤1000000)
  (ha:Hid (X*2^n=a)) (hb:Hid (Y*2^m=b)) (had:nd a≤10000000) (hbd:nd b≤10000000) (hc:nx=ny∨a=0∨b=0) :
  Calls Tryz.prog 82 #[.agg #[.bool nx,vx,.int .i64 ex],.agg #[.bool ny,vy,.int .i64 ey]] w (fB w E (sg nx a+sg ny b)):=by
 have HB0:=ae (dC w nx vx ex ny vy ey)
 have HZ:=ae (jt w nx vx ex ny vy ey)
 have H60:=ae (kY w nx vx ex ny vy ey)
 have HX0:=ae (hX.below HB0.out)
 have HY0:=ae (hY.below HB0.out)
 have HBo:=ae (xr nx ny vx vy ex ey X Y _ HX0.out HY0.out)
 rw [hE.out] at HBo
 have HNx:=ae hn
 have HM:=ae hm
 have HC:=ae hc
 clear hX hY hn hm hc
 go_enter Tryz.func82,Tryz.ntmps82
 go_wp2_with fail
 refine HBo.out.mono ?_
 rintro x w1 ⟨rfl,hb1⟩
 have hz1:w.heap.size+3≤w1.heap.size:=by have h9:=hb1.size;rw [HZ.out] at h9;exact h9
 have H61:=ae (H60.out.below hb1 (by rw [HZ.out];omega))
 have HX1:=ae (HX0.out.below hb1)
 have HY1:=ae (HY0.out.below hb1)
 have HB1:Hid (Below (w.heap.size+3) (pbox w nx vx ex ny vy ey) w1):=hb1.mono (by rw [HZ.out];omega)
 obtain⟨c0,c1,c2,c3,c4,c5⟩:=H61.out
 clear hb1
 go_wp2_with fail
 refine (nZ nx vx ex E X n _ HX1.out HNx.out (by omega) (by omega)).mono ?_
 rintro x w2 ⟨va,rfl,hd2,hb2⟩
 rw [ha.out] at hd2
 have hz2:w.heap.size+3≤w2.heap.size:=by have h9:=hb2.size;omega
 have H62:=ae (H61.out.below hb2 (by omega))
 have HY2:=ae (HY1.out.below hb2)
 have HA2:=ae hd2
 have HB2:Hid (Below (w.heap.size+3) (pbox w nx vx ex ny vy ey) w2):=HB1.out.trans (hb2.mono hz1)
 clear hb2 hd2 c0 c1 c2 c3 c4 c5
 obtain⟨c0,c1,c2,c3,c4,c5⟩:=H62.out
 go_wp2_with fail
 refine (nZ ny vy ey E Y m _ HY2.out HM.out (by omega) (by omega)).mono ?_
 rintro x w3 ⟨vb,rfl,hd3,hb3⟩
 rw [hb.out] at hd3
 have hz3:w.heap.size+3≤w3.heap.size:=by have h9:=hb3.size;omega
 have H63:=ae (H62.out.below hb3 (by omega))
 have HA3:=ae (HA2.out.below hb3)
 have HV3:=ae hd3
 have HB3:Hid (Below (w.heap.size+3) (pbox w nx vx ex ny vy ey) w3):=HB2.out.trans (hb3.mono hz2)
 clear hb3 hd3 c0 c1 c2 c3 c4 c5 HA2
 obtain⟨c0,c1,c2,c3,c4,c5⟩:=H63.out
 obtain⟨p,c,rfl⟩:=HA3.out.form
 obtain⟨q,d,rfl⟩:=HV3.out.form
 have HAdd:=ae (jR _ _ a b w3 HA3.out HV3.out had hbd)
 obtain⟨N,hN⟩:∃ N,a+b=N:=⟨_,rfl⟩
 rw [hN] at HAdd
 have HN:=ae hN
 clear hN
 clear HA3 HV3
 have ea:a=0→nd a=0:=fun h=>by rw [h];rfl
 have eb:b=0→nd b=0:=fun h=>by rw [h];rfl
 have ea1:a≠0→1≤nd a:=dU
 have eb1:b≠0→1≤nd b:=dU
 clear hXd hYd HX0 HY0 HX1 HY1 HY2 H60 H61 H62 H63 HB1 HB2 HBo HNx HM hE ha hb HB0 HZ
 generalize nd a=la at *
 generalize nd b=lb at *
 by_cases ha0:a=0
 ·have hl:=ea ha0
  subst hl
  by_cases hb0:b=0
  ·have hl:=eb hb0
   subst hl ha0 hb0
   clear ea eb ea1 eb1
   cases nx<;>cases ny
   all_goals
    go_wp2_with fail
    refine HAdd.out.mono ?_
    rintro x w4 ⟨v4,rfl,hd4,hf4,hb4⟩
    have HB4:=ae (HB3.out.trans (hb4.mono hz3))
    obtain⟨⟨r0,r1,r2⟩,f0,f1,f2⟩:=cF HB4.out
    obtain⟨p4,c4,rfl⟩:=hd4.form
    have HD4:=ae hd4
    have HF4:=ae (hf4.mono hz3)
    clear hd4 hf4 hb4
    go_wp2_with fail
    refine bodyPost_ret (v:=.agg #[.bool _,.slice p4 _ c4,.int .i64 E]) (by simp [results,Tryz.results82,go_sem,r0,r1,r2]) rfl (dD HB4.out HD4.out HF4.out ?_)
    rw [← HN.out]
    simp [sg]
    try omega
  ·have hl:=eb1 hb0
   subst ha0
   clear ea eb ea1 eb1 hb0
   cases nx<;>cases ny
   all_goals
    go_wp2_with fail
    refine HAdd.out.mono ?_
    rintro x w4 ⟨v4,rfl,hd4,hf4,hb4⟩
    have HB4:=ae (HB3.out.trans (hb4.mono hz3))
    obtain⟨⟨r0,r1,r2⟩,f0,f1,f2⟩:=cF HB4.out
    obtain⟨p4,c4,rfl⟩:=hd4.form
    have HD4:=ae hd4
    have HF4:=ae (hf4.mono hz3)
    clear hd4 hf4 hb4
    go_wp2_with fail
    refine bodyPost_ret (v:=.agg #[.bool _,.slice p4 _ c4,.int .i64 E]) (by simp [results,Tryz.results82,go_sem,r0,r1,r2]) rfl (dD HB4.out HD4.out HF4.out ?_)
    rw [← HN.out]
    simp [sg]
    try omega
 ·have hl:=ea1 ha0
  by_cases hb0:b=0
  ·have hl:=eb hb0
   subst hl hb0
   clear ea eb ea1 eb1 ha0
   cases nx<;>cases ny
   all_goals
    go_wp2_with fail
    refine HAdd.out.mono ?_
    rintro x w4 ⟨v4,rfl,hd4,hf4,hb4⟩
    have HB4:=ae (HB3.out.trans (hb4.mono hz3))
    obtain⟨⟨r0,r1,r2⟩,f0,f1,f2⟩:=cF HB4.out
    obtain⟨p4,c4,rfl⟩:=hd4.form
    have HD4:=ae hd4
    have HF4:=ae (hf4.mono hz3)
    clear hd4 hf4 hb4
    go_wp2_with fail
    refine bodyPost_ret (v:=.agg #[.bool _,.slice p4 _ c4,.int .i64 E]) (by simp [results,Tryz.results82,go_sem,r0,r1,r2]) rfl (dD HB4.out HD4.out HF4.out ?_)
    rw [← HN.out]
    simp [sg]
    try omega
  ·have hl2:=eb1 hb0
   clear ea eb ea1 eb1
   have hs:nx=ny:=by
    rcases HC.out with h | h | h
    ·exact h
    ·exact absurd h ha0
    ·exact absurd h hb0
   clear ha0 hb0
   ·subst hs
    cases nx
    all_goals
     go_wp2_with fail
     refine HAdd.out.mono ?_
     rintro x w4 ⟨v4,rfl,hd4,hf4,hb4⟩
     have HB4:=ae (HB3.out.trans (hb4.mono hz3))
     obtain⟨⟨r0,r1,r2⟩,f0,f1,f2⟩:=cF HB4.out
     obtain⟨p4,c4,rfl⟩:=hd4.form
     have HD4:=ae hd4
     have HF4:=ae (hf4.mono hz3)
     clear hd4 hf4 hb4
     go_wp2_with fail
     refine bodyPost_ret (v:=.agg #[.bool _,.slice p4 _ c4,.int .i64 E]) (by simp [results,Tryz.results82,go_sem,r0,r1,r2]) rfl (dD HB4.out HD4.out HF4.out ?_)
     rw [← HN.out]
     simp [sg]
     try omega

end Go.Proofs.YtkooknagalgfpaaGreat
namespace Go.Proofs.YtkooknagalgfpaaGreat
open Go.RowKit

theorem mn {w w4:World} {nx ny:Bool} {vx vy:Value} {ex ey E S:Int} (hb:Below (w.heap.size+3) (pbox w nx vx ex ny vy ey) w4) (hs:0=S) :
  fB w E S (.returned (.agg #[.bool false,.slice none 0 0,.int .i64 0])) (((w4.setCell ⟨w.heap.size+1+1,0,none⟩ (.bool false)).setCell ⟨w.heap.size+1+1,1,none⟩ (.slice none 0 0)).setCell ⟨w.heap.size+1+1,2,none⟩ (.int .i64 0)):=by
 refine⟨false,.slice none 0 0,0,0,rfl,Or.inl ⟨rfl,_,_,rfl⟩,ph _,hs,Or.inr ⟨rfl,rfl⟩,?_⟩
 have h9:w.heap.size≤w.heap.size+1+1:=by omega
 exact ((((dC w nx vx ex ny vy ey).trans (hb.mono (by omega))).setCell h9 _).setCell h9 _).setCell h9 _

set_option maxHeartbeats 1600000 in
theorem Ak (nx ny:Bool) (vx vy:Value) (ex ey E:Int) (X Y n m a b:Nat) (w:World) (hX:DN w vx X) (hY:DN w vy Y)
  (hE:Hid (nr X ex Y ey=E)) (hn:X≠0→ex - E=(n:Int)) (hm:Y≠0→ey - E=(m:Int)) (hn1:n≤1000000) (hm1:m≤1000000) (hXd:nd X≤1000000) (hYd:nd Y≤1000000)
  (ha:Hid (X*2^n=a)) (hb:Hid (Y*2^m=b)) (had:nd a≤10000000) (hbd:nd b≤10000000) (hs:nx≠ny) (ha0:a≠0) (hb0:b≠0) :
  Calls Tryz.prog 82 #[.agg #[.bool nx,vx,.int .i64 ex],.agg #[.bool ny,vy,.int .i64 ey]] w (fB w E (sg nx a+sg ny b)):=by
 have HB0:=ae (dC w nx vx ex ny vy ey)
 have HZ:=ae (jt w nx vx ex ny vy ey)
 have H60:=ae (kY w nx vx ex ny vy ey)
 have HX0:=ae (hX.below HB0.out)
 have HY0:=ae (hY.below HB0.out)
 have HBo:=ae (xr nx ny vx vy ex ey X Y _ HX0.out HY0.out)
 rw [hE.out] at HBo
 have HNx:=ae hn
 have HM:=ae hm
 clear hX hY hn hm
 go_enter Tryz.func82,Tryz.ntmps82
 go_wp2_with fail
 refine HBo.out.mono ?_
 rintro x w1 ⟨rfl,hb1⟩
 have hz1:w.heap.size+3≤w1.heap.size:=by have h9:=hb1.size;rw [HZ.out] at h9;exact h9
 have H61:=ae (H60.out.below hb1 (by rw [HZ.out];omega))
 have HX1:=ae (HX0.out.below hb1)
 have HY1:=ae (HY0.out.below hb1)
 have HB1:Hid (Below (w.heap.size+3) (pbox w nx vx ex ny vy ey) w1):=hb1.mono (by rw [HZ.out];omega)
 obtain⟨c0,c1,c2,c3,c4,c5⟩:=H61.out
 clear hb1
 go_wp2_with fail
 refine (nZ nx vx ex E X n _ HX1.out HNx.out (by omega) (by omega)).mono ?_
 rintro x w2 ⟨va,rfl,hd2,hb2⟩
 rw [ha.out] at hd2
 have hz2:w.heap.size+3≤w2.heap.size:=by have h9:=hb2.size;omega
 have H62:=ae (H61.out.below hb2 (by omega))
 have HY2:=ae (HY1.out.below hb2)
 have HA2:=ae hd2
 have HB2:Hid (Below (w.heap.size+3) (pbox w nx vx ex ny vy ey) w2):=HB1.out.trans (hb2.mono hz1)
 clear hb2 hd2 c0 c1 c2 c3 c4 c5
 obtain⟨c0,c1,c2,c3,c4,c5⟩:=H62.out
 go_wp2_with fail
 refine (nZ ny vy ey E Y m _ HY2.out HM.out (by omega) (by omega)).mono ?_
 rintro x w3 ⟨vb,rfl,hd3,hb3⟩
 rw [hb.out] at hd3
 have hz3:w.heap.size+3≤w3.heap.size:=by have h9:=hb3.size;omega
 have H63:=ae (H62.out.below hb3 (by omega))
 have HA3:=ae (HA2.out.below hb3)
 have HV3:=ae hd3
 have HB3:Hid (Below (w.heap.size+3) (pbox w nx vx ex ny vy ey) w3):=HB2.out.trans (hb3.mono hz2)
 clear hb3 hd3 c0 c1 c2 c3 c4 c5 HA2
 obtain⟨c0,c1,c2,c3,c4,c5⟩:=H63.out
 obtain⟨p,c,rfl⟩:=HA3.out.form
 obtain⟨q,d,rfl⟩:=HV3.out.form
 have HCmp:=ae (cE _ _ a b w3 HA3.out HV3.out had)
 have HSub:=ae fun w' (hb':Below w3.heap.size w3 w') (hle:b≤a)=>dJ _ _ a b w' (HA3.out.below hb') (HV3.out.below hb') had hle
 have HSub2:=ae fun w' (hb':Below w3.heap.size w3 w') (hle:a≤b)=>dJ _ _ b a w' (HV3.out.below hb') (HA3.out.below hb') hbd hle
 clear HA3 HV3
 have hl:((nd a:Int)==0)=false:=by have:=dU ha0;simp;omega
 have hl2:((nd b:Int)==0)=false:=by have:=dU hb0;simp;omega
 clear hXd hYd HX0 HY0 HX1 HY1 HY2 H60 H61 H62 H63 HB1 HB2 HBo HNx HM hE ha hb HB0 HZ ha0 hb0
 generalize nd a=la at *
 generalize nd b=lb at *
 rcases Nat.lt_trichotomy a b with h | h | h
 ·rw [kU h] at HCmp
  have HL:=ae (Nat.le_of_lt h)
  clear HSub h
  cases nx<;>cases ny
  all_goals first | exact absurd rfl hs | skip
  all_goals
   go_wp2_with fail
   refine HCmp.out.mono ?_
   rintro x w5 ⟨rfl,qq,hq⟩
   have HQ:=ae (show Below w3.heap.size w3 w5 by rw [hq];exact below_drewN (Below.refl _ _) _)
   have g3:=(HQ.out.cell (p:=⟨w.heap.size+1,0,none⟩) (by show w.heap.size+1<_;omega)).trans c3
   have hz5:w.heap.size+3≤w5.heap.size:=by have:=HQ.out.size;omega
   clear hq
   go_wp2_with fail
   go_region_with ((go_at_call 136;refine (HSub2.out _ (HQ.out.drew) HL.out).mono ?_;rintro x w4 ⟨v4,rfl,hd4,hf4,hb4⟩;obtain⟨p4,c4,rfl⟩:=hd4.form;have HB4:=ae ((HB3.out.trans (HQ.out.mono hz3)).drew.trans (hb4.mono hz5));obtain⟨⟨r0,r1,r2⟩,f0,f1,f2⟩:=cF HB4.out;have k3:=(hb4.cell (p:=⟨w.heap.size+1,0,none⟩) (by show w.heap.size+1<w5.heap.size;omega)).trans g3;have HD4:=ae hd4;have HF4:=ae (hf4.mono (show w.heap.size+3≤_ from hz5));clear hd4 hf4 hb4))
   all_goals
    go_wp2_with fail
    refine bodyPost_ret (v:=.agg #[.bool _,.slice p4 _ c4,.int .i64 E]) (by simp [results,Tryz.results82,go_sem,r0,r1,r2]) rfl (dD HB4.out HD4.out HF4.out ?_)
    have h9:=HL.out
    simp [sg]
    try omega
 ·rw [kW h] at HCmp
  have HL:=ae h
  clear HSub HSub2 h
  cases nx<;>cases ny
  all_goals first | exact absurd rfl hs | skip
  all_goals
   go_wp2_with fail
   refine HCmp.out.mono ?_
   rintro x w5 ⟨rfl,qq,hq⟩
   have HQ:=ae (show Below w3.heap.size w3 w5 by rw [hq];exact below_drewN (Below.refl _ _) _)
   have HB4:=ae (HB3.out.trans (HQ.out.mono hz3))
   obtain⟨⟨r0,r1,r2⟩,f0,f1,f2⟩:=cF HB4.out
   clear hq
   go_wp2_with fail
   refine bodyPost_ret (v:=.agg #[.bool false,.slice none 0 0,.int .i64 0]) (by simp [results,Tryz.results82,go_sem,r0,r1,r2]) rfl (mn HB4.out ?_)
   have h9:=HL.out
   simp [sg]
   try omega
 ·rw [kX h] at HCmp
  have HL:=ae (Nat.le_of_lt h)
  clear HSub2 h
  cases nx<;>cases ny
  all_goals first | exact absurd rfl hs | skip
  all_goals
   go_wp2_with fail
   refine HCmp.out.mono ?_
   rintro x w5 ⟨rfl,qq,hq⟩
   have HQ:=ae (show Below w3.heap.size w3 w5 by rw [hq];exact below_drewN (Below.refl _ _) _)
   have g3:=(HQ.out.cell (p:=⟨w.heap.size,0,none⟩) (by show w.heap.size<_;omega)).trans c0
   have hz5:w.heap.size+3≤w5.heap.size:=by have:=HQ.out.size;omega
   clear hq
   go_wp2_with fail
   go_region_with ((go_at_call 136;refine (HSub.out _ (HQ.out.drew) HL.out).mono ?_;rintro x w4 ⟨v4,rfl,hd4,hf4,hb4⟩;obtain⟨p4,c4,rfl⟩:=hd4.form;have HB4:=ae ((HB3.out.trans (HQ.out.mono hz3)).drew.trans (hb4.mono hz5));obtain⟨⟨r0,r1,r2⟩,f0,f1,f2⟩:=cF HB4.out;have k3:=(hb4.cell (p:=⟨w.heap.size,0,none⟩) (by show w.heap.size<w5.heap.size;omega)).trans g3;have HD4:=ae hd4;have HF4:=ae (hf4.mono (show w.heap.size+3≤_ from hz5));clear hd4 hf4 hb4))
   all_goals
    go_wp2_with fail
    refine bodyPost_ret (v:=.agg #[.bool _,.slice p4 _ c4,.int .i64 E]) (by simp [results,Tryz.results82,go_sem,r0,r1,r2]) rfl (dD HB4.out HD4.out HF4.out ?_)
    have h9:=HL.out
    simp [sg]
    try omega

theorem Hg (nx ny:Bool) (vx vy:Value) (ex ey E:Int) (X Y n m:Nat) (w:World) (hX:DN w vx X) (hY:DN w vy Y)
  (hE:nr X ex Y ey=E) (hn:X≠0→ex - E=(n:Int)) (hm:Y≠0→ey - E=(m:Int)) (hn1:n≤1000000) (hm1:m≤1000000) (hXd:nd X≤1000000) (hYd:nd Y≤1000000)
  (had:nd (X*2^n)≤10000000) (hbd:nd (Y*2^m)≤10000000) :
  Calls Tryz.prog 82 #[.agg #[.bool nx,vx,.int .i64 ex],.agg #[.bool ny,vy,.int .i64 ey]] w (fB w E (sg nx (X*2^n)+sg ny (Y*2^m))):=by
 by_cases hc:nx=ny∨X*2^n=0∨Y*2^m=0
 ·exact Hf nx ny vx vy ex ey E X Y n m _ _ w hX hY hE hn hm hn1 hm1 hXd hYd rfl rfl had hbd hc
 ·exact Ak nx ny vx vy ex ey E X Y n m _ _ w hX hY hE hn hm hn1 hm1 hXd hYd rfl rfl had hbd (fun h=>hc (Or.inl h)) (fun h=>hc (Or.inr (Or.inl h))) (fun h=>hc (Or.inr (Or.inr h)))

end Go.Proofs.YtkooknagalgfpaaGreat
namespace Go.Proofs.YtkooknagalgfpaaGreat
open Go.RowKit

def mO (P:Program) (md:Region.Mode) (ops:Array Oper) (Q:Exit→Act→World→Prop) (S:World→Prop) (L:Nat→Bool):Nat→Array Bool→Act→World→Prop
 | 0,l,a,w=>Region.ready md ops l=[]∧Q .normal a w
 | f+1,l,a,w=>(Region.ready md ops l=[]→Q .normal a w)∧∀ i ∈ Region.ready md ops l,wpOp P ops Q i (fun a' w'=>(L i=false→S w')∧mO P md ops Q S L f (l.setIfInBounds i true) a' w') a w

section
variable {P:Program} {md:Region.Mode} {ops:Array Oper} {Q:Exit→Act→World→Prop} {S:World→Prop} {L:Nat→Bool}

theorem zB:∀ (f:Nat) (l:Array Bool) (a:Act) (w:World),mO P md ops Q S L f l a w→wpAny P md ops Q f l a w
 | 0,_,_,_,h=>h
 | f+1,_,_,_,h=>⟨h.1,fun i hi=>wpOp_mono (fun a w k=>zB f _ a w k.2) (h.2 i hi)⟩

def CY (md:Region.Mode) (ops:Array Oper) (l:Array Bool):Bool:=
 (List.range ops.size).all fun k=>!l.getD k false||((ops[k]?).map (·.after.all fun e=>!Region.binds md e||l.getD e.on false)).getD true
def mP (md:Region.Mode) (ops:Array Oper) (l:Array Bool):Prop:=∀ k ok,ops[k]? =some ok→l.getD k false=true→∀ e ∈ ok.after,Region.binds md e=true→l.getD e.on false=true
theorem FP {l:Array Bool} (h:CY md ops l=true):mP md ops l:=fun k ok hk hl e he hb=>by
 have hm:=List.all_eq_true.1 h k (List.mem_range.2 (Array.getElem?_eq_some_iff.1 hk).1)
 rw [hl,hk] at hm
 simp only [Bool.not_true,Bool.false_or,Option.map_some,Option.getD_some,Array.all_eq_true'] at hm
 have:=hm e he
 rw [hb] at this
 simpa using this
theorem BH {l:Array Bool} {j:Nat} (h:mP md ops l) (hj:j ∈ Region.ready md ops l):mP md ops (l.setIfInBounds j true):=fun k ok hk hl e he hb=>by
 by_cases c:j=k
 ·subst c
  obtain⟨_,oj,hoj,hall⟩:=mem_ready.1 hj
  rw [hk] at hoj
  obtain rfl:=Option.some.inj hoj
  exact getD_set_true (hall e he hb)
 ·rw [getD_set_ne false c] at hl
  exact getD_set_true (h k ok hk hl e he hb)
def vR (md:Region.Mode) (ops:Array Oper):Nat→Nat→Nat→Bool
 | 0,_,_=>false
 | f+1,j,i=>((ops[j]?).map (·.after.any fun e=>Region.binds md e&&(e.on==i||vR md ops f e.on i))).getD false
theorem lU {l:Array Bool} (h:mP md ops l) {i:Nat}:∀ (f j:Nat),vR md ops f j i=true→(∀ oj,ops[j]? =some oj→∀ e ∈ oj.after,Region.binds md e=true→l.getD e.on false=true)→l.getD i false=true
 | 0,_,hw,_=>by cases hw
 | f+1,j,hw,hd=>by
  unfold vR at hw
  cases hj:ops[j]? with
  | none=>rw [hj] at hw;cases hw
  | some oj=>
   rw [hj] at hw
   simp only [Option.map_some,Option.getD_some,Array.any_eq_true'] at hw
   obtain⟨e,he,hb⟩:=hw
   rw [Bool.and_eq_true,Bool.or_eq_true,beq_iff_eq] at hb
   have h1:=hd oj hj e he hb.1
   rcases hb.2 with c | c
   ·rw [← c];exact h1
   ·exact lU h f e.on c (fun ok hk e' he' hb'=>h e.on ok hk h1 e' he' hb')
def KA (md:Region.Mode) (ops:Array Oper) (L:Nat→Bool) (i:Nat):Bool:=(List.range ops.size).all fun j=>!L j||vR md ops 6 j i
theorem KB {i j:Nat} {l:Array Bool} (h:KA md ops L i=true) (hc:mP md ops l) (hi:i ∈ Region.ready md ops l) (hj:j ∈ Region.ready md ops l):L j=false:=by
 cases hl:L j with
 | false=>rfl
 | true=>
  obtain⟨_,oj,hoj,hall⟩:=mem_ready.1 hj
  have hm:=List.all_eq_true.1 h j (List.mem_range.2 (Array.getElem?_eq_some_iff.1 hoj).1)
  rw [hl] at hm
  have h1:=lU hc 6 j (by simpa using hm) (fun ok hk e he hb=>by
   rw [hoj] at hk
   obtain rfl:=Option.some.inj hk
   exact hall e he hb)
  have h0:=(mem_ready.1 hi).1
  rcases Nat.lt_or_ge i l.size with h' | h'
  ·simp [h'] at h0 h1;rw [h0] at h1;cases h1
  ·simp [Array.getElem?_eq_none h'] at h1

theorem BI {i:Nat} {oi:Oper} {v:Value} (hi:ops[i]? =some oi) (hs:Region.noSelect ops=true) (hl:KA md ops L i=true) (hQ:∀ c a w,Q (.panic c) (a.put oi.dst v) w→Q (.panic c) a w) :
  ∀ (f:Nat) (l:Array Bool) (a:Act) (w:World),mP md ops l→(∀ j oj,ops[j]? =some oj→j≠i→l.getD j true=false→(∀ e ∈ oj.after,Region.binds md e=true→e.on≠i)→oi.apart ops oj=true)→
   i ∈ Region.ready md ops l→YieldsIf P ops S oi v a→S w→mO P md ops Q S L f (l.setIfInBounds i true) (a.put oi.dst v) w→mO P md ops Q S L (f+1) l a w:=by
 intro f
 induction f with
 | zero=>
  intro l a w _ _ hr hy hS H
  refine⟨fun h=>(by rw [h] at hr;cases hr),fun j hj=>?_⟩
  by_cases c:j=i
  ·subst c;exact hy.wpOp hi hS ⟨fun _=>hS,H⟩
  ·have:=ready_mono hj c
   rw [H.1] at this;cases this
 | succ f ih=>
  intro l a w hcl hfree hr hy hS H
  refine⟨fun h=>(by rw [h] at hr;cases hr),fun j hj=>?_⟩
  by_cases c:j=i
  ·subst c;exact hy.wpOp hi hS ⟨fun _=>hS,H⟩
  ·obtain⟨hun,oj,hoj,hall⟩:=mem_ready.1 hj
   have hno:∀ e ∈ oj.after,Region.binds md e=true→e.on≠i:=fun e he hb heq=>by
    have h1:=hall e he hb
    have h0:=(mem_ready.1 hr).1
    rw [heq] at h1
    rcases Nat.lt_or_ge i l.size with h' | h'
    ·simp [h'] at h0 h1;rw [h0] at h1;cases h1
    ·simp [Array.getElem?_eq_none h'] at h1
   have hLj:L j=false:=KB hl hcl hr hj
   have h2:=wpOp_putIf hoj (hfree j oj hoj c hun hno) (fun cs b=>Region.noSelect_spec hs i oi cs b hi) (fun cs b=>Region.noSelect_spec hs j oj cs b hoj) hQ hy (H.2 j (ready_mono hj c))
   refine wpOp_mono (fun a' w' h3=>⟨fun _=>h3.2.1 hLj,ih (l.setIfInBounds j true) a' w' (BH hcl hj) (fun k ok hk hki hu hn=>hfree k ok hk hki ?_ hn) (ready_mono hr (Ne.symm c)) h3.1 (h3.2.1 hLj) ?_⟩) h2
   ·by_cases hjk:j=k
    ·subst hjk;exact hun
    ·rw [getD_set_ne true hjk] at hu;exact hu
   ·rw [Array.setIfInBounds_comm _ _ c]
    exact h3.2.2
theorem cu (i:Nat) {oi:Oper} (v:Value) {f:Nat} {l:Array Bool} {a:Act} {w:World} (hi:ops[i]? =some oi) (hs:Region.noSelect ops=true) (hl:KA md ops L i=true) (hc:CY md ops l=true) (hf:Region.free md ops l i=true) (hr:(Region.ready md ops l).contains i=true)
  (hQ:∀ c a w,Q (.panic c) (a.put oi.dst v) w→Q (.panic c) a w) (hw:Region.wanted oi (yielded ops a.tmps)=true) (hS:S w) (hy:∀ w,S w→(execOp a.eval oi).run P w=.ok (.value v) w)
  (h:mO P md ops Q S L f (l.setIfInBounds i true) (a.put oi.dst v) w):mO P md ops Q S L (f+1) l a w:=
 BI hi hs hl hQ f l a w (FP hc) (Region.free_spec hi hf) (by simpa using hr) (Or.inl ⟨hw,hy⟩) hS h
theorem zC {i j:Nat} {f:Nat} {l:Array Bool} {a:Act} {w:World} (hr:Region.ready md ops l=[i,j])
  (h1:wpOp P ops Q i (fun a' w'=>(L i=false→S w')∧mO P md ops Q S L f (l.setIfInBounds i true) a' w') a w)
  (h2:wpOp P ops Q j (fun a' w'=>(L j=false→S w')∧mO P md ops Q S L f (l.setIfInBounds j true) a' w') a w):mO P md ops Q S L (f+1) l a w:=
 ⟨fun h=>(by rw [hr] at h;cases h),fun k hk=>by
  rw [hr] at hk
  rcases List.mem_cons.1 hk with rfl | hk
  ·exact h1
  ·rcases List.mem_cons.1 hk with rfl | hk
   ·exact h2
   ·cases hk⟩
theorem be {i:Nat} {f:Nat} {l:Array Bool} {a:Act} {w:World} (hr:Region.ready md ops l=[i])
  (h1:wpOp P ops Q i (fun a' w'=>(L i=false→S w')∧mO P md ops Q S L f (l.setIfInBounds i true) a' w') a w):mO P md ops Q S L (f+1) l a w:=
 ⟨fun h=>(by rw [hr] at h;cases h),fun k hk=>by
  rw [hr] at hk
  rcases List.mem_cons.1 hk with rfl | hk
  ·exact h1
  ·cases hk⟩
theorem mQ {f:Nat} {l:Array Bool} {a:Act} {w:World} (hr:Region.ready md ops l=[]) (h:Q .normal a w):mO P md ops Q S L f l a w:=by
 cases f with
 | zero=>exact⟨hr,h⟩
 | succ f=>exact⟨fun _=>h,by rw [hr];simp⟩
theorem rC {id:Nat} {a:Act} {w:World} (S:World→Prop) (L:Nat→Bool) (hm:P.follows .mixedOrders=true)
  (h:mO P .any ops Q S L ops.size (Array.replicate ops.size false) a w.drew):(Code.region id ops true).wp P Q a w:=
 wp_region_any hm (zB _ _ _ _ h)
end
end Go.Proofs.YtkooknagalgfpaaGreat
namespace Go.Proofs.YtkooknagalgfpaaGreat
open Go.RowKit

theorem Dh (r:Nat):wrd false r=r:=rfl
theorem FS {K b:Nat} (hK:K=925) (h0:0<b):nearR (mgS b) (-149+(plS b:Int))=wD K b:=by
 have hm:mgS b≠0:=by unfold mgS;split<;>omega
 have:=mY hK false h0
 rw [bu _ hm,cT,Dh,Dh] at this
 exact this
theorem FT {b:Nat} (h0:0<b):nearR (mgS b) (-149+(plS b:Int))=oR b:=FS rfl h0
theorem tV {v':Value} {e m:Nat} {w:World} (he:e<255) (hm:m<8388608) (N:Nat) (hN:N=if e=0 then m else m+8388608) (h:DN w v' N) :
  Calls Tryz.prog 79 #[.agg #[.bool false,v',.int .i64 (if e=0 then -149 else (e:Int) - 150)]] w fun x w'=>x=.returned (.int .u64 (gC (e*8388608+m):Int))∧Below w.heap.size w w':=by
 have hc:=gf false v' (if e=0 then -149 else (e:Int) - 150) N w h (by have:=dg (N:=N) (k:=2) (by show N<18446744073709551616;rw [hN];split<;>omega);omega) (by split<;>omega) (by split<;>omega)
 have key:bV false N (if e=0 then -149 else (e:Int) - 150) false=(gC (e*8388608+m):Int):=by
  by_cases h0:N=0
  ·have h1:e=0∧m=0:=by
    by_cases c:e=0
    ·rw [if_pos c] at hN;omega
    ·rw [if_neg c] at hN;omega
   rw [h0,h1.1,h1.2]
   rfl
  ·have hb:0<e*8388608+m:=by
    by_cases c:e=0
    ·rw [if_pos c] at hN;omega
    ·omega
   rw [eS _ _ h0]
   have e1:mgS (e*8388608+m)=N:=by
    unfold mgS
    by_cases c:e=0
    ·rw [if_pos c] at hN;rw [if_pos (by omega)];omega
    ·rw [if_neg c] at hN;rw [if_neg (by omega)];omega
   have e2:(-149+(plS (e*8388608+m):Int))=if e=0 then -149 else (e:Int) - 150:=by
    unfold plS
    by_cases c:e=0
    ·rw [if_pos c];omega
    ·rw [if_neg c];omega
   have:=FT hb
   rw [e1,e2] at this
   rw [this]
   have hz:¬ (e*8388608+m=0):=by omega
   unfold gC
   rw [if_neg hz]
   generalize oR (e*8388608+m)=D
   simp
 rw [key] at hc
 exact hc

set_option maxRecDepth 20000 in
set_option maxHeartbeats 1600000 in
theorem su (v:Nat) (w:World) (hv:v<4294967296) :
  Calls Tryz.prog 84 #[.int .u32 v] w fun r w'=>r=.returned (.int .u64 (dblW v:Int))∧Below w.heap.size w w':=by
 obtain⟨e,he⟩:∃ e,v / 8388608 % 256=e:=⟨_,rfl⟩
 obtain⟨m,hm⟩:∃ m,v % 8388608=m:=⟨_,rfl⟩
 obtain⟨s,hs⟩:∃ s,(v / 2147483648 % 2==1)=s:=⟨_,rfl⟩
 have hb:v % 2147483648=e*8388608+m:=by omega
 have he2:e<256:=by omega
 have hm2:m<8388608:=by omega
 have hE:bits .and .u32 ((v:Int) / 8388608) 255=(e:Int):=by
  have h1:=u32_and_nat (v / 8388608) 255 (by omega) (by decide)
  have h2:=Nat.and_two_pow_sub_one_eq_mod (v / 8388608) 8
  rw [show ((v:Int) / 8388608)=((v / 8388608:Nat):Int) by omega,show (255:Int)=((255:Nat):Int) from rfl,h1,show (255:Nat)=2^8 - 1 from rfl,h2]
  omega
 have hM:bits .and .u32 (v:Int) 8388607=(m:Int):=by
  have h1:=u32_and_nat v 8388607 hv (by decide)
  have h2:=Nat.and_two_pow_sub_one_eq_mod v 23
  rw [show (8388607:Int)=((8388607:Nat):Int) from rfl,h1,show (8388607:Nat)=2^23 - 1 from rfl,h2]
  omega
 have hS:(v:Int) / 2147483648*9223372036854775808=if s then 9223372036854775808 else 0:=by
  rcases (show v / 2147483648=0∨v / 2147483648=1 by omega) with c | c
  ·rw [c] at hs;rw [← hs];simp;omega
  ·rw [c] at hs;rw [← hs];simp;omega
 have hD:(dblW v:Int)=if 2139095040<e*8388608+m then 9221120237041090561 else (if s then 9223372036854775808 else 0)+((if e*8388608+m=2139095040 then 9218868437227405312 else gC (e*8388608+m):Nat):Int):=by
  unfold dblW
  rw [hb,hs]
  split
  ·rfl
  ·exact BW
 rw [hD]
 have hvi0:0≤(v:Int):=by omega
 have hvi1:(v:Int)<4294967296:=by omega
 generalize (v:Int)=vi at *
 have hSb:0≤(if s then (9223372036854775808:Int) else 0)∧(if s then (9223372036854775808:Int) else 0)≤9223372036854775808:=by cases s<;>simp
 generalize (if s then (9223372036854775808:Int) else 0)=S at *
 obtain⟨S0,S1⟩:=hSb
 clear hD he hm hs hb hv
 by_cases c:e=255
 ·subst c
  by_cases c2:m=0
  ·subst c2
   rw [if_neg (by decide),if_pos (by decide)]
   go_enter Tryz.func84,Tryz.ntmps84
   go_wp2_with fail
   go_ret
   exact⟨by rfl,Below.refl _ _⟩
  ·rw [if_pos (by omega)]
   have d1:0<(m:Int):=by omega
   go_enter Tryz.func84,Tryz.ntmps84
   go_wp2_with fail
   go_ret
   exact⟨rfl,Below.refl _ _⟩
 ·have he3:e<255:=by omega
  rw [if_neg (by omega),if_neg (by omega)]
  have hz:=iH (b:=e*8388608+m) (by omega)
  have HSz:Hid (∀ w,Calls Tryz.prog 78 #[.int .u64 (gC (e*8388608+m):Int)] w fun r w'=>r=.returned (.int .u64 (gC (e*8388608+m):Int))∧w'=w):=fun w=>by
   have:=av (gC (e*8388608+m):Int) w (ak (by omega))
   rw [show szI ((gC (e*8388608+m):Nat):Int)=((gC (e*8388608+m):Nat):Int) by unfold szI;omega] at this
   exact this
  have hce:((e:Int)==255)=false:=beq_eq_false_iff_ne.2 (by omega)
  by_cases c0:e=0
  ·have HDi:=hideS fun w=>pm m w (by omega)
   have HNe:=hideS fun v' w (h:DN w v' m)=>tV (v':=v') (e:=e) (m:=m) (w:=w) he3 hm2 m (by rw [if_pos c0]) h
   rw [if_pos c0] at HNe
   have hc0:((e:Int)==0)=true:=beq_iff_eq.2 (by omega)
   generalize gC (e*8388608+m)=D at *
   go_enter Tryz.func84,Tryz.ntmps84
   go_wp2_with fail
   refine (HDi.out _).mono ?_
   rintro r w1 ⟨v1,rfl,hd1,hb1⟩
   obtain⟨p1,l1,c1,rfl⟩:=hd1.shape
   have HN1:=hideS (HNe.out _ _ hd1)
   have HB1:=hideS hb1
   clear hd1 hb1
   go_wp2_with fail
   refine HN1.out.mono ?_
   rintro r w2 ⟨rfl,hb2⟩
   have HB2:=hideS (HB1.out.trans (hb2.mono HB1.out.size))
   clear hb2
   go_wp2_with fail
   refine (HSz.out _).mono ?_
   rintro r w' ⟨rfl,rfl⟩
   go_wp2_with fail
   go_ret
   exact⟨by rfl,HB2.out⟩
  ·have HDi:=hideS fun w=>pm (m+8388608) w (by omega)
   rw [show (((m+8388608:Nat):Int))=(m:Int)+8388608 by omega] at HDi
   have HNe:=hideS fun v' w (h:DN w v' (m+8388608))=>tV (v':=v') (e:=e) (m:=m) (w:=w) he3 hm2 (m+8388608) (by rw [if_neg c0]) h
   rw [if_neg c0] at HNe
   have hc0:((e:Int)==0)=false:=beq_eq_false_iff_ne.2 (by omega)
   generalize gC (e*8388608+m)=D at *
   go_enter Tryz.func84,Tryz.ntmps84
   go_wp2_with fail
   refine (HDi.out _).mono ?_
   rintro r w1 ⟨v1,rfl,hd1,hb1⟩
   obtain⟨p1,l1,c1,rfl⟩:=hd1.shape
   have HN1:=hideS (HNe.out _ _ hd1)
   have HB1:=hideS hb1
   clear hd1 hb1
   go_wp2_with fail
   refine HN1.out.mono ?_
   rintro r w2 ⟨rfl,hb2⟩
   have HB2:=hideS (HB1.out.trans (hb2.mono HB1.out.size))
   clear hb2
   go_wp2_with fail
   refine (HSz.out _).mono ?_
   rintro r w' ⟨rfl,rfl⟩
   go_wp2_with fail
   go_ret
   exact⟨by rfl,HB2.out⟩
end Go.Proofs.YtkooknagalgfpaaGreat
namespace Go.Proofs.YtkooknagalgfpaaGreat
open Go.RowKit

theorem zF (b:Nat) (w:World):(callFunc 45 #[.float .f32 b]).run Tryz.prog w=.ok (.value (.int .u32 b)) w:=
 (run_callFunc_extern (e:=Extern.MathFloatBits.float32bits) Tryz.func45 (by kernel_rfl) (by kernel_rfl) (by kernel_rfl) (by kernel_rfl) _ w)
set_option maxHeartbeats 400000 in
theorem BM (b:Nat) (w:World) :
  Calls Tryz.prog 22 #[.float .f32 b] w fun e w'=>e=.returned (.int .u32 b)∧w'=w:=by
 have h1:=zF
 go_enter Tryz.func22,Tryz.ntmps22
 go_wp2
 go_ret
 exact⟨rfl,rfl⟩
theorem Di (w:World) (q:Quo):Below w.heap.size w (w.alloc (.cells #[.int .i64 q.kind,.int .i64 q.fin,.int .i64 q.count,.int .i64 q.n,.float .f32 q.rate] 45)):=(Below.refl _ _).alloc (Nat.le_refl _) _
set_option maxHeartbeats 800000 in
theorem sv (kind fin count n:Int) (r:Nat) (w:World) (hr:r<4294967296) :
  Calls Tryz.prog 39 #[.agg #[.int .i64 kind,.int .i64 fin,.int .i64 count,.int .i64 n,.float .f32 r]] w fun e w'=>e=.returned (.int .u64 (dblW r:Int))∧Below w.heap.size w w':=by
 have HD:=hideS fun w=>su r w hr
 have HB:=hideS (BM r)
 have H0:=hideS (Di w ⟨kind,fin,count,n,r⟩)
 generalize (dblW r:Int)=D at *
 generalize (r:Int)=ri at *
 clear hr
 go_enter Tryz.func39,Tryz.ntmps39
 go_wp2_with fail
 refine (turned (HB.out _)).mono ?_
 rintro e w' ⟨rfl,rfl⟩
 go_wp2_with fail
 refine (HD.out _).mono ?_
 rintro e w2 ⟨rfl,hb2⟩
 have H2:=hideS (H0.out.trans (hb2.mono H0.out.size))
 clear hb2
 go_wp2_with fail
 go_ret
 exact⟨rfl,H2.out⟩
set_option maxRecDepth 20000 in
set_option maxHeartbeats 3200000 in
theorem vZ (q:Quo) (last:Int) (w:World) (hr:q.rate<4294967296) :
  Calls Tryz.prog 26 #[.agg #[.int .i64 q.kind,.int .i64 q.fin,.int .i64 q.count,.int .i64 q.n,.float .f32 q.rate],.int .i64 last] w fun e w'=>e=.returned (.int .i64 (bN q last))∧Below w.heap.size w w':=by
 obtain⟨kind,fin,count,n,r⟩:=q
 have H0:=hideS (Di w ⟨kind,fin,count,n,r⟩)
 have HR:=hideS fun w=>sv kind fin count n r w hr
 have HN:=hideS fun w=>zS (dblW r:Int) w (Dw hr)
 have HBd:Hid (iJ ⟨kind,fin,count,n,r⟩=((decide (kind≠1)&&decide (kind≠2))||(decide (kind=1)&&decide (n≠0))||(decide (kind=2)&&(decide (n<1)||decide (120<n)))||!finB (dblW r:Nat))):=rfl
 have HF:Hid (bN ⟨kind,fin,count,n,r⟩ last=if iJ ⟨kind,fin,count,n,r⟩=true then 130 else if count<1∨6<count then 70 else if fin≤last∨109572<fin then 131 else 0):=rfl
 rw [HBd.out] at HF
 clear HBd hr
 dsimp only at *
 by_cases k1:kind=1
 ·subst k1
  by_cases n0:n=0
  ·subst n0
   cases hb:finB (dblW r:Nat) with
   | false=>
    have HE:Hid (bN ⟨1,fin,count,0,r⟩ last=130):=by show _=_;rw [HF.out,hb];simp
    rw [hb] at HN
    rw [HE.out]
    clear HF hb HE
    generalize (dblW r:Int)=D at *
    go_enter Tryz.func26,Tryz.ntmps26
    go_wp2_with fail
    refine (HR.out _).mono ?_
    rintro e w1 ⟨rfl,hb1⟩
    have H1:=hideS (H0.out.trans (hb1.mono H0.out.size))
    clear hb1
    go_wp2_with fail
    refine (turned (HN.out _)).mono ?_
    rintro e w' ⟨rfl,rfl⟩
    go_wp2_with fail
    go_ret
    exact⟨rfl,H1.out⟩
   | true=>
    have HE:Hid (bN ⟨1,fin,count,0,r⟩ last=if count<1∨6<count then 70 else if fin≤last∨109572<fin then 131 else 0):=by show _=_;rw [HF.out,hb];simp
    rw [hb] at HN
    rw [HE.out]
    clear HF hb HE
    have hC:∀ wx:World,Below w.heap.size w wx→wx.cell? ⟨w.heap.size,0,none⟩=some (.int .i64 1)→wx.cell? ⟨w.heap.size,1,none⟩=some (.int .i64 fin)→wx.cell? ⟨w.heap.size,2,none⟩=some (.int .i64 count)→True:=fun _ _ _ _ _=>trivial
    clear hC
    generalize (dblW r:Int)=D at *
    have HKp:Hid (∀ w1,Below (w.alloc (.cells #[.int .i64 1,.int .i64 fin,.int .i64 count,.int .i64 0,.float .f32 r] 45)).heap.size (w.alloc (.cells #[.int .i64 1,.int .i64 fin,.int .i64 count,.int .i64 0,.float .f32 r] 45)) w1→w1.cell? ⟨w.heap.size,1,none⟩=some (.int .i64 fin)∧w1.cell? ⟨w.heap.size,2,none⟩=some (.int .i64 count)):=fun w1 hb=>⟨(hb.cell (p:=⟨w.heap.size,1,none⟩) (by simp)).trans (by simp),(hb.cell (p:=⟨w.heap.size,2,none⟩) (by simp)).trans (by simp)⟩
    rcases (show count<1∨(¬ count<1∧6<count)∨(¬ count<1∧¬ 6<count∧fin≤last)∨(¬ count<1∧¬ 6<count∧¬ fin≤last∧109572<fin)∨(¬ count<1∧¬ 6<count∧¬ fin≤last∧¬ 109572<fin) by omega) with c1 | ⟨c1,c2⟩| ⟨c1,c2,c3⟩| ⟨c1,c2,c3,c4⟩| ⟨c1,c2,c3,c4⟩
    ·rw [if_pos (Or.inl c1)]
     have d1:decide (count<1)=true:=decide_eq_true c1
     clear c1
     go_enter Tryz.func26,Tryz.ntmps26
     go_wp2_with fail
     refine (HR.out _).mono ?_
     rintro e w1 ⟨rfl,hb1⟩
     obtain⟨k1,k2⟩:=HKp.out w1 hb1
     have H1:=hideS (H0.out.trans (hb1.mono H0.out.size))
     clear hb1
     go_wp2_with fail
     refine (turned (HN.out _)).mono ?_
     rintro e w' ⟨rfl,rfl⟩
     go_wp2_with fail
     go_ret
     exact⟨rfl,H1.out⟩
    ·rw [if_pos (Or.inr c2)]
     have d1:decide (count<1)=false:=decide_eq_false c1
     have d2:decide (6<count)=true:=decide_eq_true c2
     clear c1 c2
     go_enter Tryz.func26,Tryz.ntmps26
     go_wp2_with fail
     refine (HR.out _).mono ?_
     rintro e w1 ⟨rfl,hb1⟩
     obtain⟨k1,k2⟩:=HKp.out w1 hb1
     have H1:=hideS (H0.out.trans (hb1.mono H0.out.size))
     clear hb1
     go_wp2_with fail
     refine (turned (HN.out _)).mono ?_
     rintro e w' ⟨rfl,rfl⟩
     go_wp2_with fail
     go_ret
     exact⟨rfl,H1.out⟩
    ·rw [if_neg (by omega),if_pos (Or.inl c3)]
     have d1:decide (count<1)=false:=decide_eq_false c1
     have d2:decide (6<count)=false:=decide_eq_false c2
     have d3:decide (fin≤last)=true:=decide_eq_true c3
     clear c1 c2 c3
     go_enter Tryz.func26,Tryz.ntmps26
     go_wp2_with fail
     refine (HR.out _).mono ?_
     rintro e w1 ⟨rfl,hb1⟩
     obtain⟨k1,k2⟩:=HKp.out w1 hb1
     have H1:=hideS (H0.out.trans (hb1.mono H0.out.size))
     clear hb1
     go_wp2_with fail
     refine (turned (HN.out _)).mono ?_
     rintro e w' ⟨rfl,rfl⟩
     go_wp2_with fail
     go_ret
     exact⟨rfl,H1.out⟩
    ·rw [if_neg (by omega),if_pos (Or.inr c4)]
     have d1:decide (count<1)=false:=decide_eq_false c1
     have d2:decide (6<count)=false:=decide_eq_false c2
     have d3:decide (fin≤last)=false:=decide_eq_false c3
     have d4:decide (109572<fin)=true:=decide_eq_true c4
     clear c1 c2 c3 c4
     go_enter Tryz.func26,Tryz.ntmps26
     go_wp2_with fail
     refine (HR.out _).mono ?_
     rintro e w1 ⟨rfl,hb1⟩
     obtain⟨k1,k2⟩:=HKp.out w1 hb1
     have H1:=hideS (H0.out.trans (hb1.mono H0.out.size))
     clear hb1
     go_wp2_with fail
     refine (turned (HN.out _)).mono ?_
     rintro e w' ⟨rfl,rfl⟩
     go_wp2_with fail
     go_ret
     exact⟨rfl,H1.out⟩
    ·rw [if_neg (by omega),if_neg (by omega)]
     have d1:decide (count<1)=false:=decide_eq_false c1
     have d2:decide (6<count)=false:=decide_eq_false c2
     have d3:decide (fin≤last)=false:=decide_eq_false c3
     have d4:decide (109572<fin)=false:=decide_eq_false c4
     clear c1 c2 c3 c4
     go_enter Tryz.func26,Tryz.ntmps26
     go_wp2_with fail
     refine (HR.out _).mono ?_
     rintro e w1 ⟨rfl,hb1⟩
     obtain⟨k1,k2⟩:=HKp.out w1 hb1
     have H1:=hideS (H0.out.trans (hb1.mono H0.out.size))
     clear hb1
     go_wp2_with fail
     refine (turned (HN.out _)).mono ?_
     rintro e w' ⟨rfl,rfl⟩
     go_wp2_with fail
     go_ret
     exact⟨rfl,H1.out⟩
  ·have HE:Hid (bN ⟨1,fin,count,n,r⟩ last=130):=by show _=_;rw [HF.out];simp [n0]
   have d1:(n !=0)=true:=bne_iff_ne.2 n0
   rw [HE.out]
   clear HF HE HN HR
   go_enter Tryz.func26,Tryz.ntmps26
   go_wp2_with fail
   go_ret
   exact⟨rfl,H0.out⟩
 ·by_cases k2:kind=2
  ·subst k2
   by_cases n1:n<1
   ·have HE:Hid (bN ⟨2,fin,count,n,r⟩ last=130):=by show _=_;rw [HF.out];simp [n1]
    have d1:decide (n<1)=true:=decide_eq_true n1
    rw [HE.out]
    clear HF HE HN HR
    go_enter Tryz.func26,Tryz.ntmps26
    go_wp2_with fail
    go_ret
    exact⟨rfl,H0.out⟩
   ·by_cases n2:120<n
    ·have HE:Hid (bN ⟨2,fin,count,n,r⟩ last=130):=by show _=_;rw [HF.out];simp [n2]
     have d1:decide (n<1)=false:=decide_eq_false n1
     have d2:decide (120<n)=true:=decide_eq_true n2
     rw [HE.out]
     clear HF HE HN HR
     go_enter Tryz.func26,Tryz.ntmps26
     go_wp2_with fail
     go_ret
     exact⟨rfl,H0.out⟩
    ·have d5:decide (n<1)=false:=decide_eq_false n1
     have d6:decide (120<n)=false:=decide_eq_false n2
     cases hb:finB (dblW r:Nat) with
     | false=>
      have HE:Hid (bN ⟨2,fin,count,n,r⟩ last=130):=by show _=_;rw [HF.out,hb];simp
      rw [hb] at HN
      rw [HE.out]
      clear HF hb HE
      generalize (dblW r:Int)=D at *
      go_enter Tryz.func26,Tryz.ntmps26
      go_wp2_with fail
      refine (HR.out _).mono ?_
      rintro e w1 ⟨rfl,hb1⟩
      have H1:=hideS (H0.out.trans (hb1.mono H0.out.size))
      clear hb1
      go_wp2_with fail
      refine (turned (HN.out _)).mono ?_
      rintro e w' ⟨rfl,rfl⟩
      go_wp2_with fail
      go_ret
      exact⟨rfl,H1.out⟩
     | true=>
      have HE:Hid (bN ⟨2,fin,count,n,r⟩ last=if count<1∨6<count then 70 else if fin≤last∨109572<fin then 131 else 0):=by show _=_;rw [HF.out,hb];simp [d5,d6]
      rw [hb] at HN
      rw [HE.out]
      clear HF hb HE
      have hC:∀ wx:World,Below w.heap.size w wx→wx.cell? ⟨w.heap.size,0,none⟩=some (.int .i64 2)→wx.cell? ⟨w.heap.size,1,none⟩=some (.int .i64 fin)→wx.cell? ⟨w.heap.size,2,none⟩=some (.int .i64 count)→True:=fun _ _ _ _ _=>trivial
      clear hC
      generalize (dblW r:Int)=D at *
      have HKp:Hid (∀ w1,Below (w.alloc (.cells #[.int .i64 2,.int .i64 fin,.int .i64 count,.int .i64 n,.float .f32 r] 45)).heap.size (w.alloc (.cells #[.int .i64 2,.int .i64 fin,.int .i64 count,.int .i64 n,.float .f32 r] 45)) w1→w1.cell? ⟨w.heap.size,1,none⟩=some (.int .i64 fin)∧w1.cell? ⟨w.heap.size,2,none⟩=some (.int .i64 count)):=fun w1 hb=>⟨(hb.cell (p:=⟨w.heap.size,1,none⟩) (by simp)).trans (by simp),(hb.cell (p:=⟨w.heap.size,2,none⟩) (by simp)).trans (by simp)⟩
      rcases (show count<1∨(¬ count<1∧6<count)∨(¬ count<1∧¬ 6<count∧fin≤last)∨(¬ count<1∧¬ 6<count∧¬ fin≤last∧109572<fin)∨(¬ count<1∧¬ 6<count∧¬ fin≤last∧¬ 109572<fin) by omega) with c1 | ⟨c1,c2⟩| ⟨c1,c2,c3⟩| ⟨c1,c2,c3,c4⟩| ⟨c1,c2,c3,c4⟩
      ·rw [if_pos (Or.inl c1)]
       have d1:decide (count<1)=true:=decide_eq_true c1
       clear c1
       go_enter Tryz.func26,Tryz.ntmps26
       go_wp2_with fail
       refine (HR.out _).mono ?_
       rintro e w1 ⟨rfl,hb1⟩
       obtain⟨k1,k2⟩:=HKp.out w1 hb1
       have H1:=hideS (H0.out.trans (hb1.mono H0.out.size))
       clear hb1
       go_wp2_with fail
       refine (turned (HN.out _)).mono ?_
       rintro e w' ⟨rfl,rfl⟩
       go_wp2_with fail
       go_ret
       exact⟨rfl,H1.out⟩
      ·rw [if_pos (Or.inr c2)]
       have d1:decide (count<1)=false:=decide_eq_false c1
       have d2:decide (6<count)=true:=decide_eq_true c2
       clear c1 c2
       go_enter Tryz.func26,Tryz.ntmps26
       go_wp2_with fail
       refine (HR.out _).mono ?_
       rintro e w1 ⟨rfl,hb1⟩
       obtain⟨k1,k2⟩:=HKp.out w1 hb1
       have H1:=hideS (H0.out.trans (hb1.mono H0.out.size))
       clear hb1
       go_wp2_with fail
       refine (turned (HN.out _)).mono ?_
       rintro e w' ⟨rfl,rfl⟩
       go_wp2_with fail
       go_ret
       exact⟨rfl,H1.out⟩
      ·rw [if_neg (by omega),if_pos (Or.inl c3)]
       have d1:decide (count<1)=false:=decide_eq_false c1
       have d2:decide (6<count)=false:=decide_eq_false c2
       have d3:decide (fin≤last)=true:=decide_eq_true c3
       clear c1 c2 c3
       go_enter Tryz.func26,Tryz.ntmps26
       go_wp2_with fail
       refine (HR.out _).mono ?_
       rintro e w1 ⟨rfl,hb1⟩
       obtain⟨k1,k2⟩:=HKp.out w1 hb1
       have H1:=hideS (H0.out.trans (hb1.mono H0.out.size))
       clear hb1
       go_wp2_with fail
       refine (turned (HN.out _)).mono ?_
       rintro e w' ⟨rfl,rfl⟩
       go_wp2_with fail
       go_ret
       exact⟨rfl,H1.out⟩
      ·rw [if_neg (by omega),if_pos (Or.inr c4)]
       have d1:decide (count<1)=false:=decide_eq_false c1
       have d2:decide (6<count)=false:=decide_eq_false c2
       have d3:decide (fin≤last)=false:=decide_eq_false c3
       have d4:decide (109572<fin)=true:=decide_eq_true c4
       clear c1 c2 c3 c4
       go_enter Tryz.func26,Tryz.ntmps26
       go_wp2_with fail
       refine (HR.out _).mono ?_
       rintro e w1 ⟨rfl,hb1⟩
       obtain⟨k1,k2⟩:=HKp.out w1 hb1
       have H1:=hideS (H0.out.trans (hb1.mono H0.out.size))
       clear hb1
       go_wp2_with fail
       refine (turned (HN.out _)).mono ?_
       rintro e w' ⟨rfl,rfl⟩
       go_wp2_with fail
       go_ret
       exact⟨rfl,H1.out⟩
      ·rw [if_neg (by omega),if_neg (by omega)]
       have d1:decide (count<1)=false:=decide_eq_false c1
       have d2:decide (6<count)=false:=decide_eq_false c2
       have d3:decide (fin≤last)=false:=decide_eq_false c3
       have d4:decide (109572<fin)=false:=decide_eq_false c4
       clear c1 c2 c3 c4
       go_enter Tryz.func26,Tryz.ntmps26
       go_wp2_with fail
       refine (HR.out _).mono ?_
       rintro e w1 ⟨rfl,hb1⟩
       obtain⟨k1,k2⟩:=HKp.out w1 hb1
       have H1:=hideS (H0.out.trans (hb1.mono H0.out.size))
       clear hb1
       go_wp2_with fail
       refine (turned (HN.out _)).mono ?_
       rintro e w' ⟨rfl,rfl⟩
       go_wp2_with fail
       go_ret
       exact⟨rfl,H1.out⟩
  ·have HE:Hid (bN ⟨kind,fin,count,n,r⟩ last=130):=by show _=_;rw [HF.out];simp [k1,k2]
   have d1:(kind !=1)=true:=bne_iff_ne.2 k1
   have d2:(kind !=2)=true:=bne_iff_ne.2 k2
   rw [HE.out]
   clear HF HE HN HR
   go_enter Tryz.func26,Tryz.ntmps26
   go_wp2_with fail
   go_ret
   exact⟨rfl,H0.out⟩
end Go.Proofs.YtkooknagalgfpaaGreat
