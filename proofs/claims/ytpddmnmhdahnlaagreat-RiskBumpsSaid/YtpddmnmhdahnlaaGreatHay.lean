/-  -/
import Derived.Test.YtpddmnmhdahnlaaGreatHax
import Derived.Test.YtpddmnmhdahnlaaGreatHas
import Derived.Deep.RegionHeld3
namespace Go.Proofs.YtpddmnmhdahnlaaGreat
open Go.RowKit

def lI (X:Nat) (ex:Int) (Y:Nat) (ey:Int):Int:=if X=0 then ey else if Y=0 then ex else min ex ey
def sg (neg:Bool) (N:Nat):Int:=if neg then -(N:Int) else (N:Int)

abbrev boxN (w:World) (n:Bool) (v:Value) (e:Int):World:=w.alloc (.cells #[.bool n,v,.int .i64 e] 130)
theorem aE (w:World) (n:Bool) (v:Value) (e:Int):Below w.heap.size w (boxN w n v e):=(Below.refl _ _).alloc (Nat.le_refl _) _

def Six (w:World) (B:Nat) (nx:Bool) (vx:Value) (ex:Int) (ny:Bool) (vy:Value) (ey:Int):Prop:=
 w.cell? ⟨B,0,none⟩=some (.bool nx)∧w.cell? ⟨B,1,none⟩=some vx∧w.cell? ⟨B,2,none⟩=some (.int .i64 ex)∧
 w.cell? ⟨B+1,0,none⟩=some (.bool ny)∧w.cell? ⟨B+1,1,none⟩=some vy∧w.cell? ⟨B+1,2,none⟩=some (.int .i64 ey)
theorem sD (w:World) (nx:Bool) (vx:Value) (ex:Int) (ny:Bool) (vy:Value) (ey:Int):Six (boxN (boxN w nx vx ex) ny vy ey) w.heap.size nx vx ex ny vy ey:=by
 have hb:=aE (boxN w nx vx ex) ny vy ey
 have hs:w.heap.size<(boxN w nx vx ex).heap.size:=by simp
 refine⟨?_,?_,?_,?_,?_,?_⟩
 ·rw [hb.cell (p:=⟨w.heap.size,0,none⟩) hs];simp
 ·rw [hb.cell (p:=⟨w.heap.size,1,none⟩) hs];simp
 ·rw [hb.cell (p:=⟨w.heap.size,2,none⟩) hs];simp
 ·have e:w.heap.size+1=(boxN w nx vx ex).heap.size:=by simp
  rw [e];simp
 ·have e:w.heap.size+1=(boxN w nx vx ex).heap.size:=by simp
  rw [e];simp
 ·have e:w.heap.size+1=(boxN w nx vx ex).heap.size:=by simp
  rw [e];simp
theorem Six.below {w w':World} {B:Nat} {nx ny:Bool} {vx vy:Value} {ex ey:Int} {s:Nat} (h:Six w B nx vx ex ny vy ey) (hb:Below s w w') (hs:B+1<s):Six w' B nx vx ex ny vy ey:=by
 obtain⟨a,b,c,d,e,f⟩:=h
 exact⟨(hb.cell (p:=⟨B,0,none⟩) (by show B<s;omega)).trans a,(hb.cell (p:=⟨B,1,none⟩) (by show B<s;omega)).trans b,(hb.cell (p:=⟨B,2,none⟩) (by show B<s;omega)).trans c,(hb.cell (p:=⟨B+1,0,none⟩) hs).trans d,(hb.cell (p:=⟨B+1,1,none⟩) hs).trans e,(hb.cell (p:=⟨B+1,2,none⟩) hs).trans f⟩
theorem fu (w:World) (nx:Bool) (vx:Value) (ex:Int) (ny:Bool) (vy:Value) (ey:Int):(boxN (boxN w nx vx ex) ny vy ey).heap.size=w.heap.size+2:=by simp

set_option maxHeartbeats 800000 in
theorem tW (nx ny:Bool) (vx vy:Value) (ex ey:Int) (X Y:Nat) (w:World) (hX:DN w vx X) (hY:DN w vy Y) :
  Calls Tryz.prog 153 #[.agg #[.bool nx,vx,.int .i64 ex],.agg #[.bool ny,vy,.int .i64 ey]] w fun e w'=>e=.returned (.int .i64 (lI X ex Y ey))∧Below w.heap.size w w':=by
 have hbx:=aE w nx vx ex
 have hby:Below w.heap.size w (boxN (boxN w nx vx ex) ny vy ey):=hbx.trans ((aE (boxN w nx vx ex) ny vy ey).mono (by simp))
 have H1:=ae (hX.below hby)
 have H2:=ae (hY.below hby)
 have HB:=ae hby
 have H6:=ae (sD w nx vx ex ny vy ey)
 have HZ:=ae (fu w nx vx ex ny vy ey)
 clear hbx hby hX hY
 unfold lI
 by_cases h0:X=0
 ·subst h0
  rw [if_pos rfl]
  go_enter Tryz.func153,Tryz.ntmps153
  go_wp2_with fail
  refine (aQ _ _ _ 0 true _ H1.out rfl).mono ?_
  rintro x w1 ⟨rfl,hb1⟩
  have H7:=ae (H6.out.below hb1 (by rw [HZ.out];omega))
  have hz:w.heap.size+1<w1.heap.size:=by have h9:=hb1.size;rw [HZ.out] at h9;omega
  obtain⟨c0,c1,c2,c3,c4,c5⟩:=H7.out
  have HB1:=ae hb1
  clear hb1
  go_wp2_with fail
  go_ret
  exact⟨rfl,HB.out.trans (HB1.out.mono (by rw [HZ.out];omega))⟩
 ·rw [if_neg h0]
  have HX:=ae h0
  clear h0
  by_cases h0:Y=0
  ·subst h0
   rw [if_pos rfl]
   go_enter Tryz.func153,Tryz.ntmps153
   go_wp2_with fail
   refine (aQ _ _ _ X false _ H1.out (decide_eq_false HX.out)).mono ?_
   rintro x w1 ⟨rfl,hb1⟩
   have H7:=ae (H6.out.below hb1 (by rw [HZ.out];omega))
   have hz:w.heap.size+1<w1.heap.size:=by have h9:=hb1.size;rw [HZ.out] at h9;omega
   obtain⟨c0,c1,c2,c3,c4,c5⟩:=H7.out
   have HB1:=ae hb1
   have H2:=ae (H2.out.below hb1)
   clear hb1
   go_wp2_with fail
   refine (aQ _ _ _ 0 true _ H2.out rfl).mono ?_
   rintro x w2 ⟨rfl,hb2⟩
   obtain⟨d0,d1,d2,d3,d4,d5⟩:=H7.out.below hb2 hz
   clear c0 c1 c2 c3 c4 c5
   have HB2:=ae hb2
   clear hb2
   go_wp2_with fail
   go_ret
   exact⟨rfl,(HB.out.trans (HB1.out.mono (by rw [HZ.out];omega))).trans (HB2.out.mono (by omega))⟩
  ·rw [if_neg h0]
   have HY:=ae h0
   clear h0
   go_enter Tryz.func153,Tryz.ntmps153
   go_wp2_with fail
   refine (aQ _ _ _ X false _ H1.out (decide_eq_false HX.out)).mono ?_
   rintro x w1 ⟨rfl,hb1⟩
   have H7:=ae (H6.out.below hb1 (by rw [HZ.out];omega))
   have hz:w.heap.size+1<w1.heap.size:=by have h9:=hb1.size;rw [HZ.out] at h9;omega
   obtain⟨c0,c1,c2,c3,c4,c5⟩:=H7.out
   have HB1:=ae hb1
   have H2:=ae (H2.out.below hb1)
   clear hb1
   go_wp2_with fail
   refine (aQ _ _ _ Y false _ H2.out (decide_eq_false HY.out)).mono ?_
   rintro x w2 ⟨rfl,hb2⟩
   obtain⟨d0,d1,d2,d3,d4,d5⟩:=H7.out.below hb2 hz
   clear c0 c1 c2 c3 c4 c5
   have HB2:=ae hb2
   clear hb2
   go_wp2_with fail
   go_ret
   exact⟨rfl,(HB.out.trans (HB1.out.mono (by rw [HZ.out];omega))).trans (HB2.out.mono (by omega))⟩

set_option maxHeartbeats 800000 in
theorem mC (nx:Bool) (vx:Value) (ex e:Int) (X n:Nat) (w:World) (hX:DN w vx X) (hn:X≠0→ex - e=(n:Int)) (hn1:n≤100000000) (hnd:nd X≤10000000) :
  Calls Tryz.prog 154 #[.agg #[.bool nx,vx,.int .i64 ex],.int .i64 e] w fun x w'=>∃ v,x=.returned v∧DN w' v (X*2^n)∧Below w.heap.size w w':=by
 have HB:=ae (aE w nx vx ex)
 have H1:=ae (hX.below HB.out)
 clear hX
 by_cases h0:X=0
 ·subst h0
  rw [Nat.zero_mul]
  go_enter Tryz.func154,Tryz.ntmps154
  go_wp2_with fail
  refine (aQ _ _ _ 0 true _ H1.out rfl).mono ?_
  rintro x w1 ⟨rfl,hb1⟩
  have HB1:=ae hb1
  clear hb1
  go_wp2_with fail
  go_ret
  exact⟨_,rfl,Or.inl ⟨rfl,_,_,rfl⟩,HB.out.trans (HB1.out.mono (by simp))⟩
 ·have he:=hn h0
  have HX:=ae h0
  clear h0 hn
  go_enter Tryz.func154,Tryz.ntmps154
  go_wp2_with fail
  refine (aQ _ _ _ X false _ H1.out (decide_eq_false HX.out)).mono ?_
  rintro x w1 ⟨rfl,hb1⟩
  obtain⟨c1,f1⟩:=tP hb1
  have HB1:=ae hb1
  have H2:=ae (H1.out.below hb1)
  clear hb1
  go_wp2_with fail
  refine (lH vx X n _ H2.out hnd hn1).mono ?_
  rintro x w2 ⟨v2,rfl,hd2,hb2⟩
  have HB2:=ae hb2
  have HD2:=ae hd2
  clear hb2 hd2
  have hz:w.heap.size≤w1.heap.size:=by have:=HB1.out.size;simp at this;omega
  go_wp2_with fail
  go_ret
  exact⟨_,rfl,HD2.out,(HB.out.trans (HB1.out.mono (by simp))).trans (HB2.out.mono hz)⟩

end Go.Proofs.YtpddmnmhdahnlaaGreat
namespace Go.Proofs.YtpddmnmhdahnlaaGreat
open Go.RowKit

abbrev pbox (w:World) (nx:Bool) (vx:Value) (ex:Int) (ny:Bool) (vy:Value) (ey:Int):World:=boxN (boxN (boxN w nx vx ex) ny vy ey) false (.slice none 0 0) 0
theorem iH (w:World) (nx:Bool) (vx:Value) (ex:Int) (ny:Bool) (vy:Value) (ey:Int):(pbox w nx vx ex ny vy ey).heap.size=w.heap.size+3:=by simp
theorem cQ (w:World) (nx:Bool) (vx:Value) (ex:Int) (ny:Bool) (vy:Value) (ey:Int):Below w.heap.size w (pbox w nx vx ex ny vy ey):=
 ((aE w nx vx ex).trans ((aE (boxN w nx vx ex) ny vy ey).mono (by simp))).trans ((aE _ _ _ _).mono (by rw [fu];omega))
theorem jN (w:World) (nx:Bool) (vx:Value) (ex:Int) (ny:Bool) (vy:Value) (ey:Int):Six (pbox w nx vx ex ny vy ey) w.heap.size nx vx ex ny vy ey:=
 (sD w nx vx ex ny vy ey).below (aE _ _ _ _) (by rw [fu];omega)
theorem From.mono {A B:Nat} {v:Value} (h:From B v) (hle:A≤B):From A v:=fun a l c e=>Nat.le_trans hle (h a l c e)

theorem Ip (w:World) (n:Bool) (v:Value) (e:Int) :
  ((boxN w n v e).cell? ⟨w.heap.size,0,none⟩=some (.bool n)∧(boxN w n v e).cell? ⟨w.heap.size,1,none⟩=some v∧(boxN w n v e).cell? ⟨w.heap.size,2,none⟩=some (.int .i64 e))∧
  ((boxN w n v e).frozen? ⟨w.heap.size,0,none⟩=false∧(boxN w n v e).frozen? ⟨w.heap.size,1,none⟩=false∧(boxN w n v e).frozen? ⟨w.heap.size,2,none⟩=false):=by
 refine⟨⟨?_,?_,?_⟩,?_,?_,?_⟩ <;>first | exact World.frozen?_alloc_new _ _ _ _ | simp
theorem cj {w w':World} {nx ny:Bool} {vx vy:Value} {ex ey:Int} (hb:Below (w.heap.size+3) (pbox w nx vx ex ny vy ey) w') :
  (w'.cell? ⟨w.heap.size+1+1,0,none⟩=some (.bool false)∧w'.cell? ⟨w.heap.size+1+1,1,none⟩=some (.slice none 0 0)∧w'.cell? ⟨w.heap.size+1+1,2,none⟩=some (.int .i64 0))∧
  (w'.frozen? ⟨w.heap.size+1+1,0,none⟩=false∧w'.frozen? ⟨w.heap.size+1+1,1,none⟩=false∧w'.frozen? ⟨w.heap.size+1+1,2,none⟩=false):=by
 have hs:w.heap.size+1+1<w.heap.size+3:=by omega
 have h:=Ip (boxN (boxN w nx vx ex) ny vy ey) false (.slice none 0 0) 0
 rw [fu] at h
 obtain⟨⟨a,b,c⟩,d,e,f⟩:=h
 exact⟨⟨(hb.cell (p:=⟨w.heap.size+1+1,0,none⟩) hs).trans a,(hb.cell (p:=⟨w.heap.size+1+1,1,none⟩) hs).trans b,(hb.cell (p:=⟨w.heap.size+1+1,2,none⟩) hs).trans c⟩,
  (hb.frozen (p:=⟨w.heap.size+1+1,0,none⟩) hs).trans d,(hb.frozen (p:=⟨w.heap.size+1+1,1,none⟩) hs).trans e,(hb.frozen (p:=⟨w.heap.size+1+1,2,none⟩) hs).trans f⟩

def eH (w:World) (E S:Int) (x:Ending) (w':World):Prop:=
 ∃ neg' v' N' E',x=.returned (.agg #[.bool neg',v',.int .i64 E'])∧DN w' v' N'∧From w.heap.size v'∧sg neg' N'=S∧(E'=E∨(E'=0∧N'=0))∧Below w.heap.size w w'

theorem cR {w w4:World} {nx ny neg:Bool} {vx vy v:Value} {ex ey E S:Int} {N:Nat} (hb:Below (w.heap.size+3) (pbox w nx vx ex ny vy ey) w4) (hd:DN w4 v N) (hf:From (w.heap.size+3) v) (hs:sg neg N=S) :
  eH w E S (.returned (.agg #[.bool neg,v,.int .i64 E])) (((w4.setCell ⟨w.heap.size+1+1,0,none⟩ (.bool neg)).setCell ⟨w.heap.size+1+1,1,none⟩ v).setCell ⟨w.heap.size+1+1,2,none⟩ (.int .i64 E)):=by
 refine⟨neg,v,N,E,rfl,((hd.set hf (a:=⟨w.heap.size+1+1,0,none⟩) (Nat.lt_succ_self _) _).set hf (a:=⟨w.heap.size+1+1,1,none⟩) (Nat.lt_succ_self _) _).set hf (a:=⟨w.heap.size+1+1,2,none⟩) (Nat.lt_succ_self _) _,hf.mono (by omega),hs,Or.inl rfl,?_⟩
 have h9:w.heap.size≤w.heap.size+1+1:=by omega
 exact ((((cQ w nx vx ex ny vy ey).trans (hb.mono (by omega))).setCell h9 _).setCell h9 _).setCell h9 _

set_option maxHeartbeats 1600000 in
theorem DJ (nx ny:Bool) (vx vy:Value) (ex ey E:Int) (X Y n m a b:Nat) (w:World) (hX:DN w vx X) (hY:DN w vy Y)
  (hE:Hid (lI X ex Y ey=E)) (hn:X≠0→ex - E=(n:Int)) (hm:Y≠0→ey - E=(m:Int)) (hn1:n≤1000000) (hm1:m≤1000000) (hXd:nd X≤1000000) (hYd:nd Y≤1000000)
  (ha:Hid (X*2^n=a)) (hb:Hid (Y*2^m=b)) (had:nd a≤10000000) (hbd:nd b≤10000000) (hc:nx=ny∨a=0∨b=0) :
  Calls Tryz.prog 107 #[.agg #[.bool nx,vx,.int .i64 ex],.agg #[.bool ny,vy,.int .i64 ey]] w (eH w E (sg nx a+sg ny b)):=by
 have HB0:=ae (cQ w nx vx ex ny vy ey)
 have HZ:=ae (iH w nx vx ex ny vy ey)
 have H60:=ae (jN w nx vx ex ny vy ey)
 have HX0:=ae (hX.below HB0.out)
 have HY0:=ae (hY.below HB0.out)
 have HBo:=ae (tW nx ny vx vy ex ey X Y _ HX0.out HY0.out)
 rw [hE.out] at HBo
 have HNx:=ae hn
 have HM:=ae hm
 have HC:=ae hc
 clear hX hY hn hm hc
 go_enter Tryz.func107,Tryz.ntmps107
 go_wp2_with fail
 refine HBo.out.mono ?_
 rintro x w1 ⟨rfl,hb1⟩
 have hz1:w.heap.size+3≤w1.heap.size:=by have h9:=hb1.size;rw [HZ.out] at h9;exact h9
 have H61:=ae (H60.out.below hb1 (by rw [HZ.out];omega))
 have HX1:=ae (HX0.out.below hb1)
 have HY1:=ae (HY0.out.below hb1)
 have HB1:Hid (Below (w.heap.size+3) (pbox w nx vx ex ny vy ey) w1):=hb1.mono (by rw [HZ.out];omega)
 obtain⟨c0,c1,c2,c3,c4,c5⟩:=H61.out
 clear hb1
 go_wp2_with fail
 refine (mC nx vx ex E X n _ HX1.out HNx.out (by omega) (by omega)).mono ?_
 rintro x w2 ⟨va,rfl,hd2,hb2⟩
 rw [ha.out] at hd2
 have hz2:w.heap.size+3≤w2.heap.size:=by have h9:=hb2.size;omega
 have H62:=ae (H61.out.below hb2 (by omega))
 have HY2:=ae (HY1.out.below hb2)
 have HA2:=ae hd2
 have HB2:Hid (Below (w.heap.size+3) (pbox w nx vx ex ny vy ey) w2):=HB1.out.trans (hb2.mono hz1)
 clear hb2 hd2 c0 c1 c2 c3 c4 c5
 obtain⟨c0,c1,c2,c3,c4,c5⟩:=H62.out
 go_wp2_with fail
 refine (mC ny vy ey E Y m _ HY2.out HM.out (by omega) (by omega)).mono ?_
 rintro x w3 ⟨vb,rfl,hd3,hb3⟩
 rw [hb.out] at hd3
 have hz3:w.heap.size+3≤w3.heap.size:=by have h9:=hb3.size;omega
 have H63:=ae (H62.out.below hb3 (by omega))
 have HA3:=ae (HA2.out.below hb3)
 have HV3:=ae hd3
 have HB3:Hid (Below (w.heap.size+3) (pbox w nx vx ex ny vy ey) w3):=HB2.out.trans (hb3.mono hz2)
 clear hb3 hd3 c0 c1 c2 c3 c4 c5 HA2
 obtain⟨c0,c1,c2,c3,c4,c5⟩:=H63.out
 obtain⟨p,c,rfl⟩:=HA3.out.form
 obtain⟨q,d,rfl⟩:=HV3.out.form
 have HAdd:=ae (iZ _ _ a b w3 HA3.out HV3.out had hbd)
 obtain⟨N,hN⟩:∃ N,a+b=N:=⟨_,rfl⟩
 rw [hN] at HAdd
 have HN:=ae hN
 clear hN
 clear HA3 HV3
 have ea:a=0→nd a=0:=fun h=>by rw [h];rfl
 have eb:b=0→nd b=0:=fun h=>by rw [h];rfl
 have ea1:a≠0→1≤nd a:=cP
 have eb1:b≠0→1≤nd b:=cP
 clear hXd hYd HX0 HY0 HX1 HY1 HY2 H60 H61 H62 H63 HB1 HB2 HBo HNx HM hE ha hb HB0 HZ
 generalize nd a=la at *
 generalize nd b=lb at *
 by_cases ha0:a=0
 ·have hl:=ea ha0
  subst hl
  by_cases hb0:b=0
  ·have hl:=eb hb0
   subst hl ha0 hb0
   clear ea eb ea1 eb1
   cases nx<;>cases ny
   all_goals
    go_wp2_with fail
    refine HAdd.out.mono ?_
    rintro x w4 ⟨v4,rfl,hd4,hf4,hb4⟩
    have HB4:=ae (HB3.out.trans (hb4.mono hz3))
    obtain⟨⟨r0,r1,r2⟩,f0,f1,f2⟩:=cj HB4.out
    obtain⟨p4,c4,rfl⟩:=hd4.form
    have HD4:=ae hd4
    have HF4:=ae (hf4.mono hz3)
    clear hd4 hf4 hb4
    go_wp2_with fail
    refine bodyPost_ret (v:=.agg #[.bool _,.slice p4 _ c4,.int .i64 E]) (by simp [results,Tryz.results107,go_sem,r0,r1,r2]) rfl (cR HB4.out HD4.out HF4.out ?_)
    rw [← HN.out]
    simp [sg]
    try omega
  ·have hl:=eb1 hb0
   subst ha0
   clear ea eb ea1 eb1 hb0
   cases nx<;>cases ny
   all_goals
    go_wp2_with fail
    refine HAdd.out.mono ?_
    rintro x w4 ⟨v4,rfl,hd4,hf4,hb4⟩
    have HB4:=ae (HB3.out.trans (hb4.mono hz3))
    obtain⟨⟨r0,r1,r2⟩,f0,f1,f2⟩:=cj HB4.out
    obtain⟨p4,c4,rfl⟩:=hd4.form
    have HD4:=ae hd4
    have HF4:=ae (hf4.mono hz3)
    clear hd4 hf4 hb4
    go_wp2_with fail
    refine bodyPost_ret (v:=.agg #[.bool _,.slice p4 _ c4,.int .i64 E]) (by simp [results,Tryz.results107,go_sem,r0,r1,r2]) rfl (cR HB4.out HD4.out HF4.out ?_)
    rw [← HN.out]
    simp [sg]
    try omega
 ·have hl:=ea1 ha0
  by_cases hb0:b=0
  ·have hl:=eb hb0
   subst hl hb0
   clear ea eb ea1 eb1 ha0
   cases nx<;>cases ny
   all_goals
    go_wp2_with fail
    refine HAdd.out.mono ?_
    rintro x w4 ⟨v4,rfl,hd4,hf4,hb4⟩
    have HB4:=ae (HB3.out.trans (hb4.mono hz3))
    obtain⟨⟨r0,r1,r2⟩,f0,f1,f2⟩:=cj HB4.out
    obtain⟨p4,c4,rfl⟩:=hd4.form
    have HD4:=ae hd4
    have HF4:=ae (hf4.mono hz3)
    clear hd4 hf4 hb4
    go_wp2_with fail
    refine bodyPost_ret (v:=.agg #[.bool _,.slice p4 _ c4,.int .i64 E]) (by simp [results,Tryz.results107,go_sem,r0,r1,r2]) rfl (cR HB4.out HD4.out HF4.out ?_)
    rw [← HN.out]
    simp [sg]
    try omega
  ·have hl2:=eb1 hb0
   clear ea eb ea1 eb1
   have hs:nx=ny:=by
    rcases HC.out with h | h | h
    ·exact h
    ·exact absurd h ha0
    ·exact absurd h hb0
   clear ha0 hb0
   ·subst hs
    cases nx
    all_goals
     go_wp2_with fail
     refine HAdd.out.mono ?_
     rintro x w4 ⟨v4,rfl,hd4,hf4,hb4⟩
     have HB4:=ae (HB3.out.trans (hb4.mono hz3))
     obtain⟨⟨r0,r1,r2⟩,f0,f1,f2⟩:=cj HB4.out
     obtain⟨p4,c4,rfl⟩:=hd4.form
     have HD4:=ae hd4
     have HF4:=ae (hf4.mono hz3)
     clear hd4 hf4 hb4
     go_wp2_with fail
     refine bodyPost_ret (v:=.agg #[.bool _,.slice p4 _ c4,.int .i64 E]) (by simp [results,Tryz.results107,go_sem,r0,r1,r2]) rfl (cR HB4.out HD4.out HF4.out ?_)
     rw [← HN.out]
     simp [sg]
     try omega

end Go.Proofs.YtpddmnmhdahnlaaGreat
namespace Go.Proofs.YtpddmnmhdahnlaaGreat
open Go.RowKit

theorem kQ {w w4:World} {nx ny:Bool} {vx vy:Value} {ex ey E S:Int} (hb:Below (w.heap.size+3) (pbox w nx vx ex ny vy ey) w4) (hs:0=S) :
  eH w E S (.returned (.agg #[.bool false,.slice none 0 0,.int .i64 0])) (((w4.setCell ⟨w.heap.size+1+1,0,none⟩ (.bool false)).setCell ⟨w.heap.size+1+1,1,none⟩ (.slice none 0 0)).setCell ⟨w.heap.size+1+1,2,none⟩ (.int .i64 0)):=by
 refine⟨false,.slice none 0 0,0,0,rfl,Or.inl ⟨rfl,_,_,rfl⟩,mY _,hs,Or.inr ⟨rfl,rfl⟩,?_⟩
 have h9:w.heap.size≤w.heap.size+1+1:=by omega
 exact ((((cQ w nx vx ex ny vy ey).trans (hb.mono (by omega))).setCell h9 _).setCell h9 _).setCell h9 _

set_option maxHeartbeats 1600000 in
theorem xv (nx ny:Bool) (vx vy:Value) (ex ey E:Int) (X Y n m a b:Nat) (w:World) (hX:DN w vx X) (hY:DN w vy Y)
  (hE:Hid (lI X ex Y ey=E)) (hn:X≠0→ex - E=(n:Int)) (hm:Y≠0→ey - E=(m:Int)) (hn1:n≤1000000) (hm1:m≤1000000) (hXd:nd X≤1000000) (hYd:nd Y≤1000000)
  (ha:Hid (X*2^n=a)) (hb:Hid (Y*2^m=b)) (had:nd a≤10000000) (hbd:nd b≤10000000) (hs:nx≠ny) (ha0:a≠0) (hb0:b≠0) :
  Calls Tryz.prog 107 #[.agg #[.bool nx,vx,.int .i64 ex],.agg #[.bool ny,vy,.int .i64 ey]] w (eH w E (sg nx a+sg ny b)):=by
 have HB0:=ae (cQ w nx vx ex ny vy ey)
 have HZ:=ae (iH w nx vx ex ny vy ey)
 have H60:=ae (jN w nx vx ex ny vy ey)
 have HX0:=ae (hX.below HB0.out)
 have HY0:=ae (hY.below HB0.out)
 have HBo:=ae (tW nx ny vx vy ex ey X Y _ HX0.out HY0.out)
 rw [hE.out] at HBo
 have HNx:=ae hn
 have HM:=ae hm
 clear hX hY hn hm
 go_enter Tryz.func107,Tryz.ntmps107
 go_wp2_with fail
 refine HBo.out.mono ?_
 rintro x w1 ⟨rfl,hb1⟩
 have hz1:w.heap.size+3≤w1.heap.size:=by have h9:=hb1.size;rw [HZ.out] at h9;exact h9
 have H61:=ae (H60.out.below hb1 (by rw [HZ.out];omega))
 have HX1:=ae (HX0.out.below hb1)
 have HY1:=ae (HY0.out.below hb1)
 have HB1:Hid (Below (w.heap.size+3) (pbox w nx vx ex ny vy ey) w1):=hb1.mono (by rw [HZ.out];omega)
 obtain⟨c0,c1,c2,c3,c4,c5⟩:=H61.out
 clear hb1
 go_wp2_with fail
 refine (mC nx vx ex E X n _ HX1.out HNx.out (by omega) (by omega)).mono ?_
 rintro x w2 ⟨va,rfl,hd2,hb2⟩
 rw [ha.out] at hd2
 have hz2:w.heap.size+3≤w2.heap.size:=by have h9:=hb2.size;omega
 have H62:=ae (H61.out.below hb2 (by omega))
 have HY2:=ae (HY1.out.below hb2)
 have HA2:=ae hd2
 have HB2:Hid (Below (w.heap.size+3) (pbox w nx vx ex ny vy ey) w2):=HB1.out.trans (hb2.mono hz1)
 clear hb2 hd2 c0 c1 c2 c3 c4 c5
 obtain⟨c0,c1,c2,c3,c4,c5⟩:=H62.out
 go_wp2_with fail
 refine (mC ny vy ey E Y m _ HY2.out HM.out (by omega) (by omega)).mono ?_
 rintro x w3 ⟨vb,rfl,hd3,hb3⟩
 rw [hb.out] at hd3
 have hz3:w.heap.size+3≤w3.heap.size:=by have h9:=hb3.size;omega
 have H63:=ae (H62.out.below hb3 (by omega))
 have HA3:=ae (HA2.out.below hb3)
 have HV3:=ae hd3
 have HB3:Hid (Below (w.heap.size+3) (pbox w nx vx ex ny vy ey) w3):=HB2.out.trans (hb3.mono hz2)
 clear hb3 hd3 c0 c1 c2 c3 c4 c5 HA2
 obtain⟨c0,c1,c2,c3,c4,c5⟩:=H63.out
 obtain⟨p,c,rfl⟩:=HA3.out.form
 obtain⟨q,d,rfl⟩:=HV3.out.form
 have HCmp:=ae (ch _ _ a b w3 HA3.out HV3.out had)
 have HSub:=ae fun w' (hb':Below w3.heap.size w3 w') (hle:b≤a)=>dh _ _ a b w' (HA3.out.below hb') (HV3.out.below hb') had hle
 have HSub2:=ae fun w' (hb':Below w3.heap.size w3 w') (hle:a≤b)=>dh _ _ b a w' (HV3.out.below hb') (HA3.out.below hb') hbd hle
 clear HA3 HV3
 have hl:((nd a:Int)==0)=false:=by have:=cP ha0;simp;omega
 have hl2:((nd b:Int)==0)=false:=by have:=cP hb0;simp;omega
 clear hXd hYd HX0 HY0 HX1 HY1 HY2 H60 H61 H62 H63 HB1 HB2 HBo HNx HM hE ha hb HB0 HZ ha0 hb0
 generalize nd a=la at *
 generalize nd b=lb at *
 rcases Nat.lt_trichotomy a b with h | h | h
 ·rw [jK h] at HCmp
  have HL:=ae (Nat.le_of_lt h)
  clear HSub h
  cases nx<;>cases ny
  all_goals first | exact absurd rfl hs | skip
  all_goals
   go_wp2_with fail
   refine HCmp.out.mono ?_
   rintro x w5 ⟨rfl,qq,hq⟩
   have HQ:=ae (show Below w3.heap.size w3 w5 by rw [hq];exact below_drewN (Below.refl _ _) _)
   have g3:=(HQ.out.cell (p:=⟨w.heap.size+1,0,none⟩) (by show w.heap.size+1<_;omega)).trans c3
   have hz5:w.heap.size+3≤w5.heap.size:=by have:=HQ.out.size;omega
   clear hq
   go_wp2_with fail
   go_region_with ((go_at_call 157;refine (HSub2.out _ (HQ.out.drew) HL.out).mono ?_;rintro x w4 ⟨v4,rfl,hd4,hf4,hb4⟩;obtain⟨p4,c4,rfl⟩:=hd4.form;have HB4:=ae ((HB3.out.trans (HQ.out.mono hz3)).drew.trans (hb4.mono hz5));obtain⟨⟨r0,r1,r2⟩,f0,f1,f2⟩:=cj HB4.out;have k3:=(hb4.cell (p:=⟨w.heap.size+1,0,none⟩) (by show w.heap.size+1<w5.heap.size;omega)).trans g3;have HD4:=ae hd4;have HF4:=ae (hf4.mono (show w.heap.size+3≤_ from hz5));clear hd4 hf4 hb4))
   all_goals
    go_wp2_with fail
    refine bodyPost_ret (v:=.agg #[.bool _,.slice p4 _ c4,.int .i64 E]) (by simp [results,Tryz.results107,go_sem,r0,r1,r2]) rfl (cR HB4.out HD4.out HF4.out ?_)
    have h9:=HL.out
    simp [sg]
    try omega
 ·rw [jL h] at HCmp
  have HL:=ae h
  clear HSub HSub2 h
  cases nx<;>cases ny
  all_goals first | exact absurd rfl hs | skip
  all_goals
   go_wp2_with fail
   refine HCmp.out.mono ?_
   rintro x w5 ⟨rfl,qq,hq⟩
   have HQ:=ae (show Below w3.heap.size w3 w5 by rw [hq];exact below_drewN (Below.refl _ _) _)
   have HB4:=ae (HB3.out.trans (HQ.out.mono hz3))
   obtain⟨⟨r0,r1,r2⟩,f0,f1,f2⟩:=cj HB4.out
   clear hq
   go_wp2_with fail
   refine bodyPost_ret (v:=.agg #[.bool false,.slice none 0 0,.int .i64 0]) (by simp [results,Tryz.results107,go_sem,r0,r1,r2]) rfl (kQ HB4.out ?_)
   have h9:=HL.out
   simp [sg]
   try omega
 ·rw [jM h] at HCmp
  have HL:=ae (Nat.le_of_lt h)
  clear HSub2 h
  cases nx<;>cases ny
  all_goals first | exact absurd rfl hs | skip
  all_goals
   go_wp2_with fail
   refine HCmp.out.mono ?_
   rintro x w5 ⟨rfl,qq,hq⟩
   have HQ:=ae (show Below w3.heap.size w3 w5 by rw [hq];exact below_drewN (Below.refl _ _) _)
   have g3:=(HQ.out.cell (p:=⟨w.heap.size,0,none⟩) (by show w.heap.size<_;omega)).trans c0
   have hz5:w.heap.size+3≤w5.heap.size:=by have:=HQ.out.size;omega
   clear hq
   go_wp2_with fail
   go_region_with ((go_at_call 157;refine (HSub.out _ (HQ.out.drew) HL.out).mono ?_;rintro x w4 ⟨v4,rfl,hd4,hf4,hb4⟩;obtain⟨p4,c4,rfl⟩:=hd4.form;have HB4:=ae ((HB3.out.trans (HQ.out.mono hz3)).drew.trans (hb4.mono hz5));obtain⟨⟨r0,r1,r2⟩,f0,f1,f2⟩:=cj HB4.out;have k3:=(hb4.cell (p:=⟨w.heap.size,0,none⟩) (by show w.heap.size<w5.heap.size;omega)).trans g3;have HD4:=ae hd4;have HF4:=ae (hf4.mono (show w.heap.size+3≤_ from hz5));clear hd4 hf4 hb4))
   all_goals
    go_wp2_with fail
    refine bodyPost_ret (v:=.agg #[.bool _,.slice p4 _ c4,.int .i64 E]) (by simp [results,Tryz.results107,go_sem,r0,r1,r2]) rfl (cR HB4.out HD4.out HF4.out ?_)
    have h9:=HL.out
    simp [sg]
    try omega

theorem DK (nx ny:Bool) (vx vy:Value) (ex ey E:Int) (X Y n m:Nat) (w:World) (hX:DN w vx X) (hY:DN w vy Y)
  (hE:lI X ex Y ey=E) (hn:X≠0→ex - E=(n:Int)) (hm:Y≠0→ey - E=(m:Int)) (hn1:n≤1000000) (hm1:m≤1000000) (hXd:nd X≤1000000) (hYd:nd Y≤1000000)
  (had:nd (X*2^n)≤10000000) (hbd:nd (Y*2^m)≤10000000) :
  Calls Tryz.prog 107 #[.agg #[.bool nx,vx,.int .i64 ex],.agg #[.bool ny,vy,.int .i64 ey]] w (eH w E (sg nx (X*2^n)+sg ny (Y*2^m))):=by
 by_cases hc:nx=ny∨X*2^n=0∨Y*2^m=0
 ·exact DJ nx ny vx vy ex ey E X Y n m _ _ w hX hY hE hn hm hn1 hm1 hXd hYd rfl rfl had hbd hc
 ·exact xv nx ny vx vy ex ey E X Y n m _ _ w hX hY hE hn hm hn1 hm1 hXd hYd rfl rfl had hbd (fun h=>hc (Or.inl h)) (fun h=>hc (Or.inr (Or.inl h))) (fun h=>hc (Or.inr (Or.inr h)))

end Go.Proofs.YtpddmnmhdahnlaaGreat
namespace Go.Proofs.YtpddmnmhdahnlaaGreat
open Go.RowKit

def qw (P:Program) (md:Region.Mode) (ops:Array Oper) (Q:Exit→Act→World→Prop) (S:World→Prop) (L:Nat→Bool):Nat→Array Bool→Act→World→Prop
 | 0,l,a,w=>Region.ready md ops l=[]∧Q .normal a w
 | f+1,l,a,w=>(Region.ready md ops l=[]→Q .normal a w)∧∀ i ∈ Region.ready md ops l,wpOp P ops Q i (fun a' w'=>(L i=false→S w')∧qw P md ops Q S L f (l.setIfInBounds i true) a' w') a w

variable {P:Program} {md:Region.Mode} {ops:Array Oper} {Q:Exit→Act→World→Prop} {S:World→Prop} {L:Nat→Bool}

theorem wT:∀ (f:Nat) (l:Array Bool) (a:Act) (w:World),qw P md ops Q S L f l a w→wpAny P md ops Q f l a w
 | 0,_,_,_,h=>h
 | f+1,_,_,_,h=>⟨h.1,fun i hi=>wpOp_mono (fun a w k=>wT f _ a w k.2) (h.2 i hi)⟩

def AG (md:Region.Mode) (ops:Array Oper) (l:Array Bool):Bool:=
 (List.range ops.size).all fun k=>!l.getD k false||((ops[k]?).map (·.after.all fun e=>!Region.binds md e||l.getD e.on false)).getD true
def Closed (md:Region.Mode) (ops:Array Oper) (l:Array Bool):Prop:=∀ k ok,ops[k]? =some ok→l.getD k false=true→∀ e ∈ ok.after,Region.binds md e=true→l.getD e.on false=true
theorem CU {l:Array Bool} (h:AG md ops l=true):Closed md ops l:=fun k ok hk hl e he hb=>by
 have hm:=List.all_eq_true.1 h k (List.mem_range.2 (Array.getElem?_eq_some_iff.1 hk).1)
 rw [hl,hk] at hm
 simp only [Bool.not_true,Bool.false_or,Option.map_some,Option.getD_some,Array.all_eq_true'] at hm
 have:=hm e he
 rw [hb] at this
 simpa using this
theorem zh {l:Array Bool} {j:Nat} (h:Closed md ops l) (hj:j ∈ Region.ready md ops l):Closed md ops (l.setIfInBounds j true):=fun k ok hk hl e he hb=>by
 by_cases c:j=k
 ·subst c
  obtain⟨_,oj,hoj,hall⟩:=mem_ready.1 hj
  rw [hk] at hoj
  obtain rfl:=Option.some.inj hoj
  exact getD_set_true (hall e he hb)
 ·rw [getD_set_ne false c] at hl
  exact getD_set_true (h k ok hk hl e he hb)
def tD (md:Region.Mode) (ops:Array Oper):Nat→Nat→Nat→Bool
 | 0,_,_=>false
 | f+1,j,i=>((ops[j]?).map (·.after.any fun e=>Region.binds md e&&(e.on==i||tD md ops f e.on i))).getD false
theorem kG {l:Array Bool} (h:Closed md ops l) {i:Nat}:∀ (f j:Nat),tD md ops f j i=true→(∀ oj,ops[j]? =some oj→∀ e ∈ oj.after,Region.binds md e=true→l.getD e.on false=true)→l.getD i false=true
 | 0,_,hw,_=>by cases hw
 | f+1,j,hw,hd=>by
  unfold tD at hw
  cases hj:ops[j]? with
  | none=>rw [hj] at hw;cases hw
  | some oj=>
   rw [hj] at hw
   simp only [Option.map_some,Option.getD_some,Array.any_eq_true'] at hw
   obtain⟨e,he,hb⟩:=hw
   rw [Bool.and_eq_true,Bool.or_eq_true,beq_iff_eq] at hb
   have h1:=hd oj hj e he hb.1
   rcases hb.2 with c | c
   ·rw [← c];exact h1
   ·exact kG h f e.on c (fun ok hk e' he' hb'=>h e.on ok hk h1 e' he' hb')
def GZ (md:Region.Mode) (ops:Array Oper) (L:Nat→Bool) (i:Nat):Bool:=(List.range ops.size).all fun j=>!L j||tD md ops 6 j i
theorem Ha {i j:Nat} {l:Array Bool} (h:GZ md ops L i=true) (hc:Closed md ops l) (hi:i ∈ Region.ready md ops l) (hj:j ∈ Region.ready md ops l):L j=false:=by
 cases hl:L j with
 | false=>rfl
 | true=>
  obtain⟨_,oj,hoj,hall⟩:=mem_ready.1 hj
  have hm:=List.all_eq_true.1 h j (List.mem_range.2 (Array.getElem?_eq_some_iff.1 hoj).1)
  rw [hl] at hm
  have h1:=kG hc 6 j (by simpa using hm) (fun ok hk e he hb=>by
   rw [hoj] at hk
   obtain rfl:=Option.some.inj hk
   exact hall e he hb)
  have h0:=(mem_ready.1 hi).1
  rcases Nat.lt_or_ge i l.size with h' | h'
  ·simp [h'] at h0 h1;rw [h0] at h1;cases h1
  ·simp [Array.getElem?_eq_none h'] at h1

theorem zj {i:Nat} {oi:Oper} {v:Value} (hi:ops[i]? =some oi) (hs:Region.noSelect ops=true) (hl:GZ md ops L i=true) (hQ:∀ c a w,Q (.panic c) (a.put oi.dst v) w→Q (.panic c) a w) :
  ∀ (f:Nat) (l:Array Bool) (a:Act) (w:World),Closed md ops l→(∀ j oj,ops[j]? =some oj→j≠i→l.getD j true=false→(∀ e ∈ oj.after,Region.binds md e=true→e.on≠i)→oi.apart ops oj=true)→
   i ∈ Region.ready md ops l→YieldsIf P ops S oi v a→S w→qw P md ops Q S L f (l.setIfInBounds i true) (a.put oi.dst v) w→qw P md ops Q S L (f+1) l a w:=by
 intro f
 induction f with
 | zero=>
  intro l a w _ _ hr hy hS H
  refine⟨fun h=>(by rw [h] at hr;cases hr),fun j hj=>?_⟩
  by_cases c:j=i
  ·subst c;exact hy.wpOp hi hS ⟨fun _=>hS,H⟩
  ·have:=ready_mono hj c
   rw [H.1] at this;cases this
 | succ f ih=>
  intro l a w hcl hfree hr hy hS H
  refine⟨fun h=>(by rw [h] at hr;cases hr),fun j hj=>?_⟩
  by_cases c:j=i
  ·subst c;exact hy.wpOp hi hS ⟨fun _=>hS,H⟩
  ·obtain⟨hun,oj,hoj,hall⟩:=mem_ready.1 hj
   have hno:∀ e ∈ oj.after,Region.binds md e=true→e.on≠i:=fun e he hb heq=>by
    have h1:=hall e he hb
    have h0:=(mem_ready.1 hr).1
    rw [heq] at h1
    rcases Nat.lt_or_ge i l.size with h' | h'
    ·simp [h'] at h0 h1;rw [h0] at h1;cases h1
    ·simp [Array.getElem?_eq_none h'] at h1
   have hLj:L j=false:=Ha hl hcl hr hj
   have h2:=wpOp_putIf hoj (hfree j oj hoj c hun hno) (fun cs b=>Region.noSelect_spec hs i oi cs b hi) (fun cs b=>Region.noSelect_spec hs j oj cs b hoj) hQ hy (H.2 j (ready_mono hj c))
   refine wpOp_mono (fun a' w' h3=>⟨fun _=>h3.2.1 hLj,ih (l.setIfInBounds j true) a' w' (zh hcl hj) (fun k ok hk hki hu hn=>hfree k ok hk hki ?_ hn) (ready_mono hr (Ne.symm c)) h3.1 (h3.2.1 hLj) ?_⟩) h2
   ·by_cases hjk:j=k
    ·subst hjk;exact hun
    ·rw [getD_set_ne true hjk] at hu;exact hu
   ·rw [Array.setIfInBounds_comm _ _ c]
    exact h3.2.2
theorem fM (i:Nat) {oi:Oper} (v:Value) {f:Nat} {l:Array Bool} {a:Act} {w:World} (hi:ops[i]? =some oi) (hs:Region.noSelect ops=true) (hl:GZ md ops L i=true) (hc:AG md ops l=true) (hf:Region.free md ops l i=true) (hr:(Region.ready md ops l).contains i=true)
  (hQ:∀ c a w,Q (.panic c) (a.put oi.dst v) w→Q (.panic c) a w) (hw:Region.wanted oi (yielded ops a.tmps)=true) (hS:S w) (hy:∀ w,S w→(execOp a.eval oi).run P w=.ok (.value v) w)
  (h:qw P md ops Q S L f (l.setIfInBounds i true) (a.put oi.dst v) w):qw P md ops Q S L (f+1) l a w:=
 zj hi hs hl hQ f l a w (CU hc) (Region.free_spec hi hf) (by simpa using hr) (Or.inl ⟨hw,hy⟩) hS h
theorem iw {i:Nat} {f:Nat} {l:Array Bool} {a:Act} {w:World} (hr:Region.ready md ops l=[i])
  (h1:wpOp P ops Q i (fun a' w'=>(L i=false→S w')∧qw P md ops Q S L f (l.setIfInBounds i true) a' w') a w):qw P md ops Q S L (f+1) l a w:=
 ⟨fun h=>(by rw [hr] at h;cases h),fun k hk=>by
  rw [hr] at hk
  rcases List.mem_cons.1 hk with rfl | hk
  ·exact h1
  ·cases hk⟩
theorem CV {f:Nat} {l:Array Bool} {a:Act} {w:World} (hr:Region.ready md ops l=[]) (h:Q .normal a w):qw P md ops Q S L f l a w:=by
 cases f with
 | zero=>exact⟨hr,h⟩
 | succ f=>exact⟨fun _=>h,by rw [hr];simp⟩
theorem pF {id:Nat} {a:Act} {w:World} (S:World→Prop) (L:Nat→Bool) (hm:P.follows .mixedOrders=true)
  (h:qw P .any ops Q S L ops.size (Array.replicate ops.size false) a w.drew):(Code.region id ops true).wp P Q a w:=
 wp_region_any hm (wT _ _ _ _ h)
end Go.Proofs.YtpddmnmhdahnlaaGreat
