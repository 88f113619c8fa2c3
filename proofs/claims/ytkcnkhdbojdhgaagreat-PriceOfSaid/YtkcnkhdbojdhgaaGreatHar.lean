/-  -/
import Derived.Test.YtkcnkhdbojdhgaaGreatHaq
import Derived.Test.YtkcnkhdbojdhgaaGreatHak
import Derived.Deep.RegionHeld3
namespace Go.Proofs.YtkcnkhdbojdhgaaGreat
open Go.RowKit

def eK (X:Nat) (ex:Int) (Y:Nat) (ey:Int):Int:=if X=0 then ey else if Y=0 then ex else min ex ey
def sg (neg:Bool) (N:Nat):Int:=if neg then -(N:Int) else (N:Int)

abbrev boxN (w:World) (n:Bool) (v:Value) (e:Int):World:=w.alloc (.cells #[.bool n,v,.int .i64 e] 40)
theorem ao (w:World) (n:Bool) (v:Value) (e:Int):Below w.heap.size w (boxN w n v e):=(Below.refl _ _).alloc (Nat.le_refl _) _

def Six (w:World) (B:Nat) (nx:Bool) (vx:Value) (ex:Int) (ny:Bool) (vy:Value) (ey:Int):Prop:=
 w.cell? ⟨B,0,none⟩=some (.bool nx)∧w.cell? ⟨B,1,none⟩=some vx∧w.cell? ⟨B,2,none⟩=some (.int .i64 ex)∧
 w.cell? ⟨B+1,0,none⟩=some (.bool ny)∧w.cell? ⟨B+1,1,none⟩=some vy∧w.cell? ⟨B+1,2,none⟩=some (.int .i64 ey)
theorem jc (w:World) (nx:Bool) (vx:Value) (ex:Int) (ny:Bool) (vy:Value) (ey:Int):Six (boxN (boxN w nx vx ex) ny vy ey) w.heap.size nx vx ex ny vy ey:=by
 have hb:=ao (boxN w nx vx ex) ny vy ey
 have hs:w.heap.size<(boxN w nx vx ex).heap.size:=by simp
 refine⟨?_,?_,?_,?_,?_,?_⟩
 ·rw [hb.cell (p:=⟨w.heap.size,0,none⟩) hs];simp
 ·rw [hb.cell (p:=⟨w.heap.size,1,none⟩) hs];simp
 ·rw [hb.cell (p:=⟨w.heap.size,2,none⟩) hs];simp
 ·have e:w.heap.size+1=(boxN w nx vx ex).heap.size:=by simp
  rw [e];simp
 ·have e:w.heap.size+1=(boxN w nx vx ex).heap.size:=by simp
  rw [e];simp
 ·have e:w.heap.size+1=(boxN w nx vx ex).heap.size:=by simp
  rw [e];simp
theorem Six.below {w w':World} {B:Nat} {nx ny:Bool} {vx vy:Value} {ex ey:Int} {s:Nat} (h:Six w B nx vx ex ny vy ey) (hb:Below s w w') (hs:B+1<s):Six w' B nx vx ex ny vy ey:=by
 obtain⟨a,b,c,d,e,f⟩:=h
 exact⟨(hb.cell (p:=⟨B,0,none⟩) (by show B<s;omega)).trans a,(hb.cell (p:=⟨B,1,none⟩) (by show B<s;omega)).trans b,(hb.cell (p:=⟨B,2,none⟩) (by show B<s;omega)).trans c,(hb.cell (p:=⟨B+1,0,none⟩) hs).trans d,(hb.cell (p:=⟨B+1,1,none⟩) hs).trans e,(hb.cell (p:=⟨B+1,2,none⟩) hs).trans f⟩
theorem cN (w:World) (nx:Bool) (vx:Value) (ex:Int) (ny:Bool) (vy:Value) (ey:Int):(boxN (boxN w nx vx ex) ny vy ey).heap.size=w.heap.size+2:=by simp

set_option maxHeartbeats 800000 in
theorem rW (nx ny:Bool) (vx vy:Value) (ex ey:Int) (X Y:Nat) (w:World) (hX:DN w vx X) (hY:DN w vy Y) :
  Calls Tryz.prog 144 #[.agg #[.bool nx,vx,.int .i64 ex],.agg #[.bool ny,vy,.int .i64 ey]] w fun e w'=>e=.returned (.int .i64 (eK X ex Y ey))∧Below w.heap.size w w':=by
 have hbx:=ao w nx vx ex
 have hby:Below w.heap.size w (boxN (boxN w nx vx ex) ny vy ey):=hbx.trans ((ao (boxN w nx vx ex) ny vy ey).mono (by simp))
 have H1:=aa (hX.below hby)
 have H2:=aa (hY.below hby)
 have HB:=aa hby
 have H6:=aa (jc w nx vx ex ny vy ey)
 have HZ:=aa (cN w nx vx ex ny vy ey)
 clear hbx hby hX hY
 unfold eK
 by_cases h0:X=0
 ·subst h0
  rw [if_pos rfl]
  go_enter Tryz.func144,Tryz.ntmps144
  go_wp2_with fail
  refine (aJ _ _ _ 0 true _ H1.out rfl).mono ?_
  rintro x w1 ⟨rfl,hb1⟩
  have H7:=aa (H6.out.below hb1 (by rw [HZ.out];omega))
  have hz:w.heap.size+1<w1.heap.size:=by have h9:=hb1.size;rw [HZ.out] at h9;omega
  obtain⟨c0,c1,c2,c3,c4,c5⟩:=H7.out
  have HB1:=aa hb1
  clear hb1
  go_wp2_with fail
  go_ret
  exact⟨rfl,HB.out.trans (HB1.out.mono (by rw [HZ.out];omega))⟩
 ·rw [if_neg h0]
  have HX:=aa h0
  clear h0
  by_cases h0:Y=0
  ·subst h0
   rw [if_pos rfl]
   go_enter Tryz.func144,Tryz.ntmps144
   go_wp2_with fail
   refine (aJ _ _ _ X false _ H1.out (decide_eq_false HX.out)).mono ?_
   rintro x w1 ⟨rfl,hb1⟩
   have H7:=aa (H6.out.below hb1 (by rw [HZ.out];omega))
   have hz:w.heap.size+1<w1.heap.size:=by have h9:=hb1.size;rw [HZ.out] at h9;omega
   obtain⟨c0,c1,c2,c3,c4,c5⟩:=H7.out
   have HB1:=aa hb1
   have H2:=aa (H2.out.below hb1)
   clear hb1
   go_wp2_with fail
   refine (aJ _ _ _ 0 true _ H2.out rfl).mono ?_
   rintro x w2 ⟨rfl,hb2⟩
   obtain⟨d0,d1,d2,d3,d4,d5⟩:=H7.out.below hb2 hz
   clear c0 c1 c2 c3 c4 c5
   have HB2:=aa hb2
   clear hb2
   go_wp2_with fail
   go_ret
   exact⟨rfl,(HB.out.trans (HB1.out.mono (by rw [HZ.out];omega))).trans (HB2.out.mono (by omega))⟩
  ·rw [if_neg h0]
   have HY:=aa h0
   clear h0
   go_enter Tryz.func144,Tryz.ntmps144
   go_wp2_with fail
   refine (aJ _ _ _ X false _ H1.out (decide_eq_false HX.out)).mono ?_
   rintro x w1 ⟨rfl,hb1⟩
   have H7:=aa (H6.out.below hb1 (by rw [HZ.out];omega))
   have hz:w.heap.size+1<w1.heap.size:=by have h9:=hb1.size;rw [HZ.out] at h9;omega
   obtain⟨c0,c1,c2,c3,c4,c5⟩:=H7.out
   have HB1:=aa hb1
   have H2:=aa (H2.out.below hb1)
   clear hb1
   go_wp2_with fail
   refine (aJ _ _ _ Y false _ H2.out (decide_eq_false HY.out)).mono ?_
   rintro x w2 ⟨rfl,hb2⟩
   obtain⟨d0,d1,d2,d3,d4,d5⟩:=H7.out.below hb2 hz
   clear c0 c1 c2 c3 c4 c5
   have HB2:=aa hb2
   clear hb2
   go_wp2_with fail
   go_ret
   exact⟨rfl,(HB.out.trans (HB1.out.mono (by rw [HZ.out];omega))).trans (HB2.out.mono (by omega))⟩

set_option maxHeartbeats 800000 in
theorem li (nx:Bool) (vx:Value) (ex e:Int) (X n:Nat) (w:World) (hX:DN w vx X) (hn:X≠0→ex - e=(n:Int)) (hn1:n≤100000000) (hnd:nd X≤10000000) :
  Calls Tryz.prog 145 #[.agg #[.bool nx,vx,.int .i64 ex],.int .i64 e] w fun x w'=>∃ v,x=.returned v∧DN w' v (X*2^n)∧Below w.heap.size w w':=by
 have HB:=aa (ao w nx vx ex)
 have H1:=aa (hX.below HB.out)
 clear hX
 by_cases h0:X=0
 ·subst h0
  rw [Nat.zero_mul]
  go_enter Tryz.func145,Tryz.ntmps145
  go_wp2_with fail
  refine (aJ _ _ _ 0 true _ H1.out rfl).mono ?_
  rintro x w1 ⟨rfl,hb1⟩
  have HB1:=aa hb1
  clear hb1
  go_wp2_with fail
  go_ret
  exact⟨_,rfl,Or.inl ⟨rfl,_,_,rfl⟩,HB.out.trans (HB1.out.mono (by simp))⟩
 ·have he:=hn h0
  have HX:=aa h0
  clear h0 hn
  go_enter Tryz.func145,Tryz.ntmps145
  go_wp2_with fail
  refine (aJ _ _ _ X false _ H1.out (decide_eq_false HX.out)).mono ?_
  rintro x w1 ⟨rfl,hb1⟩
  obtain⟨c1,f1⟩:=rP hb1
  have HB1:=aa hb1
  have H2:=aa (H1.out.below hb1)
  clear hb1
  go_wp2_with fail
  refine (kB vx X n _ H2.out hnd hn1).mono ?_
  rintro x w2 ⟨v2,rfl,hd2,hb2⟩
  have HB2:=aa hb2
  have HD2:=aa hd2
  clear hb2 hd2
  have hz:w.heap.size≤w1.heap.size:=by have:=HB1.out.size;simp at this;omega
  go_wp2_with fail
  go_ret
  exact⟨_,rfl,HD2.out,(HB.out.trans (HB1.out.mono (by simp))).trans (HB2.out.mono hz)⟩

end Go.Proofs.YtkcnkhdbojdhgaaGreat
namespace Go.Proofs.YtkcnkhdbojdhgaaGreat
open Go.RowKit

abbrev pbox (w:World) (nx:Bool) (vx:Value) (ex:Int) (ny:Bool) (vy:Value) (ey:Int):World:=boxN (boxN (boxN w nx vx ex) ny vy ey) false (.slice none 0 0) 0
theorem gR (w:World) (nx:Bool) (vx:Value) (ex:Int) (ny:Bool) (vy:Value) (ey:Int):(pbox w nx vx ex ny vy ey).heap.size=w.heap.size+3:=by simp
theorem cO (w:World) (nx:Bool) (vx:Value) (ex:Int) (ny:Bool) (vy:Value) (ey:Int):Below w.heap.size w (pbox w nx vx ex ny vy ey):=
 ((ao w nx vx ex).trans ((ao (boxN w nx vx ex) ny vy ey).mono (by simp))).trans ((ao _ _ _ _).mono (by rw [cN];omega))
theorem jd (w:World) (nx:Bool) (vx:Value) (ex:Int) (ny:Bool) (vy:Value) (ey:Int):Six (pbox w nx vx ex ny vy ey) w.heap.size nx vx ex ny vy ey:=
 (jc w nx vx ex ny vy ey).below (ao _ _ _ _) (by rw [cN];omega)
theorem From.mono {A B:Nat} {v:Value} (h:From B v) (hle:A≤B):From A v:=fun a l c e=>Nat.le_trans hle (h a l c e)

theorem qk (w:World) (n:Bool) (v:Value) (e:Int) :
  ((boxN w n v e).cell? ⟨w.heap.size,0,none⟩=some (.bool n)∧(boxN w n v e).cell? ⟨w.heap.size,1,none⟩=some v∧(boxN w n v e).cell? ⟨w.heap.size,2,none⟩=some (.int .i64 e))∧
  ((boxN w n v e).frozen? ⟨w.heap.size,0,none⟩=false∧(boxN w n v e).frozen? ⟨w.heap.size,1,none⟩=false∧(boxN w n v e).frozen? ⟨w.heap.size,2,none⟩=false):=by
 refine⟨⟨?_,?_,?_⟩,?_,?_,?_⟩ <;>first | exact World.frozen?_alloc_new _ _ _ _ | simp
theorem cb {w w':World} {nx ny:Bool} {vx vy:Value} {ex ey:Int} (hb:Below (w.heap.size+3) (pbox w nx vx ex ny vy ey) w') :
  (w'.cell? ⟨w.heap.size+1+1,0,none⟩=some (.bool false)∧w'.cell? ⟨w.heap.size+1+1,1,none⟩=some (.slice none 0 0)∧w'.cell? ⟨w.heap.size+1+1,2,none⟩=some (.int .i64 0))∧
  (w'.frozen? ⟨w.heap.size+1+1,0,none⟩=false∧w'.frozen? ⟨w.heap.size+1+1,1,none⟩=false∧w'.frozen? ⟨w.heap.size+1+1,2,none⟩=false):=by
 have hs:w.heap.size+1+1<w.heap.size+3:=by omega
 have h:=qk (boxN (boxN w nx vx ex) ny vy ey) false (.slice none 0 0) 0
 rw [cN] at h
 obtain⟨⟨a,b,c⟩,d,e,f⟩:=h
 exact⟨⟨(hb.cell (p:=⟨w.heap.size+1+1,0,none⟩) hs).trans a,(hb.cell (p:=⟨w.heap.size+1+1,1,none⟩) hs).trans b,(hb.cell (p:=⟨w.heap.size+1+1,2,none⟩) hs).trans c⟩,
  (hb.frozen (p:=⟨w.heap.size+1+1,0,none⟩) hs).trans d,(hb.frozen (p:=⟨w.heap.size+1+1,1,none⟩) hs).trans e,(hb.frozen (p:=⟨w.heap.size+1+1,2,none⟩) hs).trans f⟩

def ei (w:World) (E S:Int) (x:Ending) (w':World):Prop:=
 ∃ neg' v' N' E',x=.returned (.agg #[.bool neg',v',.int .i64 E'])∧DN w' v' N'∧From w.heap.size v'∧sg neg' N'=S∧(E'=E∨(E'=0∧N'=0))∧Below w.heap.size w w'

theorem cP {w w4:World} {nx ny neg:Bool} {vx vy v:Value} {ex ey E S:Int} {N:Nat} (hb:Below (w.heap.size+3) (pbox w nx vx ex ny vy ey) w4) (hd:DN w4 v N) (hf:From (w.heap.size+3) v) (hs:sg neg N=S) :
  ei w E S (.returned (.agg #[.bool neg,v,.int .i64 E])) (((w4.setCell ⟨w.heap.size+1+1,0,none⟩ (.bool neg)).setCell ⟨w.heap.size+1+1,1,none⟩ v).setCell ⟨w.heap.size+1+1,2,none⟩ (.int .i64 E)):=by
 refine⟨neg,v,N,E,rfl,((hd.set hf (a:=⟨w.heap.size+1+1,0,none⟩) (Nat.lt_succ_self _) _).set hf (a:=⟨w.heap.size+1+1,1,none⟩) (Nat.lt_succ_self _) _).set hf (a:=⟨w.heap.size+1+1,2,none⟩) (Nat.lt_succ_self _) _,hf.mono (by omega),hs,Or.inl rfl,?_⟩
 have h9:w.heap.size≤w.heap.size+1+1:=by omega
 exact ((((cO w nx vx ex ny vy ey).trans (hb.mono (by omega))).setCell h9 _).setCell h9 _).setCell h9 _

set_option maxHeartbeats 1600000 in
theorem BP (nx ny:Bool) (vx vy:Value) (ex ey E:Int) (X Y n m a b:Nat) (w:World) (hX:DN w vx X) (hY:DN w vy Y)
  (hE:Hid (eK X ex Y ey=E)) (hn:X≠0→ex - E=(n:Int)) (hm:Y≠0→ey - E=(m:Int)) (hn1:n≤1000000) (hm1:m≤1000000) (hXd:nd X≤1000000) (hYd:nd Y≤1000000)
  (ha:Hid (X*2^n=a)) (hb:Hid (Y*2^m=b)) (had:nd a≤10000000) (hbd:nd b≤10000000) (hc:nx=ny∨a=0∨b=0) :
  Calls Tryz.prog 89 #[.agg #[.bool nx,vx,.int .i64 ex],.agg #[.bool ny,vy,.int .i64 ey]] w (ei w E (sg nx a+sg ny b)):=by
 have HB0:=aa (cO w nx vx ex ny vy ey)
 have HZ:=aa (gR w nx vx ex ny vy ey)
 have H60:=aa (jd w nx vx ex ny vy ey)
 have HX0:=aa (hX.below HB0.out)
 have HY0:=aa (hY.below HB0.out)
 have HBo:=aa (rW nx ny vx vy ex ey X Y _ HX0.out HY0.out)
 rw [hE.out] at HBo
 have HNx:=aa hn
 have HM:=aa hm
 have HC:=aa hc
 clear hX hY hn hm hc
 go_enter Tryz.func89,Tryz.ntmps89
 go_wp2_with fail
 refine HBo.out.mono ?_
 rintro x w1 ⟨rfl,hb1⟩
 have hz1:w.heap.size+3≤w1.heap.size:=by have h9:=hb1.size;rw [HZ.out] at h9;exact h9
 have H61:=aa (H60.out.below hb1 (by rw [HZ.out];omega))
 have HX1:=aa (HX0.out.below hb1)
 have HY1:=aa (HY0.out.below hb1)
 have HB1:Hid (Below (w.heap.size+3) (pbox w nx vx ex ny vy ey) w1):=hb1.mono (by rw [HZ.out];omega)
 obtain⟨c0,c1,c2,c3,c4,c5⟩:=H61.out
 clear hb1
 go_wp2_with fail
 refine (li nx vx ex E X n _ HX1.out HNx.out (by omega) (by omega)).mono ?_
 rintro x w2 ⟨va,rfl,hd2,hb2⟩
 rw [ha.out] at hd2
 have hz2:w.heap.size+3≤w2.heap.size:=by have h9:=hb2.size;omega
 have H62:=aa (H61.out.below hb2 (by omega))
 have HY2:=aa (HY1.out.below hb2)
 have HA2:=aa hd2
 have HB2:Hid (Below (w.heap.size+3) (pbox w nx vx ex ny vy ey) w2):=HB1.out.trans (hb2.mono hz1)
 clear hb2 hd2 c0 c1 c2 c3 c4 c5
 obtain⟨c0,c1,c2,c3,c4,c5⟩:=H62.out
 go_wp2_with fail
 refine (li ny vy ey E Y m _ HY2.out HM.out (by omega) (by omega)).mono ?_
 rintro x w3 ⟨vb,rfl,hd3,hb3⟩
 rw [hb.out] at hd3
 have hz3:w.heap.size+3≤w3.heap.size:=by have h9:=hb3.size;omega
 have H63:=aa (H62.out.below hb3 (by omega))
 have HA3:=aa (HA2.out.below hb3)
 have HV3:=aa hd3
 have HB3:Hid (Below (w.heap.size+3) (pbox w nx vx ex ny vy ey) w3):=HB2.out.trans (hb3.mono hz2)
 clear hb3 hd3 c0 c1 c2 c3 c4 c5 HA2
 obtain⟨c0,c1,c2,c3,c4,c5⟩:=H63.out
 obtain⟨p,c,rfl⟩:=HA3.out.form
 obtain⟨q,d,rfl⟩:=HV3.out.form
 have HAdd:=aa (io _ _ a b w3 HA3.out HV3.out had hbd)
 obtain⟨N,hN⟩:∃ N,a+b=N:=⟨_,rfl⟩
 rw [hN] at HAdd
 have HN:=aa hN
 clear hN
 clear HA3 HV3
 have ea:a=0→nd a=0:=fun h=>by rw [h];rfl
 have eb:b=0→nd b=0:=fun h=>by rw [h];rfl
 have ea1:a≠0→1≤nd a:=cM
 have eb1:b≠0→1≤nd b:=cM
 clear hXd hYd HX0 HY0 HX1 HY1 HY2 H60 H61 H62 H63 HB1 HB2 HBo HNx HM hE ha hb HB0 HZ
 generalize nd a=la at *
 generalize nd b=lb at *
 by_cases ha0:a=0
 ·have hl:=ea ha0
  subst hl
  by_cases hb0:b=0
  ·have hl:=eb hb0
   subst hl ha0 hb0
   clear ea eb ea1 eb1
   cases nx<;>cases ny
   all_goals
    go_wp2_with fail
    refine HAdd.out.mono ?_
    rintro x w4 ⟨v4,rfl,hd4,hf4,hb4⟩
    have HB4:=aa (HB3.out.trans (hb4.mono hz3))
    obtain⟨⟨r0,r1,r2⟩,f0,f1,f2⟩:=cb HB4.out
    obtain⟨p4,c4,rfl⟩:=hd4.form
    have HD4:=aa hd4
    have HF4:=aa (hf4.mono hz3)
    clear hd4 hf4 hb4
    go_wp2_with fail
    refine bodyPost_ret (v:=.agg #[.bool _,.slice p4 _ c4,.int .i64 E]) (by simp [results,Tryz.results89,go_sem,r0,r1,r2]) rfl (cP HB4.out HD4.out HF4.out ?_)
    rw [← HN.out]
    simp [sg]
    try omega
  ·have hl:=eb1 hb0
   subst ha0
   clear ea eb ea1 eb1 hb0
   cases nx<;>cases ny
   all_goals
    go_wp2_with fail
    refine HAdd.out.mono ?_
    rintro x w4 ⟨v4,rfl,hd4,hf4,hb4⟩
    have HB4:=aa (HB3.out.trans (hb4.mono hz3))
    obtain⟨⟨r0,r1,r2⟩,f0,f1,f2⟩:=cb HB4.out
    obtain⟨p4,c4,rfl⟩:=hd4.form
    have HD4:=aa hd4
    have HF4:=aa (hf4.mono hz3)
    clear hd4 hf4 hb4
    go_wp2_with fail
    refine bodyPost_ret (v:=.agg #[.bool _,.slice p4 _ c4,.int .i64 E]) (by simp [results,Tryz.results89,go_sem,r0,r1,r2]) rfl (cP HB4.out HD4.out HF4.out ?_)
    rw [← HN.out]
    simp [sg]
    try omega
 ·have hl:=ea1 ha0
  by_cases hb0:b=0
  ·have hl:=eb hb0
   subst hl hb0
   clear ea eb ea1 eb1 ha0
   cases nx<;>cases ny
   all_goals
    go_wp2_with fail
    refine HAdd.out.mono ?_
    rintro x w4 ⟨v4,rfl,hd4,hf4,hb4⟩
    have HB4:=aa (HB3.out.trans (hb4.mono hz3))
    obtain⟨⟨r0,r1,r2⟩,f0,f1,f2⟩:=cb HB4.out
    obtain⟨p4,c4,rfl⟩:=hd4.form
    have HD4:=aa hd4
    have HF4:=aa (hf4.mono hz3)
    clear hd4 hf4 hb4
    go_wp2_with fail
    refine bodyPost_ret (v:=.agg #[.bool _,.slice p4 _ c4,.int .i64 E]) (by simp [results,Tryz.results89,go_sem,r0,r1,r2]) rfl (cP HB4.out HD4.out HF4.out ?_)
    rw [← HN.out]
    simp [sg]
    try omega
  ·have hl2:=eb1 hb0
   clear ea eb ea1 eb1
   have hs:nx=ny:=by
    rcases HC.out with h | h | h
    ·exact h
    ·exact absurd h ha0
    ·exact absurd h hb0
   clear ha0 hb0
   ·subst hs
    cases nx
    all_goals
     go_wp2_with fail
     refine HAdd.out.mono ?_
     rintro x w4 ⟨v4,rfl,hd4,hf4,hb4⟩
     have HB4:=aa (HB3.out.trans (hb4.mono hz3))
     obtain⟨⟨r0,r1,r2⟩,f0,f1,f2⟩:=cb HB4.out
     obtain⟨p4,c4,rfl⟩:=hd4.form
     have HD4:=aa hd4
     have HF4:=aa (hf4.mono hz3)
     clear hd4 hf4 hb4
     go_wp2_with fail
     refine bodyPost_ret (v:=.agg #[.bool _,.slice p4 _ c4,.int .i64 E]) (by simp [results,Tryz.results89,go_sem,r0,r1,r2]) rfl (cP HB4.out HD4.out HF4.out ?_)
     rw [← HN.out]
     simp [sg]
     try omega

end Go.Proofs.YtkcnkhdbojdhgaaGreat
namespace Go.Proofs.YtkcnkhdbojdhgaaGreat
open Go.RowKit

theorem jR {w w4:World} {nx ny:Bool} {vx vy:Value} {ex ey E S:Int} (hb:Below (w.heap.size+3) (pbox w nx vx ex ny vy ey) w4) (hs:0=S) :
  ei w E S (.returned (.agg #[.bool false,.slice none 0 0,.int .i64 0])) (((w4.setCell ⟨w.heap.size+1+1,0,none⟩ (.bool false)).setCell ⟨w.heap.size+1+1,1,none⟩ (.slice none 0 0)).setCell ⟨w.heap.size+1+1,2,none⟩ (.int .i64 0)):=by
 refine⟨false,.slice none 0 0,0,0,rfl,Or.inl ⟨rfl,_,_,rfl⟩,eI _,hs,Or.inr ⟨rfl,rfl⟩,?_⟩
 have h9:w.heap.size≤w.heap.size+1+1:=by omega
 exact ((((cO w nx vx ex ny vy ey).trans (hb.mono (by omega))).setCell h9 _).setCell h9 _).setCell h9 _

set_option maxHeartbeats 1600000 in
theorem vm (nx ny:Bool) (vx vy:Value) (ex ey E:Int) (X Y n m a b:Nat) (w:World) (hX:DN w vx X) (hY:DN w vy Y)
  (hE:Hid (eK X ex Y ey=E)) (hn:X≠0→ex - E=(n:Int)) (hm:Y≠0→ey - E=(m:Int)) (hn1:n≤1000000) (hm1:m≤1000000) (hXd:nd X≤1000000) (hYd:nd Y≤1000000)
  (ha:Hid (X*2^n=a)) (hb:Hid (Y*2^m=b)) (had:nd a≤10000000) (hbd:nd b≤10000000) (hs:nx≠ny) (ha0:a≠0) (hb0:b≠0) :
  Calls Tryz.prog 89 #[.agg #[.bool nx,vx,.int .i64 ex],.agg #[.bool ny,vy,.int .i64 ey]] w (ei w E (sg nx a+sg ny b)):=by
 have HB0:=aa (cO w nx vx ex ny vy ey)
 have HZ:=aa (gR w nx vx ex ny vy ey)
 have H60:=aa (jd w nx vx ex ny vy ey)
 have HX0:=aa (hX.below HB0.out)
 have HY0:=aa (hY.below HB0.out)
 have HBo:=aa (rW nx ny vx vy ex ey X Y _ HX0.out HY0.out)
 rw [hE.out] at HBo
 have HNx:=aa hn
 have HM:=aa hm
 clear hX hY hn hm
 go_enter Tryz.func89,Tryz.ntmps89
 go_wp2_with fail
 refine HBo.out.mono ?_
 rintro x w1 ⟨rfl,hb1⟩
 have hz1:w.heap.size+3≤w1.heap.size:=by have h9:=hb1.size;rw [HZ.out] at h9;exact h9
 have H61:=aa (H60.out.below hb1 (by rw [HZ.out];omega))
 have HX1:=aa (HX0.out.below hb1)
 have HY1:=aa (HY0.out.below hb1)
 have HB1:Hid (Below (w.heap.size+3) (pbox w nx vx ex ny vy ey) w1):=hb1.mono (by rw [HZ.out];omega)
 obtain⟨c0,c1,c2,c3,c4,c5⟩:=H61.out
 clear hb1
 go_wp2_with fail
 refine (li nx vx ex E X n _ HX1.out HNx.out (by omega) (by omega)).mono ?_
 rintro x w2 ⟨va,rfl,hd2,hb2⟩
 rw [ha.out] at hd2
 have hz2:w.heap.size+3≤w2.heap.size:=by have h9:=hb2.size;omega
 have H62:=aa (H61.out.below hb2 (by omega))
 have HY2:=aa (HY1.out.below hb2)
 have HA2:=aa hd2
 have HB2:Hid (Below (w.heap.size+3) (pbox w nx vx ex ny vy ey) w2):=HB1.out.trans (hb2.mono hz1)
 clear hb2 hd2 c0 c1 c2 c3 c4 c5
 obtain⟨c0,c1,c2,c3,c4,c5⟩:=H62.out
 go_wp2_with fail
 refine (li ny vy ey E Y m _ HY2.out HM.out (by omega) (by omega)).mono ?_
 rintro x w3 ⟨vb,rfl,hd3,hb3⟩
 rw [hb.out] at hd3
 have hz3:w.heap.size+3≤w3.heap.size:=by have h9:=hb3.size;omega
 have H63:=aa (H62.out.below hb3 (by omega))
 have HA3:=aa (HA2.out.below hb3)
 have HV3:=aa hd3
 have HB3:Hid (Below (w.heap.size+3) (pbox w nx vx ex ny vy ey) w3):=HB2.out.trans (hb3.mono hz2)
 clear hb3 hd3 c0 c1 c2 c3 c4 c5 HA2
 obtain⟨c0,c1,c2,c3,c4,c5⟩:=H63.out
 obtain⟨p,c,rfl⟩:=HA3.out.form
 obtain⟨q,d,rfl⟩:=HV3.out.form
 have HCmp:=aa (bZ _ _ a b w3 HA3.out HV3.out had)
 have HSub:=aa fun w' (hb':Below w3.heap.size w3 w') (hle:b≤a)=>cY _ _ a b w' (HA3.out.below hb') (HV3.out.below hb') had hle
 have HSub2:=aa fun w' (hb':Below w3.heap.size w3 w') (hle:a≤b)=>cY _ _ b a w' (HV3.out.below hb') (HA3.out.below hb') hbd hle
 clear HA3 HV3
 have hl:((nd a:Int)==0)=false:=by have:=cM ha0;simp;omega
 have hl2:((nd b:Int)==0)=false:=by have:=cM hb0;simp;omega
 clear hXd hYd HX0 HY0 HX1 HY1 HY2 H60 H61 H62 H63 HB1 HB2 HBo HNx HM hE ha hb HB0 HZ ha0 hb0
 generalize nd a=la at *
 generalize nd b=lb at *
 rcases Nat.lt_trichotomy a b with h | h | h
 ·rw [iZ h] at HCmp
  have HL:=aa (Nat.le_of_lt h)
  clear HSub h
  cases nx<;>cases ny
  all_goals first | exact absurd rfl hs | skip
  all_goals
   go_wp2_with fail
   refine HCmp.out.mono ?_
   rintro x w5 ⟨rfl,qq,hq⟩
   have HQ:=aa (show Below w3.heap.size w3 w5 by rw [hq];exact below_drewN (Below.refl _ _) _)
   have g3:=(HQ.out.cell (p:=⟨w.heap.size+1,0,none⟩) (by show w.heap.size+1<_;omega)).trans c3
   have hz5:w.heap.size+3≤w5.heap.size:=by have:=HQ.out.size;omega
   clear hq
   go_wp2_with fail
   go_region_with ((go_at_call 148;refine (HSub2.out _ (HQ.out.drew) HL.out).mono ?_;rintro x w4 ⟨v4,rfl,hd4,hf4,hb4⟩;obtain⟨p4,c4,rfl⟩:=hd4.form;have HB4:=aa ((HB3.out.trans (HQ.out.mono hz3)).drew.trans (hb4.mono hz5));obtain⟨⟨r0,r1,r2⟩,f0,f1,f2⟩:=cb HB4.out;have k3:=(hb4.cell (p:=⟨w.heap.size+1,0,none⟩) (by show w.heap.size+1<w5.heap.size;omega)).trans g3;have HD4:=aa hd4;have HF4:=aa (hf4.mono (show w.heap.size+3≤_ from hz5));clear hd4 hf4 hb4))
   all_goals
    go_wp2_with fail
    refine bodyPost_ret (v:=.agg #[.bool _,.slice p4 _ c4,.int .i64 E]) (by simp [results,Tryz.results89,go_sem,r0,r1,r2]) rfl (cP HB4.out HD4.out HF4.out ?_)
    have h9:=HL.out
    simp [sg]
    try omega
 ·rw [ja h] at HCmp
  have HL:=aa h
  clear HSub HSub2 h
  cases nx<;>cases ny
  all_goals first | exact absurd rfl hs | skip
  all_goals
   go_wp2_with fail
   refine HCmp.out.mono ?_
   rintro x w5 ⟨rfl,qq,hq⟩
   have HQ:=aa (show Below w3.heap.size w3 w5 by rw [hq];exact below_drewN (Below.refl _ _) _)
   have HB4:=aa (HB3.out.trans (HQ.out.mono hz3))
   obtain⟨⟨r0,r1,r2⟩,f0,f1,f2⟩:=cb HB4.out
   clear hq
   go_wp2_with fail
   refine bodyPost_ret (v:=.agg #[.bool false,.slice none 0 0,.int .i64 0]) (by simp [results,Tryz.results89,go_sem,r0,r1,r2]) rfl (jR HB4.out ?_)
   have h9:=HL.out
   simp [sg]
   try omega
 ·rw [jb h] at HCmp
  have HL:=aa (Nat.le_of_lt h)
  clear HSub2 h
  cases nx<;>cases ny
  all_goals first | exact absurd rfl hs | skip
  all_goals
   go_wp2_with fail
   refine HCmp.out.mono ?_
   rintro x w5 ⟨rfl,qq,hq⟩
   have HQ:=aa (show Below w3.heap.size w3 w5 by rw [hq];exact below_drewN (Below.refl _ _) _)
   have g3:=(HQ.out.cell (p:=⟨w.heap.size,0,none⟩) (by show w.heap.size<_;omega)).trans c0
   have hz5:w.heap.size+3≤w5.heap.size:=by have:=HQ.out.size;omega
   clear hq
   go_wp2_with fail
   go_region_with ((go_at_call 148;refine (HSub.out _ (HQ.out.drew) HL.out).mono ?_;rintro x w4 ⟨v4,rfl,hd4,hf4,hb4⟩;obtain⟨p4,c4,rfl⟩:=hd4.form;have HB4:=aa ((HB3.out.trans (HQ.out.mono hz3)).drew.trans (hb4.mono hz5));obtain⟨⟨r0,r1,r2⟩,f0,f1,f2⟩:=cb HB4.out;have k3:=(hb4.cell (p:=⟨w.heap.size,0,none⟩) (by show w.heap.size<w5.heap.size;omega)).trans g3;have HD4:=aa hd4;have HF4:=aa (hf4.mono (show w.heap.size+3≤_ from hz5));clear hd4 hf4 hb4))
   all_goals
    go_wp2_with fail
    refine bodyPost_ret (v:=.agg #[.bool _,.slice p4 _ c4,.int .i64 E]) (by simp [results,Tryz.results89,go_sem,r0,r1,r2]) rfl (cP HB4.out HD4.out HF4.out ?_)
    have h9:=HL.out
    simp [sg]
    try omega

theorem plus_any (nx ny:Bool) (vx vy:Value) (ex ey E:Int) (X Y n m:Nat) (w:World) (hX:DN w vx X) (hY:DN w vy Y)
  (hE:eK X ex Y ey=E) (hn:X≠0→ex - E=(n:Int)) (hm:Y≠0→ey - E=(m:Int)) (hn1:n≤1000000) (hm1:m≤1000000) (hXd:nd X≤1000000) (hYd:nd Y≤1000000)
  (had:nd (X*2^n)≤10000000) (hbd:nd (Y*2^m)≤10000000) :
  Calls Tryz.prog 89 #[.agg #[.bool nx,vx,.int .i64 ex],.agg #[.bool ny,vy,.int .i64 ey]] w (ei w E (sg nx (X*2^n)+sg ny (Y*2^m))):=by
 by_cases hc:nx=ny∨X*2^n=0∨Y*2^m=0
 ·exact BP nx ny vx vy ex ey E X Y n m _ _ w hX hY hE hn hm hn1 hm1 hXd hYd rfl rfl had hbd hc
 ·exact vm nx ny vx vy ex ey E X Y n m _ _ w hX hY hE hn hm hn1 hm1 hXd hYd rfl rfl had hbd (fun h=>hc (Or.inl h)) (fun h=>hc (Or.inr (Or.inl h))) (fun h=>hc (Or.inr (Or.inr h)))

end Go.Proofs.YtkcnkhdbojdhgaaGreat
namespace Go.Proofs.YtkcnkhdbojdhgaaGreat
open Go.RowKit

section
variable {P:Program} {md:Region.Mode} {ops:Array Oper} {Q:Exit→Act→World→Prop} {S:World→Prop}

theorem fY {i:Nat} {oi:Oper} (d:Option Tmp) {v:Value} {fuel:Nat} {listed:Array Bool} {a:Act} {w:World} (hd:(ops[i]?).bind (·.dst)=d) (hi:ops[i]? =some oi)
  (hs:Region.noSelect ops=true) (hf:Region.free md ops listed i=true) (hr:(Region.ready md ops listed).contains i=true)
  (hQ:∀ c a w,Q (.panic c) (a.put d v) w→Q (.panic c) a w) (hy:YieldsIf P ops S oi v a) (hS:S w)
  (h:wpAnyH P md ops Q S fuel (listed.setIfInBounds i true) (a.put d v) w):wpAnyH P md ops Q S (fuel+1) listed a w:=by
 have e:oi.dst=d:=by rw [← hd,hi];rfl
 rw [← e] at hQ h
 exact wpAnyH_take hi hs hf hr hQ hy hS h
def ry (md:Region.Mode) (ops:Array Oper):List Nat→Array Bool→Bool
 | [],_=>true
 | i::is,l=>Region.free md ops l i&&((Region.ready md ops l).contains i&&ry md ops is (l.setIfInBounds i true))
def yD:List Nat→Array Bool→Array Bool
 | [],l=>l
 | i::is,l=>yD is (l.setIfInBounds i true)
def yE (ops:Array Oper):List Nat→Act→Act
 | [],a=>a
 | i::is,a=>yE ops is (a.put ((ops[i]?).bind (·.dst)) undef)
def yF (ops:Array Oper):List Nat→Act→Bool
 | [],_=>true
 | i::is,a=>((ops[i]?).map fun o=>!Region.wanted o (yielded ops a.tmps)).getD false&&yF ops is (a.put ((ops[i]?).bind (·.dst)) undef)
theorem nE (hs:Region.noSelect ops=true) (hQ:∀ c a d w,Q (.panic c) (a.put d undef) w→Q (.panic c) a w) {w:World} (hS:S w) :
  ∀ (is:List Nat) (fuel:Nat) (l:Array Bool) (a:Act),ry md ops is l=true→yF ops is a=true→wpAnyH P md ops Q S fuel (yD is l) (yE ops is a) w→wpAnyH P md ops Q S (fuel+is.length) l a w
 | [],_,_,_,_,_,h=>h
 | i::is,fuel,l,a,hk,hw,h=>by
  unfold ry at hk
  rw [Bool.and_eq_true,Bool.and_eq_true] at hk
  unfold yF at hw
  rw [Bool.and_eq_true] at hw
  cases hi:ops[i]? with
  | none=>rw [hi] at hw;cases hw.1
  | some o=>
   have h1:Region.wanted o (yielded ops a.tmps)=false:=by
    have:=hw.1
    rw [hi] at this
    simpa using this
   have e:(ops[i]?).bind (·.dst)=o.dst:=by rw [hi];rfl
   have h2:=hw.2
   rw [e] at h2
   unfold yD yE at h
   rw [e] at h
   exact wpAnyH_take hi hs hk.1 hk.2.1 (fun c a w h=>hQ c a _ w h) (Or.inr ⟨h1,rfl⟩) hS (nE hs hQ hS is fuel _ _ hk.2.2 h2 h)
theorem Bi (is:List Nat) (n fuel:Nat) {l:Array Bool} {a:Act} {w:World} (hn:is.length=n) (hs:Region.noSelect ops=true) (hQ:∀ c a d w,Q (.panic c) (a.put d undef) w→Q (.panic c) a w) (hS:S w) (hk:ry md ops is l=true) (hw:yF ops is a=true) (ha:yE ops is a=a) (h:wpAnyH P md ops Q S fuel (yD is l) a w):wpAnyH P md ops Q S (fuel+n) l a w:=by
 subst hn
 exact nE hs hQ hS is fuel l a hk hw (by rw [ha];exact h)
end
end Go.Proofs.YtkcnkhdbojdhgaaGreat
