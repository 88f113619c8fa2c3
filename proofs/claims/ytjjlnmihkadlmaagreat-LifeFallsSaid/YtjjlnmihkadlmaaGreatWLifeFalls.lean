/-  -/
import Derived.Test.YtjjlnmihkadlmaaGreatHbu
import Derived.BigQuiet
namespace Go.Proofs.YtjjlnmihkadlmaaGreat
open Go.RowKit

structure BxH (w:World) (g:Nat) (t:TypeId) (b k:Int) (va vb:Value):Prop where
 blk:w.heap[g]? =some (.cells #[.int .i64 b,.int .i64 k,va,vb] t)
theorem BxH.step {w w':World} {g:Nat} {t:TypeId} {b k:Int} {va vb:Value} (h:BxH w g t b k va vb) (hb:Below w.heap.size w w'):BxH w' g t b k va vb:=⟨(hb.block g (Array.getElem?_eq_some_iff.1 h.blk).1).trans h.blk⟩
theorem BxH.c {w:World} {g:Nat} {t:TypeId} {b k:Int} {va vb:Value} (h:BxH w g t b k va vb):w.cell? ⟨g,0,none⟩=some (.int .i64 b)∧w.cell? ⟨g,1,none⟩=some (.int .i64 k)∧w.cell? ⟨g,2,none⟩=some va∧w.cell? ⟨g,3,none⟩=some vb:=by
 have hb:=h.blk
 exact⟨by simp [World.cell?,hb],by simp [World.cell?,hb],by simp [World.cell?,hb],by simp [World.cell?,hb]⟩
theorem gz (w:World) (t:TypeId) (b k:Int) (va vb:Value):BxH (w.alloc (.cells #[.int .i64 b,.int .i64 k,va,vb] t)) w.heap.size t b k va vb:=⟨heap_alloc_new _ _⟩
set_option maxRecDepth 20000 in
set_option maxHeartbeats 1600000 in
theorem mY (base kind n:Int) (px py:Option Addr) (lx cx ly cy:Nat) (w:World) (h:30<lx∨30<ly) :
  Calls Tryz.prog 6 #[.agg #[.int .i64 base,.int .i64 kind,.slice px lx cx,.slice py ly cy],.int .i64 n] w fun e w'=>e=.returned (.bool true)∧Below w.heap.size w w':=by
 have HB0:=hideS (be w base kind (.slice px lx cx) (.slice py ly cy))
 have HW:=hideS fun wx=>kP wx
 by_cases h1:30<lx
 ·have d1:decide ((30:Int)<(lx:Int))=true:=decide_eq_true (by omega)
  clear h h1
  go_enter Tryz.func6,Tryz.ntmps6
  go_wp2_with fail
  refine (HW.out _).mono ?_
  rintro e w2 ⟨rfl,hb2⟩
  have HB2:=hideS (HB0.out.step hb2)
  clear hb2
  go_wp2_with fail
  go_ret
  exact⟨rfl,HB2.out.bl⟩
 ·have d1:decide ((30:Int)<(lx:Int))=false:=decide_eq_false (by omega)
  have d2:decide ((30:Int)<(ly:Int))=true:=decide_eq_true (by omega)
  clear h h1
  go_enter Tryz.func6,Tryz.ntmps6
  go_wp2_with fail
  refine (HW.out _).mono ?_
  rintro e w2 ⟨rfl,hb2⟩
  have HB2:=hideS (HB0.out.step hb2)
  clear hb2
  go_wp2_with fail
  go_ret
  exact⟨rfl,HB2.out.bl⟩
set_option maxRecDepth 20000 in
set_option maxHeartbeats 6400000 in
theorem nO (px py:Option Addr) (bx ox cx b2 oy cy lx ly:Nat) (xs X:List Int) (ys Y:List Nat) (base kind n b k E F1:Int) (w:World) (hx:lx≤30) (hy:ly≤30) (hlx:xs.length=lx) (hly:ys.length=ly) (hs:TFl w px py bx ox b2 oy xs ys) (hE:F1≠0)
  (HR0:Hid (∀ wx,Below w.heap.size w wx→Calls Tryz.prog 27 #[.agg #[.int .i64 base,.int .i64 kind,.slice px lx cx,.slice py ly cy],.int .i64 base] wx fun e w'=>CvA 0 0 [] [] F1 e w'∧Below wx.heap.size wx w'))
  (HCk:Hid (∀ wx,Below w.heap.size w wx→Calls Tryz.prog 34 #[.agg #[.int .i64 base,.int .i64 kind,.slice px lx cx,.slice py ly cy]] wx fun e w'=>e=.returned (.int .i64 F1)∧Below wx.heap.size wx w')) :
  Calls Tryz.prog 6 #[.agg #[.int .i64 base,.int .i64 kind,.slice px lx cx,.slice py ly cy],.int .i64 n] w fun e w'=>e=.returned (.bool true)∧Below w.heap.size w w':=by
 have e1:(F1 !=0)=true:=bne_iff_ne.2 hE
 have e2:(F1==F1)=true:=beq_self_eq_true F1
 have hun:X.length+Y.length+(b+k+E).natAbs=X.length+Y.length+(b+k+E).natAbs:=rfl
 clear hE hun
 have HB0:=hideS (be w base kind (.slice px lx cx) (.slice py ly cy))
 have d1:decide ((30:Int)<(lx:Int))=false:=decide_eq_false (by omega)
 have d2:decide ((30:Int)<(ly:Int))=false:=decide_eq_false (by omega)
 have HLn:=hideS (And.intro hlx (And.intro hly (And.intro hx hy)))
 have HU:Hid (∀ i<ys.length,U64 (ys.getD i 0:Nat)):=fun i hi=>aX (hs.f i hi)
 have HSc:=hideS hs
 have HOf:Hid (∀ wx,Below w.heap.size w wx→Calls Tryz.prog 23 #[.agg #[.int .i64 base,.int .i64 kind,.slice px lx cx,.slice py ly cy]] wx fun e w'=>∃ v,e=.returned (.agg #[.int .i64 base,.int .i64 kind,.slice px lx cx,v])∧w'.ownsRow wx.heap.size 57 1 v ly (ys.map uV)∧Below wx.heap.size wx w'):=fun wx hb=>gw base kind b2 oy cx cy lx ly px py ys wx (by have:=(hs.below hb).y;rw [hly] at this;exact this) hly (by omega)
 have HW:=hideS fun wx=>kP wx
 clear hs hlx hly hx hy
 go_enter Tryz.func6,Tryz.ntmps6
 go_wp2_with fail
 refine (HOf.out _ HB0.out.bl).mono ?_
 rintro e w1 ⟨v,rfl,ho1,hb1⟩
 have HB1:=hideS (HB0.out.step hb1)
 obtain⟨q3,g3,c3,rfl,s3,_,_,_⟩:=gk ho1 HLn.out.2.1
 have HC1:Hid (CSrcD w1 px q3 bx ox g3 0 xs ys):=⟨(HSc.out.below HB1.out.bl).x,by rw [HLn.out.2.1];exact wI s3 HLn.out.2.1,HU.out⟩
 clear hb1 ho1 s3 HB0 HOf d1 d2
 obtain⟨w2,hw2⟩:∃ w2,w1.alloc (.cells #[.int .i64 base,.int .i64 kind,.slice px lx cx,.slice q3 ly c3] 64)=w2:=⟨_,rfl⟩
 have hb2:Below w1.heap.size w1 w2:=by rw [← hw2];exact (Below.refl _ _).alloc (Nat.le_refl _) _
 have HD2:Hid (BxH w2 w1.heap.size 64 base kind (.slice px lx cx) (.slice q3 ly c3)):=by show BxH _ _ _ _ _ _ _;rw [← hw2];exact gz _ _ _ _ _ _
 have HB2:=hideS (HB1.out.step hb2)
 have HC2:=hideS (HC1.out.below hb2)
 have t0:=HB2.out.t0
 have t1:=HB2.out.t1
 have t2:=HB2.out.t2
 have t3:=HB2.out.t3
 clear hb2 HB1 HC1
 go_wp2_with fail
 refine (HR0.out _ HB2.out.bl).mono ?_
 rintro e w3 ⟨⟨pa,ga,ca,qa,gb,da,rfl,ht⟩,hb3⟩
 have HB3:=hideS (HB2.out.step hb3)
 have HD3:=hideS (HD2.out.step hb3)
 have HC3:=hideS (HC2.out.below hb3)
 have HT3:=hideS ht
 clear hb3 ht HB2 HD2 HC2 t0 t1 t2 t3 hw2 HR0
 obtain⟨w4,hw4⟩:∃ w4,w3.alloc (.cells #[.int .i64 0,.int .i64 0,.slice pa 0 ca,.slice qa 0 da] 43)=w4:=⟨_,rfl⟩
 have hb4:Below w3.heap.size w3 w4:=by rw [← hw4];exact (Below.refl _ _).alloc (Nat.le_refl _) _
 have HA4:Hid (BxH w4 w3.heap.size 43 0 0 (.slice pa 0 ca) (.slice qa 0 da)):=by show BxH _ _ _ _ _ _ _;rw [← hw4];exact gz _ _ _ _ _ _
 have HB4:=hideS (HB3.out.step hb4)
 have HD4:=hideS (HD3.out.step hb4)
 have HC4:=hideS (HC3.out.below hb4)
 have HT4:=hideS (HT3.out.below hb4)
 have t0:=HB4.out.t0
 have t1:=HB4.out.t1
 have t2:=HB4.out.t2
 have t3:=HB4.out.t3
 clear hb4 HB3 HD3 HC3 HT3
 go_wp2_with fail
 refine (HCk.out _ HB4.out.bl).mono ?_
 rintro e w5 ⟨rfl,hb5⟩
 have HB5:=hideS (HB4.out.step hb5)
 have HD5:=hideS (HD4.out.step hb5)
 have HC5:=hideS (HC4.out.below hb5)
 have HT5:=hideS (HT4.out.below hb5)
 have HA5:=hideS (HA4.out.step hb5)
 clear hb5 HB4 HD4 HC4 HT4 HA4 t0 t1 t2 t3 hw4
 have t0:=HB5.out.t0
 have t1:=HB5.out.t1
 have t2:=HB5.out.t2
 have t3:=HB5.out.t3
 go_wp2_with fail
 refine (HCk.out _ HB5.out.bl).mono ?_
 rintro e w6 ⟨rfl,hb6⟩
 have HB6:=hideS (HB5.out.step hb6)
 clear hb6 HB5 t0 t1 t2 t3
 go_wp2_with fail
 refine (HW.out _).mono ?_
 rintro e w7 ⟨rfl,hb7⟩
 have HB7:=hideS (HB6.out.step hb7)
 clear hb7
 go_wp2_with fail
 go_ret
 exact⟨rfl,HB7.out.bl⟩
set_option maxRecDepth 20000 in
set_option maxHeartbeats 6400000 in
theorem ie (px py:Option Addr) (bx ox cx b2 oy cy lx ly:Nat) (xs X:List Int) (ys Y:List Nat) (base kind n b k E F1:Int) (w:World) (hx:lx≤30) (hy:ly≤30) (hlx:xs.length=lx) (hly:ys.length=ly) (hs:TFl w px py bx ox b2 oy xs ys) (hE:E=91∨(E=51∧0<lx∧(n<base∨xs.getD (lx - 1) 0≤n)))
  (HR0:Hid (∀ wx,Below w.heap.size w wx→Calls Tryz.prog 27 #[.agg #[.int .i64 base,.int .i64 kind,.slice px lx cx,.slice py ly cy],.int .i64 base] wx fun e w'=>CvA base kind xs ys 0 e w'∧Below wx.heap.size wx w'))
  (HCk:Hid (∀ wx,Below w.heap.size w wx→Calls Tryz.prog 34 #[.agg #[.int .i64 base,.int .i64 kind,.slice px lx cx,.slice py ly cy]] wx fun e w'=>e=.returned (.int .i64 0)∧Below wx.heap.size wx w'))
  (HR1:Hid (∀ wx,Below w.heap.size w wx→Calls Tryz.prog 27 #[.agg #[.int .i64 base,.int .i64 kind,.slice px lx cx,.slice py ly cy],.int .i64 n] wx fun e w'=>CvA b k X Y E e w'∧Below wx.heap.size wx w')) :
  Calls Tryz.prog 6 #[.agg #[.int .i64 base,.int .i64 kind,.slice px lx cx,.slice py ly cy],.int .i64 n] w fun e w'=>e=.returned (.bool true)∧Below w.heap.size w w':=by
 have HE:=hideS hE
 have HF1:Hid (F1=F1):=rfl
 clear hE HF1
 have HB0:=hideS (be w base kind (.slice px lx cx) (.slice py ly cy))
 have d1:decide ((30:Int)<(lx:Int))=false:=decide_eq_false (by omega)
 have d2:decide ((30:Int)<(ly:Int))=false:=decide_eq_false (by omega)
 have HLn:=hideS (And.intro hlx (And.intro hly (And.intro hx hy)))
 have HU:Hid (∀ i<ys.length,U64 (ys.getD i 0:Nat)):=fun i hi=>aX (hs.f i hi)
 have HSc:=hideS hs
 have HOf:Hid (∀ wx,Below w.heap.size w wx→Calls Tryz.prog 23 #[.agg #[.int .i64 base,.int .i64 kind,.slice px lx cx,.slice py ly cy]] wx fun e w'=>∃ v,e=.returned (.agg #[.int .i64 base,.int .i64 kind,.slice px lx cx,v])∧w'.ownsRow wx.heap.size 57 1 v ly (ys.map uV)∧Below wx.heap.size wx w'):=fun wx hb=>gw base kind b2 oy cx cy lx ly px py ys wx (by have:=(hs.below hb).y;rw [hly] at this;exact this) hly (by omega)
 have HW:=hideS fun wx=>kP wx
 clear hs hlx hly hx hy
 go_enter Tryz.func6,Tryz.ntmps6
 go_wp2_with fail
 refine (HOf.out _ HB0.out.bl).mono ?_
 rintro e w1 ⟨v,rfl,ho1,hb1⟩
 have HB1:=hideS (HB0.out.step hb1)
 obtain⟨q3,g3,c3,rfl,s3,_,_,_⟩:=gk ho1 HLn.out.2.1
 have HC1:Hid (CSrcD w1 px q3 bx ox g3 0 xs ys):=⟨(HSc.out.below HB1.out.bl).x,by rw [HLn.out.2.1];exact wI s3 HLn.out.2.1,HU.out⟩
 clear hb1 ho1 s3 HB0 HOf d1 d2
 obtain⟨w2,hw2⟩:∃ w2,w1.alloc (.cells #[.int .i64 base,.int .i64 kind,.slice px lx cx,.slice q3 ly c3] 64)=w2:=⟨_,rfl⟩
 have hb2:Below w1.heap.size w1 w2:=by rw [← hw2];exact (Below.refl _ _).alloc (Nat.le_refl _) _
 have HD2:Hid (BxH w2 w1.heap.size 64 base kind (.slice px lx cx) (.slice q3 ly c3)):=by show BxH _ _ _ _ _ _ _;rw [← hw2];exact gz _ _ _ _ _ _
 have HB2:=hideS (HB1.out.step hb2)
 have HC2:=hideS (HC1.out.below hb2)
 have t0:=HB2.out.t0
 have t1:=HB2.out.t1
 have t2:=HB2.out.t2
 have t3:=HB2.out.t3
 clear hb2 HB1 HC1
 go_wp2_with fail
 refine (HR0.out _ HB2.out.bl).mono ?_
 rintro e w3 ⟨⟨pa,ga,ca,qa,gb,da,rfl,ht⟩,hb3⟩
 rw [HLn.out.1,HLn.out.2.1]
 have HB3:=hideS (HB2.out.step hb3)
 have HD3:=hideS (HD2.out.step hb3)
 have HC3:=hideS (HC2.out.below hb3)
 have HT3:=hideS ht
 clear hb3 ht HB2 HD2 HC2 t0 t1 t2 t3 hw2 HR0
 obtain⟨w4,hw4⟩:∃ w4,w3.alloc (.cells #[.int .i64 base,.int .i64 kind,.slice pa lx ca,.slice qa ly da] 43)=w4:=⟨_,rfl⟩
 have hb4:Below w3.heap.size w3 w4:=by rw [← hw4];exact (Below.refl _ _).alloc (Nat.le_refl _) _
 have HA4:Hid (BxH w4 w3.heap.size 43 base kind (.slice pa lx ca) (.slice qa ly da)):=by show BxH _ _ _ _ _ _ _;rw [← hw4];exact gz _ _ _ _ _ _
 have HB4:=hideS (HB3.out.step hb4)
 have HD4:=hideS (HD3.out.step hb4)
 have HC4:=hideS (HC3.out.below hb4)
 have HT4:=hideS (HT3.out.below hb4)
 have t0:=HB4.out.t0
 have t1:=HB4.out.t1
 have t2:=HB4.out.t2
 have t3:=HB4.out.t3
 clear hb4 HB3 HD3 HC3 HT3
 go_wp2_with fail
 refine (HCk.out _ HB4.out.bl).mono ?_
 rintro e w5 ⟨rfl,hb5⟩
 have HB5:=hideS (HB4.out.step hb5)
 have HD5:=hideS (HD4.out.step hb5)
 have HC5:=hideS (HC4.out.below hb5)
 have HT5:=hideS (HT4.out.below hb5)
 have HA5:=hideS (HA4.out.step hb5)
 clear hb5 HB4 HD4 HC4 HT4 HA4 t0 t1 t2 t3 hw4
 have t0:=HB5.out.t0
 have t1:=HB5.out.t1
 have t2:=HB5.out.t2
 have t3:=HB5.out.t3
 obtain⟨a0,a1,a2,a3⟩:=HA5.out.c
 obtain⟨m0,m1,m2,m3⟩:=HD5.out.c
 have HSm:=hideS (jw base kind pa qa px q3 ga 0 ca gb 0 da bx ox cx g3 0 c3 lx ly xs ys w5 HLn.out.1 HLn.out.2.1 (by have:=HLn.out;omega) (by have:=HLn.out;omega) HT5.out HC5.out)
 clear HA5 HD5 HT5 HC5 HCk
 go_wp2_with fail
 refine (HSm.out).mono ?_
 rintro e w6 ⟨rfl,hb6⟩
 have HB6:=hideS (HB5.out.step hb6)
 clear hb6 HB5 t0 t1 t2 t3 a0 a1 a2 a3 m0 m1 m2 m3 HSm
 have t0:=HB6.out.t0
 have t1:=HB6.out.t1
 have t2:=HB6.out.t2
 have t3:=HB6.out.t3
 go_wp2_with fail
 refine (HR1.out _ HB6.out.bl).mono ?_
 rintro e w7 ⟨⟨pe,ge,ce,qe,gf,de,rfl,ht7⟩,hb7⟩
 have HB7:=hideS (HB6.out.step hb7)
 have HT7:=hideS ht7
 clear hb7 ht7 HB6 t0 t1 t2 t3 HR1
 obtain⟨w8,hw8⟩:∃ w8,w7.alloc (.cells #[.int .i64 b,.int .i64 k,.slice pe X.length ce,.slice qe Y.length de] 43)=w8:=⟨_,rfl⟩
 have hb8:Below w7.heap.size w7 w8:=by rw [← hw8];exact (Below.refl _ _).alloc (Nat.le_refl _) _
 have HV8:Hid (BxH w8 w7.heap.size 43 b k (.slice pe X.length ce) (.slice qe Y.length de)):=by show BxH _ _ _ _ _ _ _;rw [← hw8];exact gz _ _ _ _ _ _
 have HB8:=hideS (HB7.out.step hb8)
 have HT8:=hideS (HT7.out.below hb8)
 have t0:=HB8.out.t0
 have t1:=HB8.out.t1
 have t2:=HB8.out.t2
 have t3:=HB8.out.t3
 clear hb8 HB7 HT7
 rcases HE.out with rfl | ⟨rfl,hpos,hn⟩
 ·clear HE
  go_wp2_with fail
  refine (HW.out _).mono ?_
  rintro e w99 ⟨rfl,hb99⟩
  have HB99:=hideS (HB8.out.step hb99)
  clear hb99
  go_wp2_with fail
  go_ret
  exact⟨rfl,HB99.out.bl⟩
 ·by_cases h1:n<base
  ·have e1:decide (n<base)=true:=decide_eq_true h1
   clear HE hn h1
   go_wp2_with fail
   refine (HW.out _).mono ?_
   rintro e w99 ⟨rfl,hb99⟩
   have HB99:=hideS (HB8.out.step hb99)
   clear hb99
   go_wp2_with fail
   go_ret
   exact⟨rfl,HB99.out.bl⟩
  ·have e1:decide (n<base)=false:=decide_eq_false h1
   obtain⟨j,rfl⟩:∃ j,lx=j+1:=⟨lx - 1,by omega⟩
   rw [Nat.add_sub_cancel] at hn
   have e2:decide (xs.getD j 0≤n)=true:=decide_eq_true (by omega)
   have hj1:((j+1:Nat):Int) - 1=(j:Int):=by omega
   have hj2:j<j+1:=by omega
   have hj30:j+1≤30:=HLn.out.2.2.1
   have hpx:=(HSc.out.x).at_ (by rw [HLn.out.1];omega)
   subst hpx
   have hc:=(HSc.out.below HB8.out.bl).x.cell j (by rw [HLn.out.1];omega)
   have hcj:w8.cell? ⟨bx,ox+j,none⟩=some (.int .i64 (xs.getD j 0)):=hc
   generalize xs.getD j 0=D at *
   clear HE hn h1 hpos hc
   go_wp2_with fail
   refine (HW.out _).mono ?_
   rintro e w99 ⟨rfl,hb99⟩
   have HB99:=hideS (HB8.out.step hb99)
   clear hb99
   go_wp2_with fail
   go_ret
   exact⟨rfl,HB99.out.bl⟩
set_option maxRecDepth 20000 in
set_option maxHeartbeats 6400000 in
theorem qZ (px py:Option Addr) (bx ox cx b2 oy cy lx ly:Nat) (xs X:List Int) (ys Y:List Nat) (base kind n b k E F1:Int) (F s m:Nat) (w:World) (hx:lx≤30) (hy:ly≤30) (hlx:xs.length=lx) (hly:ys.length=ly) (hs:TFl w px py bx ox b2 oy xs ys) (hXl:X.length=m) (hYl:Y.length=m) (hm:m+s=lx) (hm0:0<m) (hss:SkN xs n s) (hX:∀ i<m,X.getD i 0=xs.getD (s+i) 0) (hY:∀ i<m,floatBits .quo .f64 (ys.getD (s+i) 0) F=some (Y.getD i 0)∧Y.getD i 0≤9218868437227405312) (hlxy:ly=lx) (hfal:bA ys=true→kind≠4→bA Y=true)
  (HR0:Hid (∀ wx,Below w.heap.size w wx→Calls Tryz.prog 27 #[.agg #[.int .i64 base,.int .i64 kind,.slice px lx cx,.slice py ly cy],.int .i64 base] wx fun e w'=>CvA base kind xs ys 0 e w'∧Below wx.heap.size wx w'))
  (HCk:Hid (∀ wx,Below w.heap.size w wx→Calls Tryz.prog 34 #[.agg #[.int .i64 base,.int .i64 kind,.slice px lx cx,.slice py ly cy]] wx fun e w'=>e=.returned (.int .i64 0)∧Below wx.heap.size wx w'))
  (HR1:Hid (∀ wx,Below w.heap.size w wx→Calls Tryz.prog 27 #[.agg #[.int .i64 base,.int .i64 kind,.slice px lx cx,.slice py ly cy],.int .i64 n] wx fun e w'=>CvA n kind X Y 0 e w'∧Below wx.heap.size wx w'))
  (HFa:Hid (∀ wx,Below w.heap.size w wx→Calls Tryz.prog 35 #[.agg #[.int .i64 base,.int .i64 kind,.slice px lx cx,.slice py ly cy],.int .i64 n] wx fun e w'=>e=.returned (.tuple #[.float .f64 F,.int .i64 0])∧Below wx.heap.size wx w'))
  (HFc:Hid (∀ wx,Below w.heap.size w wx→Calls Tryz.prog 36 #[.agg #[.int .i64 base,.int .i64 kind,.slice px lx cx,.slice py ly cy]] wx fun e w'=>e=.returned (.tuple #[.bool (bA ys),.int .i64 0])∧Below wx.heap.size wx w'))
  (HFb:Hid (∀ wx pe ge ce qe gf de,TFl wx pe qe ge 0 gf 0 X Y→Calls Tryz.prog 36 #[.agg #[.int .i64 n,.int .i64 kind,.slice pe m ce,.slice qe m de]] wx fun e w'=>e=.returned (.tuple #[.bool (bA Y),.int .i64 0])∧Below wx.heap.size wx w')) :
  Calls Tryz.prog 6 #[.agg #[.int .i64 base,.int .i64 kind,.slice px lx cx,.slice py ly cy],.int .i64 n] w fun e w'=>e=.returned (.bool true)∧Below w.heap.size w w':=by
 have HM:=hideS (And.intro hXl (And.intro hYl (And.intro hm hm0)))
 have HS:=hideS hss
 have HX:=hideS hX
 have HY:=hideS hY
 have HL2:=hideS hlxy
 have HFA:=hideS hfal
 have hun:b+k+E+F1=b+k+E+F1:=rfl
 clear hXl hYl hm hm0 hss hX hY hlxy hfal hun
 have HB0:=hideS (be w base kind (.slice px lx cx) (.slice py ly cy))
 have d1:decide ((30:Int)<(lx:Int))=false:=decide_eq_false (by omega)
 have d2:decide ((30:Int)<(ly:Int))=false:=decide_eq_false (by omega)
 have HLn:=hideS (And.intro hlx (And.intro hly (And.intro hx hy)))
 have HU:Hid (∀ i<ys.length,U64 (ys.getD i 0:Nat)):=fun i hi=>aX (hs.f i hi)
 have HSc:=hideS hs
 have HOf:Hid (∀ wx,Below w.heap.size w wx→Calls Tryz.prog 23 #[.agg #[.int .i64 base,.int .i64 kind,.slice px lx cx,.slice py ly cy]] wx fun e w'=>∃ v,e=.returned (.agg #[.int .i64 base,.int .i64 kind,.slice px lx cx,v])∧w'.ownsRow wx.heap.size 57 1 v ly (ys.map uV)∧Below wx.heap.size wx w'):=fun wx hb=>gw base kind b2 oy cx cy lx ly px py ys wx (by have:=(hs.below hb).y;rw [hly] at this;exact this) hly (by omega)
 have HW:=hideS fun wx=>kP wx
 clear hs hlx hly hx hy
 go_enter Tryz.func6,Tryz.ntmps6
 go_wp2_with fail
 refine (HOf.out _ HB0.out.bl).mono ?_
 rintro e w1 ⟨v,rfl,ho1,hb1⟩
 have HB1:=hideS (HB0.out.step hb1)
 obtain⟨q3,g3,c3,rfl,s3,_,_,_⟩:=gk ho1 HLn.out.2.1
 have HC1:Hid (CSrcD w1 px q3 bx ox g3 0 xs ys):=⟨(HSc.out.below HB1.out.bl).x,by rw [HLn.out.2.1];exact wI s3 HLn.out.2.1,HU.out⟩
 clear hb1 ho1 s3 HB0 HOf d1 d2
 obtain⟨w2,hw2⟩:∃ w2,w1.alloc (.cells #[.int .i64 base,.int .i64 kind,.slice px lx cx,.slice q3 ly c3] 64)=w2:=⟨_,rfl⟩
 have hb2:Below w1.heap.size w1 w2:=by rw [← hw2];exact (Below.refl _ _).alloc (Nat.le_refl _) _
 have HD2:Hid (BxH w2 w1.heap.size 64 base kind (.slice px lx cx) (.slice q3 ly c3)):=by show BxH _ _ _ _ _ _ _;rw [← hw2];exact gz _ _ _ _ _ _
 have HB2:=hideS (HB1.out.step hb2)
 have HC2:=hideS (HC1.out.below hb2)
 have t0:=HB2.out.t0
 have t1:=HB2.out.t1
 have t2:=HB2.out.t2
 have t3:=HB2.out.t3
 clear hb2 HB1 HC1
 go_wp2_with fail
 refine (HR0.out _ HB2.out.bl).mono ?_
 rintro e w3 ⟨⟨pa,ga,ca,qa,gb,da,rfl,ht⟩,hb3⟩
 rw [HLn.out.1,HLn.out.2.1]
 have HB3:=hideS (HB2.out.step hb3)
 have HD3:=hideS (HD2.out.step hb3)
 have HC3:=hideS (HC2.out.below hb3)
 have HT3:=hideS ht
 clear hb3 ht HB2 HD2 HC2 t0 t1 t2 t3 hw2 HR0
 obtain⟨w4,hw4⟩:∃ w4,w3.alloc (.cells #[.int .i64 base,.int .i64 kind,.slice pa lx ca,.slice qa ly da] 43)=w4:=⟨_,rfl⟩
 have hb4:Below w3.heap.size w3 w4:=by rw [← hw4];exact (Below.refl _ _).alloc (Nat.le_refl _) _
 have HA4:Hid (BxH w4 w3.heap.size 43 base kind (.slice pa lx ca) (.slice qa ly da)):=by show BxH _ _ _ _ _ _ _;rw [← hw4];exact gz _ _ _ _ _ _
 have HB4:=hideS (HB3.out.step hb4)
 have HD4:=hideS (HD3.out.step hb4)
 have HC4:=hideS (HC3.out.below hb4)
 have HT4:=hideS (HT3.out.below hb4)
 have t0:=HB4.out.t0
 have t1:=HB4.out.t1
 have t2:=HB4.out.t2
 have t3:=HB4.out.t3
 clear hb4 HB3 HD3 HC3 HT3
 go_wp2_with fail
 refine (HCk.out _ HB4.out.bl).mono ?_
 rintro e w5 ⟨rfl,hb5⟩
 have HB5:=hideS (HB4.out.step hb5)
 have HD5:=hideS (HD4.out.step hb5)
 have HC5:=hideS (HC4.out.below hb5)
 have HT5:=hideS (HT4.out.below hb5)
 have HA5:=hideS (HA4.out.step hb5)
 clear hb5 HB4 HD4 HC4 HT4 HA4 t0 t1 t2 t3 hw4
 have t0:=HB5.out.t0
 have t1:=HB5.out.t1
 have t2:=HB5.out.t2
 have t3:=HB5.out.t3
 obtain⟨a0,a1,a2,a3⟩:=HA5.out.c
 obtain⟨m0,m1,m2,m3⟩:=HD5.out.c
 have HSm:=hideS (jw base kind pa qa px q3 ga 0 ca gb 0 da bx ox cx g3 0 c3 lx ly xs ys w5 HLn.out.1 HLn.out.2.1 (by have:=HLn.out;omega) (by have:=HLn.out;omega) HT5.out HC5.out)
 clear HA5 HD5 HT5 HC5 HCk
 go_wp2_with fail
 refine (HSm.out).mono ?_
 rintro e w6 ⟨rfl,hb6⟩
 have HB6:=hideS (HB5.out.step hb6)
 clear hb6 HB5 t0 t1 t2 t3 a0 a1 a2 a3 m0 m1 m2 m3 HSm
 have t0:=HB6.out.t0
 have t1:=HB6.out.t1
 have t2:=HB6.out.t2
 have t3:=HB6.out.t3
 go_wp2_with fail
 refine (HR1.out _ HB6.out.bl).mono ?_
 rintro e w7 ⟨⟨pe,ge,ce,qe,gf,de,rfl,ht7⟩,hb7⟩
 rw [HM.out.1,HM.out.2.1]
 have HB7:=hideS (HB6.out.step hb7)
 have HT7:=hideS ht7
 clear hb7 ht7 HB6 t0 t1 t2 t3 HR1
 obtain⟨w8,hw8⟩:∃ w8,w7.alloc (.cells #[.int .i64 n,.int .i64 kind,.slice pe m ce,.slice qe m de] 43)=w8:=⟨_,rfl⟩
 have hb8:Below w7.heap.size w7 w8:=by rw [← hw8];exact (Below.refl _ _).alloc (Nat.le_refl _) _
 have HV8:Hid (BxH w8 w7.heap.size 43 n kind (.slice pe m ce) (.slice qe m de)):=by show BxH _ _ _ _ _ _ _;rw [← hw8];exact gz _ _ _ _ _ _
 have HB8:=hideS (HB7.out.step hb8)
 have HT8:=hideS (HT7.out.below hb8)
 have t0:=HB8.out.t0
 have t1:=HB8.out.t1
 have t2:=HB8.out.t2
 have t3:=HB8.out.t3
 clear hb8 HB7 HT7
 go_wp2_with fail
 refine (HFa.out _ HB8.out.bl).mono ?_
 rintro e w9 ⟨rfl,hb9⟩
 have HB9:=hideS (HB8.out.step hb9)
 have HV9:=hideS (HV8.out.step hb9)
 have HT9:=hideS (HT8.out.below hb9)
 clear hb9 HB8 HV8 HT8 t0 t1 t2 t3 hw8 HFa
 have t0:=HB9.out.t0
 have t1:=HB9.out.t1
 have t2:=HB9.out.t2
 have t3:=HB9.out.t3
 go_wp2_with fail
 refine (HFc.out _ HB9.out.bl).mono ?_
 rintro e w10 ⟨rfl,hb10⟩
 have HB10:=hideS (HB9.out.step hb10)
 have HV10:=hideS (HV9.out.step hb10)
 have HT10:=hideS (HT9.out.below hb10)
 clear hb10 HB9 HV9 HT9 t0 t1 t2 t3 HFc
 obtain⟨v0,v1,v2,v3⟩:=HV10.out.c
 have HFb2:=hideS (HFb.out w10 pe ge ce qe gf de HT10.out)
 go_wp2_with fail
 refine (HFb2.out).mono ?_
 rintro e w11 ⟨rfl,hb11⟩
 have HB11:=hideS (HB10.out.step hb11)
 have HV11:=hideS (HV10.out.step hb11)
 have HT11:=hideS (HT10.out.below hb11)
 clear hb11 HB10 HV10 HT10 v0 v1 v2 v3 HFb HFb2
 obtain⟨v0,v1,v2,v3⟩:=HV11.out.c
 have t0:=HB11.out.t0
 have t1:=HB11.out.t1
 have t2:=HB11.out.t2
 have t3:=HB11.out.t3
 have x1:(n !=n)=false:=by simp
 have x2:(kind !=kind)=false:=by simp
 have x3:((m:Int)==0)=false:=beq_eq_false_iff_ne.2 (by have:=HM.out;omega)
 have x4:decide ((lx:Int)<(m:Int))=false:=decide_eq_false (by have:=HM.out;omega)
 have x5:((m:Int) !=(m:Int))=false:=by simp
 have hsub:(lx:Int) - (m:Int)=(s:Int):=by have:=HM.out;omega
 have hBnd:m≤30∧s≤30:=by have:=HM.out;have:=HLn.out;omega
 have hs30:=hBnd.2
 have hm30:=hBnd.1
 have HFf:Hid (bA ys=true→kind≠4→bA Y=true):=HFA.out
 have hcase:(bA ys=false)∨(bA ys=true∧kind=4)∨(bA ys=true∧kind≠4∧bA Y=true):=by
  cases hq:bA ys
  ·exact Or.inl rfl
  ·by_cases h4:kind=4
   ·exact Or.inr (Or.inl ⟨rfl,h4⟩)
   ·exact Or.inr (Or.inr ⟨rfl,h4,HFf.out hq h4⟩)
 obtain⟨yb,hyb⟩:∃ yb,bA ys=yb:=⟨_,rfl⟩
 obtain⟨zb,hzb⟩:∃ zb,bA Y=zb:=⟨_,rfl⟩
 rw [hyb,hzb] at hcase
 rw [hyb,hzb]
 clear hyb hzb HFA HFf hBnd
 have HKey:Hid (∀ {Q:Prop},Q→Q):=fun h=>h
 rcases hcase with rfl | ⟨rfl,h4⟩| ⟨rfl,h4,rfl⟩
 ·go_wp2_with fail
  clear x1 x2 x3 x4 x5
  go_loopw [17] (fun i wr=>∃ (j:Nat),j≤m∧i=.int .i64 j∧∃ q,wr=w11.drewN q) (fun i _=>m - (intOf i).toNat)
  case atStart=>exact⟨0,Nat.zero_le _,rfl,0,rfl⟩
  case round=>
   obtain⟨j,hj,rfl,q,rfl⟩:=hrel
   have t1:=(HB11.out.drewN q).t1
   have t2:=(HB11.out.drewN q).t2
   have t3:=(HB11.out.drewN q).t3
   have hbq:Below w11.heap.size w11 (w11.drewN q):=cm (Below.refl _ _) q
   obtain⟨v0,v1,v2,v3⟩:=(HV11.out.step hbq).c
   have HBq:=hideS (HB11.out.drewN q)
   have HTq:=hideS (HT11.out.below hbq)
   clear hbq
   obtain⟨wq,hwq⟩:∃ wq,w11.drewN q=wq:=⟨_,rfl⟩
   have HEq:Hid (∀ l,∃ q,wq.drewN l=w11.drewN q):=fun l=>⟨q+l,by rw [← hwq,World.drewN_drewN]⟩
   rw [hwq] at t1 t2 t3 v0 v1 v2 v3 HBq HTq ⊢
   by_cases hlt:j<m
   ·obtain rfl:=HTq.out.x.at_ (by have:=HM.out;omega)
    obtain rfl:=HTq.out.y.at_ (by have:=HM.out;omega)
    have hpx:=(HSc.out.x).at_ (by have:=HM.out;have:=HLn.out;omega)
    have hpy:=(HSc.out.y).at_ (by have:=HM.out;have:=HLn.out;have:=HL2.out;omega)
    subst hpx hpy
    have b1:=HTq.out.x.cell j (by have:=HM.out;omega)
    have b2':=HTq.out.y.cell j (by have:=HM.out;omega)
    have c1:=(HSc.out.below HBq.out.bl).x.cell (j+s) (by have:=HM.out;have:=HLn.out;omega)
    have c2:=(HSc.out.below HBq.out.bl).y.cell (j+s) (by have:=HM.out;have:=HLn.out;have:=HL2.out;omega)
    unfold xV at b1 c1
    unfold flV at b2' c2
    rw [Nat.zero_add] at b1 b2'
    rw [HX.out j hlt,Nat.add_comm s j] at b1
    obtain⟨hq1,hq2⟩:=HY.out j hlt
    rw [Nat.add_comm s j] at hq1
    have hrq:=fun wx=>run_float_arith (P:=Tryz.prog) wx .quo 54 .f64 _ _ _ hq1
    have hse:(FloatKind.f64.format.order (Y.getD j 0) (Y.getD j 0) !=some .eq)=false:=by
     have:=kF (ah (show Y.getD j 0<18446744073709551616 by omega))
     rw [cj hq2] at this
     rw [bne,this];rfl
    generalize xs.getD (j+s) 0=D at *
    generalize ys.getD (j+s) 0=f at *
    generalize Y.getD j 0=q' at *
    have hd:(D !=D)=false:=by simp
    have hks:(j:Int)+(s:Int)=((j+s:Nat):Int):=by omega
    have hwr:IntKind.i64.wrap ((j:Int)+(s:Int))=((j+s:Nat):Int):=by rw [IntKind.wrap_i64];omega
    have i1:(0:Int)≤(j:Int):=by omega
    have i2:(j:Int)<(m:Int):=by omega
    have i3:(0:Int)≤((j+s:Nat):Int):=by omega
    have i4:((j+s:Nat):Int)<(lx:Int):=by have:=HM.out;omega
    have i5:((j+s:Nat):Int)<(ly:Int):=by have:=HM.out;have:=HL2.out;omega
    clear hq1 hq2 hks
    go_wp2_with fail
    go_quiet (fail)
    go_wp2_with fail
    go_roundw
    case rel=>
     obtain⟨q2,hq2⟩:=HEq.out _
     exact⟨j+1,by omega,by simp,q2,hq2⟩
    case measure=>simp [intOf];omega
   ·obtain rfl:j=m:=by omega
    have hge:¬ (j:Int)<(j:Int):=by omega
    by_cases hs0:s=0
    ·have e0:((s:Int)==0)=true:=beq_iff_eq.2 (by omega)
     clear hs0
     go_wp2_with fail
     refine (HW.out _).mono ?_
     rintro e w99 ⟨rfl,hb99⟩
     have HB99:=hideS (HBq.out.step hb99)
     clear hb99
     go_wp2_with fail
     go_ret
     exact⟨rfl,HB99.out.bl⟩
    ·have e0:((s:Int)==0)=false:=beq_eq_false_iff_ne.2 (by omega)
     obtain⟨u,rfl⟩:∃ u,s=u+1:=⟨s - 1,by omega⟩
     have hu1:((u+1:Nat):Int) - 1=(u:Int):=by omega
     have hpx:=(HSc.out.x).at_ (by have:=HM.out;have:=HLn.out;omega)
     subst hpx
     have hc:=(HSc.out.below HBq.out.bl).x.cell u (by have:=HM.out;have:=HLn.out;omega)
     unfold xV at hc
     have hle:decide (xs.getD u 0≤n)=true:=decide_eq_true (HS.out.le u (by omega))
     have i1:(0:Int)≤(u:Int):=by omega
     have i2:(u:Int)<(lx:Int):=by have:=HM.out;omega
     generalize xs.getD u 0=D at *
     clear hs0
     go_wp2_with fail
     refine (HW.out _).mono ?_
     rintro e w99 ⟨rfl,hb99⟩
     have HB99:=hideS (HBq.out.step hb99)
     clear hb99
     go_wp2_with fail
     go_ret
     exact⟨rfl,HB99.out.bl⟩
 ·have h5:(kind !=4)=false:=by rw [h4];rfl
  clear h4
  go_wp2_with fail
  clear x1 x2 x3 x4 x5
  go_loopw [17] (fun i wr=>∃ (j:Nat),j≤m∧i=.int .i64 j∧∃ q,wr=w11.drewN q) (fun i _=>m - (intOf i).toNat)
  case atStart=>exact⟨0,Nat.zero_le _,rfl,0,rfl⟩
  case round=>
   obtain⟨j,hj,rfl,q,rfl⟩:=hrel
   have t1:=(HB11.out.drewN q).t1
   have t2:=(HB11.out.drewN q).t2
   have t3:=(HB11.out.drewN q).t3
   have hbq:Below w11.heap.size w11 (w11.drewN q):=cm (Below.refl _ _) q
   obtain⟨v0,v1,v2,v3⟩:=(HV11.out.step hbq).c
   have HBq:=hideS (HB11.out.drewN q)
   have HTq:=hideS (HT11.out.below hbq)
   clear hbq
   obtain⟨wq,hwq⟩:∃ wq,w11.drewN q=wq:=⟨_,rfl⟩
   have HEq:Hid (∀ l,∃ q,wq.drewN l=w11.drewN q):=fun l=>⟨q+l,by rw [← hwq,World.drewN_drewN]⟩
   rw [hwq] at t1 t2 t3 v0 v1 v2 v3 HBq HTq ⊢
   by_cases hlt:j<m
   ·obtain rfl:=HTq.out.x.at_ (by have:=HM.out;omega)
    obtain rfl:=HTq.out.y.at_ (by have:=HM.out;omega)
    have hpx:=(HSc.out.x).at_ (by have:=HM.out;have:=HLn.out;omega)
    have hpy:=(HSc.out.y).at_ (by have:=HM.out;have:=HLn.out;have:=HL2.out;omega)
    subst hpx hpy
    have b1:=HTq.out.x.cell j (by have:=HM.out;omega)
    have b2':=HTq.out.y.cell j (by have:=HM.out;omega)
    have c1:=(HSc.out.below HBq.out.bl).x.cell (j+s) (by have:=HM.out;have:=HLn.out;omega)
    have c2:=(HSc.out.below HBq.out.bl).y.cell (j+s) (by have:=HM.out;have:=HLn.out;have:=HL2.out;omega)
    unfold xV at b1 c1
    unfold flV at b2' c2
    rw [Nat.zero_add] at b1 b2'
    rw [HX.out j hlt,Nat.add_comm s j] at b1
    obtain⟨hq1,hq2⟩:=HY.out j hlt
    rw [Nat.add_comm s j] at hq1
    have hrq:=fun wx=>run_float_arith (P:=Tryz.prog) wx .quo 54 .f64 _ _ _ hq1
    have hse:(FloatKind.f64.format.order (Y.getD j 0) (Y.getD j 0) !=some .eq)=false:=by
     have:=kF (ah (show Y.getD j 0<18446744073709551616 by omega))
     rw [cj hq2] at this
     rw [bne,this];rfl
    generalize xs.getD (j+s) 0=D at *
    generalize ys.getD (j+s) 0=f at *
    generalize Y.getD j 0=q' at *
    have hd:(D !=D)=false:=by simp
    have hks:(j:Int)+(s:Int)=((j+s:Nat):Int):=by omega
    have hwr:IntKind.i64.wrap ((j:Int)+(s:Int))=((j+s:Nat):Int):=by rw [IntKind.wrap_i64];omega
    have i1:(0:Int)≤(j:Int):=by omega
    have i2:(j:Int)<(m:Int):=by omega
    have i3:(0:Int)≤((j+s:Nat):Int):=by omega
    have i4:((j+s:Nat):Int)<(lx:Int):=by have:=HM.out;omega
    have i5:((j+s:Nat):Int)<(ly:Int):=by have:=HM.out;have:=HL2.out;omega
    clear hq1 hq2 hks
    go_wp2_with fail
    go_quiet (fail)
    go_wp2_with fail
    go_roundw
    case rel=>
     obtain⟨q2,hq2⟩:=HEq.out _
     exact⟨j+1,by omega,by simp,q2,hq2⟩
    case measure=>simp [intOf];omega
   ·obtain rfl:j=m:=by omega
    have hge:¬ (j:Int)<(j:Int):=by omega
    by_cases hs0:s=0
    ·have e0:((s:Int)==0)=true:=beq_iff_eq.2 (by omega)
     clear hs0
     go_wp2_with fail
     refine (HW.out _).mono ?_
     rintro e w99 ⟨rfl,hb99⟩
     have HB99:=hideS (HBq.out.step hb99)
     clear hb99
     go_wp2_with fail
     go_ret
     exact⟨rfl,HB99.out.bl⟩
    ·have e0:((s:Int)==0)=false:=beq_eq_false_iff_ne.2 (by omega)
     obtain⟨u,rfl⟩:∃ u,s=u+1:=⟨s - 1,by omega⟩
     have hu1:((u+1:Nat):Int) - 1=(u:Int):=by omega
     have hpx:=(HSc.out.x).at_ (by have:=HM.out;have:=HLn.out;omega)
     subst hpx
     have hc:=(HSc.out.below HBq.out.bl).x.cell u (by have:=HM.out;have:=HLn.out;omega)
     unfold xV at hc
     have hle:decide (xs.getD u 0≤n)=true:=decide_eq_true (HS.out.le u (by omega))
     have i1:(0:Int)≤(u:Int):=by omega
     have i2:(u:Int)<(lx:Int):=by have:=HM.out;omega
     generalize xs.getD u 0=D at *
     clear hs0
     go_wp2_with fail
     refine (HW.out _).mono ?_
     rintro e w99 ⟨rfl,hb99⟩
     have HB99:=hideS (HBq.out.step hb99)
     clear hb99
     go_wp2_with fail
     go_ret
     exact⟨rfl,HB99.out.bl⟩
 ·have h5:(kind !=4)=true:=bne_iff_ne.2 h4
  clear h4
  go_wp2_with fail
  clear x1 x2 x3 x4 x5
  go_loopw [17] (fun i wr=>∃ (j:Nat),j≤m∧i=.int .i64 j∧∃ q,wr=w11.drewN q) (fun i _=>m - (intOf i).toNat)
  case atStart=>exact⟨0,Nat.zero_le _,rfl,0,rfl⟩
  case round=>
   obtain⟨j,hj,rfl,q,rfl⟩:=hrel
   have t1:=(HB11.out.drewN q).t1
   have t2:=(HB11.out.drewN q).t2
   have t3:=(HB11.out.drewN q).t3
   have hbq:Below w11.heap.size w11 (w11.drewN q):=cm (Below.refl _ _) q
   obtain⟨v0,v1,v2,v3⟩:=(HV11.out.step hbq).c
   have HBq:=hideS (HB11.out.drewN q)
   have HTq:=hideS (HT11.out.below hbq)
   clear hbq
   obtain⟨wq,hwq⟩:∃ wq,w11.drewN q=wq:=⟨_,rfl⟩
   have HEq:Hid (∀ l,∃ q,wq.drewN l=w11.drewN q):=fun l=>⟨q+l,by rw [← hwq,World.drewN_drewN]⟩
   rw [hwq] at t1 t2 t3 v0 v1 v2 v3 HBq HTq ⊢
   by_cases hlt:j<m
   ·obtain rfl:=HTq.out.x.at_ (by have:=HM.out;omega)
    obtain rfl:=HTq.out.y.at_ (by have:=HM.out;omega)
    have hpx:=(HSc.out.x).at_ (by have:=HM.out;have:=HLn.out;omega)
    have hpy:=(HSc.out.y).at_ (by have:=HM.out;have:=HLn.out;have:=HL2.out;omega)
    subst hpx hpy
    have b1:=HTq.out.x.cell j (by have:=HM.out;omega)
    have b2':=HTq.out.y.cell j (by have:=HM.out;omega)
    have c1:=(HSc.out.below HBq.out.bl).x.cell (j+s) (by have:=HM.out;have:=HLn.out;omega)
    have c2:=(HSc.out.below HBq.out.bl).y.cell (j+s) (by have:=HM.out;have:=HLn.out;have:=HL2.out;omega)
    unfold xV at b1 c1
    unfold flV at b2' c2
    rw [Nat.zero_add] at b1 b2'
    rw [HX.out j hlt,Nat.add_comm s j] at b1
    obtain⟨hq1,hq2⟩:=HY.out j hlt
    rw [Nat.add_comm s j] at hq1
    have hrq:=fun wx=>run_float_arith (P:=Tryz.prog) wx .quo 54 .f64 _ _ _ hq1
    have hse:(FloatKind.f64.format.order (Y.getD j 0) (Y.getD j 0) !=some .eq)=false:=by
     have:=kF (ah (show Y.getD j 0<18446744073709551616 by omega))
     rw [cj hq2] at this
     rw [bne,this];rfl
    generalize xs.getD (j+s) 0=D at *
    generalize ys.getD (j+s) 0=f at *
    generalize Y.getD j 0=q' at *
    have hd:(D !=D)=false:=by simp
    have hks:(j:Int)+(s:Int)=((j+s:Nat):Int):=by omega
    have hwr:IntKind.i64.wrap ((j:Int)+(s:Int))=((j+s:Nat):Int):=by rw [IntKind.wrap_i64];omega
    have i1:(0:Int)≤(j:Int):=by omega
    have i2:(j:Int)<(m:Int):=by omega
    have i3:(0:Int)≤((j+s:Nat):Int):=by omega
    have i4:((j+s:Nat):Int)<(lx:Int):=by have:=HM.out;omega
    have i5:((j+s:Nat):Int)<(ly:Int):=by have:=HM.out;have:=HL2.out;omega
    clear hq1 hq2 hks
    go_wp2_with fail
    go_quiet (fail)
    go_wp2_with fail
    go_roundw
    case rel=>
     obtain⟨q2,hq2⟩:=HEq.out _
     exact⟨j+1,by omega,by simp,q2,hq2⟩
    case measure=>simp [intOf];omega
   ·obtain rfl:j=m:=by omega
    have hge:¬ (j:Int)<(j:Int):=by omega
    by_cases hs0:s=0
    ·have e0:((s:Int)==0)=true:=beq_iff_eq.2 (by omega)
     clear hs0
     go_wp2_with fail
     refine (HW.out _).mono ?_
     rintro e w99 ⟨rfl,hb99⟩
     have HB99:=hideS (HBq.out.step hb99)
     clear hb99
     go_wp2_with fail
     go_ret
     exact⟨rfl,HB99.out.bl⟩
    ·have e0:((s:Int)==0)=false:=beq_eq_false_iff_ne.2 (by omega)
     obtain⟨u,rfl⟩:∃ u,s=u+1:=⟨s - 1,by omega⟩
     have hu1:((u+1:Nat):Int) - 1=(u:Int):=by omega
     have hpx:=(HSc.out.x).at_ (by have:=HM.out;have:=HLn.out;omega)
     subst hpx
     have hc:=(HSc.out.below HBq.out.bl).x.cell u (by have:=HM.out;have:=HLn.out;omega)
     unfold xV at hc
     have hle:decide (xs.getD u 0≤n)=true:=decide_eq_true (HS.out.le u (by omega))
     have i1:(0:Int)≤(u:Int):=by omega
     have i2:(u:Int)<(lx:Int):=by have:=HM.out;omega
     generalize xs.getD u 0=D at *
     clear hs0
     go_wp2_with fail
     refine (HW.out _).mono ?_
     rintro e w99 ⟨rfl,hb99⟩
     have HB99:=hideS (HBq.out.step hb99)
     clear hb99
     go_wp2_with fail
     go_ret
     exact⟨rfl,HB99.out.bl⟩
theorem mZ (base kind n:Int) (px py:Option Addr) (bx ox cx b2 oy cy:Nat) (xs:List Int) (ys:List Nat) (w:World) (hs:TFl w px py bx ox b2 oy xs ys) (_hxI:∀ i<xs.length,qM (xs.getD i 0)) (_hx:xs.length≤17592186043904) (_hy:ys.length≤17592186043904) (_hlx:xs.length≤cx) (_hly:ys.length≤cy) (_hn:qM n) :
  Calls Tryz.prog 6 #[.agg #[.int .i64 base,.int .i64 kind,.slice px xs.length cx,.slice py ys.length cy],.int .i64 n] w fun e w'=>e=.returned (.bool true)∧Below w.heap.size w w':=by
 by_cases h:30<xs.length∨30<ys.length
 ·exact mY base kind n px py _ cx _ cy w h
 ·have hR:∀ z b k X Y E,OutR base kind z xs ys b k X Y E→∀ wx,Below w.heap.size w wx→Calls Tryz.prog 27 #[.agg #[.int .i64 base,.int .i64 kind,.slice px xs.length cx,.slice py ys.length cy],.int .i64 z] wx fun e w'=>CvA b k X Y E e w'∧Below wx.heap.size wx w':=fun z b k X Y E ho wx hb=>(oY base kind z px py bx ox cx b2 oy cy xs ys wx (hs.below hb)).mono fun e w' h=>⟨FC h.1 ho,h.2⟩
  obtain⟨E,hE⟩:=jq base kind xs ys
  have hC:=fun wx (hb:Below w.heap.size w wx)=>bU base kind px py bx ox cx b2 oy cy xs ys wx (hs.below hb) hE
  by_cases h0:E=0
  ·subst h0
   have ok:=dZ hE
   have lo:=ok.lo
   have h1:=Aq ok hs.f
   obtain⟨b,k,X,Y,E,ho⟩:=FA base kind n xs ys
   have hR1:=hR n _ _ _ _ _ ho
   have hR0:=hR base _ _ _ _ _ h1
   cases ho with
   | bad E hE' h0=>exact absurd (bj ok hE') h0
   | out _ h'=>exact ie px py bx ox cx b2 oy cy _ _ xs [] ys [] base kind n 0 0 51 0 w (by omega) (by omega) rfl rfl hs (Or.inr ⟨rfl,by omega,h'⟩) hR0 hC hR1
   | zero _ _ _ s hss j j0 j1 hj=>exact ie px py bx ox cx b2 oy cy _ _ xs [] ys [] base kind n 0 0 91 0 w (by omega) (by omega) rfl rfl hs (Or.inl rfl) hR0 hC hR1
   | ok _ a0 a1 s hss hg=>
    have e0:=qH ok (x:=n) a0 (by omega)
    have hF:=gU ok hs.f e0
    have hlt:=hss.lt
    have l1:(xs.drop s).length=xs.length - s:=List.length_drop
    have l2:(qL ys (facV base kind xs ys n) s).length=xs.length - s:=by rw [fM,ok.len]
    have hfa:=fun wx (hb:Below w.heap.size w wx)=>el base kind n (js base kind xs ys n) (facV base kind xs ys n) px py bx ox cx b2 oy cy xs ys wx (hs.below hb) (dc base kind xs ys n)
    rw [e0] at hfa
    have hfc:=fun wx (hb:Below w.heap.size w wx)=>ju base kind px py bx ox cx b2 oy cy xs ys wx (hs.below hb) (.ok ok)
    rw [decide_eq_true rfl,Bool.true_and] at hfc
    have ok2:=Ar ok a0 hss hg
    refine qZ px py bx ox cx b2 oy cy _ _ xs (xs.drop s) ys (qL ys (facV base kind xs ys n) s) base kind n 0 0 0 0 (facV base kind xs ys n) s (xs.length - s) w (by omega) (by omega) rfl rfl hs l1 l2 (by omega) (by omega) hss (fun i hi=>qS xs s i 0) (fun i hi=>?_) ok.len (fun hq h4=>qY ok hs.f a0 a1 hss hq h4) hR0 hC hR1 hfa hfc (fun wx pe ge ce qe gf de ht=>?_)
    ·rw [kA ys _ (by rw [ok.len];omega)]
     obtain⟨p0,p1⟩:=dC ok hs.f (i:=s+i) (by omega)
     exact⟨xM p0 p1 hF.1 hF.2,qQ _ _⟩
    ·have:=ju n kind pe qe ge 0 ce gf 0 de _ _ wx ht (.ok ok2)
     rw [decide_eq_true rfl,Bool.true_and,l1,l2] at this
     exact this
  ·exact nO px py bx ox cx b2 oy cy _ _ xs [] ys [] base kind n 0 0 0 E w (by omega) (by omega) rfl rfl hs h0 (hR base _ _ _ _ _ (.bad E hE h0)) hC
end Go.Proofs.YtjjlnmihkadlmaaGreat
