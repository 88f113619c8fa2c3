/-  -/
import Derived.Test.YtcmbfflemoccmaaGreatHbr
import Derived.Test.YtcmbfflemoccmaaGreatHbh
import Derived.Test.YtcmbfflemoccmaaGreatHbe
import Derived.Test.YtcmbfflemoccmaaGreatFCal
import Derived.Test.YtcmbfflemoccmaaGreatHau
import Derived.Test.YtcmbfflemoccmaaGreatHaw
namespace Go.Proofs.YtcmbfflemoccmaaGreat
open Go.RowKit
end Go.Proofs.YtcmbfflemoccmaaGreat
namespace Go.Proofs.YtcmbfflemoccmaaGreat
open Go.RowKit

def avD:List Int:=[100,200]
def avF:List Nat:=[4602678819172646912,4598175219545276416]
theorem av_ok:OkV 0 2 avD avF:=⟨by decide,by decide,by decide,by decide,by decide,by decide,rfl,fun i hi=>by
 have hi':i<2:=hi
 rcases (show i=0∨i=1 by omega) with rfl | rfl<;>decide+kernel⟩
theorem Nk:linV (ctY avF) 0 100 50=4604930618986332160:=by decide+kernel
theorem Of:FacO 0 2 avD avF 50 4604930618986332160 0:=by
 have hI:Inside (ctX 0 avD) 50 0 100 50:=⟨by decide,by decide,by decide,by decide,by decide⟩
 have hk:FindR (ctX 0 avD) 50 0:=⟨by decide,by decide,fun _=>by decide⟩
 have:=AtO.piece (kind:=2) (xs:=ctX 0 avD) (ys:=ctY avF) (x:=50) 0 100 50 av_ok.table (.at_ av_ok.table (by decide) (by decide) 0 hk (fun j hj=>by omega)) hk (by decide) hI
 unfold Ey at this
 rw [if_neg (by decide),if_pos rfl,Nk] at this
 exact .ok av_ok _ _ this
theorem Nl:FacO 0 2 avD avF 0 4607182418800017408 0:=.ok av_ok _ _ (yl av_ok (i:=0) (by decide))
theorem Nm:FacO 0 2 avD avF 100 4602678819172646912 0:=.ok av_ok _ _ (yl av_ok (i:=1) (by decide))
theorem LD:qd avF=true:=by decide+kernel
theorem LE:yW (gc (fun _=>false) 1 0 100) (cj 1)=4598675619503873138:=by decide+kernel
theorem Nn:KY 4607182418800017408 4602678819172646912 4598675619503873138=some 4615288898129284300:=by decide+kernel
def vk:Obj:=.cells #[.int .i64 100,.int .i64 200] 3
def ze:Obj:=.cells #[.float .f64 4602678819172646912,.float .f64 4598175219545276416] 38
def Ff:Obj:=.cells #[.int .i64 0,.int .i64 0,.slice none 0 0,.slice none 0 0] 25
def av3 (w:World):World:=((w.alloc vk).alloc ze).alloc Ff
def av4 (w w3:World):World:=(((w3.setCell ⟨w.heap.size+1+1,0,none⟩ (.int .i64 0)).setCell ⟨w.heap.size+1+1,1,none⟩ (.int .i64 2)).setCell ⟨w.heap.size+1+1,2,none⟩ (.slice (some ⟨w.heap.size,0,none⟩) 2 2)).setCell ⟨w.heap.size+1+1,3,none⟩ (.slice (some ⟨w.heap.size+1,0,none⟩) 2 2)
structure AvB (w wr:World):Prop where
 t0:wr.cell? ⟨w.heap.size+1+1,0,none⟩=some (.int .i64 0)
 t1:wr.cell? ⟨w.heap.size+1+1,1,none⟩=some (.int .i64 2)
 t2:wr.cell? ⟨w.heap.size+1+1,2,none⟩=some (.slice (some ⟨w.heap.size,0,none⟩) 2 2)
 t3:wr.cell? ⟨w.heap.size+1+1,3,none⟩=some (.slice (some ⟨w.heap.size+1,0,none⟩) 2 2)
 src:TFl wr (some ⟨w.heap.size,0,none⟩) (some ⟨w.heap.size+1,0,none⟩) w.heap.size 0 (w.heap.size+1) 0 avD avF
 bl:Below w.heap.size w wr
 lt:w.heap.size+1+1<wr.heap.size
theorem AvB.step {w wr w':World} (h:AvB w wr) (hb:Below wr.heap.size wr w'):AvB w w':=
 ⟨(hb.cell (p:=⟨w.heap.size+1+1,0,none⟩) h.lt).trans h.t0,(hb.cell (p:=⟨w.heap.size+1+1,1,none⟩) h.lt).trans h.t1,(hb.cell (p:=⟨w.heap.size+1+1,2,none⟩) h.lt).trans h.t2,(hb.cell (p:=⟨w.heap.size+1+1,3,none⟩) h.lt).trans h.t3,h.src.below hb,h.bl.trans (hb.mono h.bl.size),Nat.lt_of_lt_of_le h.lt hb.size⟩
theorem mH (w:World):((av3 w).heap.size=w.heap.size+3∧(av3 w).heap[w.heap.size]? =some vk∧(av3 w).heap[w.heap.size+1]? =some ze∧(av3 w).heap[w.heap.size+1+1]? =some Ff)∧Below w.heap.size w (av3 w):=by
 have s1:(w.alloc vk).heap.size=w.heap.size+1:=by simp
 have s2:((w.alloc vk).alloc ze).heap.size=w.heap.size+1+1:=by simp
 have b1:=(Below.refl (w.heap.size+1) (w.alloc vk)).alloc (by omega) ze
 have b2:=(Below.refl (w.heap.size+1+1) ((w.alloc vk).alloc ze)).alloc (by omega) Ff
 unfold av3
 refine⟨⟨by simp,?_,?_,?_⟩,(((Below.refl _ _).alloc (Nat.le_refl _) _).alloc (by omega) _).alloc (by omega) _⟩
 ·rw [b2.block _ (by omega),b1.block _ (by omega)];exact heap_alloc_new _ _
 ·rw [b2.block _ (by omega),← s1];exact heap_alloc_new _ _
 ·rw [← s2];exact heap_alloc_new _ _
theorem Fg (w:World):((av3 w).cell? ⟨w.heap.size+1+1,0,none⟩=some (.int .i64 0)∧(av3 w).cell? ⟨w.heap.size+1+1,1,none⟩=some (.int .i64 0)∧(av3 w).cell? ⟨w.heap.size+1+1,2,none⟩=some (.slice none 0 0)∧(av3 w).cell? ⟨w.heap.size+1+1,3,none⟩=some (.slice none 0 0))∧∀ i,(av3 w).frozen? ⟨w.heap.size+1+1,i,none⟩=false:=by
 have h:=(mH w).1.2.2.2
 unfold Ff at h
 refine⟨⟨?_,?_,?_,?_⟩,fun i=>frozen_of_row _ _ i _ _ h⟩
 all_goals
  simp only [World.cell?,h,Option.isSome_none,Bool.false_eq_true,if_false]
  rfl
theorem No (w:World):AvB w (av4 w (av3 w)):=by
 obtain⟨⟨hz,hx,hy,ht⟩,hb⟩:=mH w
 have B2:Below (w.heap.size+1+1) (av3 w) (av4 w (av3 w)):=((((Below.refl _ (av3 w)).setCell (p:=⟨w.heap.size+1+1,0,none⟩) (Nat.le_refl _) _).setCell (p:=⟨w.heap.size+1+1,1,none⟩) (Nat.le_refl _) _).setCell (p:=⟨w.heap.size+1+1,2,none⟩) (Nat.le_refl _) _).setCell (p:=⟨w.heap.size+1+1,3,none⟩) (Nat.le_refl _) _
 unfold Ff at ht
 have h4:(av4 w (av3 w)).heap[w.heap.size+1+1]? =some (.cells #[.int .i64 0,.int .i64 2,.slice (some ⟨w.heap.size,0,none⟩) 2 2,.slice (some ⟨w.heap.size+1,0,none⟩) 2 2] 25):=aY _ (aY _ (aY _ (aY _ ht)))
 have hx':(av4 w (av3 w)).heap[w.heap.size]? =some vk:=by rw [B2.block _ (by omega)];exact hx
 have hy':(av4 w (av3 w)).heap[w.heap.size+1]? =some ze:=by rw [B2.block _ (by omega)];exact hy
 have l4:=(Array.getElem?_eq_some_iff.1 h4).1
 unfold vk at hx'
 unfold ze at hy'
 refine⟨?_,?_,?_,?_,⟨⟨fun _=>rfl,fun _=>by omega,fun j hj=>?_⟩,⟨fun _=>rfl,fun _=>by omega,fun j hj=>?_⟩,fun i hi=>?_⟩,hb.trans (B2.mono (by omega)),l4⟩
 ·simp only [World.cell?,h4,Option.isSome_none,Bool.false_eq_true,if_false];rfl
 ·simp only [World.cell?,h4,Option.isSome_none,Bool.false_eq_true,if_false];rfl
 ·simp only [World.cell?,h4,Option.isSome_none,Bool.false_eq_true,if_false];rfl
 ·simp only [World.cell?,h4,Option.isSome_none,Bool.false_eq_true,if_false];rfl
 ·have hj':j<2:=hj
  rcases (show j=0∨j=1 by omega) with rfl | rfl
  all_goals
   simp only [World.cell?,hx',Option.isSome_none,Bool.false_eq_true,if_false]
   rfl
 ·have hj':j<2:=hj
  rcases (show j=0∨j=1 by omega) with rfl | rfl
  all_goals
   simp only [World.cell?,hy',Option.isSome_none,Bool.false_eq_true,if_false]
   rfl
 ·have hi':i<2:=hi
  rcases (show i=0∨i=1 by omega) with rfl | rfl<;>decide

set_option maxRecDepth 40000 in
set_option maxHeartbeats 6400000 in
theorem CD (w:World):Calls Tryz.prog 9 #[] w fun e w'=>e=.returned (.bool true)∧Below w.heap.size w w':=by
 obtain⟨⟨c0,c1,c2,c3⟩,fz⟩:=Fg w
 have z0:=fz 0
 have z1:=fz 1
 have z2:=fz 2
 have z3:=fz 3
 have HS:=hideS (mH w).1.1
 have HB:=hideS (No w)
 clear fz
 obtain⟨w3,hw3⟩:∃ w3,av3 w=w3:=⟨_,rfl⟩
 rw [hw3] at c0 c1 c2 c3 z0 z1 z2 z3 HB HS
 obtain⟨w4,hw4⟩:∃ w4,av4 w w3=w4:=⟨_,rfl⟩
 rw [hw4] at HB
 unfold av3 vk ze Ff at hw3
 unfold av4 at hw4
 have q1:(FloatKind.f64.format.order 4604930618986332160 4604930618986332160==some .eq)=true:=by kernel_rfl
 have q2:(FloatKind.f64.format.order 4615288898129284300 4615266380131147448==some .gt)=true:=by kernel_rfl
 have q3:(FloatKind.f64.format.order 4615288898129284300 4615311416127421153==some .lt)=true:=by kernel_rfl
 have HFa:∀ x V wx,AvB w wx→FacO 0 2 avD avF x V 0→Calls Tryz.prog 15 #[.agg #[.int .i64 0,.int .i64 2,.slice (some ⟨w.heap.size,0,none⟩) 2 2,.slice (some ⟨w.heap.size+1,0,none⟩) 2 2],.int .i64 x] wx fun e w'=>e=.returned (.tuple #[.float .f64 V,.int .i64 0])∧Below wx.heap.size wx w':=fun x V wx hb h=>dT 0 2 x 0 V _ _ _ _ 2 _ _ 2 avD avF wx hb.src h
 have HAt:Hid (∀ wx,AvB w wx→Calls Tryz.prog 15 #[.agg #[.int .i64 0,.int .i64 2,.slice (some ⟨w.heap.size,0,none⟩) 2 2,.slice (some ⟨w.heap.size+1,0,none⟩) 2 2],.int .i64 50] wx fun e w'=>e=.returned (.tuple #[.float .f64 4604930618986332160,.int .i64 0])∧Below wx.heap.size wx w'):=fun wx hb=>HFa 50 _ wx hb Of
 have HFl:Hid (∀ wx,AvB w wx→Calls Tryz.prog 18 #[.agg #[.int .i64 0,.int .i64 2,.slice (some ⟨w.heap.size,0,none⟩) 2 2,.slice (some ⟨w.heap.size+1,0,none⟩) 2 2]] wx fun e w'=>e=.returned (.tuple #[.bool true,.int .i64 0])∧Below wx.heap.size wx w'):=fun wx hb=>by
  have:=uE 0 2 _ _ _ _ 2 _ _ 2 avD avF wx hb.src (.ok av_ok)
  rw [LD] at this
  exact this
 have HLa:Hid (∀ wx,AvB w wx→Calls Tryz.prog 13 #[.agg #[.int .i64 0,.int .i64 2,.slice (some ⟨w.heap.size,0,none⟩) 2 2,.slice (some ⟨w.heap.size+1,0,none⟩) 2 2]] wx fun e w'=>e=.returned (.tuple #[.int .i64 200,.int .i64 0])∧Below wx.heap.size wx w'):=fun wx hb=>xG 0 2 _ _ _ _ 2 _ _ 2 avD avF wx hb.src (.ok av_ok)
 have HFo:Hid (∀ wx,AvB w wx→Calls Tryz.prog 16 #[.agg #[.int .i64 0,.int .i64 2,.slice (some ⟨w.heap.size,0,none⟩) 2 2,.slice (some ⟨w.heap.size+1,0,none⟩) 2 2],.int .i64 1,.agg #[.int .i64 0,.slice none 0 0],.int .i64 0,.int .i64 100] wx fun e w'=>e=.returned (.tuple #[.float .f64 4615288898129284300,.int .i64 0])∧Below wx.heap.size wx w'):=fun wx hb=>
  lM 0 2 1 0 0 100 _ _ _ 0 4607182418800017408 4602678819172646912 4598675619503873138 4615288898129284300 wx (fun wy hy=>HFa 0 _ wy (hb.step hy) Nl) (fun wy hy=>HFa 100 _ wy (hb.step hy) Nm)
   (fun wy hy=>by
    have:=za 1 0 0 100 (gc (fun _=>false) 1 0 100) (cj 1) (.slice none 0 0) wy (by decide) (by decide) (by decide) (by decide) (yY (fun _=>false) 1 0 0 100 (.slice none 0 0) wy (by decide) (by decide) ⟨by decide,by decide⟩ ⟨by decide,by decide⟩)
    rw [LE] at this
    exact this)
   (fun wy hy=>by
    have:=ql 4607182418800017408 4602678819172646912 4598675619503873138 4615288898129284300 wy (by decide) (by decide) (by decide) (by decide) (by rw [Nn];exact rfl)
    rw [show enyN 4615288898129284300=4615288898129284300 by decide,show dz ((4615288898129284300:Nat):Int)=0 by decide] at this
    exact this)
 clear HFa
 have t0:=HB.out.t0
 have t1:=HB.out.t1
 have t2:=HB.out.t2
 have t3:=HB.out.t3
 go_enter Tryz.func9,Tryz.ntmps9
 go_wp2_with fail
 clear hw3 hw4 c0 c1 c2 c3 z0 z1 z2 z3 t0 t1 t2 t3
 refine (HAt.out _ HB.out).mono ?_
 rintro e w5 ⟨rfl,hb5⟩
 have HB5:=hideS (HB.out.step hb5)
 clear hb5 HAt HB
 have t0:=HB5.out.t0
 have t1:=HB5.out.t1
 have t2:=HB5.out.t2
 have t3:=HB5.out.t3
 go_wp2_with fail
 clear t0 t1 t2 t3
 refine (HFl.out _ HB5.out).mono ?_
 rintro e w6 ⟨rfl,hb6⟩
 have HB6:=hideS (HB5.out.step hb6)
 clear hb6 HFl HB5
 have t0:=HB6.out.t0
 have t1:=HB6.out.t1
 have t2:=HB6.out.t2
 have t3:=HB6.out.t3
 go_wp2_with fail
 clear t0 t1 t2 t3
 refine (HLa.out _ HB6.out).mono ?_
 rintro e w7 ⟨rfl,hb7⟩
 have HB7:=hideS (HB6.out.step hb7)
 clear hb7 HLa HB6
 have t0:=HB7.out.t0
 have t1:=HB7.out.t1
 have t2:=HB7.out.t2
 have t3:=HB7.out.t3
 go_wp2_with fail
 clear t0 t1 t2 t3
 refine (HFo.out _ HB7.out).mono ?_
 rintro e w8 ⟨rfl,hb8⟩
 have HB8:=hideS (HB7.out.step hb8)
 clear hb8 HFo HB7
 have t0:=HB8.out.t0
 have t1:=HB8.out.t1
 have t2:=HB8.out.t2
 have t3:=HB8.out.t3
 go_wp2_with fail
 clear t0 t1 t2 t3
 go_ret
 exact⟨rfl,HB8.out.bl⟩
end Go.Proofs.YtcmbfflemoccmaaGreat
namespace Go.Proofs.YtcmbfflemoccmaaGreat
open Go.RowKit

set_option maxHeartbeats 800000 in
theorem Fh (base kind:Int) (px py:Option Addr) (lx cx ly cy:Nat) (w:World) (hx:lx≤17592186043904) (hy:ly≤17592186043904) :
  Calls Tryz.prog 22 #[.agg #[.int .i64 base,.int .i64 kind,.slice px lx cx,.slice py ly cy]] w fun e w'=>e=.returned (.bool (decide (lx≤30)&&decide (ly≤30)))∧Below w.heap.size w w':=by
 have HB:=hideS (cL w base kind (.slice px lx cx) (.slice py ly cy))
 by_cases h1:lx≤30
 ·have d1:decide ((lx:Int)≤30)=true:=decide_eq_true (by omega)
  by_cases h2:ly≤30
  ·have d2:decide ((ly:Int)≤30)=true:=decide_eq_true (by omega)
   rw [decide_eq_true h1,decide_eq_true h2]
   go_enter Tryz.func22,Tryz.ntmps22
   go_wp2_with fail
   go_ret
   exact⟨rfl,HB.out.bl⟩
  ·have d2:decide ((ly:Int)≤30)=false:=decide_eq_false (by omega)
   rw [decide_eq_true h1,decide_eq_false h2]
   go_enter Tryz.func22,Tryz.ntmps22
   go_wp2_with fail
   go_ret
   exact⟨rfl,HB.out.bl⟩
 ·have d1:decide ((lx:Int)≤30)=false:=decide_eq_false (by omega)
  rw [decide_eq_false h1]
  go_enter Tryz.func22,Tryz.ntmps22
  go_wp2_with fail
  go_ret
  exact⟨rfl,HB.out.bl⟩
theorem Np (base kind:Int) (px py:Option Addr) (bx ox cx b2 oy cy:Nat) (xs:List Int) (ys:List Nat) (w:World) (hs:TFl w px py bx ox b2 oy xs ys) (hy:ys.length≤17592186043904) :
  Calls Tryz.prog 12 #[.agg #[.int .i64 base,.int .i64 kind,.slice px xs.length cx,.slice py ys.length cy]] w fun e w'=>∃ p g c,e=.returned (.agg #[.int .i64 base,.int .i64 kind,.slice px xs.length cx,.slice p ys.length c])∧CSrcD w' px p bx ox g 0 xs ys∧Below w.heap.size w w':=by
 refine (vz base kind b2 oy cx cy xs.length ys.length px py ys w hs.y rfl hy).mono fun e w' ⟨v,he,ho,hb⟩=>?_
 obtain⟨p,g,c,rfl,hsrc,hg,hnc,hcm⟩:=dj ho rfl
 exact⟨p,g,c,he,⟨hs.x.below hb,⟨hsrc.at_,hsrc.lt,hsrc.cell⟩,hs.u⟩,hb⟩
theorem vl {base kind x E:Int} {V:Nat} {ds:List Int} {fs:List Nat} (h:FacO base kind ds fs x V E) (hf:∀ i<fs.length,fs.getD i 0<18446744073709551616):V<18446744073709551616:=by
 cases h with
 | bad=>decide
 | ok ok V E hA=>exact MY hA (IA hf)
end Go.Proofs.YtcmbfflemoccmaaGreat
namespace Go.Proofs.YtcmbfflemoccmaaGreat
open Go.RowKit

set_option maxRecDepth 20000 in
set_option maxHeartbeats 12800000 in
theorem rK (base ck rates kind W a b E1 E2 U1 U2:Int) (Y1 Y2:Nat) (S:Bool) (px py ao:Option Addr) (lx cx ly cy N cap:Nat) (w:World) (hN:N≤9223372036854775807)
  (HF:Hid (∀ wx,Calls Tryz.prog 22 #[.agg #[.int .i64 base,.int .i64 ck,.slice px lx cx,.slice py ly cy]] wx fun e w'=>e=.returned (.bool S)∧Below wx.heap.size wx w'))
  (HP1:Hid (∀ wx,Below w.heap.size w wx→Calls Tryz.prog 16 #[.agg #[.int .i64 base,.int .i64 ck,.slice px lx cx,.slice py ly cy],.int .i64 kind,.agg #[.int .i64 W,.slice ao N cap],.int .i64 a,.int .i64 b] wx fun e w'=>e=.returned (.tuple #[.float .f64 Y1,.int .i64 E1])∧Below wx.heap.size wx w'))
  (HP2:Hid (∀ wx,Below w.heap.size w wx→Calls Tryz.prog 17 #[.agg #[.int .i64 base,.int .i64 ck,.slice px lx cx,.slice py ly cy],.int .i64 rates,.int .i64 kind,.agg #[.int .i64 W,.slice ao N cap],.int .i64 b] wx fun e w'=>e=.returned (.tuple #[.float .f64 Y2,.int .i64 E2])∧Below wx.heap.size wx w'))
  (HD:Hid (∀ wx,Below w.heap.size w wx→Calls Tryz.prog 12 #[.agg #[.int .i64 base,.int .i64 ck,.slice px lx cx,.slice py ly cy]] wx fun e w'=>∃ p c,e=.returned (.agg #[.int .i64 base,.int .i64 ck,.slice px lx cx,.slice p ly c])∧Below wx.heap.size wx w'∧
   Hid (∀ wy,Below w'.heap.size w' wy→(Calls Tryz.prog 24 #[.agg #[.int .i64 base,.int .i64 ck,.slice px lx cx,.slice p ly c],.int .i64 kind,.agg #[.int .i64 W,.slice ao N cap],.int .i64 a,.int .i64 b] wy fun e w''=>e=.returned (.tuple #[.int .u64 U1,.int .i64 E1])∧Below wy.heap.size wy w'')∧(Calls Tryz.prog 25 #[.agg #[.int .i64 base,.int .i64 ck,.slice px lx cx,.slice p ly c],.int .i64 rates,.int .i64 kind,.agg #[.int .i64 W,.slice ao N cap],.int .i64 b] wy fun e w''=>e=.returned (.tuple #[.int .u64 U2,.int .i64 E2])∧Below wy.heap.size wy w''))))
  (HI1:Hid (∀ wx,Calls Tryz.prog 20 #[.float .f64 Y1,.int .u64 U1] wx fun e w'=>e=.returned (.bool true)∧w'=wx))
  (HI2:Hid (∀ wx,Calls Tryz.prog 20 #[.float .f64 Y2,.int .u64 U2] wx fun e w'=>e=.returned (.bool true)∧w'=wx))
  (HW:Hid (∀ wx,Calls Tryz.prog 9 #[] wx fun e w'=>e=.returned (.bool true)∧Below wx.heap.size wx w')) :
  Calls Tryz.prog 5 #[.agg #[.int .i64 base,.int .i64 ck,.slice px lx cx,.slice py ly cy],.int .i64 rates,.int .i64 kind,.agg #[.int .i64 W,.slice ao N cap],.int .i64 a,.int .i64 b] w fun e w'=>e=.returned (.bool true)∧Below w.heap.size w w':=by
 have HB:=hideS (cJ w base ck W (.slice px lx cx) (.slice py ly cy) (.slice ao N cap) 25)
 go_enter Tryz.func5,Tryz.ntmps5
 go_wp2_with fail
 refine (HF.out _).mono ?_
 rintro e w1 ⟨rfl,hb1⟩
 have HB1:=hideS (HB.out.step hb1)
 clear hb1 HB HF
 have t0:=HB1.out.t0
 have t1:=HB1.out.t1
 have t2:=HB1.out.t2
 have t3:=HB1.out.t3
 have k0:=HB1.out.k0
 have k1:=HB1.out.k1
 cases S
 ·go_wp2_with fail
  refine (HW.out _).mono ?_
  rintro e w9 ⟨rfl,hb9⟩
  go_wp2_with fail
  go_ret
  exact⟨rfl,(HB1.out.step hb9).bl⟩
 ·by_cases h8:8<N
  ·have e8:decide ((8:Int)<(N:Int))=true:=decide_eq_true (by omega)
   clear h8
   go_wp2_with fail
   refine (HW.out _).mono ?_
   rintro e w9 ⟨rfl,hb9⟩
   go_wp2_with fail
   go_ret
   exact⟨rfl,(HB1.out.step hb9).bl⟩
  ·have e8:decide ((8:Int)<(N:Int))=false:=decide_eq_false (by omega)
   by_cases h6:kind=6
   ·by_cases h0:N=0
    ·subst h6 h0
     clear h8 e8
     go_wp2_with fail
     refine (HD.out _ HB1.out.bl).mono ?_
     rintro e w3 ⟨p,c,rfl,hb3,HQ⟩
     have HB3:=hideS (HB1.out.step hb3)
     have HB4:=hideS (HB3.out.step ((Below.refl _ w3).alloc (Nat.le_refl _) (.cells #[.int .i64 base,.int .i64 ck,.slice px lx cx,.slice p ly c] 32)))
     have HV4:=hideS (eL w3 base ck (.slice px lx cx) (.slice p ly c))
     have HQ4:=hideS (fun wy (hy:Below (w3.alloc (.cells #[.int .i64 base,.int .i64 ck,.slice px lx cx,.slice p ly c] 32)).heap.size (w3.alloc (.cells #[.int .i64 base,.int .i64 ck,.slice px lx cx,.slice p ly c] 32)) wy)=>HQ.out wy (HV4.out.bl.trans (hy.mono HV4.out.bl.size)))
     clear hb3 t0 t1 t2 t3 k0 k1 HQ HD
     have t0:=HB4.out.t0
     have t1:=HB4.out.t1
     have t2:=HB4.out.t2
     have t3:=HB4.out.t3
     have k0:=HB4.out.k0
     have k1:=HB4.out.k1
     have r0:=HV4.out.t0
     have r1:=HV4.out.t1
     have r2:=HV4.out.t2
     have r3:=HV4.out.t3
     go_wp2_with fail
     refine (HP1.out _ HB4.out.bl).mono ?_
     rintro e w5 ⟨rfl,hb5⟩
     have HB5:=hideS (HB4.out.step hb5)
     have HV5:=hideS (HV4.out.step hb5)
     have HQ5:=hideS (HQ4.out w5 hb5)
     have hbb:=hb5
     clear t0 t1 t2 t3 k0 k1 r0 r1 r2 r3 HP1
     have t0:=HB5.out.t0
     have t1:=HB5.out.t1
     have t2:=HB5.out.t2
     have t3:=HB5.out.t3
     have k0:=HB5.out.k0
     have k1:=HB5.out.k1
     have r0:=HV5.out.t0
     have r1:=HV5.out.t1
     have r2:=HV5.out.t2
     have r3:=HV5.out.t3
     go_wp2_with fail
     refine HQ5.out.1.mono ?_
     rintro e w6 ⟨rfl,hb6⟩
     have HB6:=hideS (HB5.out.step hb6)
     have HV6:=hideS (HV5.out.step hb6)
     have hbc:=hbb.trans (hb6.mono hbb.size)
     clear t0 t1 t2 t3 k0 k1 r0 r1 r2 r3
     have t0:=HB6.out.t0
     have t1:=HB6.out.t1
     have t2:=HB6.out.t2
     have t3:=HB6.out.t3
     have k0:=HB6.out.k0
     have k1:=HB6.out.k1
     have r0:=HV6.out.t0
     have r1:=HV6.out.t1
     have r2:=HV6.out.t2
     have r3:=HV6.out.t3
     go_wp2_with fail
     refine (HP2.out _ HB6.out.bl).mono ?_
     rintro e w7 ⟨rfl,hb7⟩
     have HB7:=hideS (HB6.out.step hb7)
     have HV7:=hideS (HV6.out.step hb7)
     have HQ7:=hideS (HQ4.out w7 (hbc.trans (hb7.mono hbc.size)))
     clear t0 t1 t2 t3 k0 k1 r0 r1 r2 r3 HP2
     have t0:=HB7.out.t0
     have t1:=HB7.out.t1
     have t2:=HB7.out.t2
     have t3:=HB7.out.t3
     have k0:=HB7.out.k0
     have k1:=HB7.out.k1
     have r0:=HV7.out.t0
     have r1:=HV7.out.t1
     have r2:=HV7.out.t2
     have r3:=HV7.out.t3
     go_wp2_with fail
     refine HQ7.out.2.mono ?_
     rintro e w8 ⟨rfl,hb8⟩
     have HB8:=hideS (HB7.out.step hb8)
     clear t0 t1 t2 t3 k0 k1 r0 r1 r2 r3 hb8 hb7 hb6 hb5 hbb hbc HB7 HB6 HB5 HB4 HB3 HV7 HV6 HV5 HV4 HQ4 HQ5 HQ7
     go_wp2_with fail
     refine (HI1.out _).mono ?_
     rintro e w' ⟨rfl,rfl⟩
     go_wp2_with fail
     refine (HI2.out _).mono ?_
     rintro e w' ⟨rfl,rfl⟩
     go_wp2_with fail
     refine (HW.out _).mono ?_
     rintro e w9 ⟨rfl,hb9⟩
     go_wp2_with fail
     go_ret
     exact⟨rfl,(HB8.out.step hb9).bl⟩
    ·have e6:(kind==6)=true:=beq_iff_eq.2 h6
     have e0:decide ((0:Int)<(N:Int))=true:=decide_eq_true (by omega)
     have e0':decide (0<N)=true:=decide_eq_true (by omega)
     have e0'':0<N:=by omega
     clear h8 h6 h0
     go_wp2_with fail
     all_goals first
      | (refine (HW.out _).mono ?_
         rintro e w9 ⟨rfl,hb9⟩
         go_wp2_with fail
         go_ret
         exact⟨rfl,(HB1.out.step hb9).bl⟩)
      | (refine (HD.out _ HB1.out.bl).mono ?_
         rintro e w3 ⟨p,c,rfl,hb3,HQ⟩
         have HB3:=hideS (HB1.out.step hb3)
         have HB4:=hideS (HB3.out.step ((Below.refl _ w3).alloc (Nat.le_refl _) (.cells #[.int .i64 base,.int .i64 ck,.slice px lx cx,.slice p ly c] 32)))
         have HV4:=hideS (eL w3 base ck (.slice px lx cx) (.slice p ly c))
         have HQ4:=hideS (fun wy (hy:Below (w3.alloc (.cells #[.int .i64 base,.int .i64 ck,.slice px lx cx,.slice p ly c] 32)).heap.size (w3.alloc (.cells #[.int .i64 base,.int .i64 ck,.slice px lx cx,.slice p ly c] 32)) wy)=>HQ.out wy (HV4.out.bl.trans (hy.mono HV4.out.bl.size)))
         clear hb3 t0 t1 t2 t3 k0 k1 HQ HD
         have t0:=HB4.out.t0
         have t1:=HB4.out.t1
         have t2:=HB4.out.t2
         have t3:=HB4.out.t3
         have k0:=HB4.out.k0
         have k1:=HB4.out.k1
         have r0:=HV4.out.t0
         have r1:=HV4.out.t1
         have r2:=HV4.out.t2
         have r3:=HV4.out.t3
         go_wp2_with fail
         refine (HP1.out _ HB4.out.bl).mono ?_
         rintro e w5 ⟨rfl,hb5⟩
         have HB5:=hideS (HB4.out.step hb5)
         have HV5:=hideS (HV4.out.step hb5)
         have HQ5:=hideS (HQ4.out w5 hb5)
         have hbb:=hb5
         clear t0 t1 t2 t3 k0 k1 r0 r1 r2 r3 HP1
         have t0:=HB5.out.t0
         have t1:=HB5.out.t1
         have t2:=HB5.out.t2
         have t3:=HB5.out.t3
         have k0:=HB5.out.k0
         have k1:=HB5.out.k1
         have r0:=HV5.out.t0
         have r1:=HV5.out.t1
         have r2:=HV5.out.t2
         have r3:=HV5.out.t3
         go_wp2_with fail
         refine HQ5.out.1.mono ?_
         rintro e w6 ⟨rfl,hb6⟩
         have HB6:=hideS (HB5.out.step hb6)
         have HV6:=hideS (HV5.out.step hb6)
         have hbc:=hbb.trans (hb6.mono hbb.size)
         clear t0 t1 t2 t3 k0 k1 r0 r1 r2 r3
         have t0:=HB6.out.t0
         have t1:=HB6.out.t1
         have t2:=HB6.out.t2
         have t3:=HB6.out.t3
         have k0:=HB6.out.k0
         have k1:=HB6.out.k1
         have r0:=HV6.out.t0
         have r1:=HV6.out.t1
         have r2:=HV6.out.t2
         have r3:=HV6.out.t3
         go_wp2_with fail
         refine (HP2.out _ HB6.out.bl).mono ?_
         rintro e w7 ⟨rfl,hb7⟩
         have HB7:=hideS (HB6.out.step hb7)
         have HV7:=hideS (HV6.out.step hb7)
         have HQ7:=hideS (HQ4.out w7 (hbc.trans (hb7.mono hbc.size)))
         clear t0 t1 t2 t3 k0 k1 r0 r1 r2 r3 HP2
         have t0:=HB7.out.t0
         have t1:=HB7.out.t1
         have t2:=HB7.out.t2
         have t3:=HB7.out.t3
         have k0:=HB7.out.k0
         have k1:=HB7.out.k1
         have r0:=HV7.out.t0
         have r1:=HV7.out.t1
         have r2:=HV7.out.t2
         have r3:=HV7.out.t3
         go_wp2_with fail
         refine HQ7.out.2.mono ?_
         rintro e w8 ⟨rfl,hb8⟩
         have HB8:=hideS (HB7.out.step hb8)
         clear t0 t1 t2 t3 k0 k1 r0 r1 r2 r3 hb8 hb7 hb6 hb5 hbb hbc HB7 HB6 HB5 HB4 HB3 HV7 HV6 HV5 HV4 HQ4 HQ5 HQ7
         go_wp2_with fail
         refine (HI1.out _).mono ?_
         rintro e w' ⟨rfl,rfl⟩
         go_wp2_with fail
         refine (HI2.out _).mono ?_
         rintro e w' ⟨rfl,rfl⟩
         go_wp2_with fail
         refine (HW.out _).mono ?_
         rintro e w9 ⟨rfl,hb9⟩
         go_wp2_with fail
         go_ret
         exact⟨rfl,(HB8.out.step hb9).bl⟩)
   ·have e6:(kind==6)=false:=beq_eq_false_iff_ne.2 h6
    clear h8 h6
    go_wp2_with fail
    refine (HD.out _ HB1.out.bl).mono ?_
    rintro e w3 ⟨p,c,rfl,hb3,HQ⟩
    have HB3:=hideS (HB1.out.step hb3)
    have HB4:=hideS (HB3.out.step ((Below.refl _ w3).alloc (Nat.le_refl _) (.cells #[.int .i64 base,.int .i64 ck,.slice px lx cx,.slice p ly c] 32)))
    have HV4:=hideS (eL w3 base ck (.slice px lx cx) (.slice p ly c))
    have HQ4:=hideS (fun wy (hy:Below (w3.alloc (.cells #[.int .i64 base,.int .i64 ck,.slice px lx cx,.slice p ly c] 32)).heap.size (w3.alloc (.cells #[.int .i64 base,.int .i64 ck,.slice px lx cx,.slice p ly c] 32)) wy)=>HQ.out wy (HV4.out.bl.trans (hy.mono HV4.out.bl.size)))
    clear hb3 t0 t1 t2 t3 k0 k1 HQ HD
    have t0:=HB4.out.t0
    have t1:=HB4.out.t1
    have t2:=HB4.out.t2
    have t3:=HB4.out.t3
    have k0:=HB4.out.k0
    have k1:=HB4.out.k1
    have r0:=HV4.out.t0
    have r1:=HV4.out.t1
    have r2:=HV4.out.t2
    have r3:=HV4.out.t3
    go_wp2_with fail
    refine (HP1.out _ HB4.out.bl).mono ?_
    rintro e w5 ⟨rfl,hb5⟩
    have HB5:=hideS (HB4.out.step hb5)
    have HV5:=hideS (HV4.out.step hb5)
    have HQ5:=hideS (HQ4.out w5 hb5)
    have hbb:=hb5
    clear t0 t1 t2 t3 k0 k1 r0 r1 r2 r3 HP1
    have t0:=HB5.out.t0
    have t1:=HB5.out.t1
    have t2:=HB5.out.t2
    have t3:=HB5.out.t3
    have k0:=HB5.out.k0
    have k1:=HB5.out.k1
    have r0:=HV5.out.t0
    have r1:=HV5.out.t1
    have r2:=HV5.out.t2
    have r3:=HV5.out.t3
    go_wp2_with fail
    refine HQ5.out.1.mono ?_
    rintro e w6 ⟨rfl,hb6⟩
    have HB6:=hideS (HB5.out.step hb6)
    have HV6:=hideS (HV5.out.step hb6)
    have hbc:=hbb.trans (hb6.mono hbb.size)
    clear t0 t1 t2 t3 k0 k1 r0 r1 r2 r3
    have t0:=HB6.out.t0
    have t1:=HB6.out.t1
    have t2:=HB6.out.t2
    have t3:=HB6.out.t3
    have k0:=HB6.out.k0
    have k1:=HB6.out.k1
    have r0:=HV6.out.t0
    have r1:=HV6.out.t1
    have r2:=HV6.out.t2
    have r3:=HV6.out.t3
    go_wp2_with fail
    refine (HP2.out _ HB6.out.bl).mono ?_
    rintro e w7 ⟨rfl,hb7⟩
    have HB7:=hideS (HB6.out.step hb7)
    have HV7:=hideS (HV6.out.step hb7)
    have HQ7:=hideS (HQ4.out w7 (hbc.trans (hb7.mono hbc.size)))
    clear t0 t1 t2 t3 k0 k1 r0 r1 r2 r3 HP2
    have t0:=HB7.out.t0
    have t1:=HB7.out.t1
    have t2:=HB7.out.t2
    have t3:=HB7.out.t3
    have k0:=HB7.out.k0
    have k1:=HB7.out.k1
    have r0:=HV7.out.t0
    have r1:=HV7.out.t1
    have r2:=HV7.out.t2
    have r3:=HV7.out.t3
    go_wp2_with fail
    refine HQ7.out.2.mono ?_
    rintro e w8 ⟨rfl,hb8⟩
    have HB8:=hideS (HB7.out.step hb8)
    clear t0 t1 t2 t3 k0 k1 r0 r1 r2 r3 hb8 hb7 hb6 hb5 hbb hbc HB7 HB6 HB5 HB4 HB3 HV7 HV6 HV5 HV4 HQ4 HQ5 HQ7
    go_wp2_with fail
    refine (HI1.out _).mono ?_
    rintro e w' ⟨rfl,rfl⟩
    go_wp2_with fail
    refine (HI2.out _).mono ?_
    rintro e w' ⟨rfl,rfl⟩
    go_wp2_with fail
    refine (HW.out _).mono ?_
    rintro e w9 ⟨rfl,hb9⟩
    go_wp2_with fail
    go_ret
    exact⟨rfl,(HB8.out.step hb9).bl⟩
set_option maxRecDepth 20000 in
set_option maxHeartbeats 3200000 in
theorem nO (base ck rates kind W a b:Int) (S:Bool) (px py ao:Option Addr) (lx cx ly cy N cap:Nat) (w:World) (hN:N≤9223372036854775807) (h8:8<N)
  (HF:Hid (∀ wx,Calls Tryz.prog 22 #[.agg #[.int .i64 base,.int .i64 ck,.slice px lx cx,.slice py ly cy]] wx fun e w'=>e=.returned (.bool S)∧Below wx.heap.size wx w'))
  (HW:Hid (∀ wx,Calls Tryz.prog 9 #[] wx fun e w'=>e=.returned (.bool true)∧Below wx.heap.size wx w')) :
  Calls Tryz.prog 5 #[.agg #[.int .i64 base,.int .i64 ck,.slice px lx cx,.slice py ly cy],.int .i64 rates,.int .i64 kind,.agg #[.int .i64 W,.slice ao N cap],.int .i64 a,.int .i64 b] w fun e w'=>e=.returned (.bool true)∧Below w.heap.size w w':=by
 have HB:=hideS (cJ w base ck W (.slice px lx cx) (.slice py ly cy) (.slice ao N cap) 25)
 have e8:decide ((8:Int)<(N:Int))=true:=decide_eq_true (by omega)
 clear h8
 go_enter Tryz.func5,Tryz.ntmps5
 go_wp2_with fail
 refine (HF.out _).mono ?_
 rintro e w1 ⟨rfl,hb1⟩
 have HB1:=hideS (HB.out.step hb1)
 clear hb1 HB HF
 have k0:=HB1.out.k0
 have k1:=HB1.out.k1
 cases S
 all_goals
  go_wp2_with fail
  refine (HW.out _).mono ?_
  rintro e w9 ⟨rfl,hb9⟩
  go_wp2_with fail
  go_ret
  exact⟨rfl,(HB1.out.step hb9).bl⟩
end Go.Proofs.YtcmbfflemoccmaaGreat
