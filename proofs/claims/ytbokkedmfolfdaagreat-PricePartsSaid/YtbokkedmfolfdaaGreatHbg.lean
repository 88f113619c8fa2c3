/-  -/
import Derived.Test.YtbokkedmfolfdaaGreatHak
import Derived.Test.YtbokkedmfolfdaaGreatHbf
import Derived.Test.YtbokkedmfolfdaaGreatHao
import Derived.Test.YtbokkedmfolfdaaGreatHan
import Derived.Test.YtbokkedmfolfdaaGreatHav
import Derived.Test.YtbokkedmfolfdaaGreatHbd
import Derived.Test.YtbokkedmfolfdaaGreatHbe
namespace Go.Proofs.YtbokkedmfolfdaaGreat
open Go.RowKit

end Go.Proofs.YtbokkedmfolfdaaGreat
namespace Go.Proofs.YtbokkedmfolfdaaGreat
open Go.RowKit

set_option maxRecDepth 20000 in
set_option maxHeartbeats 800000 in
theorem jx (base kind x E:Int) (vd vf:Value) (w:World) (hE:E≠0) (HC:Hid (∀ wx,Below w.heap.size w wx→Calls Tryz.prog 34 #[.agg #[.int .i64 base,.int .i64 kind,vd,vf]] wx fun e w'=>e=.returned (.int .i64 E)∧Below wx.heap.size wx w')) :
  Calls Tryz.prog 35 #[.agg #[.int .i64 base,.int .i64 kind,vd,vf],.int .i64 x] w fun e w'=>e=.returned (.tuple #[.float .f64 0,.int .i64 E])∧Below w.heap.size w w':=by
 have HB:=hideS (aM w base kind vd vf)
 have d1:(E !=0)=true:=bne_iff_ne.2 hE
 clear hE
 go_enter Tryz.func35,Tryz.ntmps35
 go_wp2_with (go_at_call 34;refine (HC.out _ HB.out.bl).mono ?_;rintro e w2 ⟨rfl,hb2⟩;have HB2:=hideS (HB.out.step hb2);clear hb2)
 go_ret2
 exact⟨rfl,HB2.out.bl⟩
set_option maxRecDepth 20000 in
set_option maxHeartbeats 800000 in
theorem lu (base kind x E:Int) (V:Nat) (vd vf:Value) (w:World) (HC:Hid (∀ wx,Below w.heap.size w wx→Calls Tryz.prog 34 #[.agg #[.int .i64 base,.int .i64 kind,vd,vf]] wx fun e w'=>e=.returned (.int .i64 0)∧Below wx.heap.size wx w'))
  (HT:Hid (∀ wx,Below w.heap.size w wx→Calls Tryz.prog 58 #[.agg #[.int .i64 base,.int .i64 kind,vd,vf]] wx fun e w'=>∃ gx lx cx gy ly cy,e=.returned (.agg #[.int .i64 kind,.slice (some ⟨gx,0,none⟩) lx cx,.slice (some ⟨gy,0,none⟩) ly cy])∧Below wx.heap.size wx w'∧Hid (∀ wy,Below w'.heap.size w' wy→Calls Tryz.prog 57 #[.agg #[.int .i64 kind,.slice (some ⟨gx,0,none⟩) lx cx,.slice (some ⟨gy,0,none⟩) ly cy],.int .i64 x] wy fun e w''=>e=.returned (.tuple #[.float .f64 V,.int .i64 E])∧Below wy.heap.size wy w''))) :
  Calls Tryz.prog 35 #[.agg #[.int .i64 base,.int .i64 kind,vd,vf],.int .i64 x] w fun e w'=>e=.returned (.tuple #[.float .f64 V,.int .i64 E])∧Below w.heap.size w w':=by
 have HB:=hideS (aM w base kind vd vf)
 go_enter Tryz.func35,Tryz.ntmps35
 go_wp2_with fail
 refine (HC.out _ HB.out.bl).mono ?_
 rintro e w2 ⟨rfl,hb2⟩
 have HB2:=hideS (HB.out.step hb2)
 clear hb2 HB HC
 have t0:=HB2.out.t0
 have t1:=HB2.out.t1
 have t2:=HB2.out.t2
 have t3:=HB2.out.t3
 go_wp2_with fail
 refine (HT.out _ HB2.out.bl).mono ?_
 rintro e w3 ⟨gx,lx,cx,gy,ly,cy,rfl,hb3,HA⟩
 have HB3:=hideS (HB2.out.step hb3)
 clear hb3 HB2 HT t0 t1 t2 t3
 go_wp2_with fail
 refine (HA.out _ (Below.refl _ _)).mono ?_
 rintro e w4 ⟨rfl,hb4⟩
 have HB4:=hideS (HB3.out.step hb4)
 clear hb4 HB3 HA
 go_wp2_with fail
 go_ret2
 exact⟨rfl,HB4.out.bl⟩
theorem uR (base:Int) (ds:List Int) {n:Nat} (h:ds.length=n):(ctX base ds).length=1+n:=by rw [gM,h,Nat.add_comm]
theorem uS (fs:List Nat) {n:Nat} (h:fs.length=n):(ctY fs).length=1+n:=by rw [pM,h,Nat.add_comm]
theorem jy (base kind x E:Int) (V:Nat) (pd pf:Option Addr) (bd od cd b2 o2 cf:Nat) (ds:List Int) (fs:List Nat) (w:World) (hs:TFl w pd pf bd od b2 o2 ds fs) (h:FacO base kind ds fs x V E) :
  Calls Tryz.prog 35 #[.agg #[.int .i64 base,.int .i64 kind,.slice pd ds.length cd,.slice pf fs.length cf],.int .i64 x] w fun e w'=>e=.returned (.tuple #[.float .f64 V,.int .i64 E])∧Below w.heap.size w w':=by
 cases h with
 | bad E h hE=>exact jx base kind x E _ _ w hE (fun wx hb=>dh base kind pd pf bd od cd b2 o2 cf ds fs wx (hs.below hb) h)
 | ok ok V E hA=>
  refine lu base kind x E V _ _ w (fun wx hb=>dh base kind pd pf bd od cd b2 o2 cf ds fs wx (hs.below hb) (.ok ok)) (fun wx hb=>?_)
  have lo:=ok.lo
  have hl:=ok.len
  have hs':=hs.below hb
  have hx:=hs'.x
  have hy:=hs'.y
  rw [hl] at hy ⊢
  obtain rfl:=hx.at_ (by omega)
  obtain rfl:=hy.at_ (by omega)
  refine (mY base kind bd od cd b2 o2 cf ds.length ds fs wx hx hy rfl hl lo ok.hi).mono fun e w' ⟨gx,cx,gy,cy,he,ox,oy,hbl⟩=>⟨gx,1+ds.length,cx,gy,1+ds.length,cy,he,hbl,fun wy hwy=>?_⟩
  have ex:=uR base ds (n:=ds.length) rfl
  have ey:=uS fs hl
  obtain⟨g1,c1,q1,s1,_,_,_⟩:=eZ (xs:=ctX base ds) ox ex (by omega)
  obtain⟨g2,c2,q2,s2,_,_,_⟩:=fP (xs:=ctY fs) oy ey (by omega)
  injection q1 with q1 _ _
  injection q1 with q1
  injection q1 with q1
  injection q2 with q2 _ _
  injection q2 with q2
  injection q2 with q2
  subst q1 q2
  have:=rK kind x E V (some ⟨gx,0,none⟩) (some ⟨gy,0,none⟩) gx 0 cx gy 0 cy (ctX base ds) (ctY fs) wy hA (TFl.below ⟨by rw [ex];exact s1,by rw [ey];exact s2,uA hs.f⟩ hwy)
  rw [ex,ey] at this
  exact this
end Go.Proofs.YtbokkedmfolfdaaGreat
namespace Go.Proofs.YtbokkedmfolfdaaGreat
open Go.RowKit

def avD:List Int:=[100,200]
def avF:List Nat:=[4602678819172646912,4598175219545276416]
theorem av_ok:OkV 0 2 avD avF:=⟨by decide,by decide,by decide,by decide,by decide,by decide,rfl,fun i hi=>by
 have hi':i<2:=hi
 rcases (show i=0∨i=1 by omega) with rfl | rfl<;>decide+kernel⟩
theorem yr:nU (ctY avF) 0 100 50=4604930618986332160:=by decide+kernel
theorem yT:FacO 0 2 avD avF 50 4604930618986332160 0:=by
 have hI:Inside (ctX 0 avD) 50 0 100 50:=⟨by decide,by decide,by decide,by decide,by decide⟩
 have hk:FindR (ctX 0 avD) 50 0:=⟨by decide,by decide,fun _=>by decide⟩
 have:=AtO.piece (kind:=2) (xs:=ctX 0 avD) (ys:=ctY avF) (x:=50) 0 100 50 av_ok.table (.at_ av_ok.table (by decide) (by decide) 0 hk (fun j hj=>by omega)) hk (by decide) hI
 unfold rF at this
 rw [if_neg (by decide),if_pos rfl,yr] at this
 exact .ok av_ok _ _ this
def lz:Obj:=.cells #[.int .i64 100,.int .i64 200] 3
def ns:Obj:=.cells #[.float .f64 4602678819172646912,.float .f64 4598175219545276416] 34
def sf:Obj:=.cells #[.int .i64 0,.int .i64 0,.slice none 0 0,.slice none 0 0] 26
def av3 (w:World):World:=((w.alloc lz).alloc ns).alloc sf
def av4 (w w3:World):World:=(((w3.setCell ⟨w.heap.size+1+1,0,none⟩ (.int .i64 0)).setCell ⟨w.heap.size+1+1,1,none⟩ (.int .i64 2)).setCell ⟨w.heap.size+1+1,2,none⟩ (.slice (some ⟨w.heap.size,0,none⟩) 2 2)).setCell ⟨w.heap.size+1+1,3,none⟩ (.slice (some ⟨w.heap.size+1,0,none⟩) 2 2)
structure AvB (w wr:World):Prop where
 t0:wr.cell? ⟨w.heap.size+1+1,0,none⟩=some (.int .i64 0)
 t1:wr.cell? ⟨w.heap.size+1+1,1,none⟩=some (.int .i64 2)
 t2:wr.cell? ⟨w.heap.size+1+1,2,none⟩=some (.slice (some ⟨w.heap.size,0,none⟩) 2 2)
 t3:wr.cell? ⟨w.heap.size+1+1,3,none⟩=some (.slice (some ⟨w.heap.size+1,0,none⟩) 2 2)
 src:TFl wr (some ⟨w.heap.size,0,none⟩) (some ⟨w.heap.size+1,0,none⟩) w.heap.size 0 (w.heap.size+1) 0 avD avF
 bl:Below w.heap.size w wr
 lt:w.heap.size+1+1<wr.heap.size
theorem AvB.step {w wr w':World} (h:AvB w wr) (hb:Below wr.heap.size wr w'):AvB w w':=
 ⟨(hb.cell (p:=⟨w.heap.size+1+1,0,none⟩) h.lt).trans h.t0,(hb.cell (p:=⟨w.heap.size+1+1,1,none⟩) h.lt).trans h.t1,(hb.cell (p:=⟨w.heap.size+1+1,2,none⟩) h.lt).trans h.t2,(hb.cell (p:=⟨w.heap.size+1+1,3,none⟩) h.lt).trans h.t3,h.src.below hb,h.bl.trans (hb.mono h.bl.size),Nat.lt_of_lt_of_le h.lt hb.size⟩
theorem fT (w:World):((av3 w).heap.size=w.heap.size+3∧(av3 w).heap[w.heap.size]? =some lz∧(av3 w).heap[w.heap.size+1]? =some ns∧(av3 w).heap[w.heap.size+1+1]? =some sf)∧Below w.heap.size w (av3 w):=by
 have s1:(w.alloc lz).heap.size=w.heap.size+1:=by simp
 have s2:((w.alloc lz).alloc ns).heap.size=w.heap.size+1+1:=by simp
 have b1:=(Below.refl (w.heap.size+1) (w.alloc lz)).alloc (by omega) ns
 have b2:=(Below.refl (w.heap.size+1+1) ((w.alloc lz).alloc ns)).alloc (by omega) sf
 unfold av3
 refine⟨⟨by simp,?_,?_,?_⟩,(((Below.refl _ _).alloc (Nat.le_refl _) _).alloc (by omega) _).alloc (by omega) _⟩
 ·rw [b2.block _ (by omega),b1.block _ (by omega)];exact heap_alloc_new _ _
 ·rw [b2.block _ (by omega),← s1];exact heap_alloc_new _ _
 ·rw [← s2];exact heap_alloc_new _ _
theorem si (w:World):((av3 w).cell? ⟨w.heap.size+1+1,0,none⟩=some (.int .i64 0)∧(av3 w).cell? ⟨w.heap.size+1+1,1,none⟩=some (.int .i64 0)∧(av3 w).cell? ⟨w.heap.size+1+1,2,none⟩=some (.slice none 0 0)∧(av3 w).cell? ⟨w.heap.size+1+1,3,none⟩=some (.slice none 0 0))∧∀ i,(av3 w).frozen? ⟨w.heap.size+1+1,i,none⟩=false:=by
 have h:=(fT w).1.2.2.2
 unfold sf at h
 refine⟨⟨?_,?_,?_,?_⟩,fun i=>frozen_of_row _ _ i _ _ h⟩
 all_goals
  simp only [World.cell?,h,Option.isSome_none,Bool.false_eq_true,if_false]
  rfl
theorem yt (w:World):AvB w (av4 w (av3 w)):=by
 obtain⟨⟨hz,hx,hy,ht⟩,hb⟩:=fT w
 have B2:Below (w.heap.size+1+1) (av3 w) (av4 w (av3 w)):=((((Below.refl _ (av3 w)).setCell (p:=⟨w.heap.size+1+1,0,none⟩) (Nat.le_refl _) _).setCell (p:=⟨w.heap.size+1+1,1,none⟩) (Nat.le_refl _) _).setCell (p:=⟨w.heap.size+1+1,2,none⟩) (Nat.le_refl _) _).setCell (p:=⟨w.heap.size+1+1,3,none⟩) (Nat.le_refl _) _
 unfold sf at ht
 have h4:(av4 w (av3 w)).heap[w.heap.size+1+1]? =some (.cells #[.int .i64 0,.int .i64 2,.slice (some ⟨w.heap.size,0,none⟩) 2 2,.slice (some ⟨w.heap.size+1,0,none⟩) 2 2] 26):=aA _ (aA _ (aA _ (aA _ ht)))
 have hx':(av4 w (av3 w)).heap[w.heap.size]? =some lz:=by rw [B2.block _ (by omega)];exact hx
 have hy':(av4 w (av3 w)).heap[w.heap.size+1]? =some ns:=by rw [B2.block _ (by omega)];exact hy
 have l4:=(Array.getElem?_eq_some_iff.1 h4).1
 unfold lz at hx'
 unfold ns at hy'
 refine⟨?_,?_,?_,?_,⟨⟨fun _=>rfl,fun _=>by omega,fun j hj=>?_⟩,⟨fun _=>rfl,fun _=>by omega,fun j hj=>?_⟩,fun i hi=>?_⟩,hb.trans (B2.mono (by omega)),l4⟩
 ·simp only [World.cell?,h4,Option.isSome_none,Bool.false_eq_true,if_false];rfl
 ·simp only [World.cell?,h4,Option.isSome_none,Bool.false_eq_true,if_false];rfl
 ·simp only [World.cell?,h4,Option.isSome_none,Bool.false_eq_true,if_false];rfl
 ·simp only [World.cell?,h4,Option.isSome_none,Bool.false_eq_true,if_false];rfl
 ·have hj':j<2:=hj
  rcases (show j=0∨j=1 by omega) with rfl | rfl
  all_goals
   simp only [World.cell?,hx',Option.isSome_none,Bool.false_eq_true,if_false]
   rfl
 ·have hj':j<2:=hj
  rcases (show j=0∨j=1 by omega) with rfl | rfl
  all_goals
   simp only [World.cell?,hy',Option.isSome_none,Bool.false_eq_true,if_false]
   rfl
 ·have hi':i<2:=hi
  rcases (show i=0∨i=1 by omega) with rfl | rfl<;>decide
end Go.Proofs.YtbokkedmfolfdaaGreat
