/-  -/
import Derived.Test.YtpddmnmhdahnlaaGreatHas
import Derived.Test.YtpddmnmhdahnlaaGreatHbr
import Derived.Test.YtpddmnmhdahnlaaGreatHaw
import Derived.Test.YtpddmnmhdahnlaaGreatHav
import Derived.Test.YtpddmnmhdahnlaaGreatHbh
import Derived.Test.YtpddmnmhdahnlaaGreatHbp
import Derived.Test.YtpddmnmhdahnlaaGreatHbq
namespace Go.Proofs.YtpddmnmhdahnlaaGreat
open Go.RowKit

end Go.Proofs.YtpddmnmhdahnlaaGreat
namespace Go.Proofs.YtpddmnmhdahnlaaGreat
open Go.RowKit

set_option maxRecDepth 20000 in
set_option maxHeartbeats 800000 in
theorem qt (base kind x E:Int) (vd vf:Value) (w:World) (hE:E≠0) (HC:Hid (∀ wx,Below w.heap.size w wx→Calls Tryz.prog 31 #[.agg #[.int .i64 base,.int .i64 kind,vd,vf]] wx fun e w'=>e=.returned (.int .i64 E)∧Below wx.heap.size wx w')) :
  Calls Tryz.prog 34 #[.agg #[.int .i64 base,.int .i64 kind,vd,vf],.int .i64 x] w fun e w'=>e=.returned (.tuple #[.float .f64 0,.int .i64 E])∧Below w.heap.size w w':=by
 have HB:=hideS (bA w base kind vd vf)
 have d1:(E !=0)=true:=bne_iff_ne.2 hE
 clear hE
 go_enter Tryz.func34,Tryz.ntmps34
 go_wp2_with (go_at_call 31;refine (HC.out _ HB.out.bl).mono ?_;rintro e w2 ⟨rfl,hb2⟩;have HB2:=hideS (HB.out.step hb2);clear hb2)
 go_ret2
 exact⟨rfl,HB2.out.bl⟩
set_option maxRecDepth 20000 in
set_option maxHeartbeats 800000 in
theorem tu (base kind x E:Int) (V:Nat) (vd vf:Value) (w:World) (HC:Hid (∀ wx,Below w.heap.size w wx→Calls Tryz.prog 31 #[.agg #[.int .i64 base,.int .i64 kind,vd,vf]] wx fun e w'=>e=.returned (.int .i64 0)∧Below wx.heap.size wx w'))
  (HT:Hid (∀ wx,Below w.heap.size w wx→Calls Tryz.prog 75 #[.agg #[.int .i64 base,.int .i64 kind,vd,vf]] wx fun e w'=>∃ gx lx cx gy ly cy,e=.returned (.agg #[.int .i64 kind,.slice (some ⟨gx,0,none⟩) lx cx,.slice (some ⟨gy,0,none⟩) ly cy])∧Below wx.heap.size wx w'∧Hid (∀ wy,Below w'.heap.size w' wy→Calls Tryz.prog 74 #[.agg #[.int .i64 kind,.slice (some ⟨gx,0,none⟩) lx cx,.slice (some ⟨gy,0,none⟩) ly cy],.int .i64 x] wy fun e w''=>e=.returned (.tuple #[.float .f64 V,.int .i64 E])∧Below wy.heap.size wy w''))) :
  Calls Tryz.prog 34 #[.agg #[.int .i64 base,.int .i64 kind,vd,vf],.int .i64 x] w fun e w'=>e=.returned (.tuple #[.float .f64 V,.int .i64 E])∧Below w.heap.size w w':=by
 have HB:=hideS (bA w base kind vd vf)
 go_enter Tryz.func34,Tryz.ntmps34
 go_wp2_with fail
 refine (HC.out _ HB.out.bl).mono ?_
 rintro e w2 ⟨rfl,hb2⟩
 have HB2:=hideS (HB.out.step hb2)
 clear hb2 HB HC
 have t0:=HB2.out.t0
 have t1:=HB2.out.t1
 have t2:=HB2.out.t2
 have t3:=HB2.out.t3
 go_wp2_with fail
 refine (HT.out _ HB2.out.bl).mono ?_
 rintro e w3 ⟨gx,lx,cx,gy,ly,cy,rfl,hb3,HA⟩
 have HB3:=hideS (HB2.out.step hb3)
 clear hb3 HB2 HT t0 t1 t2 t3
 go_wp2_with fail
 refine (HA.out _ (Below.refl _ _)).mono ?_
 rintro e w4 ⟨rfl,hb4⟩
 have HB4:=hideS (HB3.out.step hb4)
 clear hb4 HB3 HA
 go_wp2_with fail
 go_ret2
 exact⟨rfl,HB4.out.bl⟩
theorem Gf (base:Int) (ds:List Int) {n:Nat} (h:ds.length=n):(ctX base ds).length=1+n:=by rw [mK,h,Nat.add_comm]
theorem Gg (fs:List Nat) {n:Nat} (h:fs.length=n):(ctY fs).length=1+n:=by rw [Ay,h,Nat.add_comm]
theorem qu (base kind x E:Int) (V:Nat) (pd pf:Option Addr) (bd od cd b2 o2 cf:Nat) (ds:List Int) (fs:List Nat) (w:World) (hs:TFl w pd pf bd od b2 o2 ds fs) (h:FacO base kind ds fs x V E) :
  Calls Tryz.prog 34 #[.agg #[.int .i64 base,.int .i64 kind,.slice pd ds.length cd,.slice pf fs.length cf],.int .i64 x] w fun e w'=>e=.returned (.tuple #[.float .f64 V,.int .i64 E])∧Below w.heap.size w w':=by
 cases h with
 | bad E h hE=>exact qt base kind x E _ _ w hE (fun wx hb=>cM base kind pd pf bd od cd b2 o2 cf ds fs wx (hs.below hb) h)
 | ok ok V E hA=>
  refine tu base kind x E V _ _ w (fun wx hb=>cM base kind pd pf bd od cd b2 o2 cf ds fs wx (hs.below hb) (.ok ok)) (fun wx hb=>?_)
  have lo:=ok.lo
  have hl:=ok.len
  have hs':=hs.below hb
  have hx:=hs'.x
  have hy:=hs'.y
  rw [hl] at hy ⊢
  obtain rfl:=hx.at_ (by omega)
  obtain rfl:=hy.at_ (by omega)
  refine (we base kind bd od cd b2 o2 cf ds.length ds fs wx hx hy rfl hl lo ok.hi).mono fun e w' ⟨gx,cx,gy,cy,he,ox,oy,hbl⟩=>⟨gx,1+ds.length,cx,gy,1+ds.length,cy,he,hbl,fun wy hwy=>?_⟩
  have ex:=Gf base ds (n:=ds.length) rfl
  have ey:=Gg fs hl
  obtain⟨g1,c1,q1,s1,_,_,_⟩:=fI (xs:=ctX base ds) ox ex (by omega)
  obtain⟨g2,c2,q2,s2,_,_,_⟩:=dO (xs:=ctY fs) oy ey (by omega)
  injection q1 with q1 _ _
  injection q1 with q1
  injection q1 with q1
  injection q2 with q2 _ _
  injection q2 with q2
  injection q2 with q2
  subst q1 q2
  have:=Cq kind x E V (some ⟨gx,0,none⟩) (some ⟨gy,0,none⟩) gx 0 cx gy 0 cy (ctX base ds) (ctY fs) wy hA (TFl.below ⟨by rw [ex];exact s1,by rw [ey];exact s2,FN hs.f⟩ hwy)
  rw [ex,ey] at this
  exact this
end Go.Proofs.YtpddmnmhdahnlaaGreat
namespace Go.Proofs.YtpddmnmhdahnlaaGreat
open Go.RowKit

def avD:List Int:=[100,200]
def avF:List Nat:=[4602678819172646912,4598175219545276416]
structure AvB (w wr:World):Prop where
 t0:wr.cell? ⟨w.heap.size+1+1,0,none⟩=some (.int .i64 0)
 t1:wr.cell? ⟨w.heap.size+1+1,1,none⟩=some (.int .i64 2)
 t2:wr.cell? ⟨w.heap.size+1+1,2,none⟩=some (.slice (some ⟨w.heap.size,0,none⟩) 2 2)
 t3:wr.cell? ⟨w.heap.size+1+1,3,none⟩=some (.slice (some ⟨w.heap.size+1,0,none⟩) 2 2)
 src:TFl wr (some ⟨w.heap.size,0,none⟩) (some ⟨w.heap.size+1,0,none⟩) w.heap.size 0 (w.heap.size+1) 0 avD avF
 bl:Below w.heap.size w wr
 lt:w.heap.size+1+1<wr.heap.size
theorem AvB.step {w wr w':World} (h:AvB w wr) (hb:Below wr.heap.size wr w'):AvB w w':=
 ⟨(hb.cell (p:=⟨w.heap.size+1+1,0,none⟩) h.lt).trans h.t0,(hb.cell (p:=⟨w.heap.size+1+1,1,none⟩) h.lt).trans h.t1,(hb.cell (p:=⟨w.heap.size+1+1,2,none⟩) h.lt).trans h.t2,(hb.cell (p:=⟨w.heap.size+1+1,3,none⟩) h.lt).trans h.t3,h.src.below hb,h.bl.trans (hb.mono h.bl.size),Nat.lt_of_lt_of_le h.lt hb.size⟩
end Go.Proofs.YtpddmnmhdahnlaaGreat
