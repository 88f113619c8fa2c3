/-  -/
import Derived.Test.YtjjlnmihkadlmaaGreatHam
import Derived.Test.YtjjlnmihkadlmaaGreatHbm
import Derived.Test.YtjjlnmihkadlmaaGreatHaq
import Derived.Test.YtjjlnmihkadlmaaGreatFTab
import Derived.Test.YtjjlnmihkadlmaaGreatHba
import Derived.Test.YtjjlnmihkadlmaaGreatHbk
import Derived.Test.YtjjlnmihkadlmaaGreatHbl
import Derived.Test.YtjjlnmihkadlmaaGreatHas
namespace Go.Proofs.YtjjlnmihkadlmaaGreat
open Go.RowKit

end Go.Proofs.YtjjlnmihkadlmaaGreat
namespace Go.Proofs.YtjjlnmihkadlmaaGreat
open Go.RowKit

set_option maxRecDepth 20000 in
set_option maxHeartbeats 800000 in
theorem nR (base kind x E:Int) (vd vf:Value) (w:World) (hE:E≠0) (HC:Hid (∀ wx,Below w.heap.size w wx→Calls Tryz.prog 34 #[.agg #[.int .i64 base,.int .i64 kind,vd,vf]] wx fun e w'=>e=.returned (.int .i64 E)∧Below wx.heap.size wx w')) :
  Calls Tryz.prog 35 #[.agg #[.int .i64 base,.int .i64 kind,vd,vf],.int .i64 x] w fun e w'=>e=.returned (.tuple #[.float .f64 0,.int .i64 E])∧Below w.heap.size w w':=by
 have HB:=hideS (du w base kind vd vf)
 have d1:(E !=0)=true:=bne_iff_ne.2 hE
 clear hE
 go_enter Tryz.func35,Tryz.ntmps35
 go_wp2_with (go_at_call 34;refine (HC.out _ HB.out.bl).mono ?_;rintro e w2 ⟨rfl,hb2⟩;have HB2:=hideS (HB.out.step hb2);clear hb2)
 go_ret2
 exact⟨rfl,HB2.out.bl⟩
set_option maxRecDepth 20000 in
set_option maxHeartbeats 800000 in
theorem qT (base kind x E:Int) (V:Nat) (vd vf:Value) (w:World) (HC:Hid (∀ wx,Below w.heap.size w wx→Calls Tryz.prog 34 #[.agg #[.int .i64 base,.int .i64 kind,vd,vf]] wx fun e w'=>e=.returned (.int .i64 0)∧Below wx.heap.size wx w'))
  (HT:Hid (∀ wx,Below w.heap.size w wx→Calls Tryz.prog 79 #[.agg #[.int .i64 base,.int .i64 kind,vd,vf]] wx fun e w'=>∃ gx lx cx gy ly cy,e=.returned (.agg #[.int .i64 kind,.slice (some ⟨gx,0,none⟩) lx cx,.slice (some ⟨gy,0,none⟩) ly cy])∧Below wx.heap.size wx w'∧Hid (∀ wy,Below w'.heap.size w' wy→Calls Tryz.prog 78 #[.agg #[.int .i64 kind,.slice (some ⟨gx,0,none⟩) lx cx,.slice (some ⟨gy,0,none⟩) ly cy],.int .i64 x] wy fun e w''=>e=.returned (.tuple #[.float .f64 V,.int .i64 E])∧Below wy.heap.size wy w''))) :
  Calls Tryz.prog 35 #[.agg #[.int .i64 base,.int .i64 kind,vd,vf],.int .i64 x] w fun e w'=>e=.returned (.tuple #[.float .f64 V,.int .i64 E])∧Below w.heap.size w w':=by
 have HB:=hideS (du w base kind vd vf)
 go_enter Tryz.func35,Tryz.ntmps35
 go_wp2_with fail
 refine (HC.out _ HB.out.bl).mono ?_
 rintro e w2 ⟨rfl,hb2⟩
 have HB2:=hideS (HB.out.step hb2)
 clear hb2 HB HC
 have t0:=HB2.out.t0
 have t1:=HB2.out.t1
 have t2:=HB2.out.t2
 have t3:=HB2.out.t3
 go_wp2_with fail
 refine (HT.out _ HB2.out.bl).mono ?_
 rintro e w3 ⟨gx,lx,cx,gy,ly,cy,rfl,hb3,HA⟩
 have HB3:=hideS (HB2.out.step hb3)
 clear hb3 HB2 HT t0 t1 t2 t3
 go_wp2_with fail
 refine (HA.out _ (Below.refl _ _)).mono ?_
 rintro e w4 ⟨rfl,hb4⟩
 have HB4:=hideS (HB3.out.step hb4)
 clear hb4 HB3 HA
 go_wp2_with fail
 go_ret2
 exact⟨rfl,HB4.out.bl⟩
theorem Dl (base:Int) (ds:List Int) {n:Nat} (h:ds.length=n):(ctX base ds).length=1+n:=by rw [gW,h,Nat.add_comm]
theorem Dm (fs:List Nat) {n:Nat} (h:fs.length=n):(ctY fs).length=1+n:=by rw [xE,h,Nat.add_comm]
theorem il (base kind x E:Int) (V:Nat) (pd pf:Option Addr) (bd od cd b2 o2 cf:Nat) (ds:List Int) (fs:List Nat) (w:World) (hs:TFl w pd pf bd od b2 o2 ds fs) (h:FacO base kind ds fs x V E) :
  Calls Tryz.prog 35 #[.agg #[.int .i64 base,.int .i64 kind,.slice pd ds.length cd,.slice pf fs.length cf],.int .i64 x] w fun e w'=>e=.returned (.tuple #[.float .f64 V,.int .i64 E])∧Below w.heap.size w w':=by
 cases h with
 | bad E h hE=>exact nR base kind x E _ _ w hE (fun wx hb=>dD base kind pd pf bd od cd b2 o2 cf ds fs wx (hs.below hb) h)
 | ok ok V E hA=>
  refine qT base kind x E V _ _ w (fun wx hb=>dD base kind pd pf bd od cd b2 o2 cf ds fs wx (hs.below hb) (.ok ok)) (fun wx hb=>?_)
  have lo:=ok.lo
  have hl:=ok.len
  have hs':=hs.below hb
  have hx:=hs'.x
  have hy:=hs'.y
  rw [hl] at hy ⊢
  obtain rfl:=hx.at_ (by omega)
  obtain rfl:=hy.at_ (by omega)
  refine (tS base kind bd od cd b2 o2 cf ds.length ds fs wx hx hy rfl hl lo ok.hi).mono fun e w' ⟨gx,cx,gy,cy,he,ox,oy,hbl⟩=>⟨gx,1+ds.length,cx,gy,1+ds.length,cy,he,hbl,fun wy hwy=>?_⟩
  have ex:=Dl base ds (n:=ds.length) rfl
  have ey:=Dm fs hl
  obtain⟨g1,c1,q1,s1,_,_,_⟩:=gC (xs:=ctX base ds) ox ex (by omega)
  obtain⟨g2,c2,q2,s2,_,_,_⟩:=fh (xs:=ctY fs) oy ey (by omega)
  injection q1 with q1 _ _
  injection q1 with q1
  injection q1 with q1
  injection q2 with q2 _ _
  injection q2 with q2
  injection q2 with q2
  subst q1 q2
  have:=zK kind x E V (some ⟨gx,0,none⟩) (some ⟨gy,0,none⟩) gx 0 cx gy 0 cy (ctX base ds) (ctY fs) wy hA (TFl.below ⟨by rw [ex];exact s1,by rw [ey];exact s2,Dc hs.f⟩ hwy)
  rw [ex,ey] at this
  exact this
end Go.Proofs.YtjjlnmihkadlmaaGreat
namespace Go.Proofs.YtjjlnmihkadlmaaGreat
open Go.RowKit

structure RlL (w:World) (B:Nat) (base kind n:Int) (vd vf vX vY:Value) (wr:World):Prop where
 b:SgB w base kind vd vf wr
 s0:wr.cell? ⟨B,0,none⟩=some (.int .i64 n)
 s1:wr.cell? ⟨B,1,none⟩=some (.int .i64 kind)
 s2:wr.cell? ⟨B,2,none⟩=some vX
 s3:wr.cell? ⟨B,3,none⟩=some vY
 fz:∀ i,wr.frozen? ⟨B,i,none⟩=false
 lo:w.heap.size+2≤B
 sz:B+1≤wr.heap.size
theorem RlL.stay {w wr w':World} {B:Nat} {base kind n:Int} {vd vf vX vY:Value} (h:RlL w B base kind n vd vf vX vY wr) (hb:Below (B+1) wr w'):RlL w B base kind n vd vf vX vY w':=by
 have c:∀ j,w'.cell? ⟨B,j,none⟩=wr.cell? ⟨B,j,none⟩:=fun j=>hb.cell (p:=⟨B,j,none⟩) (by show B<_;omega)
 have g:∀ j,w'.frozen? ⟨B,j,none⟩=wr.frozen? ⟨B,j,none⟩:=fun j=>hb.frozen (p:=⟨B,j,none⟩) (by show B<_;omega)
 exact⟨h.b.stay (hb.mono (by have:=h.lo;omega)),(c 0).trans h.s0,(c 1).trans h.s1,(c 2).trans h.s2,(c 3).trans h.s3,fun i=>(g i).trans (h.fz i),h.lo,Nat.le_trans h.sz hb.size⟩
theorem RlL.put {w wr:World} {B:Nat} {base kind n:Int} {vd vf vX vY:Value} (h:RlL w B base kind n vd vf vX vY wr) (x y:Value):RlL w B base kind n vd vf x y ((wr.setCell ⟨B,2,none⟩ x).setCell ⟨B,3,none⟩ y):=by
 have hb:Below B wr ((wr.setCell ⟨B,2,none⟩ x).setCell ⟨B,3,none⟩ y):=((Below.refl _ wr).setCell (p:=⟨B,2,none⟩) (Nat.le_refl _) x).setCell (p:=⟨B,3,none⟩) (Nat.le_refl _) y
 refine⟨h.b.stay (hb.mono h.lo),?_,?_,?_,?_,fun i=>?_,h.lo,by simpa using h.sz⟩
 ·simp [h.s0,go_sem]
 ·simp [h.s1,go_sem]
 ·simp [h.s2,go_sem]
 ·simp [h.s3,go_sem]
 ·simp [h.fz i,go_sem]
theorem GT {w w2:World} {base kind:Int} {vd vf:Value} (n:Int) (h:SgB w base kind vd vf w2):RlL w w2.heap.size base kind n vd vf (.slice none 0 0) (.slice none 0 0) (w2.alloc (.cells #[.int .i64 n,.int .i64 kind,.slice none 0 0,.slice none 0 0] 43)):=
 ⟨h.stay ((Below.refl _ _).alloc h.sz _),fg w2 _ _ 0,fg w2 _ _ 1,fg w2 _ _ 2,fg w2 _ _ 3,fun i=>World.frozen?_alloc_new _ _ _ _,h.sz,by simp⟩
structure RlW (w:World) (B:Nat) (base kind n:Int) (vd vf:Value) (m:Nat) (xs:List Int) (gs:List Nat) (vX vY:Value) (wr:World):Prop where
 l:RlL w B base kind n vd vf vX vY wr
 x:wr.ownsRow (B+1) 3 1 vX m (xs.map kV)
 y:wr.ownsRow (B+1) 54 1 vY m (gs.map fV)
theorem RlW.below {w wr w':World} {B:Nat} {base kind n:Int} {vd vf:Value} {m:Nat} {xs:List Int} {gs:List Nat} {vX vY:Value} (h:RlW w B base kind n vd vf m xs gs vX vY wr) (hb:Below wr.heap.size wr w'):RlW w B base kind n vd vf m xs gs vX vY w':=
 ⟨h.l.stay (hb.mono h.l.sz),cB h.x hb,cB h.y hb⟩
theorem Fq {t:TypeId} {w:World} {b n:Nat} {v:Value} {xs:List Value} (h:w.ownsRow b t 1 v n xs) {g:Nat} (e:v.ownBlock=some g):g<w.heap.size:=by
 rcases h.2 with⟨rfl,_⟩| ⟨k,cap,cur,rfl,hk,hgg,_⟩
 ·cases e
 ·have e1:k=g:=by simpa [Value.ownBlock] using e
  subst e1
  exact (Array.getElem?_eq_some_iff.1 hgg).1
theorem kM {w w':World} {r:Option Nat} (h:w.grownBy w' r) {g i:Nat} (hg:g<w.heap.size) (hr:∀ k,r=some k→k≠g):w'.cell? ⟨g,i,none⟩=w.cell? ⟨g,i,none⟩:=by
 exact World.cell?_of_block (h.block g hg (fun e=>hr g e.symm rfl))
structure RlT (w:World) (B:Nat) (base kind n:Int) (vd vf:Value) (m:Nat) (xs:List Int) (gs:List Nat) (vX vY v3:Value) (w3:World):Prop where
 l:RlL w B base kind n vd vf vX vY w3
 x:w3.ownsRow (B+1) 3 1 v3 (m+1) (xs.map kV)
 y:w3.ownsRow (B+1) 54 1 vY m (gs.map fV)
theorem RlT.below {w:World} {B:Nat} {base kind n:Int} {vd vf:Value} {m:Nat} {xs:List Int} {gs:List Nat} {vX vY v3:Value} {w3 w4:World} (h:RlT w B base kind n vd vf m xs gs vX vY v3 w3) (hb:Below w3.heap.size w3 w4):RlT w B base kind n vd vf m xs gs vX vY v3 w4:=
 ⟨h.l.stay (hb.mono h.l.sz),cB h.x hb,cB h.y hb⟩
theorem wE {w:World} {B:Nat} {base kind n:Int} {vd vf:Value} {m:Nat} {xs:List Int} {gs:List Nat} {vX vY:Value} {D:Int} {v3:Value} {w1 w3:World} (h:RlW w B base kind n vd vf m xs gs vX vY w1) (h3:w3.ownsRow (B+1) 3 1 v3 (m+1) ((xs++[D]).map kV)) (hg:w1.grownBy w3 vX.ownBlock):RlT w B base kind n vd vf m (xs++[D]) gs vX vY v3 w3:=
 ⟨h.l.stay (bI h.x hg h.l.sz),h3,xK h.y hg (fun g e c=>pm h.y h.x (by decide) g e c)⟩
theorem wF {w:World} {B:Nat} {base kind n:Int} {vd vf:Value} {m:Nat} {xs:List Int} {gs:List Nat} {vX vY:Value} {X:Nat} {v3 v5:Value} {w4 w5:World} (h:RlT w B base kind n vd vf m xs gs vX vY v3 w4) (h5:w5.ownsRow (B+1) 54 1 v5 (m+1) ((gs++[X]).map fV)) (hw:w4.grownBy w5 vY.ownBlock) :
  RlL w B base kind n vd vf vX vY w5∧RlW w B base kind n vd vf (m+1) xs (gs++[X]) v3 v5 ((w5.setCell ⟨B,2,none⟩ v3).setCell ⟨B,3,none⟩ v5):=by
 have l5:=h.l.stay (bI h.y hw h.l.sz)
 have x5:w5.ownsRow (B+1) 3 1 v3 (m+1) (xs.map kV):=xK h.x hw (fun g e c=>pm h.x h.y (by decide) g e c)
 exact⟨l5,⟨l5.put v3 v5,aO (aO x5 (Nat.lt_succ_self B) _) (Nat.lt_succ_self B) _,aO (aO h5 (Nat.lt_succ_self B) _) (Nat.lt_succ_self B) _⟩⟩
def RlO (w:World) (kind n:Int) (ds:List Int) (fs:List Nat) (F s:Nat) (e:Ending) (w':World):Prop:=
 (e=.returned (.tuple #[.agg #[.int .i64 0,.int .i64 0,.slice none 0 0,.slice none 0 0],.int .i64 91])∧∃ j,s≤j∧j<ds.length∧¬ gdQ (qW (fs.getD j 0) F))∨
 ∃ (gx cx gy cy:Nat),(∀ j,s≤j→j<ds.length→gdQ (qW (fs.getD j 0) F))∧e=.returned (.tuple #[.agg #[.int .i64 n,.int .i64 kind,.slice (some ⟨gx,0,none⟩) (ds.length - s) cx,.slice (some ⟨gy,0,none⟩) (ds.length - s) cy],.int .i64 0])∧
  w'.ownsRow w.heap.size 3 1 (.slice (some ⟨gx,0,none⟩) (ds.length - s) cx) (ds.length - s) ((ds.drop s).map kV)∧w'.ownsRow w.heap.size 54 1 (.slice (some ⟨gy,0,none⟩) (ds.length - s) cy) (ds.length - s) ((qL fs F s).map fV)
theorem rd (fs:List Nat) (F s:Nat):(qL fs F s).length=fs.length - s:=by unfold qL;simp
theorem xL {q:Nat} (h0:0<q) (h1:q≤9218868437227405312):(FloatKind.f64.format.order q 0==some .eq)=false:=by
 have e0:ae ((0:Nat):Int)=0:=by decide
 have hr:=dK h1
 rw [fp (by omega) (by decide) (gF h1) (by decide),e0,hr]
 have hc:compare (q:Int) 0=Ordering.gt:=by
  show compareOfLessAndEq (q:Int) 0=_
  unfold compareOfLessAndEq
  rw [if_neg (by omega),if_neg (by omega)]
 rw [hc];rfl
theorem Du {q:Nat} (h1:q≤9218868437227405312):(FloatKind.f64.format.order q 9218868437227405311==some .gt)=decide (q=9218868437227405312):=by
 rw [gE (an (by omega)) (an (by omega)) (gF h1) (gF (r:=9218868437227405311) (by omega)),dK h1,dK (r:=9218868437227405311) (by omega)]
 exact decide_eq_decide.2 (by omega)

set_option maxRecDepth 20000 in
set_option maxHeartbeats 6400000 in
theorem Dv (base kind n last:Int) (bd od cd b2 o2 cf N F s:Nat) (ds:List Int) (fs:List Nat) (w:World) (hd:VSrc w (some ⟨bd,od,none⟩) bd od N (xV ds)) (hf:VSrc w (some ⟨b2,o2,none⟩) b2 o2 N (flV fs)) (hl:ds.length=N) (hlf:fs.length=N) (hn':N≤255) (hp:∀ i<N,0<fs.getD i 0∧fs.getD i 0<9218868437227405312) (hF:0<F∧F<9218868437227405312) (hs:SkN ds n s) (hla:n<last)
  (HC:Hid (∀ wx,Below w.heap.size w wx→Calls Tryz.prog 60 #[.agg #[.int .i64 base,.int .i64 kind,.slice (some ⟨bd,od,none⟩) N cd,.slice (some ⟨b2,o2,none⟩) N cf]] wx fun e w'=>e=.returned (.tuple #[.int .i64 last,.int .i64 0])∧Below wx.heap.size wx w'))
  (HG:Hid (∀ wx,Below w.heap.size w wx→Calls Tryz.prog 35 #[.agg #[.int .i64 base,.int .i64 kind,.slice (some ⟨bd,od,none⟩) N cd,.slice (some ⟨b2,o2,none⟩) N cf],.int .i64 n] wx fun e w'=>e=.returned (.tuple #[.float .f64 F,.int .i64 0])∧Below wx.heap.size wx w')) :
  Calls Tryz.prog 27 #[.agg #[.int .i64 base,.int .i64 kind,.slice (some ⟨bd,od,none⟩) N cd,.slice (some ⟨b2,o2,none⟩) N cf],.int .i64 n] w fun e w'=>RlO w kind n ds fs F s e w'∧Below w.heap.size w w':=by
 have HB:=hideS (rc w base kind (.slice (some ⟨bd,od,none⟩) N cd) (.slice (some ⟨b2,o2,none⟩) N cf))
 have HD:=hideS hd
 have HFs:=hideS hf
 have HLn:=hideS (And.intro hl hlf)
 have HPs:=hideS hp
 have HFp:=hideS hF
 have HS:=hideS hs
 have hge:decide (last≤n)=false:=decide_eq_false (by omega)
 clear hd hf hl hlf hp hF hs hla
 go_enter Tryz.func27,Tryz.ntmps27
 go_wp2_with fail
 refine (HC.out _ HB.out.bl).mono ?_
 rintro e w2 ⟨rfl,hb2⟩
 have HB2:=hideS (HB.out.stay (hb2.mono HB.out.sz))
 clear hb2 HB HC
 have q0:=HB2.out.t0
 have q1:=HB2.out.t1
 have q2:=HB2.out.t2
 have q3:=HB2.out.t3
 go_wp2_with fail
 refine (HG.out _ HB2.out.bl).mono ?_
 rintro e w3 ⟨rfl,hb3⟩
 have HB3:=hideS (HB2.out.stay (hb3.mono HB2.out.sz))
 clear hb3 HB2 HG q0 q1 q2 q3 hge
 have q1:=HB3.out.t1
 have q2:=HB3.out.t2
 have hlt:w.heap.size<w3.heap.size:=by have:=HB3.out.sz;omega
 have hne:w.heap.size≠w3.heap.size:=Nat.ne_of_lt hlt
 have HL0:Hid (RlW w w3.heap.size base kind n (.slice (some ⟨bd,od,none⟩) N cd) (.slice (some ⟨b2,o2,none⟩) N cf) 0 ((ds.drop s).take (0 - s)) ((qL fs F s).take (0 - s)) (.slice none 0 0) (.slice none 0 0) (w3.alloc (.cells #[.int .i64 n,.int .i64 kind,.slice none 0 0,.slice none 0 0] 43))):=by
  show RlW _ _ _ _ _ _ _ _ _ _ _ _ _
  rw [show (0:Nat) - s=0 by omega,List.take_zero,List.take_zero]
  exact⟨GT n HB3.out,⟨rfl,Or.inl ⟨rfl,rfl⟩⟩,⟨rfl,Or.inl ⟨rfl,rfl⟩⟩⟩
 go_wp2_with fail
 clear q1 q2 hlt hne HB3
 generalize w3.heap.size=B at *
 go_loopw [10,11,12,43] (fun _ _ _ i wr=>∃ (k:Nat) (vX vY:Value),k≤N∧i=.int .i64 k∧Hid (RlW w B base kind n (.slice (some ⟨bd,od,none⟩) N cd) (.slice (some ⟨b2,o2,none⟩) N cf) (k - s) ((ds.drop s).take (k - s)) ((qL fs F s).take (k - s)) vX vY wr)∧Hid (∀ j,s≤j→j<k→gdQ (qW (fs.getD j 0) F))) (fun _ _ _ i _=>N - (intOf i).toNat)
 case atStart=>exact⟨0,_,_,Nat.zero_le _,rfl,by rw [show (0:Nat) - s=0 by omega] at HL0 ⊢;exact HL0,fun j _ hj=>by omega⟩
 case round=>
  clear HL0
  obtain⟨k,vX,vY,hk,rfl,HW,HGd⟩:=hrel
  by_cases hlt:k<N
  ·have hcd:wr.cell? ⟨bd,od+k,none⟩=some (.int .i64 (ds.getD k 0)):=(HD.out.below HW.out.l.b.bl).cell k hlt
   have HDk:Hid (k<ds.length):=by show _<_;rw [HLn.out.1];exact hlt
   by_cases hsk:k<s
   ·have hle:decide (ds.getD k 0≤n)=true:=decide_eq_true (HS.out.le k hsk)
    have HR:Hid (k - s=0∧k+1 - s=0∧k<s):=⟨by omega,by omega,hsk⟩
    generalize ds.getD k 0=D at hcd hle
    clear HD HFs HPs hsk
    go_wp2_with fail
    go_roundw
    case rel=>
     refine⟨k+1,vX,vY,by omega,by simp,?_,fun j h1 h2=>HGd.out j h1 (by have:=HR.out.2.2;omega)⟩
     have:=HW.out
     rw [HR.out.1] at this
     rw [HR.out.2.1]
     exact this
    case measure=>simp [intOf];omega
   ·have hgt:decide (ds.getD k 0≤n)=false:=decide_eq_false (by have:=HS.out.gt k (by omega) HDk.out;omega)
    obtain⟨p0,p1⟩:=HPs.out k hlt
    have hcf:wr.cell? ⟨b2,o2+k,none⟩=some (.float .f64 (fs.getD k 0)):=(HFs.out.below HW.out.l.b.bl).cell k hlt
    have hq:=Fo p0 p1 HFp.out.1 HFp.out.2
    have hq1:=GN (fs.getD k 0) F
    have HBad:Hid (¬ gdQ (qW (fs.getD k 0) F)→∃ j,s≤j∧j<ds.length∧¬ gdQ (qW (fs.getD j 0) F)):=fun h=>⟨k,by omega,HDk.out,h⟩
    have HNx:Hid (gdQ (qW (fs.getD k 0) F)→∀ j,s≤j→j<k+1→gdQ (qW (fs.getD j 0) F)):=fun h j h1 h2=>by
     by_cases c:j<k
     ·exact HGd.out j h1 c
     ·obtain rfl:j=k:=by omega
      exact h
    have HXs:Hid ((ds.drop s).take (k+1 - s)=(ds.drop s).take (k - s)++[ds.getD k 0]):=mY ds 0 (by omega) HDk.out
    have HYs:Hid ((qL fs F s).take (k+1 - s)=(qL fs F s).take (k - s)++[qW (fs.getD k 0) F]):=by
     show _=_
     have hkf:k<fs.length:=by rw [HLn.out.2];exact hlt
     have:=FD fs F (s:=s) (j:=k - s) (by omega)
     rw [show s+(k - s)=k by omega] at this
     rw [show k+1 - s=(k - s)+1 by omega,List.take_add_one,← this]
     have hkq:k - s<(qL fs F s).length:=by rw [rd];omega
     rw [List.getElem?_eq_getElem hkq,List.getD_eq_getElem?_getD,List.getElem?_eq_getElem hkq]
     rfl
    have HKs:Hid (k+1 - s=(k - s)+1∧k - s≤255):=⟨by omega,by omega⟩
    have t3:=HW.out.l.b.t3
    have f0:FloatKind.f64.format.order 0 0=some .eq:=by decide+kernel
    generalize fs.getD k 0=f at *
    generalize qW f F=X at *
    generalize ds.getD k 0=D at *
    have hrq:=fun wx=>run_float_arith (P:=Tryz.prog) wx .quo 54 .f64 _ _ _ hq
    have g3:(0:Int)≤(k:Int):=by omega
    have g4:(k:Int)<(N:Int):=by omega
    clear HD HFs HPs hsk p0 p1 hq HFp
    by_cases hX0:X=0
    ·subst hX0
     have HB2:=hideS (HBad.out (by unfold gdQ;omega))
     have e0:(FloatKind.f64.format.order 0 0==some .eq)=true:=by rw [f0];rfl
     clear f0
     have HBx:=hideS HW.out.l.b
     have d0:=HBx.out.d0
     have d1:=HBx.out.d1
     have d2:=HBx.out.d2
     have d3:=HBx.out.d3
     have z0:=HBx.out.fz 0
     have z1:=HBx.out.fz 1
     have z2:=HBx.out.fz 2
     have z3:=HBx.out.fz 3
     clear HW HGd HNx HBad HXs HYs
     go_wp2_with fail
     have hs:∀ j,w.heap.size≤(⟨w.heap.size+1,j,none⟩:Addr).block:=fun j=>by show w.heap.size≤w.heap.size+1;omega
     refine bodyPost_ret (v:=.tuple #[.agg #[.int .i64 0,.int .i64 0,.slice none 0 0,.slice none 0 0],.int .i64 91]) (by simp [results,Tryz.results27,go_sem,d0,d1,d2,d3]) rfl ?_
     exact⟨Or.inl ⟨rfl,HB2.out⟩,(((HBx.out.bl.setCell (hs 0) _).setCell (hs 1) _).setCell (hs 2) _).setCell (hs 3) _⟩
    ·by_cases hXi:X=9218868437227405312
     ·have HB2:=hideS (HBad.out (by unfold gdQ;omega))
      have e0:=xL (Nat.pos_of_ne_zero hX0) hq1
      have HIn:=hideS fun w=>fa X true w (by rw [Du hq1];exact decide_eq_true hXi)
      clear f0 hXi hX0 hq1
      have HBx:=hideS HW.out.l.b
      have d0:=HBx.out.d0
      have d1:=HBx.out.d1
      have d2:=HBx.out.d2
      have d3:=HBx.out.d3
      have z0:=HBx.out.fz 0
      have z1:=HBx.out.fz 1
      have z2:=HBx.out.fz 2
      have z3:=HBx.out.fz 3
      clear HW HGd HNx HBad HXs HYs
      go_wp2_with fail
      refine (HIn.out _).mono ?_
      rintro e w' ⟨rfl,rfl⟩
      go_wp2_with fail
      have hs:∀ j,w.heap.size≤(⟨w.heap.size+1,j,none⟩:Addr).block:=fun j=>by show w.heap.size≤w.heap.size+1;omega
      refine bodyPost_ret (v:=.tuple #[.agg #[.int .i64 0,.int .i64 0,.slice none 0 0,.slice none 0 0],.int .i64 91]) (by simp [results,Tryz.results27,go_sem,d0,d1,d2,d3]) rfl ?_
      exact⟨Or.inl ⟨rfl,HB2.out⟩,(((HBx.out.bl.setCell (hs 0) _).setCell (hs 1) _).setCell (hs 2) _).setCell (hs 3) _⟩
     ·have HGx:=hideS (HNx.out ⟨Nat.pos_of_ne_zero hX0,by omega⟩)
      have e0:=xL (Nat.pos_of_ne_zero hX0) hq1
      have HIn:=hideS fun w=>fa X false w (by rw [Du hq1];exact decide_eq_false hXi)
      clear f0 hXi hX0 hq1 HBad HNx
      obtain⟨qx,cx,rfl⟩:=bV HW.out.x
      obtain⟨qy,cy,rfl⟩:=bV HW.out.y
      have HSz:Hid (B+1≤wr.heap.size):=HW.out.l.sz
      have s2:=HW.out.l.s2
      have s3:=HW.out.l.s3
      have f2:=HW.out.l.fz 2
      have f3:=HW.out.l.fz 3
      clear HGd
      go_wp2_with fail
      refine (turned (HIn.out _)).mono ?_
      rintro e w' ⟨rfl,rfl⟩
      clear HIn hrq e0 hcd hcf t3
      go_wp2_with fail
      obtain⟨w1,hw1⟩:∃ w1,wr=w1:=⟨_,rfl⟩
      subst hw1
      have bw:∀ o,Below wr.heap.size wr (wr.alloc o):=fun o=>(Below.refl _ wr).alloc (Nat.le_refl _) o
      have bww:∀ o o',Below wr.heap.size wr ((wr.alloc o).alloc o'):=fun o o'=>(bw o).alloc (bw o).size o'
      have Ha:=hideS (HW.out.below (bw (.cells #[.int .i64 D] 3)).drew)
      have Hab:=hideS (HW.out.below (bww (.cells #[.int .i64 D] 3) (.cells #[.float .f64 X] 54)).drew)
      have Hba:=hideS (HW.out.below (bww (.cells #[.float .f64 X] 54) (.cells #[.int .i64 D] 3)).drew)
      have z1:(wr.alloc (.cells #[.int .i64 D] 3)).heap.size=wr.heap.size+1:=by simp
      have z2:(wr.alloc (.cells #[.float .f64 X] 54)).heap.size=wr.heap.size+1:=by simp
      have Ca:Hid (∀ j<1,(wr.alloc (.cells #[.int .i64 D] 3)).drew.cell? ⟨wr.heap.size,0+j,none⟩=some (xV [D] j)):=gZ wr D 3
      have Cab:Hid (∀ j<1,((wr.alloc (.cells #[.int .i64 D] 3)).alloc (.cells #[.float .f64 X] 54)).drew.cell? ⟨wr.heap.size,0+j,none⟩=some (xV [D] j)):=fun j hj=>(((Below.refl _ (wr.alloc (.cells #[.int .i64 D] 3))).alloc (Nat.le_refl _) (.cells #[.float .f64 X] 54)).cell (p:=⟨wr.heap.size,0+j,none⟩) (by rw [z1];exact Nat.lt_succ_self _)).trans (gZ wr D 3 j hj)
      have Cba:Hid (∀ j<1,((wr.alloc (.cells #[.float .f64 X] 54)).alloc (.cells #[.int .i64 D] 3)).drew.cell? ⟨wr.heap.size+1,0+j,none⟩=some (xV [D] j)):=by
       have:=gZ (wr.alloc (.cells #[.float .f64 X] 54)) D 3
       rw [z2] at this;exact this
      have Xab:Hid (∀ j<1,((wr.alloc (.cells #[.int .i64 D] 3)).alloc (.cells #[.float .f64 X] 54)).drew.cell? ⟨wr.heap.size+1,0+j,none⟩=some (flV [X] j)):=by
       have:=jD (wr.alloc (.cells #[.int .i64 D] 3)) X 54
       rw [z1] at this;exact this
      have Xba:Hid (∀ j<1,((wr.alloc (.cells #[.float .f64 X] 54)).alloc (.cells #[.int .i64 D] 3)).drew.cell? ⟨wr.heap.size,0+j,none⟩=some (flV [X] j)):=fun j hj=>(((Below.refl _ (wr.alloc (.cells #[.float .f64 X] 54))).alloc (Nat.le_refl _) (.cells #[.int .i64 D] 3)).cell (p:=⟨wr.heap.size,0+j,none⟩) (by rw [z2];exact Nat.lt_succ_self _)).trans (jD wr X 54 j hj)
      have HNo:Hid (∀ g,(Value.slice qx (k - s) cx).ownBlock=some g→g<wr.heap.size):=fun g hg=>Fq HW.out.x hg
      have HLw:Hid (∀ wa,Below wr.heap.size wr wa→wa.cell? ⟨B,2,none⟩=some (.slice qx (k - s) cx)∧wa.cell? ⟨B,3,none⟩=some (.slice qy (k - s) cy)):=fun wa hb=>⟨(HW.out.below hb).l.s2,(HW.out.below hb).l.s3⟩
      have hS0:wr.drew.cell? ⟨B,2,none⟩=some (.slice qx (k - s) cx)∧wr.drew.cell? ⟨B,3,none⟩=some (.slice qy (k - s) cy):=⟨s2,s3⟩
      clear z1 z2
      refine fW (fun xw=>xw.cell? ⟨B,2,none⟩=some (.slice qx (k - s) cx)∧xw.cell? ⟨B,3,none⟩=some (.slice qy (k - s) cy)) (fun i=>i==11||i==12||i==13) (by kernel_rfl) ?_
      refine aJ 0 (.pointer (some ⟨B,2,none⟩)) rfl (by kernel_rfl) (by kernel_rfl) (by kernel_rfl) (by kernel_rfl) (by kernel_rfl) (fun _ _ _ h=>h) (by rfl) hS0 (fun wx hS=>by obtain⟨x1,x2⟩:=hS;go_simp) ?_
      simp only [Act.put,List.setIfInBounds_toArray]
      refine aJ 1 (.slice qx (k - s) cx) rfl (by kernel_rfl) (by kernel_rfl) (by kernel_rfl) (by kernel_rfl) (by kernel_rfl) (fun _ _ _ h=>h) (by rfl) hS0 (fun wx hS=>by obtain⟨x1,x2⟩:=hS;go_simp) ?_
      simp only [Act.put]
      refine aJ 2 (.int .i64 D) rfl (by kernel_rfl) (by kernel_rfl) (by kernel_rfl) (by kernel_rfl) (by kernel_rfl) (fun _ _ _ h=>h) (by rfl) hS0 (fun wx hS=>by obtain⟨x1,x2⟩:=hS;go_simp) ?_
      simp only [Act.put]
      refine aJ 5 (.pointer (some ⟨B,3,none⟩)) rfl (by kernel_rfl) (by kernel_rfl) (by kernel_rfl) (by kernel_rfl) (by kernel_rfl) (fun _ _ _ h=>h) (by rfl) hS0 (fun wx hS=>by obtain⟨x1,x2⟩:=hS;go_simp) ?_
      simp only [Act.put]
      refine aJ 6 (.slice qy (k - s) cy) rfl (by kernel_rfl) (by kernel_rfl) (by kernel_rfl) (by kernel_rfl) (by kernel_rfl) (fun _ _ _ h=>h) (by rfl) hS0 (fun wx hS=>by obtain⟨x1,x2⟩:=hS;go_simp) ?_
      simp only [Act.put]
      refine aJ 7 (.float .f64 X) rfl (by kernel_rfl) (by kernel_rfl) (by kernel_rfl) (by kernel_rfl) (by kernel_rfl) (fun _ _ _ h=>h) (by rfl) hS0 (fun wx hS=>by obtain⟨x1,x2⟩:=hS;go_simp) ?_
      simp only [Act.put]
      refine rx (i:=3) (j:=8) (by kernel_rfl) ?_ ?_
      ·refine wpOp_step rfl (fun K1 hK1=>?_)
       go_simp
       refine hK1 _ _ ⟨fun _=>HLw.out _ (bw (.cells #[.int .i64 D] 3)).drew,?_⟩
       refine rx (i:=4) (j:=8) (by kernel_rfl) ?_ ?_
       ·refine wpOp_step rfl (fun K2 hK2=>?_)
        refine bG rfl (.tmp 66) (.tmp 68) rfl (B+1) (.slice qx (k - s) cx) (k - s) ((ds.drop s).take (k - s)) rfl Ha.out.x (wr.heap.size) 0 1 1 [D] rfl rfl Ca.out (by have:=HKs.out;omega) (by omega) (Nat.le_trans HSz.out (bw _).size) ?_
        intro v3 w4 ho3 hg3
        have HT3:=hideS (wE Ha.out ho3 hg3)
        have HG3:=hideS hg3
        obtain⟨q3,c3,rfl⟩:=bV ho3
        clear ho3 hg3
        have hS3:w4.cell? ⟨B,2,none⟩=some (.slice qx (k - s) cx)∧w4.cell? ⟨B,3,none⟩=some (.slice qy (k - s) cy):=⟨HT3.out.l.s2,HT3.out.l.s3⟩
        refine hK2 _ _ ⟨fun _=>hS3,?_⟩
        simp only [Act.put]
        refine aJ 10 (.pointer (some ⟨B,2,none⟩)) rfl (by kernel_rfl) (by kernel_rfl) (by kernel_rfl) (by kernel_rfl) (by kernel_rfl) (fun _ _ _ h=>h) (by rfl) hS3 (fun wx hS=>by obtain⟨x1,x2⟩:=hS;go_simp) ?_
        simp only [Act.put]
        have ba3:∀ o,Below w4.heap.size w4 (w4.alloc o):=fun o=>(Below.refl _ w4).alloc (Nat.le_refl _) o
        have HT4:=hideS (HT3.out.below (ba3 (.cells #[.float .f64 X] 54)))
        have X1:=hideS (jD w4 X 54)
        refine aL (i:=8) (by kernel_rfl) ?_
        refine wpOp_step rfl (fun K3 hK3=>?_)
        go_simp
        refine hK3 _ _ ⟨fun _=>⟨HT4.out.l.s2,HT4.out.l.s3⟩,?_⟩
        refine aL (i:=9) (by kernel_rfl) ?_
        refine wpOp_step rfl (fun K5 hK5=>?_)
        refine cQ rfl (.tmp 71) (.tmp 73) rfl (B+1) (.slice qy (k - s) cy) (k - s) ((qL fs F s).take (k - s)) rfl HT4.out.y (w4.heap.size) 0 1 1 [X] rfl rfl X1.out (by have:=HKs.out;omega) (by omega) HT4.out.l.sz ?_
        intro v5 w5 ho5 hg5
        obtain⟨hl5,hw5⟩:=wF HT4.out ho5 hg5
        obtain⟨q5,c5,rfl⟩:=bV ho5
        have r2:=hl5.s2
        have r3:=hl5.s3
        have y2:=hl5.fz 2
        have y3:=hl5.fz 3
        have HW5:=hideS hw5
        refine hK5 _ _ ⟨fun _=>⟨hl5.s2,hl5.s3⟩,?_⟩
        simp only [Act.put]
        clear ho5 hg5 hl5 hw5
        refine aL (i:=11) (by kernel_rfl) ?_
        refine wpOp_step rfl (fun K6 hK6=>?_)
        go_simp
        refine hK6 _ _ ⟨fun h=>absurd h (by decide),?_⟩
        refine aL (i:=12) (by kernel_rfl) ?_
        refine wpOp_step rfl (fun K7 hK7=>?_)
        go_simp
        refine hK7 _ _ ⟨fun h=>absurd h (by decide),?_⟩
        refine aL (i:=13) (by kernel_rfl) ?_
        refine wpOp_step rfl (fun K8 hK8=>?_)
        go_simp
        refine hK8 _ _ ⟨fun h=>absurd h (by decide),?_⟩
        refine gG (by kernel_rfl) ?_
        go_wp2_with fail
        go_roundw
        case rel=>exact⟨k+1,_,_,by omega,by simp,by rw [HKs.out.1,← HKs.out.1,HXs.out,HYs.out,HKs.out.1];exact HW5,HGx⟩
        case measure=>simp [intOf];omega
       ·refine wpOp_step rfl (fun K2 hK2=>?_)
        go_simp
        refine hK2 _ _ ⟨fun _=>HLw.out _ (bww (.cells #[.int .i64 D] 3) (.cells #[.float .f64 X] 54)).drew,?_⟩
        refine aL (i:=4) (by kernel_rfl) ?_
        refine wpOp_step rfl (fun K3 hK3=>?_)
        refine bG rfl (.tmp 66) (.tmp 68) rfl (B+1) (.slice qx (k - s) cx) (k - s) ((ds.drop s).take (k - s)) rfl Hab.out.x (wr.heap.size) 0 1 1 [D] rfl rfl Cab.out (by have:=HKs.out;omega) (by omega) (Nat.le_trans HSz.out (bww _ _).size) ?_
        intro v3 w4 ho3 hg3
        have HT3:=hideS (wE Hab.out ho3 hg3)
        have HG3:=hideS hg3
        obtain⟨q3,c3,rfl⟩:=bV ho3
        clear ho3 hg3
        have hS3:w4.cell? ⟨B,2,none⟩=some (.slice qx (k - s) cx)∧w4.cell? ⟨B,3,none⟩=some (.slice qy (k - s) cy):=⟨HT3.out.l.s2,HT3.out.l.s3⟩
        refine hK3 _ _ ⟨fun _=>hS3,?_⟩
        simp only [Act.put]
        refine aJ 10 (.pointer (some ⟨B,2,none⟩)) rfl (by kernel_rfl) (by kernel_rfl) (by kernel_rfl) (by kernel_rfl) (by kernel_rfl) (fun _ _ _ h=>h) (by rfl) hS3 (fun wx hS=>by obtain⟨x1,x2⟩:=hS;go_simp) ?_
        simp only [Act.put]
        have X2:Hid (∀ j<1,w4.cell? ⟨wr.heap.size+1,0+j,none⟩=some (flV [X] j)):=fun j hj=>(kM HG3.out (by simp<;>omega) (fun g hg=>by have:=HNo.out g hg;omega)).trans (Xab.out j hj)
        refine aL (i:=9) (by kernel_rfl) ?_
        refine wpOp_step rfl (fun K5 hK5=>?_)
        refine cQ rfl (.tmp 71) (.tmp 73) rfl (B+1) (.slice qy (k - s) cy) (k - s) ((qL fs F s).take (k - s)) rfl HT3.out.y (wr.heap.size+1) 0 1 1 [X] rfl rfl X2.out (by have:=HKs.out;omega) (by omega) HT3.out.l.sz ?_
        intro v5 w5 ho5 hg5
        obtain⟨hl5,hw5⟩:=wF HT3.out ho5 hg5
        obtain⟨q5,c5,rfl⟩:=bV ho5
        have r2:=hl5.s2
        have r3:=hl5.s3
        have y2:=hl5.fz 2
        have y3:=hl5.fz 3
        have HW5:=hideS hw5
        refine hK5 _ _ ⟨fun _=>⟨hl5.s2,hl5.s3⟩,?_⟩
        simp only [Act.put]
        clear ho5 hg5 hl5 hw5
        refine aL (i:=11) (by kernel_rfl) ?_
        refine wpOp_step rfl (fun K6 hK6=>?_)
        go_simp
        refine hK6 _ _ ⟨fun h=>absurd h (by decide),?_⟩
        refine aL (i:=12) (by kernel_rfl) ?_
        refine wpOp_step rfl (fun K7 hK7=>?_)
        go_simp
        refine hK7 _ _ ⟨fun h=>absurd h (by decide),?_⟩
        refine aL (i:=13) (by kernel_rfl) ?_
        refine wpOp_step rfl (fun K8 hK8=>?_)
        go_simp
        refine hK8 _ _ ⟨fun h=>absurd h (by decide),?_⟩
        refine gG (by kernel_rfl) ?_
        go_wp2_with fail
        go_roundw
        case rel=>exact⟨k+1,_,_,by omega,by simp,by rw [HKs.out.1,← HKs.out.1,HXs.out,HYs.out,HKs.out.1];exact HW5,HGx⟩
        case measure=>simp [intOf];omega
      ·refine wpOp_step rfl (fun K1 hK1=>?_)
       go_simp
       refine hK1 _ _ ⟨fun _=>HLw.out _ (bw (.cells #[.float .f64 X] 54)).drew,?_⟩
       refine aL (i:=3) (by kernel_rfl) ?_
       refine wpOp_step rfl (fun K2 hK2=>?_)
       go_simp
       refine hK2 _ _ ⟨fun _=>HLw.out _ (bww (.cells #[.float .f64 X] 54) (.cells #[.int .i64 D] 3)).drew,?_⟩
       refine aL (i:=4) (by kernel_rfl) ?_
       refine wpOp_step rfl (fun K3 hK3=>?_)
       refine bG rfl (.tmp 66) (.tmp 68) rfl (B+1) (.slice qx (k - s) cx) (k - s) ((ds.drop s).take (k - s)) rfl Hba.out.x (wr.heap.size+1) 0 1 1 [D] rfl rfl Cba.out (by have:=HKs.out;omega) (by omega) (Nat.le_trans HSz.out (bww _ _).size) ?_
       intro v3 w4 ho3 hg3
       have HT3:=hideS (wE Hba.out ho3 hg3)
       have HG3:=hideS hg3
       obtain⟨q3,c3,rfl⟩:=bV ho3
       clear ho3 hg3
       have hS3:w4.cell? ⟨B,2,none⟩=some (.slice qx (k - s) cx)∧w4.cell? ⟨B,3,none⟩=some (.slice qy (k - s) cy):=⟨HT3.out.l.s2,HT3.out.l.s3⟩
       refine hK3 _ _ ⟨fun _=>hS3,?_⟩
       simp only [Act.put]
       refine aJ 10 (.pointer (some ⟨B,2,none⟩)) rfl (by kernel_rfl) (by kernel_rfl) (by kernel_rfl) (by kernel_rfl) (by kernel_rfl) (fun _ _ _ h=>h) (by rfl) hS3 (fun wx hS=>by obtain⟨x1,x2⟩:=hS;go_simp) ?_
       simp only [Act.put]
       have X3:Hid (∀ j<1,w4.cell? ⟨wr.heap.size,0+j,none⟩=some (flV [X] j)):=fun j hj=>(kM HG3.out (by simp<;>omega) (fun g hg=>by have:=HNo.out g hg;omega)).trans (Xba.out j hj)
       refine aL (i:=9) (by kernel_rfl) ?_
       refine wpOp_step rfl (fun K5 hK5=>?_)
       refine cQ rfl (.tmp 71) (.tmp 73) rfl (B+1) (.slice qy (k - s) cy) (k - s) ((qL fs F s).take (k - s)) rfl HT3.out.y (wr.heap.size) 0 1 1 [X] rfl rfl X3.out (by have:=HKs.out;omega) (by omega) HT3.out.l.sz ?_
       intro v5 w5 ho5 hg5
       obtain⟨hl5,hw5⟩:=wF HT3.out ho5 hg5
       obtain⟨q5,c5,rfl⟩:=bV ho5
       have r2:=hl5.s2
       have r3:=hl5.s3
       have y2:=hl5.fz 2
       have y3:=hl5.fz 3
       have HW5:=hideS hw5
       refine hK5 _ _ ⟨fun _=>⟨hl5.s2,hl5.s3⟩,?_⟩
       simp only [Act.put]
       clear ho5 hg5 hl5 hw5
       refine aL (i:=11) (by kernel_rfl) ?_
       refine wpOp_step rfl (fun K6 hK6=>?_)
       go_simp
       refine hK6 _ _ ⟨fun h=>absurd h (by decide),?_⟩
       refine aL (i:=12) (by kernel_rfl) ?_
       refine wpOp_step rfl (fun K7 hK7=>?_)
       go_simp
       refine hK7 _ _ ⟨fun h=>absurd h (by decide),?_⟩
       refine aL (i:=13) (by kernel_rfl) ?_
       refine wpOp_step rfl (fun K8 hK8=>?_)
       go_simp
       refine hK8 _ _ ⟨fun h=>absurd h (by decide),?_⟩
       refine gG (by kernel_rfl) ?_
       go_wp2_with fail
       go_roundw
       case rel=>exact⟨k+1,_,_,by omega,by simp,by rw [HKs.out.1,← HKs.out.1,HXs.out,HYs.out,HKs.out.1];exact HW5,HGx⟩
       case measure=>simp [intOf];omega
  ·obtain rfl:k=N:=by omega
   have HLd:Hid (s<k):=by show _<_;rw [← HLn.out.1];exact HS.out.lt
   have hts:(ds.drop s).take (k - s)=ds.drop s:=List.take_of_length_le (by rw [List.length_drop,HLn.out.1];omega)
   have htq:(qL fs F s).take (k - s)=qL fs F s:=List.take_of_length_le (by rw [rd,HLn.out.2];omega)
   have hx:=HW.out.x
   have hy:=HW.out.y
   rw [hts] at hx
   rw [htq] at hy
   obtain⟨gx,c1,rfl,_,_,_,_⟩:=gC (xs:=ds.drop s) hx (by rw [List.length_drop,HLn.out.1]) (by have:=HLd.out;omega)
   obtain⟨gy,c2,rfl,_,_,_,_⟩:=fh (xs:=qL fs F s) hy (by rw [rd,HLn.out.2]) (by have:=HLd.out;omega)
   have HX:=hideS hx
   have HY:=hideS hy
   clear hx hy hts htq
   have hge:¬ (k:Int)<(k:Int):=by omega
   have HBx:=hideS HW.out.l.b
   have s0:=HW.out.l.s0
   have s1:=HW.out.l.s1
   have s2:=HW.out.l.s2
   have s3:=HW.out.l.s3
   have d0:=HBx.out.d0
   have d1:=HBx.out.d1
   have d2:=HBx.out.d2
   have d3:=HBx.out.d3
   have z0:=HBx.out.fz 0
   have z1:=HBx.out.fz 1
   have z2:=HBx.out.fz 2
   have z3:=HBx.out.fz 3
   have HLo:=hideS HW.out.l.lo
   go_wp2_with fail
   have hs:∀ j,w.heap.size≤(⟨w.heap.size+1,j,none⟩:Addr).block:=fun j=>by show w.heap.size≤w.heap.size+1;omega
   have hz:w.heap.size+1<B+1:=by have:=HLo.out;omega
   refine bodyPost_ret (v:=.tuple #[.agg #[.int .i64 n,.int .i64 kind,.slice (some ⟨gx,0,none⟩) (k - s) c1,.slice (some ⟨gy,0,none⟩) (k - s) c2],.int .i64 0]) (by simp [results,Tryz.results27,go_sem,d0,d1,d2,d3]) rfl ?_
   refine⟨Or.inr ⟨gx,c1,gy,c2,fun j h1 h2=>HGd.out j h1 (by rw [HLn.out.1] at h2;exact h2),by rw [HLn.out.1],?_,?_⟩,(((HBx.out.bl.setCell (hs 0) _).setCell (hs 1) _).setCell (hs 2) _).setCell (hs 3) _⟩
   ·rw [HLn.out.1];exact gY (aO (aO (aO (aO HX.out hz _) hz _) hz _) hz _) (by have:=HLo.out;omega)
   ·rw [HLn.out.1];exact gY (aO (aO (aO (aO HY.out hz _) hz _) hz _) hz _) (by have:=HLo.out;omega)
end Go.Proofs.YtjjlnmihkadlmaaGreat
namespace Go.Proofs.YtjjlnmihkadlmaaGreat
open Go.RowKit

set_option maxRecDepth 20000 in
set_option maxHeartbeats 1600000 in
theorem Ad (base kind n L E:Int) (vd vf:Value) (w:World) (hE:E≠0) (HC:Hid (∀ wx,Below w.heap.size w wx→Calls Tryz.prog 60 #[.agg #[.int .i64 base,.int .i64 kind,vd,vf]] wx fun e w'=>e=.returned (.tuple #[.int .i64 L,.int .i64 E])∧Below wx.heap.size wx w')) :
  Calls Tryz.prog 27 #[.agg #[.int .i64 base,.int .i64 kind,vd,vf],.int .i64 n] w fun e w'=>e=.returned (.tuple #[.agg #[.int .i64 0,.int .i64 0,.slice none 0 0,.slice none 0 0],.int .i64 E])∧Below w.heap.size w w':=by
 have HB:=hideS (rc w base kind vd vf)
 have d1:(E !=0)=true:=bne_iff_ne.2 hE
 clear hE
 go_enter Tryz.func27,Tryz.ntmps27
 go_wp2_with fail
 refine (HC.out _ HB.out.bl).mono ?_
 rintro e w2 ⟨rfl,hb2⟩
 have HB2:=hideS (HB.out.stay (hb2.mono HB.out.sz))
 clear hb2 HB HC
 have q0:=HB2.out.d0
 have q1:=HB2.out.d1
 have q2:=HB2.out.d2
 have q3:=HB2.out.d3
 have z0:=HB2.out.fz 0
 have z1:=HB2.out.fz 1
 have z2:=HB2.out.fz 2
 have z3:=HB2.out.fz 3
 go_wp2_with fail
 have hs:∀ j,w.heap.size≤(⟨w.heap.size+1,j,none⟩:Addr).block:=fun j=>by show w.heap.size≤w.heap.size+1;omega
 refine bodyPost_ret (v:=.tuple #[.agg #[.int .i64 0,.int .i64 0,.slice none 0 0,.slice none 0 0],.int .i64 E]) (by simp [results,Tryz.results27,go_sem,q0,q1,q2,q3]) rfl ?_
 exact⟨rfl,(((HB2.out.bl.setCell (hs 0) _).setCell (hs 1) _).setCell (hs 2) _).setCell (hs 3) _⟩
set_option maxRecDepth 20000 in
set_option maxHeartbeats 1600000 in
theorem Ae (base kind n L:Int) (vd vf:Value) (w:World) (hL:L≤n) (HC:Hid (∀ wx,Below w.heap.size w wx→Calls Tryz.prog 60 #[.agg #[.int .i64 base,.int .i64 kind,vd,vf]] wx fun e w'=>e=.returned (.tuple #[.int .i64 L,.int .i64 0])∧Below wx.heap.size wx w')) :
  Calls Tryz.prog 27 #[.agg #[.int .i64 base,.int .i64 kind,vd,vf],.int .i64 n] w fun e w'=>e=.returned (.tuple #[.agg #[.int .i64 0,.int .i64 0,.slice none 0 0,.slice none 0 0],.int .i64 51])∧Below w.heap.size w w':=by
 have HB:=hideS (rc w base kind vd vf)
 have d1:decide (L≤n)=true:=decide_eq_true hL
 clear hL
 go_enter Tryz.func27,Tryz.ntmps27
 go_wp2_with fail
 refine (HC.out _ HB.out.bl).mono ?_
 rintro e w2 ⟨rfl,hb2⟩
 have HB2:=hideS (HB.out.stay (hb2.mono HB.out.sz))
 clear hb2 HB HC
 have q0:=HB2.out.d0
 have q1:=HB2.out.d1
 have q2:=HB2.out.d2
 have q3:=HB2.out.d3
 have z0:=HB2.out.fz 0
 have z1:=HB2.out.fz 1
 have z2:=HB2.out.fz 2
 have z3:=HB2.out.fz 3
 go_wp2_with fail
 have hs:∀ j,w.heap.size≤(⟨w.heap.size+1,j,none⟩:Addr).block:=fun j=>by show w.heap.size≤w.heap.size+1;omega
 refine bodyPost_ret (v:=.tuple #[.agg #[.int .i64 0,.int .i64 0,.slice none 0 0,.slice none 0 0],.int .i64 51]) (by simp [results,Tryz.results27,go_sem,q0,q1,q2,q3]) rfl ?_
 exact⟨rfl,(((HB2.out.bl.setCell (hs 0) _).setCell (hs 1) _).setCell (hs 2) _).setCell (hs 3) _⟩
set_option maxRecDepth 20000 in
set_option maxHeartbeats 1600000 in
theorem Af (base kind n L E:Int) (V:Nat) (vd vf:Value) (w:World) (hL:n<L) (hE:E≠0) (HC:Hid (∀ wx,Below w.heap.size w wx→Calls Tryz.prog 60 #[.agg #[.int .i64 base,.int .i64 kind,vd,vf]] wx fun e w'=>e=.returned (.tuple #[.int .i64 L,.int .i64 0])∧Below wx.heap.size wx w'))
  (HG:Hid (∀ wx,Below w.heap.size w wx→Calls Tryz.prog 35 #[.agg #[.int .i64 base,.int .i64 kind,vd,vf],.int .i64 n] wx fun e w'=>e=.returned (.tuple #[.float .f64 V,.int .i64 E])∧Below wx.heap.size wx w')) :
  Calls Tryz.prog 27 #[.agg #[.int .i64 base,.int .i64 kind,vd,vf],.int .i64 n] w fun e w'=>e=.returned (.tuple #[.agg #[.int .i64 0,.int .i64 0,.slice none 0 0,.slice none 0 0],.int .i64 E])∧Below w.heap.size w w':=by
 have HB:=hideS (rc w base kind vd vf)
 have d1:decide (L≤n)=false:=decide_eq_false (by omega)
 have d3:(E !=0)=true:=bne_iff_ne.2 hE
 clear hL hE
 go_enter Tryz.func27,Tryz.ntmps27
 go_wp2_with fail
 refine (HC.out _ HB.out.bl).mono ?_
 rintro e w2 ⟨rfl,hb2⟩
 have HB2:=hideS (HB.out.stay (hb2.mono HB.out.sz))
 clear hb2 HB HC
 have p0:=HB2.out.t0
 have p1:=HB2.out.t1
 have p2:=HB2.out.t2
 have p3:=HB2.out.t3
 go_wp2_with fail
 refine (HG.out _ HB2.out.bl).mono ?_
 rintro e w3 ⟨rfl,hb3⟩
 have HB3:=hideS (HB2.out.stay (hb3.mono HB2.out.sz))
 clear hb3 HB2 HG p0 p1 p2 p3
 have HB2:=HB3
 clear HB3
 have q0:=HB2.out.d0
 have q1:=HB2.out.d1
 have q2:=HB2.out.d2
 have q3:=HB2.out.d3
 have z0:=HB2.out.fz 0
 have z1:=HB2.out.fz 1
 have z2:=HB2.out.fz 2
 have z3:=HB2.out.fz 3
 go_wp2_with fail
 have hs:∀ j,w.heap.size≤(⟨w.heap.size+1,j,none⟩:Addr).block:=fun j=>by show w.heap.size≤w.heap.size+1;omega
 refine bodyPost_ret (v:=.tuple #[.agg #[.int .i64 0,.int .i64 0,.slice none 0 0,.slice none 0 0],.int .i64 E]) (by simp [results,Tryz.results27,go_sem,q0,q1,q2,q3]) rfl ?_
 exact⟨rfl,(((HB2.out.bl.setCell (hs 0) _).setCell (hs 1) _).setCell (hs 2) _).setCell (hs 3) _⟩
inductive RlR (w:World) (base kind n:Int) (ds:List Int) (fs:List Nat) (e:Ending) (w':World):Prop
 | bad (E:Int) (hE:CurR base kind ds fs E) (h0:E≠0) (he:e=.returned (.tuple #[.agg #[.int .i64 0,.int .i64 0,.slice none 0 0,.slice none 0 0],.int .i64 E])):RlR w base kind n ds fs e w'
 | out (ok:OkV base kind ds fs) (h:n<base∨ds.getD (ds.length - 1) 0≤n) (he:e=.returned (.tuple #[.agg #[.int .i64 0,.int .i64 0,.slice none 0 0,.slice none 0 0],.int .i64 51])):RlR w base kind n ds fs e w'
 | in_ (ok:OkV base kind ds fs) (h0:base≤n) (h1:n<ds.getD (ds.length - 1) 0) (s:Nat) (hs:SkN ds n s) (h:RlO w kind n ds fs (facV base kind ds fs n) s e w'):RlR w base kind n ds fs e w'
theorem Fr {base kind:Int} {ds:List Int} {fs:List Nat} {x:Int} (ok:OkV base kind ds fs) (h0:x<base):kj base kind ds fs x=51:=by
 have h:=eu base kind ds fs x
 generalize facV base kind ds fs x=V at h
 generalize kj base kind ds fs x=E at h
 have hf:(ctX base ds).getD 0 0=base:=rfl
 have nf:∀ k,¬ FindO kind (ctX base ds) (ctY fs) x k 0:=fun k hk=>by
  generalize hz:(0:Int)=z at hk
  cases hk with
  | bad E h hE=>exact absurd hz.symm hE
  | out h hx=>cases hz
  | at_ h a b=>omega
 cases h with
 | bad E h hE=>exact absurd (dk ok h) hE
 | ok _ V E hA=>
  cases hA with
  | err k E h hE=>
   cases h with
   | bad E h hE=>exact absurd (qP ok.table h) hE
   | out h hx=>rfl
   | at_=>exact absurd rfl hE
  | node k _ h _ _=>exact absurd h (nf _)
  | piece k D i _ h _ _ _=>exact absurd h (nf _)
theorem Ah (base kind n:Int) (pd pf:Option Addr) (bd od cd b2 o2 cf:Nat) (ds:List Int) (fs:List Nat) (w:World) (hs:TFl w pd pf bd od b2 o2 ds fs) :
  Calls Tryz.prog 27 #[.agg #[.int .i64 base,.int .i64 kind,.slice pd ds.length cd,.slice pf fs.length cf],.int .i64 n] w fun e w'=>RlR w base kind n ds fs e w'∧Below w.heap.size w w':=by
 obtain⟨E,hE⟩:=qM base kind ds fs
 have hC:=fun wx (hb:Below w.heap.size w wx)=>tX base kind pd pf bd od cd b2 o2 cf ds fs wx (hs.below hb) hE
 by_cases h0:E=0
 ·subst h0
  have ok:=jB hE
  unfold Dk at hC
  rw [if_pos rfl] at hC
  have hG:=fun wx (hb:Below w.heap.size w wx)=>il base kind n (kj base kind ds fs n) (facV base kind ds fs n) pd pf bd od cd b2 o2 cf ds fs wx (hs.below hb) (eu base kind ds fs n)
  by_cases hL:ds.getD (ds.length - 1) 0≤n
  ·exact (Ae base kind n _ _ _ w hL hC).mono fun e w' h=>⟨.out ok (Or.inr hL) h.1,h.2⟩
  ·by_cases hB:n<base
   ·rw [Fr ok hB] at hG
    exact (Af base kind n _ 51 _ _ _ w (by omega) (by decide) hC hG).mono fun e w' h=>⟨.out ok (Or.inl hB) h.1,h.2⟩
   ·have e0:=Dg ok (x:=n) (by omega) (by omega)
    rw [e0] at hG
    have hl:=ok.len
    have lo:=ok.lo
    obtain⟨s,hsk⟩:=GO ok (n:=n) (by omega)
    have hF:=pj ok hs.f e0
    have hp:=fun i (hi:i<ds.length)=>zV ok hs.f hi
    have hx:=hs.x
    have hy:=hs.y
    obtain rfl:=hx.at_ (by omega)
    obtain rfl:=hy.at_ (by omega)
    rw [hl] at hC hG hy ⊢
    exact (Dv base kind n _ bd od cd b2 o2 cf ds.length _ s ds fs w hx hy rfl hl ok.hi hp hF hsk (by omega) hC hG).mono fun e w' h=>⟨.in_ ok (by omega) (by omega) s hsk h.1,h.2⟩
 ·exact (Ad base kind n _ E _ _ w h0 hC).mono fun e w' h=>⟨.bad E hE h0 h.1,h.2⟩
end Go.Proofs.YtjjlnmihkadlmaaGreat
