/-  -/
import Derived.Test.YtjjlnmihkadlmaaGreatHbu
import Derived.Test.YtjjlnmihkadlmaaGreatHav
import Derived.Test.YtjjlnmihkadlmaaGreatHbb
namespace Go.Proofs.YtjjlnmihkadlmaaGreat
open Go.RowKit

theorem sM (w:World) (base kind:Int) (vd vf:Value):SgB w base kind vd vf ((w.alloc (.cells #[.int .i64 base,.int .i64 kind,vd,vf] 64)).alloc (.cells #[.int .i64 0,.int .i64 0,.slice none 0 0,.slice none 0 0] 64)):=by
 have hA:∀ (w:World) o,Below w.heap.size w (w.alloc o):=fun w o=>(Below.refl _ _).alloc (Nat.le_refl _) _
 generalize hw1:w.alloc (.cells #[.int .i64 base,.int .i64 kind,vd,vf] 64)=w1
 have z1:w1.heap.size=w.heap.size+1:=by rw [← hw1];simp
 have c1:∀ j,w1.cell? ⟨w.heap.size,j,none⟩=(#[.int .i64 base,.int .i64 kind,vd,vf]:Array Value)[j]? :=fun j=>by rw [← hw1];exact bC w _ _ j
 have c2:∀ j,(w1.alloc (.cells #[.int .i64 0,.int .i64 0,.slice none 0 0,.slice none 0 0] 64)).cell? ⟨w.heap.size+1,j,none⟩=(#[.int .i64 0,.int .i64 0,.slice none 0 0,.slice none 0 0]:Array Value)[j]? :=fun j=>by rw [← z1];exact bC w1 _ _ j
 have k2:∀ j o,(w1.alloc o).cell? ⟨w.heap.size,j,none⟩=w1.cell? ⟨w.heap.size,j,none⟩:=fun j o=>(hA w1 _).cell (p:=⟨w.heap.size,j,none⟩) (by show w.heap.size<w1.heap.size;omega)
 have g2:∀ j o t,(w1.alloc (.cells o t)).frozen? ⟨w.heap.size+1,j,none⟩=false:=fun j o t=>by rw [← z1];exact World.frozen?_alloc_new _ _ _ _
 have b1:Below w.heap.size w w1:=by rw [← hw1];exact hA w _
 exact⟨(k2 0 _).trans (c1 0),(k2 1 _).trans (c1 1),(k2 2 _).trans (c1 2),(k2 3 _).trans (c1 3),c2 0,c2 1,c2 2,c2 3,fun i=>g2 i _ _,b1.alloc b1.size _,by simp;omega⟩
theorem Iy {w w2:World} {base kind:Int} {vd vf:Value} (n:Int) (h:SgB w base kind vd vf w2):RlL w w2.heap.size base kind n vd vf (.slice none 0 0) (.slice none 0 0) (w2.alloc (.cells #[.int .i64 n,.int .i64 kind,.slice none 0 0,.slice none 0 0] 64)):=
 ⟨h.stay ((Below.refl _ _).alloc h.sz _),bC w2 _ _ 0,bC w2 _ _ 1,bC w2 _ _ 2,bC w2 _ _ 3,fun i=>World.frozen?_alloc_new _ _ _ _,h.sz,by simp⟩
structure RdW (w:World) (B:Nat) (base kind n:Int) (vd vf:Value) (m:Nat) (xs:List Int) (gs:List Nat) (vX vY:Value) (wr:World):Prop where
 l:RlL w B base kind n vd vf vX vY wr
 x:wr.ownsRow (B+1) 3 1 vX m (xs.map kV)
 y:wr.ownsRow (B+1) 57 1 vY m (gs.map uV)
theorem RdW.below {w wr w':World} {B:Nat} {base kind n:Int} {vd vf:Value} {m:Nat} {xs:List Int} {gs:List Nat} {vX vY:Value} (h:RdW w B base kind n vd vf m xs gs vX vY wr) (hb:Below wr.heap.size wr w'):RdW w B base kind n vd vf m xs gs vX vY w':=
 ⟨h.l.stay (hb.mono h.l.sz),aY h.x hb,aY h.y hb⟩
theorem RlL.putX {w wr:World} {B:Nat} {base kind n:Int} {vd vf vX vY:Value} (h:RlL w B base kind n vd vf vX vY wr) (x:Value):RlL w B base kind n vd vf x vY (wr.setCell ⟨B,2,none⟩ x):=by
 have hb:Below B wr (wr.setCell ⟨B,2,none⟩ x):=(Below.refl _ wr).setCell (p:=⟨B,2,none⟩) (Nat.le_refl _) x
 refine⟨h.b.stay (hb.mono h.lo),?_,?_,?_,?_,fun i=>?_,h.lo,by simpa using h.sz⟩
 ·simp [h.s0,go_sem]
 ·simp [h.s1,go_sem]
 ·simp [h.s2,go_sem]
 ·simp [h.s3,go_sem]
 ·simp [h.fz i,go_sem]
theorem RlL.putY {w wr:World} {B:Nat} {base kind n:Int} {vd vf vX vY:Value} (h:RlL w B base kind n vd vf vX vY wr) (y:Value):RlL w B base kind n vd vf vX y (wr.setCell ⟨B,3,none⟩ y):=by
 have hb:Below B wr (wr.setCell ⟨B,3,none⟩ y):=(Below.refl _ wr).setCell (p:=⟨B,3,none⟩) (Nat.le_refl _) y
 refine⟨h.b.stay (hb.mono h.lo),?_,?_,?_,?_,fun i=>?_,h.lo,by simpa using h.sz⟩
 ·simp [h.s0,go_sem]
 ·simp [h.s1,go_sem]
 ·simp [h.s2,go_sem]
 ·simp [h.s3,go_sem]
 ·simp [h.fz i,go_sem]
structure RdT (w:World) (B:Nat) (base kind n:Int) (vd vf:Value) (m:Nat) (xs:List Int) (gs:List Nat) (v3 vY:Value) (w3:World):Prop where
 l:RlL w B base kind n vd vf v3 vY w3
 x:w3.ownsRow (B+1) 3 1 v3 (m+1) (xs.map kV)
 y:w3.ownsRow (B+1) 57 1 vY m (gs.map uV)
theorem Kk {w:World} {B:Nat} {base kind n:Int} {vd vf:Value} {m:Nat} {xs:List Int} {gs:List Nat} {vX vY:Value} {D:Int} {v3:Value} {w1 w3:World} (h:RdW w B base kind n vd vf m xs gs vX vY w1) (h3:w3.ownsRow (B+1) 3 1 v3 (m+1) ((xs++[D]).map kV)) (hg:w1.grownBy w3 vX.ownBlock):RlL w B base kind n vd vf vX vY w3∧RdT w B base kind n vd vf m (xs++[D]) gs v3 vY (w3.setCell ⟨B,2,none⟩ v3):=by
 have l3:=h.l.stay (aG h.x hg h.l.sz)
 have y3:w3.ownsRow (B+1) 57 1 vY m (gs.map uV):=mc h.y hg (fun g e c=>iM h.y h.x (by decide) g e c)
 exact⟨l3,l3.putX v3,an h3 (Nat.lt_succ_self B) _,an y3 (Nat.lt_succ_self B) _⟩
theorem RdT.below {w:World} {B:Nat} {base kind n:Int} {vd vf:Value} {m:Nat} {xs:List Int} {gs:List Nat} {v3 vY:Value} {w3 w4:World} (h:RdT w B base kind n vd vf m xs gs v3 vY w3) (hb:Below w3.heap.size w3 w4):RdT w B base kind n vd vf m xs gs v3 vY w4:=
 ⟨h.l.stay (hb.mono h.l.sz),aY h.x hb,aY h.y hb⟩
theorem Kl {w:World} {B:Nat} {base kind n:Int} {vd vf:Value} {m:Nat} {xs:List Int} {gs:List Nat} {v3 vY:Value} {X:Nat} {v5:Value} {w4 w5:World} (h:RdT w B base kind n vd vf m xs gs v3 vY w4) (h5:w5.ownsRow (B+1) 57 1 v5 (m+1) ((gs++[X]).map uV)) (hw:w4.grownBy w5 vY.ownBlock) :
  RlL w B base kind n vd vf v3 vY w5∧RdW w B base kind n vd vf (m+1) xs (gs++[X]) v3 v5 (w5.setCell ⟨B,3,none⟩ v5):=by
 have l5:=h.l.stay (aG h.y hw h.l.sz)
 have x5:w5.ownsRow (B+1) 3 1 v3 (m+1) (xs.map kV):=mc h.x hw (fun g e c=>iM h.x h.y (by decide) g e c)
 exact⟨l5,l5.putY v5,an x5 (Nat.lt_succ_self B) _,an h5 (Nat.lt_succ_self B) _⟩
def RdO (w:World) (kind n:Int) (ds:List Int) (fs:List Nat) (F s:Nat) (e:Ending) (w':World):Prop:=
 (e=.returned (.tuple #[.agg #[.int .i64 0,.int .i64 0,.slice none 0 0,.slice none 0 0],.int .i64 91])∧∃ j,s≤j∧j<ds.length∧¬ gdQ (qW (fs.getD j 0) F))∨
 ∃ (gx cx gy cy:Nat),(∀ j,s≤j→j<ds.length→gdQ (qW (fs.getD j 0) F))∧e=.returned (.tuple #[.agg #[.int .i64 n,.int .i64 kind,.slice (some ⟨gx,0,none⟩) (ds.length - s) cx,.slice (some ⟨gy,0,none⟩) (ds.length - s) cy],.int .i64 0])∧
  w'.ownsRow w.heap.size 3 1 (.slice (some ⟨gx,0,none⟩) (ds.length - s) cx) (ds.length - s) ((ds.drop s).map kV)∧w'.ownsRow w.heap.size 57 1 (.slice (some ⟨gy,0,none⟩) (ds.length - s) cy) (ds.length - s) ((qL fs F s).map uV)
theorem FQ (u:Int) (w:World) (h:U64 u):Calls Tryz.prog 65 #[.int .u64 u] w fun e w'=>e=.returned (.bool (bE u))∧w'=w:=by
 have hz:=cL h
 unfold bE
 go_enter Tryz.func65,Tryz.ntmps65
 go_wp2
 go_ret
 exact⟨rfl,rfl⟩
theorem IP {q:Nat} (h1:q≤9218868437227405312):bE (q:Int)=decide (q<9218868437227405312)∧szI (q:Int)=(q:Int):=by
 unfold bE szI
 refine⟨decide_eq_decide.2 (by omega),by omega⟩
theorem Lc {x y:Nat} (x0:0<x) (x1:x<9218868437227405312) (y0:0<y) (y1:y<9218868437227405312) (w:World):Calls Tryz.prog 64 #[.int .u64 (x:Int),.int .u64 (y:Int)] w fun e w'=>e=.returned (.int .u64 (qW x y:Int))∧Below w.heap.size w w':=by
 have:=ew x y (x:Int) (y:Int) w rfl rfl (ah (by omega)) (ah (by omega))
 rw [zR x0 x1 y0 y1,aq] at this
 exact this
theorem Km {w:World} {base n:Nat} {v:Value} {xs:List Nat} (h:w.ownsRow base 57 1 v n (xs.map uV)) (hn:xs.length=n) (h0:0<n):∃ g c,v=.slice (some ⟨g,0,none⟩) n c:=by
 obtain⟨p,g,c,rfl,hs,_,_,_⟩:=bY h hn
 exact⟨g,c,by rw [hs.at_ (by omega)]⟩

set_option maxRecDepth 20000 in
set_option maxHeartbeats 1600000 in
theorem Cx (base kind n L E:Int) (vd vf:Value) (w:World) (hE:E≠0) (HC:Hid (∀ wx,Below w.heap.size w wx→Calls Tryz.prog 62 #[.agg #[.int .i64 base,.int .i64 kind,vd,vf]] wx fun e w'=>e=.returned (.tuple #[.int .i64 L,.int .i64 E])∧Below wx.heap.size wx w')) :
  Calls Tryz.prog 28 #[.agg #[.int .i64 base,.int .i64 kind,vd,vf],.int .i64 n] w fun e w'=>e=.returned (.tuple #[.agg #[.int .i64 0,.int .i64 0,.slice none 0 0,.slice none 0 0],.int .i64 E])∧Below w.heap.size w w':=by
 have HB:=hideS (sM w base kind vd vf)
 have d1:(E !=0)=true:=bne_iff_ne.2 hE
 clear hE
 go_enter Tryz.func28,Tryz.ntmps28
 go_wp2_with fail
 refine (HC.out _ HB.out.bl).mono ?_
 rintro e w2 ⟨rfl,hb2⟩
 have HB2:=hideS (HB.out.stay (hb2.mono HB.out.sz))
 clear hb2 HB HC
 have q0:=HB2.out.d0
 have q1:=HB2.out.d1
 have q2:=HB2.out.d2
 have q3:=HB2.out.d3
 have z0:=HB2.out.fz 0
 have z1:=HB2.out.fz 1
 have z2:=HB2.out.fz 2
 have z3:=HB2.out.fz 3
 go_wp2_with fail
 have hs:∀ j,w.heap.size≤(⟨w.heap.size+1,j,none⟩:Addr).block:=fun j=>by show w.heap.size≤w.heap.size+1;omega
 refine bodyPost_ret (v:=.tuple #[.agg #[.int .i64 0,.int .i64 0,.slice none 0 0,.slice none 0 0],.int .i64 E]) (by simp [results,Tryz.results28,go_sem,q0,q1,q2,q3]) rfl ?_
 exact⟨rfl,(((HB2.out.bl.setCell (hs 0) _).setCell (hs 1) _).setCell (hs 2) _).setCell (hs 3) _⟩
set_option maxRecDepth 20000 in
set_option maxHeartbeats 1600000 in
theorem Cy (base kind n L:Int) (vd vf:Value) (w:World) (hL:¬ n<base→L≤n) (HC:Hid (∀ wx,Below w.heap.size w wx→Calls Tryz.prog 62 #[.agg #[.int .i64 base,.int .i64 kind,vd,vf]] wx fun e w'=>e=.returned (.tuple #[.int .i64 L,.int .i64 0])∧Below wx.heap.size wx w')) :
  Calls Tryz.prog 28 #[.agg #[.int .i64 base,.int .i64 kind,vd,vf],.int .i64 n] w fun e w'=>e=.returned (.tuple #[.agg #[.int .i64 0,.int .i64 0,.slice none 0 0,.slice none 0 0],.int .i64 51])∧Below w.heap.size w w':=by
 have HB:=hideS (sM w base kind vd vf)
 have HL:=hideS hL
 clear hL
 go_enter Tryz.func28,Tryz.ntmps28
 go_wp2_with fail
 refine (HC.out _ HB.out.bl).mono ?_
 rintro e w2 ⟨rfl,hb2⟩
 have HB2:=hideS (HB.out.stay (hb2.mono HB.out.sz))
 clear hb2 HB HC
 have p0:=HB2.out.t0
 by_cases h:n<base
 ·have d1:decide (n<base)=true:=decide_eq_true h
  clear h HL
  have q0:=HB2.out.d0
  have q1:=HB2.out.d1
  have q2:=HB2.out.d2
  have q3:=HB2.out.d3
  have z0:=HB2.out.fz 0
  have z1:=HB2.out.fz 1
  have z2:=HB2.out.fz 2
  have z3:=HB2.out.fz 3
  go_wp2_with fail
  have hs:∀ j,w.heap.size≤(⟨w.heap.size+1,j,none⟩:Addr).block:=fun j=>by show w.heap.size≤w.heap.size+1;omega
  refine bodyPost_ret (v:=.tuple #[.agg #[.int .i64 0,.int .i64 0,.slice none 0 0,.slice none 0 0],.int .i64 51]) (by simp [results,Tryz.results28,go_sem,q0,q1,q2,q3]) rfl ?_
  exact⟨rfl,(((HB2.out.bl.setCell (hs 0) _).setCell (hs 1) _).setCell (hs 2) _).setCell (hs 3) _⟩
 ·have d1:decide (n<base)=false:=decide_eq_false h
  have d2:decide (L≤n)=true:=decide_eq_true (HL.out (by omega))
  clear h HL
  have q0:=HB2.out.d0
  have q1:=HB2.out.d1
  have q2:=HB2.out.d2
  have q3:=HB2.out.d3
  have z0:=HB2.out.fz 0
  have z1:=HB2.out.fz 1
  have z2:=HB2.out.fz 2
  have z3:=HB2.out.fz 3
  go_wp2_with fail
  have hs:∀ j,w.heap.size≤(⟨w.heap.size+1,j,none⟩:Addr).block:=fun j=>by show w.heap.size≤w.heap.size+1;omega
  refine bodyPost_ret (v:=.tuple #[.agg #[.int .i64 0,.int .i64 0,.slice none 0 0,.slice none 0 0],.int .i64 51]) (by simp [results,Tryz.results28,go_sem,q0,q1,q2,q3]) rfl ?_
  exact⟨rfl,(((HB2.out.bl.setCell (hs 0) _).setCell (hs 1) _).setCell (hs 2) _).setCell (hs 3) _⟩
set_option maxRecDepth 20000 in
set_option maxHeartbeats 6400000 in
theorem FR (base kind n last:Int) (bd od cd b2 o2 cf N F s:Nat) (ds:List Int) (fs:List Nat) (w:World) (hd:VSrc w (some ⟨bd,od,none⟩) bd od N (xV ds)) (hf:VSrc w (some ⟨b2,o2,none⟩) b2 o2 N (yV fs)) (hl:ds.length=N) (hlf:fs.length=N) (hn':N≤255) (hp:∀ i<N,0<fs.getD i 0∧fs.getD i 0<9218868437227405312) (hF:0<F∧F<9218868437227405312) (hs:SkN ds n s) (hba:base≤n) (hla:n<last)
  (HC:Hid (∀ wx,Below w.heap.size w wx→Calls Tryz.prog 62 #[.agg #[.int .i64 base,.int .i64 kind,.slice (some ⟨bd,od,none⟩) N cd,.slice (some ⟨b2,o2,none⟩) N cf]] wx fun e w'=>e=.returned (.tuple #[.int .i64 last,.int .i64 0])∧Below wx.heap.size wx w'))
  (HG:Hid (∀ wx,Below w.heap.size w wx→Calls Tryz.prog 63 #[.agg #[.int .i64 base,.int .i64 kind,.slice (some ⟨bd,od,none⟩) N cd,.slice (some ⟨b2,o2,none⟩) N cf],.int .i64 n] wx fun e w'=>e=.returned (.tuple #[.int .u64 (F:Int),.int .i64 0])∧Below wx.heap.size wx w')) :
  Calls Tryz.prog 28 #[.agg #[.int .i64 base,.int .i64 kind,.slice (some ⟨bd,od,none⟩) N cd,.slice (some ⟨b2,o2,none⟩) N cf],.int .i64 n] w fun e w'=>RdO w kind n ds fs F s e w'∧Below w.heap.size w w':=by
 have HB:=hideS (sM w base kind (.slice (some ⟨bd,od,none⟩) N cd) (.slice (some ⟨b2,o2,none⟩) N cf))
 have HD:=hideS hd
 have HFs:=hideS hf
 have HLn:=hideS (And.intro hl hlf)
 have HPs:=hideS hp
 have HFp:=hideS hF
 have HS:=hideS hs
 have hge:decide (last≤n)=false:=decide_eq_false (by omega)
 have hgb:decide (n<base)=false:=decide_eq_false (by omega)
 clear hd hf hl hlf hp hF hs hla hba
 go_enter Tryz.func28,Tryz.ntmps28
 go_wp2_with fail
 refine (HC.out _ HB.out.bl).mono ?_
 rintro e w2 ⟨rfl,hb2⟩
 have HB2:=hideS (HB.out.stay (hb2.mono HB.out.sz))
 clear hb2 HB HC
 have q0:=HB2.out.t0
 have q1:=HB2.out.t1
 have q2:=HB2.out.t2
 have q3:=HB2.out.t3
 go_wp2_with fail
 refine (HG.out _ HB2.out.bl).mono ?_
 rintro e w3 ⟨rfl,hb3⟩
 have HB3:=hideS (HB2.out.stay (hb3.mono HB2.out.sz))
 clear hb3 HB2 HG q0 q1 q2 q3 hge hgb
 have q1:=HB3.out.t1
 have hlt:w.heap.size<w3.heap.size:=by have:=HB3.out.sz;omega
 have hne:w.heap.size≠w3.heap.size:=Nat.ne_of_lt hlt
 have HL0:Hid (RdW w w3.heap.size base kind n (.slice (some ⟨bd,od,none⟩) N cd) (.slice (some ⟨b2,o2,none⟩) N cf) 0 ((ds.drop s).take (0 - s)) ((qL fs F s).take (0 - s)) (.slice none 0 0) (.slice none 0 0) (w3.alloc (.cells #[.int .i64 n,.int .i64 kind,.slice none 0 0,.slice none 0 0] 64))):=by
  show RdW _ _ _ _ _ _ _ _ _ _ _ _ _
  rw [show (0:Nat) - s=0 by omega,List.take_zero,List.take_zero]
  exact⟨Iy n HB3.out,⟨rfl,Or.inl ⟨rfl,rfl⟩⟩,⟨rfl,Or.inl ⟨rfl,rfl⟩⟩⟩
 go_wp2_with fail
 clear q1 hlt hne HB3
 generalize w3.heap.size=B at *
 go_loopw [11,12] (fun i _ wr=>∃ (k:Nat) (vX vY:Value),k≤N∧i=.int .i64 k∧Hid (RdW w B base kind n (.slice (some ⟨bd,od,none⟩) N cd) (.slice (some ⟨b2,o2,none⟩) N cf) (k - s) ((ds.drop s).take (k - s)) ((qL fs F s).take (k - s)) vX vY wr)∧Hid (∀ j,s≤j→j<k→gdQ (qW (fs.getD j 0) F))) (fun i _ _=>N - (intOf i).toNat)
 case atStart=>exact⟨0,_,_,Nat.zero_le _,rfl,by rw [show (0:Nat) - s=0 by omega] at HL0 ⊢;exact HL0,fun j _ hj=>by omega⟩
 case round=>
  clear HL0
  obtain⟨k,vX,vY,hk,rfl,HW,HGd⟩:=hrel
  have t2:=HW.out.l.b.t2
  by_cases hlt:k<N
  ·have hcd:wr.cell? ⟨bd,od+k,none⟩=some (.int .i64 (ds.getD k 0)):=(HD.out.below HW.out.l.b.bl).cell k hlt
   have HDk:Hid (k<ds.length):=by show _<_;rw [HLn.out.1];exact hlt
   by_cases hsk:k<s
   ·have hle:decide (ds.getD k 0≤n)=true:=decide_eq_true (HS.out.le k hsk)
    have HR:Hid (k - s=0∧k+1 - s=0∧k<s):=⟨by omega,by omega,hsk⟩
    generalize ds.getD k 0=D at hcd hle
    clear HD HFs HPs hsk
    go_wp2_with fail
    go_roundw
    case rel=>
     refine⟨k+1,vX,vY,by omega,by simp,?_,fun j h1 h2=>HGd.out j h1 (by have:=HR.out.2.2;omega)⟩
     have:=HW.out
     rw [HR.out.1] at this
     rw [HR.out.2.1]
     exact this
    case measure=>simp [intOf];omega
   ·have hgt:decide (ds.getD k 0≤n)=false:=decide_eq_false (by have:=HS.out.gt k (by omega) HDk.out;omega)
    obtain⟨p0,p1⟩:=HPs.out k hlt
    have hcf:wr.cell? ⟨b2,o2+k,none⟩=some (.int .u64 (fs.getD k 0:Int)):=(HFs.out.below HW.out.l.b.bl).cell k hlt
    have HDv:=hideS fun wx=>Lc p0 p1 HFp.out.1 HFp.out.2 wx
    have hq1:=FG (fs.getD k 0) F
    have HBad:Hid (¬ gdQ (qW (fs.getD k 0) F)→∃ j,s≤j∧j<ds.length∧¬ gdQ (qW (fs.getD j 0) F)):=fun h=>⟨k,by omega,HDk.out,h⟩
    have HNx:Hid (gdQ (qW (fs.getD k 0) F)→∀ j,s≤j→j<k+1→gdQ (qW (fs.getD j 0) F)):=fun h j h1 h2=>by
     by_cases c:j<k
     ·exact HGd.out j h1 c
     ·obtain rfl:j=k:=by omega
      exact h
    have HXs:Hid ((ds.drop s).take (k+1 - s)=(ds.drop s).take (k - s)++[ds.getD k 0]):=ii ds 0 (by omega) HDk.out
    have HYs:Hid ((qL fs F s).take (k+1 - s)=(qL fs F s).take (k - s)++[qW (fs.getD k 0) F]):=by
     show _=_
     have hkf:k<fs.length:=by rw [HLn.out.2];exact hlt
     have:=wg fs F (s:=s) (j:=k - s) (by omega)
     rw [show s+(k - s)=k by omega] at this
     rw [show k+1 - s=(k - s)+1 by omega,List.take_add_one,← this]
     have hkq:k - s<(qL fs F s).length:=by rw [fe];omega
     rw [List.getElem?_eq_getElem hkq,List.getD_eq_getElem?_getD,List.getElem?_eq_getElem hkq]
     rfl
    have HKs:Hid (k+1 - s=(k - s)+1∧k - s≤255):=⟨by omega,by omega⟩
    have HKd:Hid (∀ wx,Below w.heap.size w wx→wx.cell? ⟨bd,od+k,none⟩=some (.int .i64 (ds.getD k 0))):=fun wx hb=>(HD.out.below hb).cell k hlt
    have t3:=HW.out.l.b.t3
    generalize fs.getD k 0=f at *
    generalize qW f F=X at *
    generalize ds.getD k 0=D at *
    have hNm:=hideS fun wx=>FQ (X:Int) wx (ah (by omega))
    have hSz:=hideS fun wx=>ay (X:Int) wx (ah (by omega))
    rw [(IP hq1).1] at hNm
    rw [(IP hq1).2] at hSz
    have g3:(0:Int)≤(k:Int):=by omega
    have g4:(k:Int)<(N:Int):=by omega
    clear HD HFs HPs hsk p0 p1 HFp
    go_wp2_with fail
    refine (HDv.out _).mono ?_
    rintro e w4 ⟨rfl,hb4⟩
    have HW4:=hideS (HW.out.below hb4)
    clear hb4 HW HDv hcd hcf t3 t2
    have t2:=HW4.out.l.b.t2
    have hcd:=HKd.out _ HW4.out.l.b.bl
    by_cases hXi:X=9218868437227405312
    ·have HB2:=hideS (HBad.out (by unfold gdQ;omega))
     rw [decide_eq_false (show ¬ X<9218868437227405312 by omega)] at hNm
     clear hXi hq1
     have HBx:=hideS HW4.out.l.b
     have d0:=HBx.out.d0
     have d1:=HBx.out.d1
     have d2:=HBx.out.d2
     have d3:=HBx.out.d3
     have z0:=HBx.out.fz 0
     have z1:=HBx.out.fz 1
     have z2:=HBx.out.fz 2
     have z3:=HBx.out.fz 3
     clear HW4 HGd HNx HBad HXs HYs t2 hcd
     go_wp2_with fail
     refine (hNm.out _).mono ?_
     rintro e w' ⟨rfl,rfl⟩
     go_wp2_with fail
     have hs:∀ j,w.heap.size≤(⟨w.heap.size+1,j,none⟩:Addr).block:=fun j=>by show w.heap.size≤w.heap.size+1;omega
     refine bodyPost_ret (v:=.tuple #[.agg #[.int .i64 0,.int .i64 0,.slice none 0 0,.slice none 0 0],.int .i64 91]) (by simp [results,Tryz.results28,go_sem,d0,d1,d2,d3]) rfl ?_
     exact⟨Or.inl ⟨rfl,HB2.out⟩,(((HBx.out.bl.setCell (hs 0) _).setCell (hs 1) _).setCell (hs 2) _).setCell (hs 3) _⟩
    ·rw [decide_eq_true (show X<9218868437227405312 by omega)] at hNm
     by_cases hX0:X=0
     ·have HB2:=hideS (HBad.out (by unfold gdQ;omega))
      have e0:((X:Int)==0)=true:=beq_iff_eq.2 (by omega)
      clear hXi hq1 hX0
      have HBx:=hideS HW4.out.l.b
      have d0:=HBx.out.d0
      have d1:=HBx.out.d1
      have d2:=HBx.out.d2
      have d3:=HBx.out.d3
      have z0:=HBx.out.fz 0
      have z1:=HBx.out.fz 1
      have z2:=HBx.out.fz 2
      have z3:=HBx.out.fz 3
      clear HW4 HGd HNx HBad HXs HYs t2 hcd
      go_wp2_with fail
      refine (hNm.out _).mono ?_
      rintro e w' ⟨rfl,rfl⟩
      go_wp2_with fail
      refine (hSz.out _).mono ?_
      rintro e w' ⟨rfl,rfl⟩
      go_wp2_with fail
      have hs:∀ j,w.heap.size≤(⟨w.heap.size+1,j,none⟩:Addr).block:=fun j=>by show w.heap.size≤w.heap.size+1;omega
      refine bodyPost_ret (v:=.tuple #[.agg #[.int .i64 0,.int .i64 0,.slice none 0 0,.slice none 0 0],.int .i64 91]) (by simp [results,Tryz.results28,go_sem,d0,d1,d2,d3]) rfl ?_
      exact⟨Or.inl ⟨rfl,HB2.out⟩,(((HBx.out.bl.setCell (hs 0) _).setCell (hs 1) _).setCell (hs 2) _).setCell (hs 3) _⟩
     ·have HGx:=hideS (HNx.out ⟨Nat.pos_of_ne_zero hX0,by omega⟩)
      have e0:((X:Int)==0)=false:=beq_eq_false_iff_ne.2 (by omega)
      clear hXi hX0 hq1 HBad HNx HGd
      obtain⟨qx,cx,rfl⟩:=aZ HW4.out.x
      obtain⟨qy,cy,rfl⟩:=aZ HW4.out.y
      have HSz:Hid (B+1≤w4.heap.size):=HW4.out.l.sz
      have s2:=HW4.out.l.s2
      have f2:=HW4.out.l.fz 2
      go_wp2_with fail
      refine (turned (hNm.out _)).mono ?_
      rintro e w' ⟨rfl,rfl⟩
      go_wp2_with fail
      refine (turned (hSz.out _)).mono ?_
      rintro e w' ⟨rfl,rfl⟩
      go_wp2_with fail
      clear hNm hSz e0
      have bw:∀ o,Below w4.heap.size w4 (w4.alloc o):=fun o=>(Below.refl _ w4).alloc (Nat.le_refl _) o
      have Ha:=hideS (HW4.out.below (bw (.cells #[.int .i64 D] 3)).drew)
      have Ca:Hid (∀ j<1,(w4.alloc (.cells #[.int .i64 D] 3)).drew.cell? ⟨w4.heap.size,0+j,none⟩=some (xV [D] j)):=eX w4 D 3
      have hS0:w4.drew.cell? ⟨B,2,none⟩=some (.slice qx (k - s) cx)∧w4.drew.cell? ⟨w.heap.size,2,none⟩=some (.slice (some ⟨bd,od,none⟩) N cd)∧w4.drew.cell? ⟨bd,od+k,none⟩=some (.int .i64 D):=⟨s2,t2,hcd⟩
      refine gM (fun xw=>xw.cell? ⟨B,2,none⟩=some (.slice qx (k - s) cx)∧xw.cell? ⟨w.heap.size,2,none⟩=some (.slice (some ⟨bd,od,none⟩) N cd)∧xw.cell? ⟨bd,od+k,none⟩=some (.int .i64 D)) (fun i=>i==10) (by kernel_rfl) ?_
      refine aN 0 (.pointer (some ⟨B,2,none⟩)) rfl (by kernel_rfl) (by kernel_rfl) (by kernel_rfl) (by kernel_rfl) (by kernel_rfl) (fun _ _ _ h=>h) (by rfl) hS0 (fun wx hS=>by obtain⟨x1,x2,x3⟩:=hS;go_simp) ?_
      simp only [Act.put,List.setIfInBounds_toArray]
      refine aN 1 (.slice qx (k - s) cx) rfl (by kernel_rfl) (by kernel_rfl) (by kernel_rfl) (by kernel_rfl) (by kernel_rfl) (fun _ _ _ h=>h) (by rfl) hS0 (fun wx hS=>by obtain⟨x1,x2,x3⟩:=hS;go_simp) ?_
      simp only [Act.put]
      refine aN 2 (.pointer (some ⟨w.heap.size,2,none⟩)) rfl (by kernel_rfl) (by kernel_rfl) (by kernel_rfl) (by kernel_rfl) (by kernel_rfl) (fun _ _ _ h=>h) (by rfl) hS0 (fun wx hS=>by obtain⟨x1,x2,x3⟩:=hS;go_simp) ?_
      simp only [Act.put]
      refine aN 3 (.slice (some ⟨bd,od,none⟩) N cd) rfl (by kernel_rfl) (by kernel_rfl) (by kernel_rfl) (by kernel_rfl) (by kernel_rfl) (fun _ _ _ h=>h) (by rfl) hS0 (fun wx hS=>by obtain⟨x1,x2,x3⟩:=hS;go_simp) ?_
      simp only [Act.put]
      refine aN 4 (.int .i64 k) rfl (by kernel_rfl) (by kernel_rfl) (by kernel_rfl) (by kernel_rfl) (by kernel_rfl) (fun _ _ _ h=>h) (by rfl) hS0 (fun wx hS=>by obtain⟨x1,x2,x3⟩:=hS;go_simp) ?_
      simp only [Act.put]
      refine aN 5 (.pointer (some ⟨bd,od+k,none⟩)) rfl (by kernel_rfl) (by kernel_rfl) (by kernel_rfl) (by kernel_rfl) (by kernel_rfl) (fun _ _ _ h=>h) (by rfl) hS0 (fun wx hS=>by obtain⟨x1,x2,x3⟩:=hS;go_simp) ?_
      simp only [Act.put]
      refine aN 6 (.int .i64 D) rfl (by kernel_rfl) (by kernel_rfl) (by kernel_rfl) (by kernel_rfl) (by kernel_rfl) (fun _ _ _ h=>h) (by rfl) hS0 (fun wx hS=>by obtain⟨x1,x2,x3⟩:=hS;go_simp) ?_
      simp only [Act.put]
      refine aK (i:=7) (by kernel_rfl) ?_
      refine wpOp_step rfl (fun K1 hK1=>?_)
      go_simp
      refine hK1 _ _ ⟨fun _=>⟨Ha.out.l.s2,Ha.out.l.b.t2,HKd.out _ Ha.out.l.b.bl⟩,?_⟩
      refine aK (i:=8) (by kernel_rfl) ?_
      refine wpOp_step rfl (fun K2 hK2=>?_)
      refine bt rfl (.tmp 73) (.tmp 79) rfl (B+1) (.slice qx (k - s) cx) (k - s) ((ds.drop s).take (k - s)) rfl Ha.out.x (w4.heap.size) 0 1 1 [D] rfl rfl Ca.out (by have:=HKs.out;omega) (by omega) (Nat.le_trans HSz.out (bw _).size) ?_
      intro v3 w5 ho3 hg3
      obtain⟨hl3,ht3⟩:=Kk Ha.out ho3 hg3
      obtain⟨q3,c3,rfl⟩:=aZ ho3
      have r2:=hl3.s2
      have y2:=hl3.fz 2
      have HT3:=hideS ht3
      have HT3x:=hideS hl3.b.t2
      have HKx:=hideS (HKd.out _ hl3.b.bl)
      refine hK2 _ _ ⟨fun _=>⟨hl3.s2,hl3.b.t2,HKd.out _ hl3.b.bl⟩,?_⟩
      simp only [Act.put]
      clear ho3 hg3 hl3 ht3
      refine aK (i:=9) (by kernel_rfl) ?_
      refine wpOp_step rfl (fun K6 hK6=>?_)
      go_simp
      refine hK6 _ _ ⟨fun _=>⟨r2,(HT3x.out),HKx.out⟩,?_⟩
      refine aK (i:=10) (by kernel_rfl) ?_
      refine wpOp_step rfl (fun K7 hK7=>?_)
      go_simp
      refine hK7 _ _ ⟨fun h=>absurd h (by decide),?_⟩
      refine ip (by kernel_rfl) ?_
      obtain⟨w6,hw6⟩:∃ w6,w5.setCell ⟨B,2,none⟩ (.slice q3 (k - s+1) c3)=w6:=⟨_,rfl⟩
      rw [hw6] at HT3 ⊢
      clear hw6 HT3x HKx r2 y2
      have s3:=HT3.out.l.s3
      have f3:=HT3.out.l.fz 3
      have HT4:=hideS (HT3.out.below ((Below.refl _ w6).alloc (Nat.le_refl _) (.cells #[.int .u64 (X:Int)] 57)))
      go_wp2_with (at_builtin;refine du _ rfl (.tmp 83) (.tmp 85) rfl (B+1) (.slice qy (k - s) cy) (k - s) ((qL fs F s).take (k - s)) rfl HT4.out.y w6.heap.size 0 1 1 [X] rfl rfl (vQ w6 X _) (by have:=HKs.out;omega) (by omega) HT4.out.l.sz ?_;intro v5 w7 ho5 hg5;obtain⟨hl5,hw5⟩:=Kl HT4.out ho5 hg5;obtain⟨q5,c5,rfl⟩:=aZ ho5;have r3:=hl5.s3;have y3:=hl5.fz 3;have HW5:=hideS hw5;clear ho5 hg5 hl5 hw5)
      go_roundw
      case rel=>exact⟨k+1,_,_,by omega,by simp,by rw [HKs.out.1,← HKs.out.1,HXs.out,HYs.out,HKs.out.1];exact HW5,HGx⟩
      case measure=>simp [intOf];omega
  ·obtain rfl:k=N:=by omega
   have HLd:Hid (s<k):=by show _<_;rw [← HLn.out.1];exact HS.out.lt
   have hts:(ds.drop s).take (k - s)=ds.drop s:=List.take_of_length_le (by rw [List.length_drop,HLn.out.1];omega)
   have htq:(qL fs F s).take (k - s)=qL fs F s:=List.take_of_length_le (by rw [fe,HLn.out.2];omega)
   have hx:=HW.out.x
   have hy:=HW.out.y
   rw [hts] at hx
   rw [htq] at hy
   obtain⟨gx,c1,rfl,_,_,_,_⟩:=cj (xs:=ds.drop s) hx (by rw [List.length_drop,HLn.out.1]) (by have:=HLd.out;omega)
   obtain⟨gy,c2,rfl⟩:=Km (xs:=qL fs F s) hy (by rw [fe,HLn.out.2]) (by have:=HLd.out;omega)
   have HX:=hideS hx
   have HY:=hideS hy
   clear hx hy hts htq
   have hge:¬ (k:Int)<(k:Int):=by omega
   have HBx:=hideS HW.out.l.b
   have s0:=HW.out.l.s0
   have s1:=HW.out.l.s1
   have s2:=HW.out.l.s2
   have s3:=HW.out.l.s3
   have d0:=HBx.out.d0
   have d1:=HBx.out.d1
   have d2:=HBx.out.d2
   have d3:=HBx.out.d3
   have z0:=HBx.out.fz 0
   have z1:=HBx.out.fz 1
   have z2:=HBx.out.fz 2
   have z3:=HBx.out.fz 3
   have HLo:=hideS HW.out.l.lo
   go_wp2_with fail
   have hs:∀ j,w.heap.size≤(⟨w.heap.size+1,j,none⟩:Addr).block:=fun j=>by show w.heap.size≤w.heap.size+1;omega
   have hz:w.heap.size+1<B+1:=by have:=HLo.out;omega
   refine bodyPost_ret (v:=.tuple #[.agg #[.int .i64 n,.int .i64 kind,.slice (some ⟨gx,0,none⟩) (k - s) c1,.slice (some ⟨gy,0,none⟩) (k - s) c2],.int .i64 0]) (by simp [results,Tryz.results28,go_sem,d0,d1,d2,d3]) rfl ?_
   refine⟨Or.inr ⟨gx,c1,gy,c2,fun j h1 h2=>HGd.out j h1 (by rw [HLn.out.1] at h2;exact h2),by rw [HLn.out.1],?_,?_⟩,(((HBx.out.bl.setCell (hs 0) _).setCell (hs 1) _).setCell (hs 2) _).setCell (hs 3) _⟩
   ·rw [HLn.out.1];exact cw (an (an (an (an HX.out hz _) hz _) hz _) hz _) (by have:=HLo.out;omega)
   ·rw [HLn.out.1];exact cw (an (an (an (an HY.out hz _) hz _) hz _) hz _) (by have:=HLo.out;omega)
inductive RdR (w:World) (base kind n:Int) (ds:List Int) (fs:List Nat) (e:Ending) (w':World):Prop
 | bad (E:Int) (hE:CurR base kind ds fs E) (h0:E≠0) (he:e=.returned (.tuple #[.agg #[.int .i64 0,.int .i64 0,.slice none 0 0,.slice none 0 0],.int .i64 E])):RdR w base kind n ds fs e w'
 | out (ok:OkV base kind ds fs) (h:n<base∨ds.getD (ds.length - 1) 0≤n) (he:e=.returned (.tuple #[.agg #[.int .i64 0,.int .i64 0,.slice none 0 0,.slice none 0 0],.int .i64 51])):RdR w base kind n ds fs e w'
 | in_ (ok:OkV base kind ds fs) (h0:base≤n) (h1:n<ds.getD (ds.length - 1) 0) (s:Nat) (hs:SkN ds n s) (h:RdO w kind n ds fs (facV base kind ds fs n) s e w'):RdR w base kind n ds fs e w'
theorem Cz (base kind n:Int) (pd pf:Option Addr) (bd od cd b2 o2 cf:Nat) (ds:List Int) (fs:List Nat) (w:World) (hs:CSrcD w pd pf bd od b2 o2 ds fs) :
  Calls Tryz.prog 28 #[.agg #[.int .i64 base,.int .i64 kind,.slice pd ds.length cd,.slice pf fs.length cf],.int .i64 n] w fun e w'=>RdR w base kind n ds fs e w'∧Below w.heap.size w w':=by
 obtain⟨E,hE⟩:=kj base kind ds fs
 have hC:=fun wx (hb:Below w.heap.size w wx)=>oZ base kind pd pf bd od cd b2 o2 cf ds fs wx (hs.below hb) hE
 have hfit:∀ i<fs.length,fs.getD i 0<18446744073709551616:=fun i hi=>by have:=(hs.u i hi).2;omega
 by_cases h0:E=0
 ·subst h0
  have ok:=eU hE
  unfold qE at hC
  rw [if_pos rfl] at hC
  by_cases hL:n<base∨ds.getD (ds.length - 1) 0≤n
  ·exact (Cy base kind n _ _ _ w (fun h=>by omega) hC).mono fun e w' h=>⟨.out ok hL h.1,h.2⟩
  ·have hG:=fun wx (hb:Below w.heap.size w wx)=>lP base kind n (km base kind ds fs n) (facV base kind ds fs n) pd pf bd od cd b2 o2 cf ds fs wx (hs.below hb) (dJ base kind ds fs n)
   have e0:=yr ok (x:=n) (by omega) (by omega)
   rw [e0] at hG
   have hl:=ok.len
   have lo:=ok.lo
   obtain⟨s,hsk⟩:=yB ok (n:=n) (by omega)
   have hF:=kU ok hfit e0
   have hp:=fun i (hi:i<ds.length)=>qH ok hfit hi
   have hx:=hs.d
   have hy:=hs.f
   obtain rfl:=hx.at_ (by omega)
   obtain rfl:=hy.at_ (by omega)
   rw [hl] at hC hG hy ⊢
   exact (FR base kind n _ bd od cd b2 o2 cf ds.length _ s ds fs w hx hy rfl hl ok.hi hp hF hsk (by omega) (by omega) hC hG).mono fun e w' h=>⟨.in_ ok (by omega) (by omega) s hsk h.1,h.2⟩
 ·exact (Cx base kind n _ E _ _ w h0 hC).mono fun e w' h=>⟨.bad E hE h0 h.1,h.2⟩
end Go.Proofs.YtjjlnmihkadlmaaGreat
namespace Go.Proofs.YtjjlnmihkadlmaaGreat
open Go.RowKit

end Go.Proofs.YtjjlnmihkadlmaaGreat
