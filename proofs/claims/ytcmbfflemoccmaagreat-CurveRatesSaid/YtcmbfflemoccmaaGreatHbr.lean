/-  -/
import Derived.Test.YtcmbfflemoccmaaGreatHat
import Derived.Test.YtcmbfflemoccmaaGreatHbq
import Derived.Test.YtcmbfflemoccmaaGreatHax
import Derived.Test.YtcmbfflemoccmaaGreatHaw
import Derived.Test.YtcmbfflemoccmaaGreatHbf
import Derived.Test.YtcmbfflemoccmaaGreatHbp
namespace Go.Proofs.YtcmbfflemoccmaaGreat
open Go.RowKit

theorem NO (kind x E:Int) (V:Nat) (px py:Option Addr) (bx ox cx b2 oy cy:Nat) (xs:List Int) (ys:List Nat) (w:World) (h:AtO kind xs ys x V E) (hs:TSrc w px py bx ox b2 oy xs ys) (hcy:ys.length≤cy) (hcy':cy≤9223372036854775807) :
  Calls Tryz.prog 40 #[.agg #[.int .i64 kind,.slice px xs.length cx,.slice py ys.length cy],.int .i64 x] w fun e w'=>e=.returned (.tuple #[.int .u64 (V:Int),.int .i64 E])∧Below w.heap.size w w':=by
 cases h with
 | err k E h hE=>exact wY kind x k E px py bx ox cx b2 oy cy xs ys w h hE hs
 | node k ok h hk he=>
  have hl:=ok.len
  rw [hl]
  exact lf kind x px py bx ox cx b2 oy cy xs.length k xs ys w ok rfl h hk.lt (.inl he) hs
 | piece k D i ok h hk he hI=>
  have hl:=ok.len
  have k1:=ok.k1
  have k4:=ok.k4
  rw [hl]
  rw [hl] at hcy
  unfold Ey
  by_cases q1:kind=1
  ·rw [if_pos q1]
   exact lf kind x px py bx ox cx b2 oy cy xs.length k xs ys w ok rfl h hk.lt (.inr ⟨he,q1⟩) hs
  ·rw [if_neg q1]
   by_cases q2:kind=2
   ·rw [if_pos q2]
    subst q2
    exact wZ x px py bx ox cx b2 oy cy xs.length k D i xs ys w ok rfl h hI hcy hcy' hs
   ·rw [if_neg q2]
    by_cases q3:kind=3
    ·rw [if_pos q3]
     subst q3
     exact xc x px py bx ox cx b2 oy cy xs.length k D i xs ys w ok rfl h hI hs
    ·rw [if_neg q3]
     obtain rfl:kind=4:=by omega
     exact uG x px py bx ox cx b2 oy cy xs.length k D i xs ys w ok hs.f rfl h hI hs
theorem MY {kind x E:Int} {V:Nat} {xs:List Int} {ys:List Nat} (h:AtO kind xs ys x V E) (hf:∀ i<ys.length,ys.getD i 0<18446744073709551616):V<18446744073709551616:=by
 have hf':∀ i<ys.length,U64 (ys.getD i 0:Nat):=fun i hi=>aO (hf i hi)
 cases h with
 | err=>decide
 | node k ok h hk he=>exact hf k (by rw [ok.len];exact hk.lt)
 | piece k D i ok h hk he hI=>
  have hv:∀ {W:Nat},U64 (W:Nat)→W<18446744073709551616:=fun hu=>by have:=hu.2;omega
  have up:∀ W,AtR xs ys kind x k W→W<18446744073709551616:=fun W hA=>by
   by_cases hr:k+1<xs.length→ae (ys.getD k 0:Nat)≤ae (ys.getD (k+1) 0:Nat)
   ·exact hv (AH ok hf' hk.lt hA hr).1
   ·exact hv (uF ok hf' hk.lt hA (fun hl=>by
     have:¬ ae (ys.getD k 0:Nat)≤ae (ys.getD (k+1) 0:Nat):=fun c=>hr (fun _=>c)
     omega)).1
  unfold Ey
  have k1:=ok.k1
  have k4:=ok.k4
  by_cases q1:kind=1
  ·rw [if_pos q1];subst q1;exact up _ (.flat x k he)
  ·rw [if_neg q1]
   by_cases q2:kind=2
   ·rw [if_pos q2];subst q2;exact up _ (.lin x k D i hI)
   ·rw [if_neg q2]
    by_cases q3:kind=3
    ·rw [if_pos q3];subst q3;exact up _ (.cub x k D i hI)
    ·rw [if_neg q3]
     obtain rfl:kind=4:=by omega
     exact (It ok hf' hI).2.1
end Go.Proofs.YtcmbfflemoccmaaGreat
namespace Go.Proofs.YtcmbfflemoccmaaGreat
open Go.RowKit

set_option maxRecDepth 20000 in
set_option maxHeartbeats 800000 in
theorem rz (base kind x E:Int) (vd vf:Value) (w:World) (hE:E≠0) (HC:Hid (∀ wx,Below w.heap.size w wx→Calls Tryz.prog 10 #[.agg #[.int .i64 base,.int .i64 kind,vd,vf]] wx fun e w'=>e=.returned (.int .i64 E)∧Below wx.heap.size wx w')) :
  Calls Tryz.prog 15 #[.agg #[.int .i64 base,.int .i64 kind,vd,vf],.int .i64 x] w fun e w'=>e=.returned (.tuple #[.float .f64 0,.int .i64 E])∧Below w.heap.size w w':=by
 have HB:=hideS (cL w base kind vd vf)
 have d1:(E !=0)=true:=bne_iff_ne.2 hE
 clear hE
 go_enter Tryz.func15,Tryz.ntmps15
 go_wp2_with (go_at_call 10;refine (HC.out _ HB.out.bl).mono ?_;rintro e w2 ⟨rfl,hb2⟩;have HB2:=hideS (HB.out.step hb2);clear hb2)
 go_ret2
 exact⟨rfl,HB2.out.bl⟩
set_option maxRecDepth 20000 in
set_option maxHeartbeats 800000 in
theorem uM (base kind x E:Int) (V:Nat) (vd vf:Value) (w:World) (HC:Hid (∀ wx,Below w.heap.size w wx→Calls Tryz.prog 10 #[.agg #[.int .i64 base,.int .i64 kind,vd,vf]] wx fun e w'=>e=.returned (.int .i64 0)∧Below wx.heap.size wx w'))
  (HT:Hid (∀ wx,Below w.heap.size w wx→Calls Tryz.prog 34 #[.agg #[.int .i64 base,.int .i64 kind,vd,vf]] wx fun e w'=>∃ gx lx cx gy ly cy,e=.returned (.agg #[.int .i64 kind,.slice (some ⟨gx,0,none⟩) lx cx,.slice (some ⟨gy,0,none⟩) ly cy])∧Below wx.heap.size wx w'∧Hid (∀ wy,Below w'.heap.size w' wy→Calls Tryz.prog 33 #[.agg #[.int .i64 kind,.slice (some ⟨gx,0,none⟩) lx cx,.slice (some ⟨gy,0,none⟩) ly cy],.int .i64 x] wy fun e w''=>e=.returned (.tuple #[.float .f64 V,.int .i64 E])∧Below wy.heap.size wy w''))) :
  Calls Tryz.prog 15 #[.agg #[.int .i64 base,.int .i64 kind,vd,vf],.int .i64 x] w fun e w'=>e=.returned (.tuple #[.float .f64 V,.int .i64 E])∧Below w.heap.size w w':=by
 have HB:=hideS (cL w base kind vd vf)
 go_enter Tryz.func15,Tryz.ntmps15
 go_wp2_with fail
 refine (HC.out _ HB.out.bl).mono ?_
 rintro e w2 ⟨rfl,hb2⟩
 have HB2:=hideS (HB.out.step hb2)
 clear hb2 HB HC
 have t0:=HB2.out.t0
 have t1:=HB2.out.t1
 have t2:=HB2.out.t2
 have t3:=HB2.out.t3
 go_wp2_with fail
 refine (HT.out _ HB2.out.bl).mono ?_
 rintro e w3 ⟨gx,lx,cx,gy,ly,cy,rfl,hb3,HA⟩
 have HB3:=hideS (HB2.out.step hb3)
 clear hb3 HB2 HT t0 t1 t2 t3
 go_wp2_with fail
 refine (HA.out _ (Below.refl _ _)).mono ?_
 rintro e w4 ⟨rfl,hb4⟩
 have HB4:=hideS (HB3.out.step hb4)
 clear hb4 HB3 HA
 go_wp2_with fail
 go_ret2
 exact⟨rfl,HB4.out.bl⟩
set_option maxRecDepth 20000 in
set_option maxHeartbeats 800000 in
theorem nK (base kind x E:Int) (vd vf:Value) (w:World) (hE:E≠0) (HC:Hid (∀ wx,Below w.heap.size w wx→Calls Tryz.prog 11 #[.agg #[.int .i64 base,.int .i64 kind,vd,vf]] wx fun e w'=>e=.returned (.int .i64 E)∧Below wx.heap.size wx w')) :
  Calls Tryz.prog 23 #[.agg #[.int .i64 base,.int .i64 kind,vd,vf],.int .i64 x] w fun e w'=>e=.returned (.tuple #[.int .u64 0,.int .i64 E])∧Below w.heap.size w w':=by
 have HB:=hideS (eL w base kind vd vf)
 have d1:(E !=0)=true:=bne_iff_ne.2 hE
 clear hE
 go_enter Tryz.func23,Tryz.ntmps23
 go_wp2_with (go_at_call 11;refine (HC.out _ HB.out.bl).mono ?_;rintro e w2 ⟨rfl,hb2⟩;have HB2:=hideS (HB.out.step hb2);clear hb2)
 go_ret2
 exact⟨rfl,HB2.out.bl⟩
set_option maxRecDepth 20000 in
set_option maxHeartbeats 800000 in
theorem qj (base kind x E:Int) (V:Nat) (vd vf:Value) (w:World) (HC:Hid (∀ wx,Below w.heap.size w wx→Calls Tryz.prog 11 #[.agg #[.int .i64 base,.int .i64 kind,vd,vf]] wx fun e w'=>e=.returned (.int .i64 0)∧Below wx.heap.size wx w'))
  (HT:Hid (∀ wx,Below w.heap.size w wx→Calls Tryz.prog 41 #[.agg #[.int .i64 base,.int .i64 kind,vd,vf]] wx fun e w'=>∃ gx lx cx gy ly cy,e=.returned (.agg #[.int .i64 kind,.slice (some ⟨gx,0,none⟩) lx cx,.slice (some ⟨gy,0,none⟩) ly cy])∧Below wx.heap.size wx w'∧Hid (∀ wy,Below w'.heap.size w' wy→Calls Tryz.prog 40 #[.agg #[.int .i64 kind,.slice (some ⟨gx,0,none⟩) lx cx,.slice (some ⟨gy,0,none⟩) ly cy],.int .i64 x] wy fun e w''=>e=.returned (.tuple #[.int .u64 (V:Int),.int .i64 E])∧Below wy.heap.size wy w''))) :
  Calls Tryz.prog 23 #[.agg #[.int .i64 base,.int .i64 kind,vd,vf],.int .i64 x] w fun e w'=>e=.returned (.tuple #[.int .u64 (V:Int),.int .i64 E])∧Below w.heap.size w w':=by
 have HB:=hideS (eL w base kind vd vf)
 go_enter Tryz.func23,Tryz.ntmps23
 go_wp2_with fail
 refine (HC.out _ HB.out.bl).mono ?_
 rintro e w2 ⟨rfl,hb2⟩
 have HB2:=hideS (HB.out.step hb2)
 clear hb2 HB HC
 have t0:=HB2.out.t0
 have t1:=HB2.out.t1
 have t2:=HB2.out.t2
 have t3:=HB2.out.t3
 go_wp2_with fail
 refine (HT.out _ HB2.out.bl).mono ?_
 rintro e w3 ⟨gx,lx,cx,gy,ly,cy,rfl,hb3,HA⟩
 have HB3:=hideS (HB2.out.step hb3)
 clear hb3 HB2 HT t0 t1 t2 t3
 go_wp2_with fail
 refine (HA.out _ (Below.refl _ _)).mono ?_
 rintro e w4 ⟨rfl,hb4⟩
 have HB4:=hideS (HB3.out.step hb4)
 clear hb4 HB3 HA
 go_wp2_with fail
 go_ret2
 exact⟨rfl,HB4.out.bl⟩
theorem yo (base:Int) (ds:List Int) {n:Nat} (h:ds.length=n):(ctX base ds).length=1+n:=by rw [Cw,h,Nat.add_comm]
theorem yp (fs:List Nat) {n:Nat} (h:fs.length=n):(ctY fs).length=1+n:=by rw [uL,h,Nat.add_comm]
theorem dT (base kind x E:Int) (V:Nat) (pd pf:Option Addr) (bd od cd b2 o2 cf:Nat) (ds:List Int) (fs:List Nat) (w:World) (hs:TFl w pd pf bd od b2 o2 ds fs) (h:FacO base kind ds fs x V E) :
  Calls Tryz.prog 15 #[.agg #[.int .i64 base,.int .i64 kind,.slice pd ds.length cd,.slice pf fs.length cf],.int .i64 x] w fun e w'=>e=.returned (.tuple #[.float .f64 V,.int .i64 E])∧Below w.heap.size w w':=by
 cases h with
 | bad E h hE=>exact rz base kind x E _ _ w hE (fun wx hb=>eO base kind pd pf bd od cd b2 o2 cf ds fs wx (hs.below hb) h)
 | ok ok V E hA=>
  refine uM base kind x E V _ _ w (fun wx hb=>eO base kind pd pf bd od cd b2 o2 cf ds fs wx (hs.below hb) (.ok ok)) (fun wx hb=>?_)
  have lo:=ok.lo
  have hl:=ok.len
  have hs':=hs.below hb
  have hx:=hs'.x
  have hy:=hs'.y
  rw [hl] at hy ⊢
  obtain rfl:=hx.at_ (by omega)
  obtain rfl:=hy.at_ (by omega)
  refine (vB base kind bd od cd b2 o2 cf ds.length ds fs wx hx hy rfl hl lo ok.hi).mono fun e w' ⟨gx,cx,gy,cy,he,ox,oy,hbl⟩=>⟨gx,1+ds.length,cx,gy,1+ds.length,cy,he,hbl,fun wy hwy=>?_⟩
  have ex:=yo base ds (n:=ds.length) rfl
  have ey:=yp fs hl
  obtain⟨g1,c1,q1,s1,_,_,_⟩:=fp (xs:=ctX base ds) ox ex (by omega)
  obtain⟨g2,c2,q2,s2,_,_,_⟩:=lS (xs:=ctY fs) oy ey (by omega)
  injection q1 with q1 _ _
  injection q1 with q1
  injection q1 with q1
  injection q2 with q2 _ _
  injection q2 with q2
  injection q2 with q2
  subst q1 q2
  have:=EC kind x E V (some ⟨gx,0,none⟩) (some ⟨gy,0,none⟩) gx 0 cx gy 0 cy (ctX base ds) (ctY fs) wy hA (TFl.below ⟨by rw [ex];exact s1,by rw [ey];exact s2,IA hs.f⟩ hwy)
  rw [ex,ey] at this
  exact this
theorem eH (base kind x E:Int) (V:Nat) (pd pf:Option Addr) (bd od cd b2 o2 cf:Nat) (ds:List Int) (fs:List Nat) (w:World) (hs:CSrcD w pd pf bd od b2 o2 ds fs) (h:FacO base kind ds fs x V E) :
  Calls Tryz.prog 23 #[.agg #[.int .i64 base,.int .i64 kind,.slice pd ds.length cd,.slice pf fs.length cf],.int .i64 x] w fun e w'=>e=.returned (.tuple #[.int .u64 (V:Int),.int .i64 E])∧Below w.heap.size w w':=by
 cases h with
 | bad E h hE=>exact nK base kind x E _ _ w hE (fun wx hb=>iN base kind pd pf bd od cd b2 o2 cf ds fs wx (hs.below hb) h)
 | ok ok V E hA=>
  refine qj base kind x E V _ _ w (fun wx hb=>iN base kind pd pf bd od cd b2 o2 cf ds fs wx (hs.below hb) (.ok ok)) (fun wx hb=>?_)
  have lo:=ok.lo
  have hl:=ok.len
  have hs':=hs.below hb
  have hx:=hs'.d
  have hy:=hs'.f
  rw [hl] at hy ⊢
  obtain rfl:=hx.at_ (by omega)
  obtain rfl:=hy.at_ (by omega)
  refine (qL base kind bd od cd b2 o2 cf ds.length ds fs wx hx hy rfl hl lo ok.hi).mono fun e w' ⟨gx,cx,gy,cy,he,ox,oy,hbl⟩=>⟨gx,1+ds.length,cx,gy,1+ds.length,cy,he,hbl,fun wy hwy=>?_⟩
  have ex:=yo base ds (n:=ds.length) rfl
  have ey:=yp fs hl
  obtain⟨g1,c1,q1,s1,_,_,_⟩:=fp (xs:=ctX base ds) ox ex (by omega)
  obtain⟨p2,g2,c2,q2,s2,_,hc,hm⟩:=dj (xs:=ctY fs) oy ey
  have q3:=s2.at_ (by omega)
  subst q3
  injection q1 with q1 _ _
  injection q1 with q1
  injection q1 with q1
  injection q2 with q2 _ q4
  injection q2 with q2
  injection q2 with q2
  subst q1 q2 q4
  have hu:∀ i<(ctY fs).length,U64 ((ctY fs).getD i 0:Nat):=fun i hi=>by
   cases i with
   | zero=>show U64 (4607182418800017408:Nat);unfold U64;decide
   | succ i=>exact hs.u i (by rw [uL] at hi;omega)
  have:=NO kind x E V (some ⟨gx,0,none⟩) (some ⟨gy,0,none⟩) gx 0 cx gy 0 cy (ctX base ds) (ctY fs) wy hA (TSrc.below ⟨by rw [ex];exact s1,⟨fun _=>rfl,fun hh=>s2.lt hh,fun j hj=>s2.cell j hj⟩,hu⟩ hwy) (by rw [ey];exact hc) (by unfold maxLen at hm;omega)
  rw [ex,ey] at this
  exact this
end Go.Proofs.YtcmbfflemoccmaaGreat
