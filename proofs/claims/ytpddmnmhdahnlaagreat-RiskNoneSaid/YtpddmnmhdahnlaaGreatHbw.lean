/-  -/
import Derived.Test.YtpddmnmhdahnlaaGreatHbv
import Derived.Test.YtpddmnmhdahnlaaGreatHbp
namespace Go.Proofs.YtpddmnmhdahnlaaGreat
open Go.RowKit

def akX:Obj:=.cells #[.int .i64 365,.int .i64 730] 3
def akY:Obj:=.cells #[.float .f64 4602678819172646912,.float .f64 4598175219545276416] 26
def akO:Obj:=.cells #[.int .i64 365,.float .f64 4607182418800017408,.int .i64 1] 74
structure AkB (w wr:World):Prop where
 bx:BxK wr (w.heap.size+1+1) 0 2 (.slice (some ⟨w.heap.size,0,none⟩) 2 2) (.slice (some ⟨w.heap.size+1,0,none⟩) 2 2)
 src:TFl wr (some ⟨w.heap.size,0,none⟩) (some ⟨w.heap.size+1,0,none⟩) w.heap.size 0 (w.heap.size+1) 0 rqD rqF
 bl:Below w.heap.size w wr
theorem AkB.step {w wr w':World} (h:AkB w wr) (hb:Below wr.heap.size wr w'):AkB w w':=⟨h.bx.step hb,h.src.below hb,h.bl.trans (hb.mono h.bl.size)⟩
theorem ak3 (w:World):(((w.alloc akX).alloc akY).alloc ap).heap[w.heap.size]? =some akX∧(((w.alloc akX).alloc akY).alloc ap).heap[w.heap.size+1]? =some akY∧(((w.alloc akX).alloc akY).alloc ap).heap[w.heap.size+1+1]? =some ap∧Below w.heap.size w (((w.alloc akX).alloc akY).alloc ap):=by
 have s1:(w.alloc akX).heap.size=w.heap.size+1:=by simp
 have s2:((w.alloc akX).alloc akY).heap.size=w.heap.size+1+1:=by simp
 have b1:=(Below.refl (w.heap.size+1) (w.alloc akX)).alloc (by omega) akY
 have b2:=(Below.refl (w.heap.size+1+1) ((w.alloc akX).alloc akY)).alloc (by omega) ap
 refine⟨?_,?_,?_,(((Below.refl _ _).alloc (Nat.le_refl _) _).alloc (by omega) _).alloc (by omega) _⟩
 ·rw [b2.block _ (by omega),b1.block _ (by omega)];exact heap_alloc_new _ _
 ·rw [b2.block _ (by omega),← s1];exact heap_alloc_new _ _
 ·rw [← s2];exact heap_alloc_new _ _
theorem LJ {wr:World} {g g':Nat} (hx:wr.heap[g]? =some akX) (hy:wr.heap[g']? =some akY):TFl wr (some ⟨g,0,none⟩) (some ⟨g',0,none⟩) g 0 g' 0 rqD rqF:=by
 unfold akX at hx
 unfold akY at hy
 refine⟨⟨fun _=>rfl,fun _=>(Array.getElem?_eq_some_iff.1 hx).1,fun j hj=>?_⟩,⟨fun _=>rfl,fun _=>(Array.getElem?_eq_some_iff.1 hy).1,fun j hj=>?_⟩,kC⟩
 ·have hj':j<2:=hj
  rcases (show j=0∨j=1 by omega) with rfl | rfl
  all_goals
   simp only [World.cell?,hx,Option.isSome_none,Bool.false_eq_true,if_false]
   rfl
 ·have hj':j<2:=hj
  rcases (show j=0∨j=1 by omega) with rfl | rfl
  all_goals
   simp only [World.cell?,hy,Option.isSome_none,Bool.false_eq_true,if_false]
   rfl
theorem LK (w:World):JSrc aF (w.alloc akO) (some ⟨w.heap.size,0,none⟩) w.heap.size 0 rqL:=by
 have h:=heap_alloc_new w akO
 refine⟨fun _=>rfl,fun _=>(Array.getElem?_eq_some_iff.1 h).1,fun i hi=>?_⟩
 have hi3:i<1:=hi
 unfold akO at h
 obtain rfl:i=0:=by omega
 refine⟨?_,?_,?_⟩
 all_goals
  simp only [World.cell?,h,akO,Option.isSome_none,Bool.false_eq_true,if_false]
  rfl
theorem AB:eC rqL:=fun i=>by
 rcases (show i=0∨1≤i by omega) with rfl | h
 ·decide
 ·rw [List.getD_eq_getElem?_getD,List.getElem?_eq_none (by exact h)];decide
set_option maxRecDepth 40000 in
set_option maxHeartbeats 12800000 in
theorem AC (w:World):Calls Tryz.prog 9 #[] w fun e w'=>e=.returned (.bool true)∧Below w.heap.size w w':=by
 obtain⟨h3x,h3y,h3z,h3b⟩:=ak3 w
 obtain⟨w3,hw3⟩:∃ w3,((w.alloc akX).alloc akY).alloc ap=w3:=⟨_,rfl⟩
 rw [hw3] at h3x h3y h3z h3b
 unfold akX akY ap at hw3
 obtain⟨u1,u2,u3,u4,⟨e0,z0,y0⟩,⟨e1,z1,y1⟩,⟨e2,z2,y2⟩,⟨e3,z3,y3⟩,hZ,hB⟩:=aP (w.heap.size+1+1) 0 2 (.slice (some ⟨w.heap.size,0,none⟩) 2 2) (.slice (some ⟨w.heap.size+1,0,none⟩) 2 2) w3 h3z
 have HA:Hid (AkB w u4):=⟨hZ,LJ ((hB.block _ (by omega)).trans h3x) ((hB.block _ (by omega)).trans h3y),h3b.trans (hB.mono (by omega))⟩
 have HJ:=hideS (LK u4)
 have HA5:=hideS (HA.out.step ((Below.refl _ u4).alloc (Nat.le_refl _) akO))
 obtain⟨w5,hw5⟩:∃ w5,u4.alloc akO=w5:=⟨_,rfl⟩
 rw [hw5] at HJ HA5
 unfold akO at hw5
 obtain⟨gl,hgl⟩:∃ gl,u4.heap.size=gl:=⟨_,rfl⟩
 rw [hgl] at HJ
 have q1:(FloatKind.f64.format.order 4598175219545276416 4598175219545276416==some .eq)=true:=by kernel_rfl
 have q2:(FloatKind.f64.format.order rqY 0==some .lt)=true:=by kernel_rfl
 have q3:(FloatKind.f64.format.order 0 0==some .eq)=true:=by kernel_rfl
 have q4:(FloatKind.f64.format.order rqY rqY==some .eq)=true:=by kernel_rfl
 have HBm:Hid (∀ wx,AkB w wx→Calls Tryz.prog 11 #[.agg #[.int .i64 0,.int .i64 2,.slice (some ⟨w.heap.size,0,none⟩) 2 2,.slice (some ⟨w.heap.size+1,0,none⟩) 2 2],.int .i64 1,.float .f64 0] wx fun e w'=>CvO wx rqC 0 e w'):=fun wx hx=>lk rqC rqC 1 0 0 _ _ _ _ 2 _ _ 2 wx (Ka w) (by decide) hx.src
 have HPm:Hid (∀ wx,AkB w wx→Calls Tryz.prog 14 #[.agg #[.int .i64 0,.int .i64 2,.slice (some ⟨w.heap.size,0,none⟩) 2 2,.slice (some ⟨w.heap.size+1,0,none⟩) 2 2],.float .f64 0] wx fun e w'=>CvO wx rqC 0 e w'):=fun wx hx=>ll rqC rqC 0 0 _ _ _ _ 2 _ _ 2 wx (Kb w) (by decide) hx.src
 have HLa:Hid (∀ wx,AkB w wx→JSrc aF wx (some ⟨gl,0,none⟩) gl 0 rqL→Calls Tryz.prog 18 #[.slice (some ⟨gl,0,none⟩) 1 1,.int .i64 1,.agg #[.int .i64 0,.int .i64 2,.slice (some ⟨w.heap.size,0,none⟩) 2 2,.slice (some ⟨w.heap.size+1,0,none⟩) 2 2],.float .f64 4576918229304087675] wx fun e w'=>∃ g,e=.returned (.tuple #[.slice (some ⟨g,0,none⟩) 2 2,.int .i64 0])∧w'.cell? ⟨g,0,none⟩=some (.float .f64 rqY)∧w'.cell? ⟨g,1,none⟩=some (.float .f64 0)∧g<w'.heap.size∧Below wx.heap.size wx w'):=fun wx hx hj=>by
  refine (jB rqL 1 rqC rqH (some ⟨gl,0,none⟩) gl 0 1 1 _ _ _ _ 2 _ _ 2 wx (by decide) hj rfl (by decide) AB hx.src).mono ?_
  rintro e w' ⟨ho,hb⟩
  obtain⟨a1,a2,a3,a4⟩:=Ms w
  rcases ho with⟨hn,_⟩| ⟨_,ho⟩
  ·exact absurd rqP.2 hn
  ·rcases ho with⟨k,hk,hE,_⟩| ⟨_,g,he,ho⟩
   ·exfalso
    have hk':k<2:=hk
    rcases (show k=0∨k=1 by omega) with rfl | rfl
    ·exact hE a2
    ·exact hE a4
   ·have hl:(List.range rqC.ds.length).map (lnV rqL 1 rqC rqH)=[rqY,0]:=by
     show [lnV rqL 1 rqC rqH 0,lnV rqL 1 rqC rqH 1]=_
     rw [a1,a3]
    rw [hl] at ho
    obtain⟨g',c',e',hs,_⟩:=cQ (xs:=[rqY,0]) ho rfl (by decide)
    injection e' with e1 _ _
    injection e1 with e1
    injection e1 with e1
    subst e1
    exact⟨g,he,hs.cell 0 (by decide),hs.cell 1 (by decide),hs.lt (by decide),hb⟩
 have HDe:Hid (∀ wx,AkB w wx→JSrc aF wx (some ⟨gl,0,none⟩) gl 0 rqL→Calls Tryz.prog 22 #[.slice (some ⟨gl,0,none⟩) 1 1,.int .i64 1,.agg #[.int .i64 0,.int .i64 2,.slice (some ⟨w.heap.size,0,none⟩) 2 2,.slice (some ⟨w.heap.size+1,0,none⟩) 2 2],.float .f64 4576918229304087675] wx fun e w'=>e=.returned (.tuple #[.float .f64 rqY,.int .i64 0])∧Below wx.heap.size wx w'):=fun wx hx hj=>by
  refine (lp rqL 1 rqC rqH (some ⟨gl,0,none⟩) gl 0 1 1 _ _ _ _ 2 _ _ 2 wx (by decide) hj rfl (by decide) AB hx.src).mono ?_
  rintro e w' ⟨ho,hb⟩
  obtain⟨a1,a2⟩:=Mt w
  rcases ho with⟨hn,_⟩| ⟨_,ho⟩
  ·exact absurd rqP.2 hn
  ·rw [a1,a2] at ho;exact⟨ho,hb⟩
 clear h3x h3y h3z h3b hZ hB
 obtain⟨t0,t1,t2,t3⟩:=HA5.out.bx.t
 go_enter Tryz.func9,Tryz.ntmps9
 go_wp2_with fail
 clear hw3 e0 z0 y0 e1 z1 y1 e2 z2 y2 e3 z3 y3 hw5 hgl t0 t1 t2 t3 HA
 refine (HBm.out _ HA5.out).mono ?_
 intro e w6 ho
 obtain⟨gx,cx,gy,cy,he,hO⟩:=ho.ok rfl
 have he':e=.returned (.tuple #[.agg #[.int .i64 0,.int .i64 2,.slice (some ⟨gx,0,none⟩) 2 cx,.slice (some ⟨gy,0,none⟩) 2 cy],.int .i64 0]):=he
 subst he'
 obtain⟨u1,u2,u3,u4',⟨e0,z0,y0⟩,⟨e1,z1,y1⟩,⟨e2,z2,y2⟩,⟨e3,z3,y3⟩,hZ,hB⟩:=aP w6.heap.size 0 2 (.slice (some ⟨gx,0,none⟩) 2 cx) (.slice (some ⟨gy,0,none⟩) 2 cy) (w6.alloc ap) (heap_alloc_new _ _)
 have hB2:Below w6.heap.size w6 u4':=((Below.refl _ w6).alloc (Nat.le_refl _) ap).trans hB
 have HA7:=hideS ((HA5.out.step ho.bl).step hB2)
 have HJ7:=hideS ((HJ.out.below ho.bl).below hB2)
 have HZ7:=hideS hZ
 have HC7:=hideS (hO.below hB2).src.y
 obtain⟨w7,hw7⟩:∃ w7,w6.alloc ap=w7:=⟨_,rfl⟩
 rw [hw7] at e0 z0 y0
 unfold ap at hw7
 obtain⟨t0,t1,t2,t3⟩:=HA7.out.bx.t
 clear ho hO hB hB2 hZ HA5 HBm HJ he
 go_wp2_with fail
 clear hw7 e0 z0 y0 e1 z1 y1 e2 z2 y2 e3 z3 y3 t0 t1 t2 t3
 generalize w6.heap.size=gd at *
 refine (HPm.out _ HA7.out).mono ?_
 intro e w8 ho
 obtain⟨px,dx,py,dy,he,hO⟩:=ho.ok rfl
 have he':e=.returned (.tuple #[.agg #[.int .i64 0,.int .i64 2,.slice (some ⟨px,0,none⟩) 2 dx,.slice (some ⟨py,0,none⟩) 2 dy],.int .i64 0]):=he
 subst he'
 obtain⟨v1,v2,v3,v4,⟨e0,z0,y0⟩,⟨e1,z1,y1⟩,⟨e2,z2,y2⟩,⟨e3,z3,y3⟩,hZ,hB⟩:=aP w8.heap.size 0 2 (.slice (some ⟨px,0,none⟩) 2 dx) (.slice (some ⟨py,0,none⟩) 2 dy) (w8.alloc ap) (heap_alloc_new _ _)
 have hB2:Below w8.heap.size w8 v4:=((Below.refl _ w8).alloc (Nat.le_refl _) ap).trans hB
 have HA9:=hideS ((HA7.out.step ho.bl).step hB2)
 have HJ9:=hideS ((HJ7.out.below ho.bl).below hB2)
 have HZ9:=hideS ((HZ7.out.step ho.bl).step hB2)
 have HC9:=hideS ((HC7.out.below ho.bl).below hB2)
 have HP9:=hideS hZ
 obtain⟨w9,hw9⟩:∃ w9,w8.alloc ap=w9:=⟨_,rfl⟩
 rw [hw9] at e0 z0 y0
 unfold ap at hw9
 obtain⟨t0,t1,t2,t3⟩:=HA9.out.bx.t
 clear ho hO hB hB2 hZ HA7 HPm HJ7 HZ7 HC7 he
 go_wp2_with fail
 clear hw9 e0 z0 y0 e1 z1 y1 e2 z2 y2 e3 z3 y3 t0 t1 t2 t3
 generalize w8.heap.size=gp at *
 refine (HLa.out _ HA9.out HJ9.out).mono ?_
 rintro e wa ⟨g,rfl,k0,k1,kl,hba⟩
 have HAa:=hideS (HA9.out.step hba)
 have HJa:=hideS (HJ9.out.below hba)
 have HZa:=hideS (HZ9.out.step hba)
 have HCa:=hideS (HC9.out.below hba)
 have HPa:=hideS (HP9.out.step hba)
 have HK:=hideS (And.intro k0 (And.intro k1 kl))
 clear hba HA9 HJ9 HZ9 HC9 HP9 HLa k0 k1 kl
 obtain⟨t0,t1,t2,t3⟩:=HAa.out.bx.t
 go_wp2_with fail
 clear t0 t1 t2 t3
 refine (HDe.out _ HAa.out HJa.out).mono ?_
 rintro e wb ⟨rfl,hbb⟩
 have HBl:=hideS (HAa.out.step hbb).bl
 obtain⟨_,_,_,d3⟩:=(HZa.out.step hbb).t
 obtain⟨_,_,_,p3⟩:=(HPa.out.step hbb).t
 have c1:=(HCa.out.below hbb).cell 1 (by decide)
 have k0:=(hbb.cell (p:=⟨g,0,none⟩) HK.out.2.2).trans HK.out.1
 have k1:=(hbb.cell (p:=⟨g,1,none⟩) HK.out.2.2).trans HK.out.2.1
 have c1':wb.cell? ⟨gy,1,none⟩=some (.float .f64 4598175219545276416):=c1
 clear hbb HAa HJa HZa HCa HPa HK HDe c1
 go_wp2_with fail
 go_ret
 exact⟨rfl,HBl.out⟩
end Go.Proofs.YtpddmnmhdahnlaaGreat
namespace Go.Proofs.YtpddmnmhdahnlaaGreat
open Go.RowKit

def tlO (o:Option Nat):Nat:=match o with | some x=>ij x | none=>0
def teO (o:Option Nat):Int:=match o with | some x=>iX x | none=>91
theorem Mu {o:Option Nat} {x:Nat} (h:AgU o x):ij x=tlO o∧iX x=teO o:=by
 cases o with
 | none=>
  have:=kd (dw h.1).1
  unfold ij iX
  rw [this];exact⟨rfl,rfl⟩
 | some r=>rw [bL h.1];exact⟨rfl,rfl⟩
noncomputable def gaO (u b d:Nat):Option Nat:=opO .sub (opO .sub (some u) (some b)) (opO .sub (some b) (some d))
set_option maxRecDepth 20000 in
set_option maxHeartbeats 12800000 in
theorem CW (cur base kind:Int) (h n V0 uV dV:Nat) (uE dE:Int) (pl:Option Addr) (cl N:Nat) (pd pf:Option Addr) (cd cf m:Nat) (w:World) (hV0:V0<18446744073709551616) (hu:uV<18446744073709551616) (hd:dV<18446744073709551616)
  (HH:Hid (∀ wx,Below w.heap.size w wx→Calls Tryz.prog 41 #[.slice pl N cl,.int .i64 cur,.agg #[.int .i64 base,.int .i64 kind,.slice pd n cd,.slice pf m cf]] wx fun e w'=>e=.returned (.tuple #[.agg #[.slice pl N cl,.int .i64 cur,.int .i64 base,.int .i64 kind,.slice pd n cd,.slice pf m cf,.float .f64 V0],.int .i64 0])∧Below wx.heap.size wx w'))
  (HG:Hid (∀ wx hb,Below w.heap.size w wx→wx.cell? ⟨hb,0,none⟩=some (.float .f64 h)→hb<wx.heap.size→Calls Tryz.prog 51 #[.agg #[.slice pl N cl,.int .i64 cur,.int .i64 base,.int .i64 kind,.slice pd n cd,.slice pf m cf,.float .f64 V0],.func (.func 87) #[] #[.pointer (some ⟨hb,0,none⟩)]] wx fun e w'=>e=.returned (.tuple #[.float .f64 uV,.int .i64 uE])∧Below wx.heap.size wx w'))
  (HD:Hid (∀ wx hb,Below w.heap.size w wx→wx.cell? ⟨hb,0,none⟩=some (.float .f64 (Op.negFloat .f64 h))→hb<wx.heap.size→Calls Tryz.prog 51 #[.agg #[.slice pl N cl,.int .i64 cur,.int .i64 base,.int .i64 kind,.slice pd n cd,.slice pf m cf,.float .f64 V0],.func (.func 87) #[] #[.pointer (some ⟨hb,0,none⟩)]] wx fun e w'=>e=.returned (.tuple #[.float .f64 dV,.int .i64 dE])∧Below wx.heap.size wx w')) :
  Calls Tryz.prog 24 #[.slice pl N cl,.int .i64 cur,.agg #[.int .i64 base,.int .i64 kind,.slice pd n cd,.slice pf m cf],.float .f64 h] w fun e w'=>((uE≠0∧e=.returned (.tuple #[.float .f64 0,.int .i64 uE]))∨(uE=0∧dE≠0∧e=.returned (.tuple #[.float .f64 0,.int .i64 dE]))∨(uE=0∧dE=0∧e=.returned (.tuple #[.float .f64 (tlO (gaO uV V0 dV)),.int .i64 (teO (gaO uV V0 dV))])))∧Below w.heap.size w w':=by
 have HB:=hideS (aW w base kind (.slice pd n cd) (.slice pf m cf))
 obtain⟨w2,hw2⟩:∃ w2,w.alloc (.cells #[.int .i64 base,.int .i64 kind,.slice pd n cd,.slice pf m cf] 25)=w2:=⟨_,rfl⟩
 rw [hw2] at HB
 have t0:=HB.out.t0
 have t1:=HB.out.t1
 have t2:=HB.out.t2
 have t3:=HB.out.t3
 have hneg:=wK
 have HV0:=hideS hV0
 have Hu:=hideS hu
 have Hd:=hideS hd
 clear hV0 hu hd
 go_enter Tryz.func24,Tryz.ntmps24
 go_wp2_with fail
 clear hw2 t0 t1 t2 t3
 refine (HH.out _ HB.out.bl).mono ?_
 rintro e w3 ⟨rfl,hb3⟩
 have HB3:=hideS (HB.out.step hb3)
 clear hb3 HH HB
 obtain⟨u1,u2,u3,u4,u5,u6,u7,⟨e0,z0,y0⟩,⟨e1,z1,y1⟩,⟨e2,z2,y2⟩,⟨e3,z3,y3⟩,⟨e4,z4,y4⟩,⟨e5,z5,y5⟩,⟨e6,z6,y6⟩,hZ,hB⟩:=eJ w3.heap.size (.slice pl N cl) cur base kind (.slice pd n cd) (.slice pf m cf) V0 (w3.alloc aE) (heap_alloc_new _ _)
 have HZ:=hideS hZ
 have HB4:Hid (Below w.heap.size w u7):=HB3.out.bl.trans ((((Below.refl _ w3).alloc (Nat.le_refl _) aE).trans hB).mono HB3.out.bl.size)
 have HPa:=hideS rH
 obtain⟨w4,hw4⟩:∃ w4,w3.alloc aE=w4:=⟨_,rfl⟩
 rw [hw4] at e0 z0 y0
 unfold aE at hw4
 have hst:=bn
 clear hZ hB HB3
 go_wp2_with fail
 clear hw4 e0 z0 y0 e1 z1 y1 e2 z2 y2 e3 z3 y3 e4 z4 y4 e5 z5 y5 e6 z6 y6 hst
 obtain⟨s0,s1,s2,s3,s4,s5,s6⟩:=HZ.out.t
 generalize w3.heap.size=g at *
 go_region_held3 (fun x=>x.cell? ⟨g,0,none⟩=some (.slice pl N cl)∧x.cell? ⟨g,1,none⟩=some (.int .i64 cur)∧x.cell? ⟨g,2,none⟩=some (.int .i64 base)∧x.cell? ⟨g,3,none⟩=some (.int .i64 kind)∧x.cell? ⟨g,4,none⟩=some (.slice pd n cd)∧x.cell? ⟨g,5,none⟩=some (.slice pf m cf)∧x.cell? ⟨g,6,none⟩=some (.float .f64 V0)) (first | go_keep | exact HK6.out.t | exact HK5.out.t) (first | (go_at_call 49;refine (HPa.out h _).mono ?_;rintro e w5 ⟨rfl,hc5,hl5,hb5⟩;have HB5:Hid (Below u7.heap.size u7 w5):=⟨hb5.os,hb5.tape,hb5.output,hb5.size,hb5.block⟩;have HK5:=hideS (HZ.out.step HB5.out);have HCx:=hideS (HG.out w5 u7.heap.size (HB4.out.trans (HB5.out.mono HB4.out.size)) hc5 hl5);clear hb5 hc5 hl5) | (go_at_call 51;refine HCx.out.mono ?_;rintro e w6 ⟨rfl,hb6⟩;have HB6:=hideS (HB5.out.trans (hb6.mono HB5.out.size));have HK6:=hideS (HZ.out.step HB6.out);clear hb6))
 all_goals
  have HBl:=hideS (HB4.out.trans (HB6.out.mono HB4.out.size))
  clear s0 s1 s2 s3 s4 s5 s6 HCx HK5
  by_cases hE:uE=0
  ·have HE:=hideS hE
   rw [hE]
   obtain⟨s0,s1,s2,s3,s4,s5,s6⟩:=HK6.out.t
   clear hE
   go_wp2_with fail
   go_region_held3 (fun x=>x.cell? ⟨g,0,none⟩=some (.slice pl N cl)∧x.cell? ⟨g,1,none⟩=some (.int .i64 cur)∧x.cell? ⟨g,2,none⟩=some (.int .i64 base)∧x.cell? ⟨g,3,none⟩=some (.int .i64 kind)∧x.cell? ⟨g,4,none⟩=some (.slice pd n cd)∧x.cell? ⟨g,5,none⟩=some (.slice pf m cf)∧x.cell? ⟨g,6,none⟩=some (.float .f64 V0)) (first | go_keep | exact HK8.out.t | exact HK7.out.t) (first | (go_at_call 49;refine (HPa.out (Op.negFloat .f64 h) _).mono ?_;rintro e w7 ⟨rfl,hc5,hl5,hb5⟩;have HB7:Hid (Below w6.heap.size w6 w7):=⟨hb5.os,hb5.tape,hb5.output,hb5.size,hb5.block⟩;have HK7:=hideS (HK6.out.step HB7.out);have HCx:=hideS (HD.out w7 w6.heap.size (HBl.out.trans (HB7.out.mono HBl.out.size)) hc5 hl5);clear hb5 hc5 hl5) | (go_at_call 51;refine HCx.out.mono ?_;rintro e w8 ⟨rfl,hb6⟩;have HB8:=hideS (HB7.out.trans (hb6.mono HB7.out.size));have HK8:=hideS (HK6.out.step HB8.out);clear hb6))
   all_goals
    have HBm:=hideS (HBl.out.trans (HB8.out.mono HBl.out.size))
    clear s0 s1 s2 s3 s4 s5 s6 HCx HK7
    by_cases hF:dE=0
    ·have HF:=hideS hF
     rw [hF]
     obtain⟨_,_,_,_,_,_,s6⟩:=HK8.out.t
     obtain⟨x1,⟨q1,r1⟩,g1⟩:=sO .sub (by simp) 26 (kj Hu.out) (kj HV0.out) w8
     obtain⟨wa,hwa⟩:∃ wa,w8.drewN q1=wa:=⟨_,rfl⟩
     rw [hwa] at r1
     have sa:wa.cell? ⟨g,6,none⟩=some (.float .f64 V0):=by rw [← hwa];exact s6
     obtain⟨x2,⟨q2,r2⟩,g2⟩:=sO .sub (by simp) 26 (kj HV0.out) (kj Hd.out) wa
     obtain⟨wb,hwb⟩:∃ wb,wa.drewN q2=wb:=⟨_,rfl⟩
     rw [hwb] at r2
     obtain⟨x3,⟨q3,r3⟩,g3⟩:=sO .sub (by simp) 26 g1 g2 wb
     obtain⟨wc,hwc⟩:∃ wc,wb.drewN q3=wc:=⟨_,rfl⟩
     rw [hwc] at r3
     have HBn:Hid (Below w.heap.size w wc):=by
      show Below _ _ _
      rw [← hwc,← hwb,← hwa]
      exact⟨HBm.out.os,HBm.out.tape,HBm.out.output,HBm.out.size,HBm.out.block⟩
     have HT:=hideS (Mu g3)
     have HNu:=hideS fun wx=>iv x3 wx (ah g3.2)
     rw [HT.out.1,HT.out.2] at HNu
     have HG3:Hid (tlO (gaO uV V0 dV)=tlO (opO .sub (opO .sub (some uV) (some V0)) (opO .sub (some V0) (some dV)))∧teO (gaO uV V0 dV)=teO (opO .sub (opO .sub (some uV) (some V0)) (opO .sub (some V0) (some dV)))):=⟨rfl,rfl⟩
     obtain⟨TV,hTV⟩:∃ TV,tlO (opO .sub (opO .sub (some uV) (some V0)) (opO .sub (some V0) (some dV)))=TV:=⟨_,rfl⟩
     obtain⟨TE,hTE⟩:∃ TE,teO (opO .sub (opO .sub (some uV) (some V0)) (opO .sub (some V0) (some dV)))=TE:=⟨_,rfl⟩
     rw [hTV,hTE] at HNu HG3
     clear hF g1 g2 g3 hwa hwb hwc HT hTV hTE
     go_wp2_with (go_at_call 52;refine (turned (HNu.out _)).mono ?_;rintro e w' ⟨rfl,rfl⟩)
     go_ret2
     refine⟨Or.inr (Or.inr ⟨HE.out,HF.out,?_⟩),HBn.out⟩
     rw [HG3.out.1,HG3.out.2]
     rfl
    ·have dF:(dE !=0)=true:=bne_iff_ne.2 hF
     have HF:=hideS hF
     clear hF
     go_wp2_with fail
     go_ret2
     exact⟨Or.inr (Or.inl ⟨HE.out,HF.out,rfl⟩),HBm.out⟩
  ·have dU:(uE !=0)=true:=bne_iff_ne.2 hE
   have HE:=hideS hE
   clear hE
   go_wp2_with fail
   go_ret2
   exact⟨Or.inl ⟨HE.out,rfl⟩,HBl.out⟩
theorem Hf {l:List Flw} {cur:Int} {d:Cv} {E:Int}:pm l cur d E<18446744073709551616:=by
 unfold pm
 split
 ·have h:=prR l cur d
  generalize prV l cur d=V at *
  generalize prE l cur d=E' at *
  cases h with
  | bad=>decide
  | ok=>
   unfold sW ij
   split
   ·exact sX _
   ·decide
 ·decide
theorem rK (l:List Flw) (cur:Int) (c:Cv) (h:Nat) (pl:Option Addr) (bl ol cl N:Nat) (pd pf:Option Addr) (bd od cd b2 o2 cf:Nat) (w:World) (hh:h<18446744073709551616) (hl:JSrc aF w pl bl ol l) (hN:l.length=N) (hNb:N≤30000) (hf:eC l) (hs:TFl w pd pf bd od b2 o2 c.ds c.fs) :
  Calls Tryz.prog 24 #[.slice pl N cl,.int .i64 cur,.agg #[.int .i64 c.base,.int .i64 c.kind,.slice pd c.ds.length cd,.slice pf c.fs.length cf],.float .f64 h] w fun e w'=>((prE l cur c≠0∧e=.returned (.tuple #[.float .f64 0,.int .i64 (prE l cur c)]))∨(prE l cur c=0∧((upE l cur c h≠0∧e=.returned (.tuple #[.float .f64 0,.int .i64 (upE l cur c h)]))∨(upE l cur c h=0∧upE l cur c (flipN h)≠0∧e=.returned (.tuple #[.float .f64 0,.int .i64 (upE l cur c (flipN h))]))∨(upE l cur c h=0∧upE l cur c (flipN h)=0∧e=.returned (.tuple #[.float .f64 (tlO (gaO (upV l cur c h) (prV l cur c) (upV l cur c (flipN h)))),.int .i64 (teO (gaO (upV l cur c h) (prV l cur c) (upV l cur c (flipN h))))])))))∧Below w.heap.size w w':=by
 by_cases h0:prE l cur c=0
 ·have hp:=prR l cur c
  rw [h0] at hp
  have ok:=(dm h0).1.ok
  have key:∀ h',h'<18446744073709551616→∀ wx hb,Below w.heap.size w wx→wx.cell? ⟨hb,0,none⟩=some (.float .f64 h')→hb<wx.heap.size→Calls Tryz.prog 51 #[.agg #[.slice pl N cl,.int .i64 cur,.int .i64 c.base,.int .i64 c.kind,.slice pd c.ds.length cd,.slice pf c.fs.length cf,.float .f64 (prV l cur c)],.func (.func 87) #[] #[.pointer (some ⟨hb,0,none⟩)]] wx fun e w'=>e=.returned (.tuple #[.float .f64 (upV l cur c h'),.int .i64 (upE l cur c h')])∧Below wx.heap.size wx w':=fun h' hh' wx hb hx hc hlt=>by
   obtain⟨d,hR,hd⟩:=GW (h:=h') ok
   have:=lZ 87 _ l d (paE c h') cur c.base c.kind pl bl ol cl N (.slice pd c.ds.length cd) (.slice pf c.fs.length cf) (prV l cur c) wx po (Ax c d h' hb (paE c h') pd pf bd od cd b2 o2 cf wx hR hh' hc hlt (hs.below hx)) (hl.below hx) hN hNb hf
   obtain⟨e1,e2⟩:=LE (l:=l) (cur:=cur) (fun e=>(hd e).1)
   rw [e1,e2] at this
   exact this
  refine (CW cur c.base c.kind h c.ds.length (prV l cur c) (upV l cur c h) (upV l cur c (flipN h)) (upE l cur c h) (upE l cur c (flipN h)) pl cl N pd pf cd cf c.fs.length w (dm h0).2.2.2 Hf Hf (fun wx hb=>pk l cur c pl bl ol cl N pd pf bd od cd b2 o2 cf wx _ hp (hl.below hb) hN hNb hf (hs.below hb)) (key h hh) (by rw [uU hh];exact key (flipN h) (bO hh).1)).mono ?_
  rintro e w' ⟨a,b⟩
  exact⟨Or.inr ⟨h0,a⟩,b⟩
 ·refine (zh cur c.base c.kind (prE l cur c) h _ _ _ w h0 (fun wx hb=>lm l cur c pl bl ol cl N pd pf bd od cd b2 o2 cf wx _ _ (prR l cur c) h0 (hl.below hb) hN hNb hf (hs.below hb))).mono ?_
  rintro e w' ⟨a,b⟩
  exact⟨Or.inl ⟨h0,a⟩,b⟩
set_option maxRecDepth 20000 in
theorem me (p:Option Addr) (g o n c:Nat) (w:World) (hp:0<n→p=some ⟨g,o,none⟩) (hc:∀ j<n,w.cell? ⟨g,o+j,none⟩=some (.float .f64 0)) (hn:n≤1000) :
  Calls Tryz.prog 33 #[.slice p n c] w fun e w'=>e=.returned (.bool true)∧w'=w:=by
 have Hp:=hideS hp
 have Hc:=hideS hc
 clear hp hc
 go_enter Tryz.func33,Tryz.ntmps33
 go_wp2_with fail
 go_loopw [3] (fun i wr=>∃ k:Nat,k≤n∧i=.int .i64 k∧wr=w) (fun i _=>n - (intOf i).toNat)
 case atStart=>exact⟨0,Nat.zero_le _,rfl,rfl⟩
 case round=>
  obtain⟨k,hk,rfl,hw⟩:=hrel
  subst hw
  by_cases hlt:k<n
  ·obtain rfl:=Hp.out (by omega)
   have a:=Hc.out k hlt
   have l1:(0:Int)≤(k:Int):=Int.natCast_nonneg _
   have l2:(k:Int)<(n:Int):=by omega
   go_wp2_with (go_at_call 13;refine (turned (gM _ _)).mono ?_;rintro e w' ⟨rfl,rfl⟩)
   go_roundw
   case rel=>exact⟨k+1,by omega,by simp,by first | rfl | trivial⟩
   case measure=>simp [intOf];omega
  ·go_wp2_with fail
   go_ret
   exact⟨rfl,rfl⟩
end Go.Proofs.YtpddmnmhdahnlaaGreat
namespace Go.Proofs.YtpddmnmhdahnlaaGreat
open Go.RowKit

theorem CvO.shape {w:World} {d:Cv} {E:Int} {e:Ending} {w':World} (h:CvO w d E e w'):∃ (b k:Int) (px py:Option Addr) (nx cx ny cy gx gy:Nat),e=.returned (.tuple #[.agg #[.int .i64 b,.int .i64 k,.slice px nx cx,.slice py ny cy],.int .i64 E])∧(E=0→b=d.base∧k=d.kind∧nx=d.ds.length∧ny=d.fs.length∧TFl w' px py gx 0 gy 0 d.ds d.fs):=by
 by_cases hE:E=0
 ·subst hE
  obtain⟨gx,cx,gy,cy,rfl,hO⟩:=h.ok rfl
  exact⟨_,_,_,_,_,cx,_,cy,gx,gy,rfl,fun _=>⟨rfl,rfl,rfl,rfl,hO.src⟩⟩
 ·exact⟨0,0,none,none,0,0,0,0,0,0,h.bad hE,fun e=>absurd e hE⟩
theorem Mv {c d d':Cv} {i:Int} {h:Nat} {E E':Int} (H:BmpR c i h d E) (H':BmpR c i h d' E'):d=d'∧E=E':=by
 cases H with
 | chk E hC hE=>cases H' with
  | chk E' hC' _=>exact⟨rfl,oF hC hC'⟩
  | arg ok _=>exact absurd (bg ok hC) hE
  | val ok _ _ _ _=>exact absurd (bg ok hC) hE
  | ok ok _ _ _ _=>exact absurd (bg ok hC) hE
 | arg ok hi=>cases H' with
  | chk E' hC' hE'=>exact absurd (bg ok hC') hE'
  | arg _ _=>exact⟨rfl,rfl⟩
  | val _ k hk e _=>exact absurd ⟨by omega,by omega⟩ hi
  | ok _ k hk e _=>exact absurd ⟨by omega,by omega⟩ hi
 | val ok k hk e hb=>cases H' with
  | chk E' hC' hE'=>exact absurd (bg ok hC') hE'
  | arg _ hi=>exact absurd ⟨by omega,by omega⟩ hi
  | val _ _ _ _ _=>exact⟨rfl,rfl⟩
  | ok _ k' hk' e' hb'=>
   obtain rfl:k=k':=by omega
   rw [hb] at hb';cases hb'
 | ok ok k hk e hb=>cases H' with
  | chk E' hC' hE'=>exact absurd (bg ok hC') hE'
  | arg _ hi=>exact absurd ⟨by omega,by omega⟩ hi
  | val _ k' hk' e' hb'=>
   obtain rfl:k=k':=by omega
   rw [hb] at hb';cases hb'
  | ok _ k' hk' e' hb'=>
   obtain rfl:k=k':=by omega
   exact⟨rfl,rfl⟩
theorem zl (w0:World) {c:Cv} (hv:c.Fit) (i:Int) {da db:Cv} {EA EB C:Int} (hA:BmpR c i 0 da EA) (hB:ParR c 0 db EB) (hC:c.Chk C):EB=C∧(EB=0→db=c)∧(EA=0→da=c∧EB=0)∧(EB=0→(EA=0↔(0≤i∧i<(c.ds.length:Int)))):=by
 have okC:c.Ok→C=0:=fun ok=>bg ok hC
 cases hB with
 | chk _ hC' hE=>
  refine⟨oF hC' hC,fun h=>absurd h hE,fun h=>?_,fun h=>absurd h hE⟩
  cases hA with
  | chk _ _ hE'=>exact absurd h hE'
  | arg ok _=>exact absurd (bg ok hC') hE
  | val ok _ _ _ _=>exact absurd (bg ok hC') hE
  | ok ok _ _ _ _=>exact absurd (bg ok hC') hE
 | val ok k hk hb _=>exact absurd (dB w0 ok hv hk).2 (by rw [hb];decide)
 | ok ok hb=>
  refine⟨(okC ok).symm,fun _=>iS w0 ok hv,fun h=>?_,fun _=>?_⟩
  ·cases hA with
   | chk _ _ hE'=>exact absurd h hE'
   | arg _ _=>exact absurd h (by decide)
   | val _ _ _ _ _=>exact absurd h (by decide)
   | ok _ k hk e _=>exact⟨ls w0 ok hv hk,rfl⟩
  ·cases hA with
   | chk E' hC' hE'=>exact absurd (bg ok hC') hE'
   | arg _ hi=>exact⟨fun h=>absurd h (by decide),fun h=>absurd h hi⟩
   | val _ k hk e hb=>exact absurd (dB w0 ok hv hk).2 (by rw [hb];decide)
   | ok _ k hk e _=>exact⟨fun _=>⟨by omega,by omega⟩,fun _=>rfl⟩
theorem Kc (w0:World) {l:List Flw} {cur:Int} {c:Cv} (hv:c.Fit) (h0:prE l cur c=0):(∀ k<c.ds.length,lnV l cur c 0 k=0∧lnE l cur c 0 k=0)∧deV l cur c 0=0∧deE l cur c 0=0:=by
 have ok:=(dm h0).1.ok
 obtain⟨a,b⟩:=Az h0 (d:=c) ⟨rfl,rfl⟩
 have key:ml l cur c (prV l cur c) 0=0∧mn l cur c (prV l cur c) 0=0:=by
  unfold ml mn;rw [if_pos rfl,if_pos rfl];exact⟨a,b⟩
 refine⟨fun k hk=>?_,?_⟩
 ·have e:bmE c k 0=0:=by unfold bmE;rw [if_pos (dB w0 ok hv hk).2]
  unfold lnV lnE
  rw [e,ls w0 ok hv hk];exact key
 ·have e:paE c 0=0:=by unfold paE;rw [if_pos (fun k hk=>(dB w0 ok hv hk).2)]
  unfold deV deE
  rw [e,iS w0 ok hv];exact key
theorem CX (w0:World) {base d:Int} (ht:af (rkT base d)):rkX base d 9223372036854775808=4607182418800017408:=by
 have e:opO .mul (some 9223372036854775808) (some (rkT base d))=some (wrd (sB 9223372036854775808^^sB (rkT base d)) 0):=by
  show floatBits .mul .f64 9223372036854775808 (rkT base d)=_
  rw [dv (by unfold af;decide) ht,show aV 9223372036854775808=0 by decide+kernel,Nat.zero_mul];rfl
 unfold rkX
 rw [e,Ay w0];rfl
theorem wT (w0:World) {c:Cv} {k:Nat} (ok:c.Ok) (hv:c.Fit) (hk:k<c.ds.length):c.bm k 9223372036854775808=c.fs.getD k 0∧bmB c k 9223372036854775808=true:=by
 obtain⟨d0,d1⟩:=ok.day hk
 have b0:=ok.b0
 obtain⟨t0,t1⟩:=mH d0 (by omega)
 obtain⟨f0,f1⟩:=ok.fac hk
 have e:c.bm k 9223372036854775808=c.fs.getD k 0:=by
  unfold Cv.bm rkF
  rw [CX w0 t0,wR f0 (hv k (by rw [ok.len];exact hk)) f1];rfl
 refine⟨e,?_⟩
 unfold bmB
 rw [e,ok.rkB hk];decide
theorem pw (w0:World) {c:Cv} (ok:c.Ok) (hv:c.Fit):∀ k≤c.ds.length,c.parL 9223372036854775808 k=c.fs
 | 0,_=>rfl
 | k+1,hk=>by
  rw [Cv.parL,pw w0 ok hv k (by omega),(wT w0 ok hv (k:=k) (by omega)).1,pt (by rw [ok.len];omega)]
theorem Kd (w0:World) {l:List Flw} {cur:Int} {c:Cv} (hv:c.Fit) (h0:prE l cur c=0):upE l cur c 0=0∧upE l cur c (flipN 0)=0∧tlO (gaO (upV l cur c 0) (prV l cur c) (upV l cur c (flipN 0)))=0∧teO (gaO (upV l cur c 0) (prV l cur c) (upV l cur c (flipN 0)))=0:=by
 have ok:=(dm h0).1.ok
 have hf:flipN 0=9223372036854775808:=by decide
 have e1:paE c 0=0:=by unfold paE;rw [if_pos (fun k hk=>(dB w0 ok hv hk).2)]
 have e2:paE c 9223372036854775808=0:=by unfold paE;rw [if_pos (fun k hk=>(wT w0 ok hv hk).2)]
 have p1:c.para 0=c:=iS w0 ok hv
 have p2:c.para 9223372036854775808=c:=by unfold Cv.para;rw [pw w0 ok hv _ (Nat.le_refl _)]
 have u1:upV l cur c 0=prV l cur c∧upE l cur c 0=0:=by unfold upV upE pm tl;rw [e1,p1,if_pos rfl,if_pos rfl];exact⟨rfl,h0⟩
 have u2:upV l cur c 9223372036854775808=prV l cur c∧upE l cur c 9223372036854775808=0:=by unfold upV upE pm tl;rw [e2,p2,if_pos rfl,if_pos rfl];exact⟨rfl,h0⟩
 rw [hf,u1.1,u1.2,u2.1,u2.2]
 have hs:=sub_self (cF (dm h0).2.2.1)
 have hg:gaO (prV l cur c) (prV l cur c) (prV l cur c)=some 0:=by
  unfold gaO
  rw [show opO .sub (some (prV l cur c)) (some (prV l cur c))=some 0 from hs]
  decide+kernel
 rw [hg]
 exact⟨rfl,rfl,by decide,by decide⟩
end Go.Proofs.YtpddmnmhdahnlaaGreat
