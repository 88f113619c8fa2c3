/-  -/
import Derived.Test.YtpddmnmhdahnlaaGreatHbv
import Derived.Test.YtpddmnmhdahnlaaGreatHbp
namespace Go.Proofs.YtpddmnmhdahnlaaGreat
open Go.RowKit

def akX:Obj:=.cells #[.int .i64 365,.int .i64 730] 3
def akY:Obj:=.cells #[.float .f64 4602678819172646912,.float .f64 4598175219545276416] 26
def akO:Obj:=.cells #[.int .i64 365,.float .f64 4607182418800017408,.int .i64 1] 74
structure AkB (w wr:World):Prop where
 bx:BxK wr (w.heap.size+1+1) 0 2 (.slice (some ⟨w.heap.size,0,none⟩) 2 2) (.slice (some ⟨w.heap.size+1,0,none⟩) 2 2)
 src:TFl wr (some ⟨w.heap.size,0,none⟩) (some ⟨w.heap.size+1,0,none⟩) w.heap.size 0 (w.heap.size+1) 0 rqD rqF
 bl:Below w.heap.size w wr
theorem AkB.step {w wr w':World} (h:AkB w wr) (hb:Below wr.heap.size wr w'):AkB w w':=⟨h.bx.step hb,h.src.below hb,h.bl.trans (hb.mono h.bl.size)⟩
theorem ak3 (w:World):(((w.alloc akX).alloc akY).alloc ap).heap[w.heap.size]? =some akX∧(((w.alloc akX).alloc akY).alloc ap).heap[w.heap.size+1]? =some akY∧(((w.alloc akX).alloc akY).alloc ap).heap[w.heap.size+1+1]? =some ap∧Below w.heap.size w (((w.alloc akX).alloc akY).alloc ap):=by
 have s1:(w.alloc akX).heap.size=w.heap.size+1:=by simp
 have s2:((w.alloc akX).alloc akY).heap.size=w.heap.size+1+1:=by simp
 have b1:=(Below.refl (w.heap.size+1) (w.alloc akX)).alloc (by omega) akY
 have b2:=(Below.refl (w.heap.size+1+1) ((w.alloc akX).alloc akY)).alloc (by omega) ap
 refine⟨?_,?_,?_,(((Below.refl _ _).alloc (Nat.le_refl _) _).alloc (by omega) _).alloc (by omega) _⟩
 ·rw [b2.block _ (by omega),b1.block _ (by omega)];exact heap_alloc_new _ _
 ·rw [b2.block _ (by omega),← s1];exact heap_alloc_new _ _
 ·rw [← s2];exact heap_alloc_new _ _
theorem Lu {wr:World} {g g':Nat} (hx:wr.heap[g]? =some akX) (hy:wr.heap[g']? =some akY):TFl wr (some ⟨g,0,none⟩) (some ⟨g',0,none⟩) g 0 g' 0 rqD rqF:=by
 unfold akX at hx
 unfold akY at hy
 refine⟨⟨fun _=>rfl,fun _=>(Array.getElem?_eq_some_iff.1 hx).1,fun j hj=>?_⟩,⟨fun _=>rfl,fun _=>(Array.getElem?_eq_some_iff.1 hy).1,fun j hj=>?_⟩,kq⟩
 ·have hj':j<2:=hj
  rcases (show j=0∨j=1 by omega) with rfl | rfl
  all_goals
   simp only [World.cell?,hx,Option.isSome_none,Bool.false_eq_true,if_false]
   rfl
 ·have hj':j<2:=hj
  rcases (show j=0∨j=1 by omega) with rfl | rfl
  all_goals
   simp only [World.cell?,hy,Option.isSome_none,Bool.false_eq_true,if_false]
   rfl
theorem Lv (w:World):JSrc aF (w.alloc akO) (some ⟨w.heap.size,0,none⟩) w.heap.size 0 rqL:=by
 have h:=heap_alloc_new w akO
 refine⟨fun _=>rfl,fun _=>(Array.getElem?_eq_some_iff.1 h).1,fun i hi=>?_⟩
 have hi3:i<1:=hi
 unfold akO at h
 obtain rfl:i=0:=by omega
 refine⟨?_,?_,?_⟩
 all_goals
  simp only [World.cell?,h,akO,Option.isSome_none,Bool.false_eq_true,if_false]
  rfl
theorem Ah:dw rqL:=fun i=>by
 rcases (show i=0∨1≤i by omega) with rfl | h
 ·decide
 ·rw [List.getD_eq_getElem?_getD,List.getElem?_eq_none (by exact h)];decide
set_option maxRecDepth 40000 in
set_option maxHeartbeats 12800000 in
theorem Ai (w:World):Calls Tryz.prog 9 #[] w fun e w'=>e=.returned (.bool true)∧Below w.heap.size w w':=by
 obtain⟨h3x,h3y,h3z,h3b⟩:=ak3 w
 obtain⟨w3,hw3⟩:∃ w3,((w.alloc akX).alloc akY).alloc ap=w3:=⟨_,rfl⟩
 rw [hw3] at h3x h3y h3z h3b
 unfold akX akY ap at hw3
 obtain⟨u1,u2,u3,u4,⟨e0,z0,y0⟩,⟨e1,z1,y1⟩,⟨e2,z2,y2⟩,⟨e3,z3,y3⟩,hZ,hB⟩:=aS (w.heap.size+1+1) 0 2 (.slice (some ⟨w.heap.size,0,none⟩) 2 2) (.slice (some ⟨w.heap.size+1,0,none⟩) 2 2) w3 h3z
 have HA:Hid (AkB w u4):=⟨hZ,Lu ((hB.block _ (by omega)).trans h3x) ((hB.block _ (by omega)).trans h3y),h3b.trans (hB.mono (by omega))⟩
 have HJ:=hideS (Lv u4)
 have HA5:=hideS (HA.out.step ((Below.refl _ u4).alloc (Nat.le_refl _) akO))
 obtain⟨w5,hw5⟩:∃ w5,u4.alloc akO=w5:=⟨_,rfl⟩
 rw [hw5] at HJ HA5
 unfold akO at hw5
 obtain⟨gl,hgl⟩:∃ gl,u4.heap.size=gl:=⟨_,rfl⟩
 rw [hgl] at HJ
 have q1:(FloatKind.f64.format.order 4598175219545276416 4598175219545276416==some .eq)=true:=by kernel_rfl
 have q2:(FloatKind.f64.format.order rqY 0==some .lt)=true:=by kernel_rfl
 have q3:(FloatKind.f64.format.order 0 0==some .eq)=true:=by kernel_rfl
 have q4:(FloatKind.f64.format.order rqY rqY==some .eq)=true:=by kernel_rfl
 have HBm:Hid (∀ wx,AkB w wx→Calls Tryz.prog 11 #[.agg #[.int .i64 0,.int .i64 2,.slice (some ⟨w.heap.size,0,none⟩) 2 2,.slice (some ⟨w.heap.size+1,0,none⟩) 2 2],.int .i64 1,.float .f64 0] wx fun e w'=>CvO wx rqC 0 e w'):=fun wx hx=>kZ rqC rqC 1 0 0 _ _ _ _ 2 _ _ 2 wx (JL w) (by decide) hx.src
 have HPm:Hid (∀ wx,AkB w wx→Calls Tryz.prog 14 #[.agg #[.int .i64 0,.int .i64 2,.slice (some ⟨w.heap.size,0,none⟩) 2 2,.slice (some ⟨w.heap.size+1,0,none⟩) 2 2],.float .f64 0] wx fun e w'=>CvO wx rqC 0 e w'):=fun wx hx=>rx rqC rqC 0 0 _ _ _ _ 2 _ _ 2 wx (JM w) (by decide) hx.src
 have HLa:Hid (∀ wx,AkB w wx→JSrc aF wx (some ⟨gl,0,none⟩) gl 0 rqL→Calls Tryz.prog 18 #[.slice (some ⟨gl,0,none⟩) 1 1,.int .i64 1,.agg #[.int .i64 0,.int .i64 2,.slice (some ⟨w.heap.size,0,none⟩) 2 2,.slice (some ⟨w.heap.size+1,0,none⟩) 2 2],.float .f64 4576918229304087675] wx fun e w'=>∃ g,e=.returned (.tuple #[.slice (some ⟨g,0,none⟩) 2 2,.int .i64 0])∧w'.cell? ⟨g,0,none⟩=some (.float .f64 rqY)∧w'.cell? ⟨g,1,none⟩=some (.float .f64 0)∧g<w'.heap.size∧Below wx.heap.size wx w'):=fun wx hx hj=>by
  refine (pc rqL 1 rqC rqH (some ⟨gl,0,none⟩) gl 0 1 1 _ _ _ _ 2 _ _ 2 wx (by decide) hj rfl (by decide) Ah hx.src).mono ?_
  rintro e w' ⟨ho,hb⟩
  obtain⟨a1,a2,a3,a4⟩:=Mb w
  rcases ho with⟨hn,_⟩| ⟨_,ho⟩
  ·exact absurd rqP.2 hn
  ·rcases ho with⟨k,hk,hE,_⟩| ⟨_,g,he,ho⟩
   ·exfalso
    have hk':k<2:=hk
    rcases (show k=0∨k=1 by omega) with rfl | rfl
    ·exact hE a2
    ·exact hE a4
   ·have hl:(List.range rqC.ds.length).map (lnV rqL 1 rqC rqH)=[rqY,0]:=by
     show [lnV rqL 1 rqC rqH 0,lnV rqL 1 rqC rqH 1]=_
     rw [a1,a3]
    rw [hl] at ho
    obtain⟨g',c',e',hs,_⟩:=cP (xs:=[rqY,0]) ho rfl (by decide)
    injection e' with e1 _ _
    injection e1 with e1
    injection e1 with e1
    subst e1
    exact⟨g,he,hs.cell 0 (by decide),hs.cell 1 (by decide),hs.lt (by decide),hb⟩
 have HDe:Hid (∀ wx,AkB w wx→JSrc aF wx (some ⟨gl,0,none⟩) gl 0 rqL→Calls Tryz.prog 22 #[.slice (some ⟨gl,0,none⟩) 1 1,.int .i64 1,.agg #[.int .i64 0,.int .i64 2,.slice (some ⟨w.heap.size,0,none⟩) 2 2,.slice (some ⟨w.heap.size+1,0,none⟩) 2 2],.float .f64 4576918229304087675] wx fun e w'=>e=.returned (.tuple #[.float .f64 rqY,.int .i64 0])∧Below wx.heap.size wx w'):=fun wx hx hj=>by
  refine (CE rqL 1 rqC rqH (some ⟨gl,0,none⟩) gl 0 1 1 _ _ _ _ 2 _ _ 2 wx (by decide) hj rfl (by decide) Ah hx.src).mono ?_
  rintro e w' ⟨ho,hb⟩
  obtain⟨a1,a2⟩:=Mc w
  rcases ho with⟨hn,_⟩| ⟨_,ho⟩
  ·exact absurd rqP.2 hn
  ·rw [a1,a2] at ho;exact⟨ho,hb⟩
 clear h3x h3y h3z h3b hZ hB
 obtain⟨t0,t1,t2,t3⟩:=HA5.out.bx.t
 go_enter Tryz.func9,Tryz.ntmps9
 go_wp2_with fail
 clear hw3 e0 z0 y0 e1 z1 y1 e2 z2 y2 e3 z3 y3 hw5 hgl t0 t1 t2 t3 HA
 refine (HBm.out _ HA5.out).mono ?_
 intro e w6 ho
 obtain⟨gx,cx,gy,cy,he,hO⟩:=ho.ok rfl
 have he':e=.returned (.tuple #[.agg #[.int .i64 0,.int .i64 2,.slice (some ⟨gx,0,none⟩) 2 cx,.slice (some ⟨gy,0,none⟩) 2 cy],.int .i64 0]):=he
 subst he'
 obtain⟨u1,u2,u3,u4',⟨e0,z0,y0⟩,⟨e1,z1,y1⟩,⟨e2,z2,y2⟩,⟨e3,z3,y3⟩,hZ,hB⟩:=aS w6.heap.size 0 2 (.slice (some ⟨gx,0,none⟩) 2 cx) (.slice (some ⟨gy,0,none⟩) 2 cy) (w6.alloc ap) (heap_alloc_new _ _)
 have hB2:Below w6.heap.size w6 u4':=((Below.refl _ w6).alloc (Nat.le_refl _) ap).trans hB
 have HA7:=hideS ((HA5.out.step ho.bl).step hB2)
 have HJ7:=hideS ((HJ.out.below ho.bl).below hB2)
 have HZ7:=hideS hZ
 have HC7:=hideS (hO.below hB2).src.y
 obtain⟨w7,hw7⟩:∃ w7,w6.alloc ap=w7:=⟨_,rfl⟩
 rw [hw7] at e0 z0 y0
 unfold ap at hw7
 obtain⟨t0,t1,t2,t3⟩:=HA7.out.bx.t
 clear ho hO hB hB2 hZ HA5 HBm HJ he
 go_wp2_with fail
 clear hw7 e0 z0 y0 e1 z1 y1 e2 z2 y2 e3 z3 y3 t0 t1 t2 t3
 generalize w6.heap.size=gd at *
 refine (HPm.out _ HA7.out).mono ?_
 intro e w8 ho
 obtain⟨px,dx,py,dy,he,hO⟩:=ho.ok rfl
 have he':e=.returned (.tuple #[.agg #[.int .i64 0,.int .i64 2,.slice (some ⟨px,0,none⟩) 2 dx,.slice (some ⟨py,0,none⟩) 2 dy],.int .i64 0]):=he
 subst he'
 obtain⟨v1,v2,v3,v4,⟨e0,z0,y0⟩,⟨e1,z1,y1⟩,⟨e2,z2,y2⟩,⟨e3,z3,y3⟩,hZ,hB⟩:=aS w8.heap.size 0 2 (.slice (some ⟨px,0,none⟩) 2 dx) (.slice (some ⟨py,0,none⟩) 2 dy) (w8.alloc ap) (heap_alloc_new _ _)
 have hB2:Below w8.heap.size w8 v4:=((Below.refl _ w8).alloc (Nat.le_refl _) ap).trans hB
 have HA9:=hideS ((HA7.out.step ho.bl).step hB2)
 have HJ9:=hideS ((HJ7.out.below ho.bl).below hB2)
 have HZ9:=hideS ((HZ7.out.step ho.bl).step hB2)
 have HC9:=hideS ((HC7.out.below ho.bl).below hB2)
 have HP9:=hideS hZ
 obtain⟨w9,hw9⟩:∃ w9,w8.alloc ap=w9:=⟨_,rfl⟩
 rw [hw9] at e0 z0 y0
 unfold ap at hw9
 obtain⟨t0,t1,t2,t3⟩:=HA9.out.bx.t
 clear ho hO hB hB2 hZ HA7 HPm HJ7 HZ7 HC7 he
 go_wp2_with fail
 clear hw9 e0 z0 y0 e1 z1 y1 e2 z2 y2 e3 z3 y3 t0 t1 t2 t3
 generalize w8.heap.size=gp at *
 refine (HLa.out _ HA9.out HJ9.out).mono ?_
 rintro e wa ⟨g,rfl,k0,k1,kl,hba⟩
 have HAa:=hideS (HA9.out.step hba)
 have HJa:=hideS (HJ9.out.below hba)
 have HZa:=hideS (HZ9.out.step hba)
 have HCa:=hideS (HC9.out.below hba)
 have HPa:=hideS (HP9.out.step hba)
 have HK:=hideS (And.intro k0 (And.intro k1 kl))
 clear hba HA9 HJ9 HZ9 HC9 HP9 HLa k0 k1 kl
 obtain⟨t0,t1,t2,t3⟩:=HAa.out.bx.t
 go_wp2_with fail
 clear t0 t1 t2 t3
 refine (HDe.out _ HAa.out HJa.out).mono ?_
 rintro e wb ⟨rfl,hbb⟩
 have HBl:=hideS (HAa.out.step hbb).bl
 obtain⟨_,_,_,d3⟩:=(HZa.out.step hbb).t
 obtain⟨_,_,_,p3⟩:=(HPa.out.step hbb).t
 have c1:=(HCa.out.below hbb).cell 1 (by decide)
 have k0:=(hbb.cell (p:=⟨g,0,none⟩) HK.out.2.2).trans HK.out.1
 have k1:=(hbb.cell (p:=⟨g,1,none⟩) HK.out.2.2).trans HK.out.2.1
 have c1':wb.cell? ⟨gy,1,none⟩=some (.float .f64 4598175219545276416):=c1
 clear hbb HAa HJa HZa HCa HPa HK HDe c1
 go_wp2_with fail
 go_ret
 exact⟨rfl,HBl.out⟩
end Go.Proofs.YtpddmnmhdahnlaaGreat
namespace Go.Proofs.YtpddmnmhdahnlaaGreat
open Go.RowKit

end Go.Proofs.YtpddmnmhdahnlaaGreat
namespace Go.Proofs.YtpddmnmhdahnlaaGreat
open Go.RowKit

theorem CvO.shape {w:World} {d:Cv} {E:Int} {e:Ending} {w':World} (h:CvO w d E e w'):∃ (b k:Int) (px py:Option Addr) (nx cx ny cy gx gy:Nat),e=.returned (.tuple #[.agg #[.int .i64 b,.int .i64 k,.slice px nx cx,.slice py ny cy],.int .i64 E])∧(E=0→b=d.base∧k=d.kind∧nx=d.ds.length∧ny=d.fs.length∧TFl w' px py gx 0 gy 0 d.ds d.fs):=by
 by_cases hE:E=0
 ·subst hE
  obtain⟨gx,cx,gy,cy,rfl,hO⟩:=h.ok rfl
  exact⟨_,_,_,_,_,cx,_,cy,gx,gy,rfl,fun _=>⟨rfl,rfl,rfl,rfl,hO.src⟩⟩
 ·exact⟨0,0,none,none,0,0,0,0,0,0,h.bad hE,fun e=>absurd e hE⟩
end Go.Proofs.YtpddmnmhdahnlaaGreat
