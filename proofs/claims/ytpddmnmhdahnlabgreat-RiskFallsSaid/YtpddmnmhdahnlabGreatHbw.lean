/-  -/
import Derived.Test.YtpddmnmhdahnlabGreatHbv
import Derived.Test.YtpddmnmhdahnlabGreatHbt
namespace Go.Proofs.YtpddmnmhdahnlabGreat
open Go.RowKit

def akX:Obj:=.cells #[.int .i64 365,.int .i64 730] 3
def akY:Obj:=.cells #[.float .f64 4602678819172646912,.float .f64 4598175219545276416] 23
def akO:Obj:=.cells #[.int .i64 365,.float .f64 4607182418800017408,.int .i64 1] 39
structure AkB (w wr:World):Prop where
 bx:BxK wr (w.heap.size+1+1) 0 2 (.slice (some ⟨w.heap.size,0,none⟩) 2 2) (.slice (some ⟨w.heap.size+1,0,none⟩) 2 2)
 src:TFl wr (some ⟨w.heap.size,0,none⟩) (some ⟨w.heap.size+1,0,none⟩) w.heap.size 0 (w.heap.size+1) 0 rqD rqF
 bl:Below w.heap.size w wr
theorem AkB.step {w wr w':World} (h:AkB w wr) (hb:Below wr.heap.size wr w'):AkB w w':=⟨h.bx.step hb,h.src.below hb,h.bl.trans (hb.mono h.bl.size)⟩
theorem ak3 (w:World):(((w.alloc akX).alloc akY).alloc ao).heap[w.heap.size]? =some akX∧(((w.alloc akX).alloc akY).alloc ao).heap[w.heap.size+1]? =some akY∧(((w.alloc akX).alloc akY).alloc ao).heap[w.heap.size+1+1]? =some ao∧Below w.heap.size w (((w.alloc akX).alloc akY).alloc ao):=by
 have s1:(w.alloc akX).heap.size=w.heap.size+1:=by simp
 have s2:((w.alloc akX).alloc akY).heap.size=w.heap.size+1+1:=by simp
 have b1:=(Below.refl (w.heap.size+1) (w.alloc akX)).alloc (by omega) akY
 have b2:=(Below.refl (w.heap.size+1+1) ((w.alloc akX).alloc akY)).alloc (by omega) ao
 refine⟨?_,?_,?_,(((Below.refl _ _).alloc (Nat.le_refl _) _).alloc (by omega) _).alloc (by omega) _⟩
 ·rw [b2.block _ (by omega),b1.block _ (by omega)];exact heap_alloc_new _ _
 ·rw [b2.block _ (by omega),← s1];exact heap_alloc_new _ _
 ·rw [← s2];exact heap_alloc_new _ _
theorem Li {wr:World} {g g':Nat} (hx:wr.heap[g]? =some akX) (hy:wr.heap[g']? =some akY):TFl wr (some ⟨g,0,none⟩) (some ⟨g',0,none⟩) g 0 g' 0 rqD rqF:=by
 unfold akX at hx
 unfold akY at hy
 refine⟨⟨fun _=>rfl,fun _=>(Array.getElem?_eq_some_iff.1 hx).1,fun j hj=>?_⟩,⟨fun _=>rfl,fun _=>(Array.getElem?_eq_some_iff.1 hy).1,fun j hj=>?_⟩,kv⟩
 ·have hj':j<2:=hj
  rcases (show j=0∨j=1 by omega) with rfl | rfl
  all_goals
   simp only [World.cell?,hx,Option.isSome_none,Bool.false_eq_true,if_false]
   rfl
 ·have hj':j<2:=hj
  rcases (show j=0∨j=1 by omega) with rfl | rfl
  all_goals
   simp only [World.cell?,hy,Option.isSome_none,Bool.false_eq_true,if_false]
   rfl
theorem Lj (w:World):JSrc aF (w.alloc akO) (some ⟨w.heap.size,0,none⟩) w.heap.size 0 rqL:=by
 have h:=heap_alloc_new w akO
 refine⟨fun _=>rfl,fun _=>(Array.getElem?_eq_some_iff.1 h).1,fun i hi=>?_⟩
 have hi3:i<1:=hi
 unfold akO at h
 obtain rfl:i=0:=by omega
 refine⟨?_,?_,?_⟩
 all_goals
  simp only [World.cell?,h,akO,Option.isSome_none,Bool.false_eq_true,if_false]
  rfl
theorem Ak:dr rqL:=fun i=>by
 rcases (show i=0∨1≤i by omega) with rfl | h
 ·decide
 ·rw [List.getD_eq_getElem?_getD,List.getElem?_eq_none (by exact h)];decide
set_option maxRecDepth 40000 in
set_option maxHeartbeats 12800000 in
theorem Al (w:World):Calls Tryz.prog 6 #[] w fun e w'=>e=.returned (.bool true)∧Below w.heap.size w w':=by
 obtain⟨h3x,h3y,h3z,h3b⟩:=ak3 w
 obtain⟨w3,hw3⟩:∃ w3,((w.alloc akX).alloc akY).alloc ao=w3:=⟨_,rfl⟩
 rw [hw3] at h3x h3y h3z h3b
 unfold akX akY ao at hw3
 obtain⟨u1,u2,u3,u4,⟨e0,z0,y0⟩,⟨e1,z1,y1⟩,⟨e2,z2,y2⟩,⟨e3,z3,y3⟩,hZ,hB⟩:=aX (w.heap.size+1+1) 0 2 (.slice (some ⟨w.heap.size,0,none⟩) 2 2) (.slice (some ⟨w.heap.size+1,0,none⟩) 2 2) w3 h3z
 have HA:Hid (AkB w u4):=⟨hZ,Li ((hB.block _ (by omega)).trans h3x) ((hB.block _ (by omega)).trans h3y),h3b.trans (hB.mono (by omega))⟩
 have HJ:=hideS (Lj u4)
 have HA5:=hideS (HA.out.step ((Below.refl _ u4).alloc (Nat.le_refl _) akO))
 obtain⟨w5,hw5⟩:∃ w5,u4.alloc akO=w5:=⟨_,rfl⟩
 rw [hw5] at HJ HA5
 unfold akO at hw5
 obtain⟨gl,hgl⟩:∃ gl,u4.heap.size=gl:=⟨_,rfl⟩
 rw [hgl] at HJ
 have q1:(FloatKind.f64.format.order 4598175219545276416 4598175219545276416==some .eq)=true:=by kernel_rfl
 have q2:(FloatKind.f64.format.order rqY 0==some .lt)=true:=by kernel_rfl
 have q3:(FloatKind.f64.format.order 0 0==some .eq)=true:=by kernel_rfl
 have q4:(FloatKind.f64.format.order rqY rqY==some .eq)=true:=by kernel_rfl
 have HBm:Hid (∀ wx,AkB w wx→Calls Tryz.prog 14 #[.agg #[.int .i64 0,.int .i64 2,.slice (some ⟨w.heap.size,0,none⟩) 2 2,.slice (some ⟨w.heap.size+1,0,none⟩) 2 2],.int .i64 1,.float .f64 0] wx fun e w'=>CvO wx rqC 0 e w'):=fun wx hx=>rp rqC rqC 1 0 0 _ _ _ _ 2 _ _ 2 wx (JD w) (by decide) hx.src
 have HPm:Hid (∀ wx,AkB w wx→Calls Tryz.prog 15 #[.agg #[.int .i64 0,.int .i64 2,.slice (some ⟨w.heap.size,0,none⟩) 2 2,.slice (some ⟨w.heap.size+1,0,none⟩) 2 2],.float .f64 0] wx fun e w'=>CvO wx rqC 0 e w'):=fun wx hx=>rq rqC rqC 0 0 _ _ _ _ 2 _ _ 2 wx (JE w) (by decide) hx.src
 have HLa:Hid (∀ wx,AkB w wx→JSrc aF wx (some ⟨gl,0,none⟩) gl 0 rqL→Calls Tryz.prog 7 #[.slice (some ⟨gl,0,none⟩) 1 1,.int .i64 1,.agg #[.int .i64 0,.int .i64 2,.slice (some ⟨w.heap.size,0,none⟩) 2 2,.slice (some ⟨w.heap.size+1,0,none⟩) 2 2],.float .f64 4576918229304087675] wx fun e w'=>∃ g,e=.returned (.tuple #[.slice (some ⟨g,0,none⟩) 2 2,.int .i64 0])∧w'.cell? ⟨g,0,none⟩=some (.float .f64 rqY)∧w'.cell? ⟨g,1,none⟩=some (.float .f64 0)∧g<w'.heap.size∧Below wx.heap.size wx w'):=fun wx hx hj=>by
  refine (oV rqL 1 rqC rqH (some ⟨gl,0,none⟩) gl 0 1 1 _ _ _ _ 2 _ _ 2 wx (by decide) hj rfl (by decide) Ak hx.src).mono ?_
  rintro e w' ⟨ho,hb⟩
  obtain⟨a1,a2,a3,a4⟩:=LR w
  rcases ho with⟨hn,_⟩| ⟨_,ho⟩
  ·exact absurd rqP.2 hn
  ·rcases ho with⟨k,hk,hE,_⟩| ⟨_,g,he,ho⟩
   ·exfalso
    have hk':k<2:=hk
    rcases (show k=0∨k=1 by omega) with rfl | rfl
    ·exact hE a2
    ·exact hE a4
   ·have hl:(List.range rqC.ds.length).map (lnV rqL 1 rqC rqH)=[rqY,0]:=by
     show [lnV rqL 1 rqC rqH 0,lnV rqL 1 rqC rqH 1]=_
     rw [a1,a3]
    rw [hl] at ho
    obtain⟨g',c',e',hs,_⟩:=cQ (xs:=[rqY,0]) ho rfl (by decide)
    injection e' with e1 _ _
    injection e1 with e1
    injection e1 with e1
    subst e1
    exact⟨g,he,hs.cell 0 (by decide),hs.cell 1 (by decide),hs.lt (by decide),hb⟩
 have HDe:Hid (∀ wx,AkB w wx→JSrc aF wx (some ⟨gl,0,none⟩) gl 0 rqL→Calls Tryz.prog 8 #[.slice (some ⟨gl,0,none⟩) 1 1,.int .i64 1,.agg #[.int .i64 0,.int .i64 2,.slice (some ⟨w.heap.size,0,none⟩) 2 2,.slice (some ⟨w.heap.size+1,0,none⟩) 2 2],.float .f64 4576918229304087675] wx fun e w'=>e=.returned (.tuple #[.float .f64 rqY,.int .i64 0])∧Below wx.heap.size wx w'):=fun wx hx hj=>by
  refine (CF rqL 1 rqC rqH (some ⟨gl,0,none⟩) gl 0 1 1 _ _ _ _ 2 _ _ 2 wx (by decide) hj rfl (by decide) Ak hx.src).mono ?_
  rintro e w' ⟨ho,hb⟩
  obtain⟨a1,a2⟩:=LS w
  rcases ho with⟨hn,_⟩| ⟨_,ho⟩
  ·exact absurd rqP.2 hn
  ·rw [a1,a2] at ho;exact⟨ho,hb⟩
 clear h3x h3y h3z h3b hZ hB
 obtain⟨t0,t1,t2,t3⟩:=HA5.out.bx.t
 go_enter Tryz.func6,Tryz.ntmps6
 go_wp2_with fail
 clear hw3 e0 z0 y0 e1 z1 y1 e2 z2 y2 e3 z3 y3 hw5 hgl t0 t1 t2 t3 HA
 refine (HBm.out _ HA5.out).mono ?_
 intro e w6 ho
 obtain⟨gx,cx,gy,cy,he,hO⟩:=ho.ok rfl
 have he':e=.returned (.tuple #[.agg #[.int .i64 0,.int .i64 2,.slice (some ⟨gx,0,none⟩) 2 cx,.slice (some ⟨gy,0,none⟩) 2 cy],.int .i64 0]):=he
 subst he'
 obtain⟨u1,u2,u3,u4',⟨e0,z0,y0⟩,⟨e1,z1,y1⟩,⟨e2,z2,y2⟩,⟨e3,z3,y3⟩,hZ,hB⟩:=aX w6.heap.size 0 2 (.slice (some ⟨gx,0,none⟩) 2 cx) (.slice (some ⟨gy,0,none⟩) 2 cy) (w6.alloc ao) (heap_alloc_new _ _)
 have hB2:Below w6.heap.size w6 u4':=((Below.refl _ w6).alloc (Nat.le_refl _) ao).trans hB
 have HA7:=hideS ((HA5.out.step ho.bl).step hB2)
 have HJ7:=hideS ((HJ.out.below ho.bl).below hB2)
 have HZ7:=hideS hZ
 have HC7:=hideS (hO.below hB2).src.y
 obtain⟨w7,hw7⟩:∃ w7,w6.alloc ao=w7:=⟨_,rfl⟩
 rw [hw7] at e0 z0 y0
 unfold ao at hw7
 obtain⟨t0,t1,t2,t3⟩:=HA7.out.bx.t
 clear ho hO hB hB2 hZ HA5 HBm HJ he
 go_wp2_with fail
 clear hw7 e0 z0 y0 e1 z1 y1 e2 z2 y2 e3 z3 y3 t0 t1 t2 t3
 generalize w6.heap.size=gd at *
 refine (HPm.out _ HA7.out).mono ?_
 intro e w8 ho
 obtain⟨px,dx,py,dy,he,hO⟩:=ho.ok rfl
 have he':e=.returned (.tuple #[.agg #[.int .i64 0,.int .i64 2,.slice (some ⟨px,0,none⟩) 2 dx,.slice (some ⟨py,0,none⟩) 2 dy],.int .i64 0]):=he
 subst he'
 obtain⟨v1,v2,v3,v4,⟨e0,z0,y0⟩,⟨e1,z1,y1⟩,⟨e2,z2,y2⟩,⟨e3,z3,y3⟩,hZ,hB⟩:=aX w8.heap.size 0 2 (.slice (some ⟨px,0,none⟩) 2 dx) (.slice (some ⟨py,0,none⟩) 2 dy) (w8.alloc ao) (heap_alloc_new _ _)
 have hB2:Below w8.heap.size w8 v4:=((Below.refl _ w8).alloc (Nat.le_refl _) ao).trans hB
 have HA9:=hideS ((HA7.out.step ho.bl).step hB2)
 have HJ9:=hideS ((HJ7.out.below ho.bl).below hB2)
 have HZ9:=hideS ((HZ7.out.step ho.bl).step hB2)
 have HC9:=hideS ((HC7.out.below ho.bl).below hB2)
 have HP9:=hideS hZ
 obtain⟨w9,hw9⟩:∃ w9,w8.alloc ao=w9:=⟨_,rfl⟩
 rw [hw9] at e0 z0 y0
 unfold ao at hw9
 obtain⟨t0,t1,t2,t3⟩:=HA9.out.bx.t
 clear ho hO hB hB2 hZ HA7 HPm HJ7 HZ7 HC7 he
 go_wp2_with fail
 clear hw9 e0 z0 y0 e1 z1 y1 e2 z2 y2 e3 z3 y3 t0 t1 t2 t3
 generalize w8.heap.size=gp at *
 refine (HLa.out _ HA9.out HJ9.out).mono ?_
 rintro e wa ⟨g,rfl,k0,k1,kl,hba⟩
 have HAa:=hideS (HA9.out.step hba)
 have HJa:=hideS (HJ9.out.below hba)
 have HZa:=hideS (HZ9.out.step hba)
 have HCa:=hideS (HC9.out.below hba)
 have HPa:=hideS (HP9.out.step hba)
 have HK:=hideS (And.intro k0 (And.intro k1 kl))
 clear hba HA9 HJ9 HZ9 HC9 HP9 HLa k0 k1 kl
 obtain⟨t0,t1,t2,t3⟩:=HAa.out.bx.t
 go_wp2_with fail
 clear t0 t1 t2 t3
 refine (HDe.out _ HAa.out HJa.out).mono ?_
 rintro e wb ⟨rfl,hbb⟩
 have HBl:=hideS (HAa.out.step hbb).bl
 obtain⟨_,_,_,d3⟩:=(HZa.out.step hbb).t
 obtain⟨_,_,_,p3⟩:=(HPa.out.step hbb).t
 have c1:=(HCa.out.below hbb).cell 1 (by decide)
 have k0:=(hbb.cell (p:=⟨g,0,none⟩) HK.out.2.2).trans HK.out.1
 have k1:=(hbb.cell (p:=⟨g,1,none⟩) HK.out.2.2).trans HK.out.2.1
 have c1':wb.cell? ⟨gy,1,none⟩=some (.float .f64 4598175219545276416):=c1
 clear hbb HAa HJa HZa HCa HPa HK HDe c1
 go_wp2_with fail
 go_ret
 exact⟨rfl,HBl.out⟩
end Go.Proofs.YtpddmnmhdahnlabGreat
namespace Go.Proofs.YtpddmnmhdahnlabGreat
open Go.RowKit

theorem GM {D K:Nat} {i:Int} {y0 y1 z0 z1:Nat} (h0:NumW y0) (h1:NumW y1) (k0:NumW z0) (k1:NumW z1) (hi:0≤i) (hi':i≤(D:Int)) (r0:aa (y0:Nat)≤aa (z0:Nat)) (r1:aa (y1:Nat)≤aa (z1:Nat)):dQ (de (D:Int) i (uI K y0) (uI K y1)) D≤dQ (de (D:Int) i (uI K z0) (uI K z1)) D:=by
 refine kF D ?_
 unfold de
 have a:=iX K h0.lt h0.nb k0.lt k0.nb r0
 have b:=iX K h1.lt h1.nb k1.lt k1.nb r1
 have c:=Int.mul_le_mul_of_nonneg_left a (show 0≤(D:Int) - i by omega)
 have d:=Int.mul_le_mul_of_nonneg_left b hi
 omega
theorem wD {base kind:Int} {ds:List Int} {fs gs:List Nat} (ok:OkV base kind ds fs) (ok':OkV base kind ds gs) (hf:∀ i<fs.length,fs.getD i 0<18446744073709551616) (hg:∀ i<gs.length,gs.getD i 0<18446744073709551616) (h12:kind=1∨kind=2) (hr:∀ i<ds.length,aa (fs.getD i 0:Nat)≤aa (gs.getD i 0:Nat)) (x:Int):aa (facV base kind ds fs x:Nat)≤aa (facV base kind ds gs x:Nat):=by
 have hp:∀ i≤ds.length,aa ((ctY fs).getD i 0:Nat)≤aa ((ctY gs).getD i 0:Nat):=fun i hi=>by
  rw [gw,gw]
  cases i with
  | zero=>exact Int.le_refl _
  | succ i=>exact hr i (by omega)
 have len:(ctX base ds).length=ds.length+1:=rfl
 rcases at_two ok.table ok'.table (LQ ok x) (LQ ok' x) with⟨a,b,_⟩| ⟨_,_,_,k,hk,h⟩
 ·rw [a,b];exact Int.le_refl _
 ·have hlt:=hk.lt
  rcases h with⟨_,v,v'⟩| ⟨_,D,i,hI,v,v'⟩
  ·rw [v,v'];exact hp k (by omega)
  ·have hk1:=hI.lt
   rw [v,v']
   unfold vg
   rcases h12 with rfl | rfl
   ·rw [if_pos rfl,if_pos rfl];exact hp k (by omega)
   ·rw [if_neg (by decide),if_pos rfl,if_neg (by decide),if_pos rfl]
    have n0:=aw ok.table (qO hf) (i:=k) (by omega)
    have n1:=aw ok.table (qO hf) (i:=k+1) (by omega)
    have m0:=aw ok'.table (qO hg) (i:=k) (by omega)
    have m1:=aw ok'.table (qO hg) (i:=k+1) (by omega)
    have hD:=(dg ok.table hI).2
    have lo:=hI.lo
    have hi:=hI.hi'
    unfold Bg
    obtain⟨K,hK⟩:∃ K:Nat,K=1074:=⟨_,rfl⟩
    rw [iF hK n0 n1 (by omega) (by omega) hD,iF hK m0 m1 (by omega) (by omega) hD,(bE _ _).2.2,(bE _ _).2.2]
    exact GM n0 n1 m0 m1 (by omega) (by omega) (hp k (by omega)) (hp (k+1) (by omega))
theorem mu:af 4607182418800017408:=by unfold af;decide
theorem GN {x:Nat} (h:x≤9218868437227405311):af x∧0≤vI x:=by
 have hn:af x:=by unfold af;omega
 refine⟨hn,?_⟩
 have:sB x=false:=by unfold sB;rw [Nat.div_eq_of_lt (by omega)];rfl
 rw [gG,this];exact Int.natCast_nonneg _
theorem JF {c:Cv} {k h:Nat} (ok:c.Ok) (hv:c.Fit) (hk:k<c.ds.length) (hb:bmB c k h=true):rkX c.base (c.ds.getD k 0) h≤9218868437227405312∧(aa (rkX c.base (c.ds.getD k 0) h:Nat)≤aa ((4607182418800017408:Nat):Int)→aa (c.bm k h:Nat)≤aa (c.fs.getD k 0:Nat))∧(aa ((4607182418800017408:Nat):Int)≤aa (rkX c.base (c.ds.getD k 0) h:Nat)→aa (c.fs.getD k 0:Nat)≤aa (c.bm k h:Nat)):=by
 obtain⟨hx,hm,hul,hun,hu0⟩:=Af ok hv hk (aE (oP hb).2)
 obtain⟨f0,f1⟩:=ok.fac hk
 have hfl:=hv k (by rw [ok.len];exact hk)
 have h1:=wl f0 hfl f1
 have v0:0≤vI (c.fs.getD k 0):=by rw [gG,(gE f0 hfl f1).1];exact Int.natCast_nonneg _
 have e1:aa ((4607182418800017408:Nat):Int)=4607182418800017408:=by decide
 refine⟨hx,fun hle=>?_,fun hge=>?_⟩
 ·have hxr:rkX c.base (c.ds.getD k 0) h≤9218868437227405311:=by
   have:=nQ hx
   omega
  obtain⟨xn,x0⟩:=GN hxr
  exact (EI f0 f0 xn mu v0 x0 (Int.le_refl _) ((aL xn mu (by omega) (by decide)).1 hle) hm h1).2
 ·rcases Nat.lt_or_eq_of_le hx with hlt | heq
  ·obtain⟨xn,x0⟩:=GN (show rkX c.base (c.ds.getD k 0) h≤9218868437227405311 by omega)
   have o0:=(GN (x:=4607182418800017408) (by decide)).2
   exact (EI f0 f0 mu xn v0 o0 (Int.le_refl _) ((aL mu xn (by decide) (by omega)).1 hge) h1 hm).2
  ·exfalso
   obtain⟨s0,z0⟩:=gE f0 hfl f1
   rw [heq] at hm
   have:=(cY (x:=9218868437227405312) (by decide) f0 z0).2
   rw [s0,show sB 9218868437227405312=false by decide,hm] at this
   have e:c.bm k h=9218868437227405312:=Option.some.inj this
   have hr:=(oP hb).1
   rw [e] at hr
   revert hr
   decide
theorem JG {l:List Flw} {cur:Int} {c:Cv} {k h:Nat} (hf:dr l) (hv:c.Fit) (hk:k<c.ds.length) (h12:c.kind=1∨c.kind=2) (ha:∀ f ∈ l,ltB (f.am:Int) 0=false) (h0:prE l cur c=0) (hE:lnE l cur c h k=0):lnV l cur c h k<18446744073709551616∧ag (lnV l cur c h k:Nat)=false∧rkX c.base (c.ds.getD k 0) h≤9218868437227405312∧(aa (rkX c.base (c.ds.getD k 0) h:Nat)≤aa ((4607182418800017408:Nat):Int)→aa (lnV l cur c h k:Nat)≤0)∧(aa ((4607182418800017408:Nat):Int)≤aa (rkX c.base (c.ds.getD k 0) h:Nat)→0≤aa (lnV l cur c h k:Nat))∧aK (h:Int)=true:=by
 have hP:=(eo h0).1
 have ok:=hP.ok
 rcases bmE_cases c k h with⟨hb,eb⟩| ⟨_,eb⟩
 ·unfold lnE lU at hE
  rw [eb,if_pos rfl] at hE
  unfold chE at hE
  have hp:prE l cur (c.bump k h)=0:=by
   by_cases hp:prE l cur (c.bump k h)=0
   ·exact hp
   ·rw [if_neg hp] at hE;exact absurd hE hp
  rw [if_pos hp] at hE
  obtain⟨_,hk2⟩:=GB hp (V0:=prV l cur c) (eo h0).2.2.1
  have hfin:aK (chO l cur (c.bump k h) (prV l cur c):Int)=true:=by
   unfold kT at hE
   cases hb2:aK (chO l cur (c.bump k h) (prV l cur c):Int)
   ·rw [hb2] at hE;exact absurd hE (by decide)
   ·rfl
  have eV:lnV l cur c h k=chO l cur (c.bump k h) (prV l cur c):=by
   unfold lnV oU
   rw [eb,if_pos rfl]
   unfold chV
   rw [if_pos hp]
   unfold kS
   rw [if_pos hfin]
  have okd:=sQ ok hk hb
  have hvd:=Gt ok hv hk hb
  obtain⟨hx,s1,s2⟩:=JF ok hv hk hb
  have am:∀ f ∈ l,0≤aa (f.am:Nat):=fun f hm=>by
   have:=ha f hm
   have hn:=eD (aE (sD (hP.bad f hm)))
   rw [av hn (by decide),decide_eq_false_iff_not] at this
   rw [show aa 0=0 by decide] at this
   omega
  obtain⟨P1,P2,P3,P4⟩:=eo h0
  obtain⟨Q1,Q2,Q3,Q4⟩:=eo hp
  have hbase:c.base=(c.bump k h).base:=rfl
  refine⟨by rw [eV];exact hk2.2.1,by rw [eV];exact hk2.2.2,hx,fun hle=>?_,fun hge=>?_,(oP hb).2⟩
  ·have hr:=s1 hle
   have hw:wsI cur (c.bump k h) l≤wsI cur c l:=Ae Q1 P1 rfl hf hvd hv am fun f _ _=>wD okd ok hvd hv h12 (fun i hi=>by
    rw [iM (by rw [ok.len];exact hk)]
    split
    ·rename_i e;rw [e];exact hr
    ·exact Int.le_refl _) f.day
   have hm:=rm hw
   rw [← P2,← Q2] at hm
   have hvI:=(aL (aE Q3) (aE P3) Q4 P4).1 hm
   rw [eV,hk2.1]
   have:=bw (-1074) (show vI (prV l cur (c.bump k h)) - vI (prV l cur c)≤0 by omega)
   exact this
  ·have hr:=s2 hge
   have hw:wsI cur c l≤wsI cur (c.bump k h) l:=Ae P1 Q1 rfl hf hv hvd am fun f _ _=>wD ok okd hv hvd h12 (fun i hi=>by
    rw [iM (by rw [ok.len];exact hk)]
    split
    ·rename_i e;rw [e];exact hr
    ·exact Int.le_refl _) f.day
   have hm:=rm hw
   rw [← P2,← Q2] at hm
   have hvI:=(aL (aE P3) (aE Q3) P4 Q4).1 hm
   rw [eV,hk2.1]
   have:=bw (-1074) (show 0≤vI (prV l cur (c.bump k h)) - vI (prV l cur c) by omega)
   exact this
 ·unfold lnE lU at hE
  rw [eb,if_neg (by decide)] at hE
  exact absurd hE (by decide)
end Go.Proofs.YtpddmnmhdahnlabGreat
