/-  -/
import Derived.Test.YtbokkedmfolfdaaGreatHbh
import Derived.Test.YtbokkedmfolfdaaGreatXmA
import Derived.Test.YtbokkedmfolfdaaGreatFFlw
import Derived.Test.YtbokkedmfolfdaaGreatHap
namespace Go.Proofs.YtbokkedmfolfdaaGreat
open Go.RowKit

theorem WAt.mono {w:World} {g:Nat} {N:Int} {L L':Nat} (h:WAt w g N L) (hl:L≤L'):WAt w g N L':=by
 obtain⟨b,v,h1,h2⟩:=h.ex
 exact⟨b,v,h1,h2.mono hl⟩
theorem sn {w:World} {B n c:Nat} {e:TypeId} {p:Option Addr} {ys:List Value} (h:w.ownsRow B e 3 (.slice p n c) n ys):p=none→n=0∧c=0:=fun hp=>by
 subst hp
 rcases h.2 with⟨hv,h0⟩| ⟨g,cap,cu,hv,_⟩
 ·injection hv with _ _ hc
  exact⟨h0,hc⟩
 ·injection hv with hv _ _
  cases hv
structure PtW (w:World) (bs kd:Int) (vd vf:Value) (ga gb gd gs gt:Nat) (xa xb:Int) (wr:World):Prop where
 bx:VBox w bs kd vd vf wr
 a:WAt wr ga xa 200
 b:WAt wr gb xb 200
 d:WAt wr gd (xa+xb) 200
 s:WAt wr gs (xa+xb) 201
 t:WAt wr gt (xb+xa) 201
theorem PtW.step {w wr w':World} {bs kd:Int} {vd vf:Value} {ga gb gd gs gt:Nat} {xa xb:Int} (h:PtW w bs kd vd vf ga gb gd gs gt xa xb wr) (hb:Below wr.heap.size wr w'):PtW w bs kd vd vf ga gb gd gs gt xa xb w':=⟨h.bx.step hb,h.a.below hb,h.b.below hb,h.d.below hb,h.s.below hb,h.t.below hb⟩
theorem PtW.drewN {w wr:World} {bs kd:Int} {vd vf:Value} {ga gb gd gs gt:Nat} {xa xb:Int} (h:PtW w bs kd vd vf ga gb gd gs gt xa xb wr) (n:Nat):PtW w bs kd vd vf ga gb gd gs gt xa xb (wr.drewN n):=⟨h.bx.drewN n,h.a.drewN n,h.b.drewN n,h.d.drewN n,h.s.drewN n,h.t.drewN n⟩
structure PtN (w:World) (bs kd:Int) (vd vf:Value) (ga gb gd gs gt gn:Nat) (xa xb:Int) (wr:World):Prop where
 p:PtW w bs kd vd vf ga gb gd gs gt xa xb wr
 n:WAt wr gn (-(xa+xb)) 200
structure PtA (w:World) (bs kd:Int) (vd vf:Value) (ga gb gd gs gt:Nat) (xa xb:Int) (b1 b2:Nat) (v1 v2:Value) (w0 wr:World):Prop where
 p:PtW w bs kd vd vf ga gb gd gs gt xa xb wr
 cs:wr.cell? ⟨gs,0,none⟩=some (.pointer (some ⟨b1,0,none⟩))
 cd:wr.cell? ⟨gd,0,none⟩=some (.pointer (some ⟨b2,0,none⟩))
 s:A.AccAt wr 0 b1 v1 201 ⟨0,xa+xb⟩
 d:A.AccAt wr 0 b2 v2 200 ⟨0,xa+xb⟩
 h:Below w0.heap.size w0 wr
theorem PtA.step {w w0 wr w':World} {bs kd:Int} {vd vf:Value} {ga gb gd gs gt:Nat} {xa xb:Int} {b1 b2:Nat} {v1 v2:Value} (h:PtA w bs kd vd vf ga gb gd gs gt xa xb b1 b2 v1 v2 w0 wr) (hb:Below wr.heap.size wr w'):PtA w bs kd vd vf ga gb gd gs gt xa xb b1 b2 v1 v2 w0 w':=⟨h.p.step hb,(hb.cell (p:=⟨gs,0,none⟩) h.p.s.lt).trans h.cs,(hb.cell (p:=⟨gd,0,none⟩) h.p.d.lt).trans h.cd,h.s.below hb,h.d.below hb,h.h.trans (hb.mono h.h.size)⟩
theorem PtA.drewN {w w0 wr:World} {bs kd:Int} {vd vf:Value} {ga gb gd gs gt:Nat} {xa xb:Int} {b1 b2:Nat} {v1 v2:Value} (h:PtA w bs kd vd vf ga gb gd gs gt xa xb b1 b2 v1 v2 w0 wr) (n:Nat):PtA w bs kd vd vf ga gb gd gs gt xa xb b1 b2 v1 v2 w0 (wr.drewN n):=⟨h.p.drewN n,h.cs,h.cd,h.s.drewN n,h.d.drewN n,lv h.h n⟩
structure PtM (w:World) (bs kd:Int) (vd vf:Value) (ga gb gd gs gt:Nat) (xa xb:Int) (b1 b2:Nat) (v1 v2:Value) (w0:World) (gn bn:Nat) (vn:Value) (wr:World):Prop where
 a:PtA w bs kd vd vf ga gb gd gs gt xa xb b1 b2 v1 v2 w0 wr
 n:WAt wr gn (-(xa+xb)) 200
 cn:wr.cell? ⟨gn,0,none⟩=some (.pointer (some ⟨bn,0,none⟩))
 an:A.AccAt wr 0 bn vn 200 ⟨0,-(xa+xb)⟩
theorem PtM.step {w w0 wr w':World} {bs kd:Int} {vd vf:Value} {ga gb gd gs gt:Nat} {xa xb:Int} {b1 b2:Nat} {v1 v2:Value} {gn bn:Nat} {vn:Value} (h:PtM w bs kd vd vf ga gb gd gs gt xa xb b1 b2 v1 v2 w0 gn bn vn wr) (hb:Below wr.heap.size wr w'):PtM w bs kd vd vf ga gb gd gs gt xa xb b1 b2 v1 v2 w0 gn bn vn w':=⟨h.a.step hb,h.n.below hb,(hb.cell (p:=⟨gn,0,none⟩) h.n.lt).trans h.cn,h.an.below hb⟩
theorem vz (g h:Nat) (N M S:Int) (L L' K:Nat) (w:World) (e:N+M=S) (hg:WAt w g N L) (hh:WAt w h M L') (hL:L≤40000) (hL':L'≤40000) (hk:max L L'+1≤K) :
  Calls Tryz.prog 9 #[.pointer (some ⟨g,0,none⟩),.pointer (some ⟨h,0,none⟩)] w fun e w'=>∃ r,e=.returned (.pointer (some ⟨r,0,none⟩))∧WAt w' r S K∧Below w.heap.size w w':=by
 subst e
 exact (fR g h N M L L' w hg hh hL hL').mono fun _ _ ⟨r,a,b,c⟩=>⟨r,a,b.mono hk,c⟩
theorem sp (N:Int):∃ sg:Int,A.da N=sg∧A.da (-N)= -sg∧IntKind.i64.wrap (-sg)= -sg∧(-sg !=-sg)=false:=by
 refine⟨_,rfl,xe N,?_,by simp⟩
 unfold A.da
 split
 ·rfl
 ·split<;>rfl
theorem dF (g h:Nat) (N M:Int) (L L':Nat) (w:World) (e:N=M) (hg:WAt w g N L) (hh:WAt w h M L') (hL:L≤40000) (hL':L'≤40000) :
  Calls Tryz.prog 10 #[.pointer (some ⟨g,0,none⟩),.pointer (some ⟨h,0,none⟩)] w fun e w'=>e=.returned (.bool true)∧Below w.heap.size w w':=by
 have:=rV g h N M L L' w hg hh hL hL'
 rw [decide_eq_true e] at this
 exact this.mono fun _ _ ⟨a,q,b⟩=>⟨a,by rw [b];exact lv (Below.refl _ _) q⟩
theorem oV (X:Nat):∃ (TV:Nat) (TE:Int),fL X=TV∧fM X=TE∧((TV=X∧(TE==0)=true)∨(TE==0)=false):=by
 unfold fL fM
 cases h:aD (X:Int)
 ·exact⟨_,_,rfl,rfl,Or.inr rfl⟩
 ·exact⟨_,_,rfl,rfl,Or.inl ⟨rfl,rfl⟩⟩

set_option maxRecDepth 40000 in
set_option maxHeartbeats 0 in
theorem jz (l m:List Flw) (cur:Int) (c:Cv) (xs:List Int) (pl:Option Addr) (bl ol cl N:Nat) (pm:Option Addr) (bm om cm M:Nat) (pp:Option Addr) (bp op cp L:Nat) (pd pf:Option Addr) (bd od cd b2 o2 cf:Nat) (w:World) (hl:JSrc aF w pl bl ol l) (hN:l.length=N) (hf:bK l) (hnl:pl=none→N=0∧cl=0) (hl2:JSrc aF w pm bm om m) (hM:m.length=M) (hf2:bK m) (hnm:pm=none→M=0∧cm=0) (hx:VSrc w pp bp op L (xV xs)) (hL:L≤9223372036854775807) (hs:TFl w pd pf bd od b2 o2 c.ds c.fs) (hm:N≤60∧c.ds.length≤12∧c.fs.length≤12) (hm2:M≤60∧c.ds.length≤12∧c.fs.length≤12) (h1:FineP l cur c) (h2:FineP m cur c) :
  Calls Tryz.prog 3 #[.slice pl N cl,.slice pm M cm,.slice pp L cp,.int .i64 cur,.agg #[.int .i64 c.base,.int .i64 c.kind,.slice pd c.ds.length cd,.slice pf c.fs.length cf]] w fun e w'=>e=.returned (.bool true)∧Below w.heap.size w w':=by
 have HK:=hideS (aM w c.base c.kind (.slice pd c.ds.length cd) (.slice pf c.fs.length cf))
 have HS1:=hideS fun wx=>bw c.base c.kind pl pd pf N cl c.ds.length cd c.fs.length cf wx
 have HS2:=hideS fun wx=>bw c.base c.kind pm pd pf M cm c.ds.length cd c.fs.length cf wx
 rw [decide_eq_true hm] at HS1
 rw [decide_eq_true hm2] at HS2
 have HO1:=hideS fun wx (hb:Below w.heap.size w wx)=>je l cur c pl bl ol cl N pd pf bd od cd b2 o2 cf wx h1 (hl.below hb) hN hf (hs.below hb)
 have HO2:=hideS fun wx (hb:Below w.heap.size w wx)=>je m cur c pm bm om cm M pd pf bd od cd b2 o2 cf wx h2 (hl2.below hb) hM hf2 (hs.below hb)
 have HO3:=hideS fun (k:List Flw) p g ck n wx (hb:Below w.heap.size w wx) (hk:JSrc aF wx p g 0 k) (hn:k.length=n) (h0:FineP k cur c) (hfk:bK k)=>je k cur c p g 0 ck n pd pf bd od cd b2 o2 cf wx h0 hk hn hfk (hs.below hb)
 have HP3:=hideS fun (k:List Flw) p g ck n wx (hb:Below w.heap.size w wx) (hk:JSrc aF wx p g 0 k) (hn:k.length=n) (h0:FineP k cur c) (hfk:bK k)=>pV k cur c p g 0 ck n pd pf bd od cd b2 o2 cf wx h0 hk hn hfk (hs.below hb)
 have HMi:=hideS fun (k:List Flw) p g ck n wx (hb:Below w.heap.size w wx) (hk:JSrc aF wx p g 0 k) (hn:k.length=n) (h0:p=none→n=0∧ck=0) (h200:n≤200)=>kp k p g 0 ck n pp bp op cp L xs wx hk hn h0 h200 (hx.below hb) hL
 have HA:=hideS gO
 have hN60:=hm.1
 have hM60:=hm2.1
 have HQl:=hideS (And.intro hl (And.intro hN hnl))
 have HQm:=hideS (And.intro hl2 (And.intro hM hnm))
 have HFit:=hideS (And.intro hf hf2)
 have HV:Hid c.Fit:=hs.f
 have HFP:=hideS (And.intro h1 h2)
 clear hl hN hf hl2 hM hf2 hs hm hm2 hx hnl hnm h1 h2
 generalize Value.slice pd c.ds.length cd=vd at *
 generalize Value.slice pf c.fs.length cf=vf at *
 obtain⟨bs,hbs⟩:∃ b,c.base=b:=⟨_,rfl⟩
 obtain⟨kd,hkd⟩:∃ b,c.kind=b:=⟨_,rfl⟩
 rw [hbs,hkd] at HK HS1 HS2 HO1 HO2 HO3 HP3 ⊢
 clear hbs hkd
 obtain⟨w2,hw2⟩:∃ w2,w.alloc (.cells #[.int .i64 bs,.int .i64 kd,vd,vf] 26)=w2:=⟨_,rfl⟩
 rw [hw2] at HK
 have t0:=HK.out.t0
 have t1:=HK.out.t1
 have t2:=HK.out.t2
 have t3:=HK.out.t3
 go_enter Tryz.func3,Tryz.ntmps3
 go_wp2_with fail
 clear hw2 t0 t1 t2 t3
 refine (HS1.out _).mono ?_
 rintro e w3 ⟨rfl,hb3⟩
 have H3:=hideS (HK.out.step hb3)
 clear hb3 HK HS1
 have t0:=H3.out.t0
 have t1:=H3.out.t1
 have t2:=H3.out.t2
 have t3:=H3.out.t3
 go_wp2_with fail
 clear t0 t1 t2 t3
 refine (HS2.out _).mono ?_
 rintro e w4 ⟨rfl,hb4⟩
 have H4:=hideS (H3.out.step hb4)
 clear hb4 H3 HS2
 have t0:=H4.out.t0
 have t1:=H4.out.t1
 have t2:=H4.out.t2
 have t3:=H4.out.t3
 go_wp2_with fail
 clear t0 t1 t2 t3
 refine (HO1.out _ H4.out.bl).mono ?_
 rintro e w5 ⟨ga,rfl,ha,hb5⟩
 have H5:=hideS (H4.out.step hb5)
 have Wa:=hideS (ha.mono (L':=200) (by omega))
 clear hb5 ha H4 HO1
 have t0:=H5.out.t0
 have t1:=H5.out.t1
 have t2:=H5.out.t2
 have t3:=H5.out.t3
 go_wp2_with fail
 clear t0 t1 t2 t3
 refine (HO2.out _ H5.out.bl).mono ?_
 rintro e w6 ⟨gb,rfl,hb,hb6⟩
 have H6:=hideS (H5.out.step hb6)
 have Wa:=hideS (Wa.out.below hb6)
 have Wb:=hideS (hb.mono (L':=200) (by omega))
 clear hb6 hb H5 HO2
 have HE:=hideS (eA w6)
 have HB0:=hideS ((Below.refl _ w6).alloc (Nat.le_refl _) (.cells #[] 50))
 go_wp2_with (at_builtin;refine aH _ rfl _ _ rfl w6.heap.size (.slice (some ⟨w6.heap.size,0,none⟩) 0 0) 0 [] rfl HE.out pl bl ol cl N l rfl HQl.out.2.1 (HQl.out.1.below (H6.out.bl.trans (HB0.out.mono H6.out.bl.size))) HQl.out.2.2 (by omega) HB0.out.size ?_)
 intro v1 w7 ho1 hg1
 have HB7:Hid (Below w6.heap.size w6 w7):=HB0.out.trans (be HE.out hg1 HB0.out.size)
 have HO7:=hideS ho1
 have H7:=hideS (H6.out.step HB7.out)
 clear ho1 hg1 HE HB0
 go_wp2_with (at_builtin;refine aH _ rfl _ _ rfl w6.heap.size v1 N l rfl HO7.out pm bm om cm M m rfl HQm.out.2.1 (HQm.out.1.below H7.out.bl) HQm.out.2.2 (by omega) HB7.out.size ?_)
 intro v2 w8 ho2 hg2
 have HB8:Hid (Below w6.heap.size w6 w8):=HB7.out.trans (be HO7.out hg2 HB7.out.size)
 have hlen:(l++m).length=N+M:=by rw [List.length_append,HQl.out.2.1,HQm.out.2.1]
 obtain⟨p2,g2,c2,rfl,s2,_,_,_⟩:=cw ho2 hlen
 have H8:=hideS (H6.out.step HB8.out)
 have Wa:=hideS (Wa.out.below HB8.out)
 have Wb:=hideS (Wb.out.below HB8.out)
 have HM8:=hideS (HMi.out (l++m) p2 g2 c2 (N+M) w8 H8.out.bl s2 hlen (sn ho2) (by omega))
 have HLen:=hideS hlen
 clear ho2 hg2 hlen s2 HO7 H7 HB7 HB8 H6 HMi
 go_wp2_with fail
 refine HM8.out.mono ?_
 rintro e w9 ⟨u,k,rfl,ho3,hp,hb9⟩
 have hlen:k.length=N+M:=hp.length_eq.trans HLen.out
 obtain⟨p3,g3,c3,rfl,s3,_,_,_⟩:=cw ho3 hlen
 have H9:=hideS (H8.out.step hb9)
 have Wa:=hideS (Wa.out.below hb9)
 have Wb:=hideS (Wb.out.below hb9)
 have hmix:=np (cur:=cur) (c:=c) hp (by rw [HQl.out.2.1,HQm.out.2.1];omega)
 have HFk:=hideS (hmix.1.2 HFP.out)
 have HWk:=hideS hmix.2
 have HFt:Hid (bK k):=pW fun f hf=>by
  rcases List.mem_append.1 (hp.mem_iff.1 hf) with h | h
  ·exact bR HFit.out.1 h
  ·exact bR HFit.out.2 h
 have HSk:=hideS s3
 have HLk:=hideS hlen
 have HO9:=hideS (HO3.out k p3 g3 c3 (N+M) w9 H9.out.bl s3 hlen HFk.out HFt.out)
 clear hb9 ho3 hp hlen s3 hmix H8 HM8 HLen HFP HFit
 rw [HWk.out] at HO9
 have HPv:Hid (rX k cur c=fL (dk (wsI cur c l+wsI cur c m))∧rY k cur c=fM (dk (wsI cur c l+wsI cur c m))):=by
  unfold rX rY;rw [HWk.out];exact⟨rfl,rfl⟩
 have HGv:=hideS (sb HFk.out HFt.out HV.out)
 rw [HWk.out] at HGv
 generalize wsI cur c l=SA at *
 generalize wsI cur c m=SB at *
 have t0:=H9.out.t0
 have t1:=H9.out.t1
 have t2:=H9.out.t2
 have t3:=H9.out.t3
 go_wp2_with fail
 clear t0 t1 t2 t3
 refine HO9.out.mono ?_
 rintro e w10 ⟨gd,rfl,hd,hb10⟩
 have H10:=hideS (H9.out.step hb10)
 have Wa:=hideS (Wa.out.below hb10)
 have Wb:=hideS (Wb.out.below hb10)
 have Wd:=hideS (hd.mono (L':=200) (by omega))
 have HSk:=hideS (HSk.out.below hb10)
 have HP10:=hideS (HP3.out k p3 g3 c3 (N+M) w10 H10.out.bl HSk.out HLk.out HFk.out HFt.out)
 rw [HPv.out.1,HPv.out.2] at HP10
 have hX64:=pU (SA+SB)
 have HVal:=fun b v L wx (ha:A.AccAt wx 0 b v L ⟨0,SA+SB⟩) (hL:L≤40000)=>WAt.value ha hL
 generalize dk (SA+SB)=X at *
 have HVal:=hideS HVal
 clear hX64
 obtain⟨TV,TE,e1,e2,hT⟩:=oV X
 rw [e1,e2] at HP10
 clear e1 e2
 rcases hT with⟨rfl,oE⟩| oE
 all_goals
  clear hb10 hd H9 HO9 HP3 HPv
  have t0:=H10.out.t0
  have t1:=H10.out.t1
  have t2:=H10.out.t2
  have t3:=H10.out.t3
  go_wp2_with fail
  clear t0 t1 t2 t3
  refine HP10.out.mono ?_
  rintro e w11 ⟨rfl,hb11⟩
  have H11:=hideS (H10.out.step hb11)
  have Wa:=hideS (Wa.out.below hb11)
  have Wb:=hideS (Wb.out.below hb11)
  have Wd:=hideS (Wd.out.below hb11)
  have HSk:=hideS (HSk.out.below hb11)
  clear hb11 H10 HP10
  go_wp2_with fail
  refine (fR _ _ _ _ _ _ _ Wa.out Wb.out (by omega) (by omega)).mono ?_
  rintro e w12 ⟨gs,rfl,hs,hb12⟩
  have H12:=hideS (H11.out.step hb12)
  have Wa:=hideS (Wa.out.below hb12)
  have Wb:=hideS (Wb.out.below hb12)
  have Wd:=hideS (Wd.out.below hb12)
  have Ws:=hideS (hs.mono (L':=201) (by omega))
  have HSk:=hideS (HSk.out.below hb12)
  clear hb12 H11 hs
  go_wp2_with fail
  refine (fR _ _ _ _ _ _ _ Wb.out Wa.out (by omega) (by omega)).mono ?_
  rintro e w13 ⟨gt,rfl,ht,hb13⟩
  have HW:Hid (PtW w bs kd vd vf ga gb gd gs gt SA SB w13):=⟨H12.out.step hb13,Wa.out.below hb13,Wb.out.below hb13,Wd.out.below hb13,Ws.out.below hb13,ht.mono (by omega)⟩
  have HSk:=hideS (HSk.out.below hb13)
  clear hb13 H12 ht Wa Wb Wd Ws
  obtain⟨b1,v1,cs,has⟩:=HW.out.s.at_
  obtain⟨b2',v2,cd',ad⟩:=HW.out.d.at_
  have PZ:Hid (PtA w bs kd vd vf ga gb gd gs gt SA SB b1 b2' v1 v2 w13 w13.drew):=PtA.drewN ⟨HW.out,cs,cd',has,ad,Below.refl _ _⟩ 1
  have HSm1:=hideS fun wx (hp:PtA w bs kd vd vf ga gb gd gs gt SA SB b1 b2' v1 v2 w13 wx)=>dF gs gd _ _ _ _ wx rfl hp.p.s hp.p.d (by decide) (by decide)
  have HSm2:=hideS fun wx (hp:PtA w bs kd vd vf ga gb gd gs gt SA SB b1 b2' v1 v2 w13 wx)=>dF gd gt _ _ _ _ wx (Int.add_comm SA SB) hp.p.d hp.p.t (by decide) (by decide)
  have HVs:=hideS fun wx (hp:PtA w bs kd vd vf ga gb gd gs gt SA SB b1 b2' v1 v2 w13 wx)=>HVal.out b1 v1 201 wx hp.s (by decide)
  have HVd:=hideS fun wx (hp:PtA w bs kd vd vf ga gb gd gs gt SA SB b1 b2' v1 v2 w13 wx)=>HVal.out b2' v2 200 wx hp.d (by decide)
  clear has ad
  go_wp2_with fail
  first
  | (have hqT:(TE==0)=true:=oE
     go_region_held3 (fun w'=>w'.cell? ⟨gs,0,none⟩=some (.pointer (some ⟨b1,0,none⟩))∧w'.cell? ⟨gd,0,none⟩=some (.pointer (some ⟨b2',0,none⟩)))
       (first | exact⟨PZ.out.cs,PZ.out.cd⟩| go_keep)
       (first
         | (go_at_call_of 10 (Value.pointer (some ⟨gs,0,none⟩));(with_reducible refine (HSm1.out _ PZ.out).mono ?_);rintro e wz ⟨rfl,hbz⟩;have PZ:=hideS (PZ.out.step hbz);clear hbz)
         | (go_at_call_of 10 (Value.pointer (some ⟨gt,0,none⟩));(with_reducible refine (HSm2.out _ PZ.out).mono ?_);rintro e wz ⟨rfl,hbz⟩;have PZ:=hideS (PZ.out.step hbz);clear hbz)
         | (go_at_call_of 12 (Value.pointer (some ⟨b1,0,none⟩));(with_reducible refine (HVs.out _ PZ.out).mono ?_);rintro e wz ⟨rfl,hbz⟩;have PZ:=hideS (PZ.out.step hbz);clear hbz)
         | (go_at_call_of 12 (Value.pointer (some ⟨b2',0,none⟩));(with_reducible refine (HVd.out _ PZ.out).mono ?_);rintro e wz ⟨rfl,hbz⟩;have PZ:=hideS (PZ.out.step hbz);clear hbz)
         | (go_at_call 11;refine (turned (cH _ _)).mono ?_;rintro e wb ⟨rfl,rfl⟩)))
  | (
     refine wp_region_held_drew (S:=fun w'=>w'.cell? ⟨gs,0,none⟩=some (.pointer (some ⟨b1,0,none⟩))∧w'.cell? ⟨gd,0,none⟩=some (.pointer (some ⟨b2',0,none⟩))) (by kernel_rfl) ⟨PZ.out.cs,PZ.out.cd⟩ (fun hHeld=>?_)
     refine ae (i:=0) (some 110) (v:=?_) (by kernel_rfl) rfl (by kernel_rfl) (by kernel_rfl) (by kernel_rfl) (fun _ _ _ h=>h) (Or.inl ⟨by kernel_rfl,?_⟩) (by assumption) ?_
     rotate_left
     ·(intro wq hSq;(try dsimp only at hSq);go_simp;try (with_reducible rfl))
     simp only [Act.put,List.setIfInBounds_toArray,List.set_cons_succ,List.set_cons_zero]
     refine ae (i:=1) (some 111) (v:=?_) (by kernel_rfl) rfl (by kernel_rfl) (by kernel_rfl) (by kernel_rfl) (fun _ _ _ h=>h) (Or.inl ⟨by kernel_rfl,?_⟩) (by assumption) ?_
     rotate_left
     ·(intro wq hSq;(try dsimp only at hSq);go_simp;try (with_reducible rfl))
     simp only [Act.put,List.setIfInBounds_toArray,List.set_cons_succ,List.set_cons_zero]
     refine ae (i:=2) (some 112) (v:=?_) (by kernel_rfl) rfl (by kernel_rfl) (by kernel_rfl) (by kernel_rfl) (fun _ _ _ h=>h) (Or.inl ⟨by kernel_rfl,?_⟩) (by assumption) ?_
     rotate_left
     ·(intro wq hSq;(try dsimp only at hSq);go_simp;try (with_reducible rfl))
     simp only [Act.put,List.setIfInBounds_toArray,List.set_cons_succ,List.set_cons_zero]
     refine ae (i:=3) (some 113) (v:=?_) (by kernel_rfl) rfl (by kernel_rfl) (by kernel_rfl) (by kernel_rfl) (fun _ _ _ h=>h) (Or.inl ⟨by kernel_rfl,?_⟩) (by assumption) ?_
     rotate_left
     ·(intro wq hSq;(try dsimp only at hSq);go_simp;try (with_reducible rfl))
     simp only [Act.put,List.setIfInBounds_toArray,List.set_cons_succ,List.set_cons_zero]
     refine ae (i:=4) (some 114) (v:=?_) (by kernel_rfl) rfl (by kernel_rfl) (by kernel_rfl) (by kernel_rfl) (fun _ _ _ h=>h) (Or.inl ⟨by kernel_rfl,?_⟩) (by assumption) ?_
     rotate_left
     ·(intro wq hSq;(try dsimp only at hSq);go_simp;try (with_reducible rfl))
     simp only [Act.put,List.setIfInBounds_toArray,List.set_cons_succ,List.set_cons_zero]
     refine ae (i:=5) (some 115) (v:=?_) (by kernel_rfl) rfl (by kernel_rfl) (by kernel_rfl) (by kernel_rfl) (fun _ _ _ h=>h) (Or.inl ⟨by kernel_rfl,?_⟩) (by assumption) ?_
     rotate_left
     ·(intro wq hSq;(try dsimp only at hSq);go_simp;try (with_reducible rfl))
     simp only [Act.put,List.setIfInBounds_toArray,List.set_cons_succ,List.set_cons_zero]
     refine ae (i:=6) (some 116) (v:=?_) (by kernel_rfl) rfl (by kernel_rfl) (by kernel_rfl) (by kernel_rfl) (fun _ _ _ h=>h) (Or.inl ⟨by kernel_rfl,?_⟩) (by assumption) ?_
     rotate_left
     ·(intro wq hSq;(try dsimp only at hSq);go_simp;try (with_reducible rfl))
     simp only [Act.put,List.setIfInBounds_toArray,List.set_cons_succ,List.set_cons_zero]
     refine ae (i:=7) (some 117) (v:=?_) (by kernel_rfl) rfl (by kernel_rfl) (by kernel_rfl) (by kernel_rfl) (fun _ _ _ h=>h) (Or.inl ⟨by kernel_rfl,?_⟩) (by assumption) ?_
     rotate_left
     ·(intro wq hSq;(try dsimp only at hSq);go_simp;try (with_reducible rfl))
     simp only [Act.put,List.setIfInBounds_toArray,List.set_cons_succ,List.set_cons_zero]
     refine ae (i:=8) (some 118) (v:=?_) (by kernel_rfl) rfl (by kernel_rfl) (by kernel_rfl) (by kernel_rfl) (fun _ _ _ h=>h) (Or.inl ⟨by kernel_rfl,?_⟩) (by assumption) ?_
     rotate_left
     ·(intro wq hSq;(try dsimp only at hSq);go_simp;try (with_reducible rfl))
     simp only [Act.put,List.setIfInBounds_toArray,List.set_cons_succ,List.set_cons_zero]
     refine wpAnyH_ready (rs:=[9]) (by kernel_rfl) (by simp) ?_
     refine AllReadyH.cons rfl (fun K hK=>?_) AllReadyH.nil
     rw [if_pos (by kernel_rfl)]
     go_simp
     refine (HSm1.out _ PZ.out).mono ?_
     rintro e wz9 ⟨rfl,hbz⟩
     have PZ:=hideS (PZ.out.step hbz)
     clear hbz
     try go_wp2_with fail
     refine hK.out _ _ ⟨PZ.out.cs,PZ.out.cd⟩ (fun hHeld=>?_)
     clear hK K
     try simp only [Act.put,List.setIfInBounds_toArray,List.set_cons_succ,List.set_cons_zero]
     refine ae (i:=10) (some 120) (v:=?_) (by kernel_rfl) rfl (by kernel_rfl) (by kernel_rfl) (by kernel_rfl) (fun _ _ _ h=>h) (Or.inl ⟨by kernel_rfl,?_⟩) (by assumption) ?_
     rotate_left
     ·(intro wq hSq;(try dsimp only at hSq);go_simp;try (with_reducible rfl))
     simp only [Act.put,List.setIfInBounds_toArray,List.set_cons_succ,List.set_cons_zero]
     refine ae (i:=11) (some 121) (v:=?_) (by kernel_rfl) rfl (by kernel_rfl) (by kernel_rfl) (by kernel_rfl) (fun _ _ _ h=>h) (Or.inl ⟨by kernel_rfl,?_⟩) (by assumption) ?_
     rotate_left
     ·(intro wq hSq;(try dsimp only at hSq);go_simp;try (with_reducible rfl))
     simp only [Act.put,List.setIfInBounds_toArray,List.set_cons_succ,List.set_cons_zero]
     refine ae (i:=12) (some 122) (v:=?_) (by kernel_rfl) rfl (by kernel_rfl) (by kernel_rfl) (by kernel_rfl) (fun _ _ _ h=>h) (Or.inl ⟨by kernel_rfl,?_⟩) (by assumption) ?_
     rotate_left
     ·(intro wq hSq;(try dsimp only at hSq);go_simp;try (with_reducible rfl))
     simp only [Act.put,List.setIfInBounds_toArray,List.set_cons_succ,List.set_cons_zero]
     refine ae (i:=13) (some 123) (v:=?_) (by kernel_rfl) rfl (by kernel_rfl) (by kernel_rfl) (by kernel_rfl) (fun _ _ _ h=>h) (Or.inl ⟨by kernel_rfl,?_⟩) (by assumption) ?_
     rotate_left
     ·(intro wq hSq;(try dsimp only at hSq);go_simp;try (with_reducible rfl))
     simp only [Act.put,List.setIfInBounds_toArray,List.set_cons_succ,List.set_cons_zero]
     refine ae (i:=14) (some 124) (v:=?_) (by kernel_rfl) rfl (by kernel_rfl) (by kernel_rfl) (by kernel_rfl) (fun _ _ _ h=>h) (Or.inl ⟨by kernel_rfl,?_⟩) (by assumption) ?_
     rotate_left
     ·(intro wq hSq;(try dsimp only at hSq);go_simp;try (with_reducible rfl))
     simp only [Act.put,List.setIfInBounds_toArray,List.set_cons_succ,List.set_cons_zero]
     refine wpAnyH_ready (rs:=[15]) (by kernel_rfl) (by simp) ?_
     refine AllReadyH.cons rfl (fun K hK=>?_) AllReadyH.nil
     rw [if_pos (by kernel_rfl)]
     go_simp
     refine (HSm2.out _ PZ.out).mono ?_
     rintro e wz15 ⟨rfl,hbz⟩
     have PZ:=hideS (PZ.out.step hbz)
     clear hbz
     try go_wp2_with fail
     refine hK.out _ _ ⟨PZ.out.cs,PZ.out.cd⟩ (fun hHeld=>?_)
     clear hK K
     try simp only [Act.put,List.setIfInBounds_toArray,List.set_cons_succ,List.set_cons_zero]
     refine ae (i:=16) (some 126) (v:=?_) (by kernel_rfl) rfl (by kernel_rfl) (by kernel_rfl) (by kernel_rfl) (fun _ _ _ h=>h) (Or.inl ⟨by kernel_rfl,?_⟩) (by assumption) ?_
     rotate_left
     ·(intro wq hSq;(try dsimp only at hSq);go_simp;try (with_reducible rfl))
     simp only [Act.put,List.setIfInBounds_toArray,List.set_cons_succ,List.set_cons_zero]
     refine ae (i:=17) (some 127) (v:=?_) (by kernel_rfl) rfl (by kernel_rfl) (by kernel_rfl) (by kernel_rfl) (fun _ _ _ h=>h) (Or.inl ⟨by kernel_rfl,?_⟩) (by assumption) ?_
     rotate_left
     ·(intro wq hSq;(try dsimp only at hSq);go_simp;try (with_reducible rfl))
     simp only [Act.put,List.setIfInBounds_toArray,List.set_cons_succ,List.set_cons_zero]
     refine ae (i:=18) (some 128) (v:=?_) (by kernel_rfl) rfl (by kernel_rfl) (by kernel_rfl) (by kernel_rfl) (fun _ _ _ h=>h) (Or.inl ⟨by kernel_rfl,?_⟩) (by assumption) ?_
     rotate_left
     ·(intro wq hSq;(try dsimp only at hSq);go_simp;try (with_reducible rfl))
     simp only [Act.put,List.setIfInBounds_toArray,List.set_cons_succ,List.set_cons_zero]
     refine ae (i:=19) (some 129) (v:=?_) (by kernel_rfl) rfl (by kernel_rfl) (by kernel_rfl) (by kernel_rfl) (fun _ _ _ h=>h) (Or.inl ⟨by kernel_rfl,?_⟩) (by assumption) ?_
     rotate_left
     ·(intro wq hSq;(try dsimp only at hSq);go_simp;try (with_reducible rfl))
     simp only [Act.put,List.setIfInBounds_toArray,List.set_cons_succ,List.set_cons_zero]
     refine ae (i:=20) (some 130) (v:=?_) (by kernel_rfl) rfl (by kernel_rfl) (by kernel_rfl) (by kernel_rfl) (fun _ _ _ h=>h) (Or.inl ⟨by kernel_rfl,?_⟩) (by assumption) ?_
     rotate_left
     ·(intro wq hSq;(try dsimp only at hSq);go_simp;try (with_reducible rfl))
     simp only [Act.put,List.setIfInBounds_toArray,List.set_cons_succ,List.set_cons_zero]
     refine ae (i:=21) (some 131) (v:=?_) (by kernel_rfl) rfl (by kernel_rfl) (by kernel_rfl) (by kernel_rfl) (fun _ _ _ h=>h) (Or.inl ⟨by kernel_rfl,?_⟩) (by assumption) ?_
     rotate_left
     ·(intro wq hSq;(try dsimp only at hSq);go_simp;try (with_reducible rfl))
     simp only [Act.put,List.setIfInBounds_toArray,List.set_cons_succ,List.set_cons_zero]
     refine ae (i:=22) (some 132) (v:=?_) (by kernel_rfl) rfl (by kernel_rfl) (by kernel_rfl) (by kernel_rfl) (fun _ _ _ h=>h) (Or.inl ⟨by kernel_rfl,?_⟩) (by assumption) ?_
     rotate_left
     ·(intro wq hSq;(try dsimp only at hSq);go_simp;try (with_reducible rfl))
     simp only [Act.put,List.setIfInBounds_toArray,List.set_cons_succ,List.set_cons_zero]
     refine ae (i:=25) (some 135) (v:=?_) (by kernel_rfl) rfl (by kernel_rfl) (by kernel_rfl) (by kernel_rfl) (fun _ _ _ h=>h) (Or.inl ⟨by kernel_rfl,?_⟩) (by assumption) ?_
     rotate_left
     ·(intro wq hSq;(try dsimp only at hSq);go_simp;try (with_reducible rfl))
     simp only [Act.put,List.setIfInBounds_toArray,List.set_cons_succ,List.set_cons_zero]
     refine ae (i:=26) (some 136) (v:=?_) (by kernel_rfl) rfl (by kernel_rfl) (by kernel_rfl) (by kernel_rfl) (fun _ _ _ h=>h) (Or.inl ⟨by kernel_rfl,?_⟩) (by assumption) ?_
     rotate_left
     ·(intro wq hSq;(try dsimp only at hSq);go_simp;try (with_reducible rfl))
     simp only [Act.put,List.setIfInBounds_toArray,List.set_cons_succ,List.set_cons_zero]
     refine ae (i:=27) (some 137) (v:=?_) (by kernel_rfl) rfl (by kernel_rfl) (by kernel_rfl) (by kernel_rfl) (fun _ _ _ h=>h) (Or.inl ⟨by kernel_rfl,?_⟩) (by assumption) ?_
     rotate_left
     ·(intro wq hSq;(try dsimp only at hSq);go_simp;try (with_reducible rfl))
     simp only [Act.put,List.setIfInBounds_toArray,List.set_cons_succ,List.set_cons_zero]
     refine ae (i:=28) (some 138) (v:=?_) (by kernel_rfl) rfl (by kernel_rfl) (by kernel_rfl) (by kernel_rfl) (fun _ _ _ h=>h) (Or.inl ⟨by kernel_rfl,?_⟩) (by assumption) ?_
     rotate_left
     ·(intro wq hSq;(try dsimp only at hSq);go_simp;try (with_reducible rfl))
     simp only [Act.put,List.setIfInBounds_toArray,List.set_cons_succ,List.set_cons_zero]
     refine wpAnyH_ready (rs:=[23]) (by kernel_rfl) (by simp) ?_
     refine AllReadyH.cons rfl (fun K hK=>?_) AllReadyH.nil
     rw [if_pos (by kernel_rfl)]
     go_simp
     refine (HVs.out _ PZ.out).mono ?_
     rintro e wz23 ⟨rfl,hbz⟩
     have PZ:=hideS (PZ.out.step hbz)
     clear hbz
     try go_wp2_with fail
     refine hK.out _ _ ⟨PZ.out.cs,PZ.out.cd⟩ (fun hHeld=>?_)
     clear hK K
     try simp only [Act.put,List.setIfInBounds_toArray,List.set_cons_succ,List.set_cons_zero]
     refine wpAnyH_ready (rs:=[24]) (by kernel_rfl) (by simp) ?_
     refine AllReadyH.cons rfl (fun K hK=>?_) AllReadyH.nil
     rw [if_pos (by kernel_rfl)]
     go_simp
     refine (turned (cH _ _)).mono ?_
     rintro e wz24 ⟨rfl,rfl⟩
     try go_wp2_with fail
     refine hK.out _ _ ⟨PZ.out.cs,PZ.out.cd⟩ (fun hHeld=>?_)
     clear hK K
     try simp only [Act.put,List.setIfInBounds_toArray,List.set_cons_succ,List.set_cons_zero]
     refine wpAnyH_ready (rs:=[29]) (by kernel_rfl) (by simp) ?_
     refine AllReadyH.cons rfl (fun K hK=>?_) AllReadyH.nil
     rw [if_pos (by kernel_rfl)]
     go_simp
     refine (HVd.out _ PZ.out).mono ?_
     rintro e wz29 ⟨rfl,hbz⟩
     have PZ:=hideS (PZ.out.step hbz)
     clear hbz
     try go_wp2_with fail
     refine hK.out _ _ ⟨PZ.out.cs,PZ.out.cd⟩ (fun hHeld=>?_)
     clear hK K
     try simp only [Act.put,List.setIfInBounds_toArray,List.set_cons_succ,List.set_cons_zero]
     refine wpAnyH_ready (rs:=[30]) (by kernel_rfl) (by simp) ?_
     refine AllReadyH.cons rfl (fun K hK=>?_) AllReadyH.nil
     rw [if_pos (by kernel_rfl)]
     go_simp
     refine (turned (cH _ _)).mono ?_
     rintro e wz30 ⟨rfl,rfl⟩
     try go_wp2_with fail
     refine hK.out _ _ ⟨PZ.out.cs,PZ.out.cd⟩ (fun hHeld=>?_)
     clear hK K
     try simp only [Act.put,List.setIfInBounds_toArray,List.set_cons_succ,List.set_cons_zero]
     refine ae (i:=31) (some 141) (v:=?_) (by kernel_rfl) rfl (by kernel_rfl) (by kernel_rfl) (by kernel_rfl) (fun _ _ _ h=>h) (Or.inl ⟨by kernel_rfl,?_⟩) (by assumption) ?_
     rotate_left
     ·(intro wq hSq;(try dsimp only at hSq);go_simp;try (with_reducible rfl))
     simp only [Act.put,List.setIfInBounds_toArray,List.set_cons_succ,List.set_cons_zero]
     refine ae (i:=32) (some 142) (v:=?_) (by kernel_rfl) rfl (by kernel_rfl) (by kernel_rfl) (by kernel_rfl) (fun _ _ _ h=>h) (Or.inl ⟨by kernel_rfl,?_⟩) (by assumption) ?_
     rotate_left
     ·(intro wq hSq;(try dsimp only at hSq);go_simp;try (with_reducible rfl))
     simp only [Act.put,List.setIfInBounds_toArray,List.set_cons_succ,List.set_cons_zero]
     refine ae (i:=33) (some 143) (v:=?_) (by kernel_rfl) rfl (by kernel_rfl) (by kernel_rfl) (by kernel_rfl) (fun _ _ _ h=>h) (Or.inl ⟨by kernel_rfl,?_⟩) (by assumption) ?_
     rotate_left
     ·(intro wq hSq;(try dsimp only at hSq);go_simp;try (with_reducible rfl))
     simp only [Act.put,List.setIfInBounds_toArray,List.set_cons_succ,List.set_cons_zero]
     refine ae (i:=34) (some 144) (v:=?_) (by kernel_rfl) rfl (by kernel_rfl) (by kernel_rfl) (by kernel_rfl) (fun _ _ _ h=>h) (Or.inl ⟨by kernel_rfl,?_⟩) (by assumption) ?_
     rotate_left
     ·(intro wq hSq;(try dsimp only at hSq);go_simp;try (with_reducible rfl))
     simp only [Act.put,List.setIfInBounds_toArray,List.set_cons_succ,List.set_cons_zero]
     refine ae (i:=35) (some 145) (v:=?_) (by kernel_rfl) rfl (by kernel_rfl) (by kernel_rfl) (by kernel_rfl) (fun _ _ _ h=>h) (Or.inl ⟨by kernel_rfl,?_⟩) (by assumption) ?_
     rotate_left
     ·(intro wq hSq;(try dsimp only at hSq);go_simp;try (with_reducible rfl))
     simp only [Act.put,List.setIfInBounds_toArray,List.set_cons_succ,List.set_cons_zero]
     refine ae (i:=36) (some 146) (v:=?_) (by kernel_rfl) rfl (by kernel_rfl) (by kernel_rfl) (by kernel_rfl) (fun _ _ _ h=>h) (Or.inl ⟨by kernel_rfl,?_⟩) (by assumption) ?_
     rotate_left
     ·(intro wq hSq;(try dsimp only at hSq);go_simp;try (with_reducible rfl))
     simp only [Act.put,List.setIfInBounds_toArray,List.set_cons_succ,List.set_cons_zero]
     refine sl [37,38,39,40,41,42,43,44,45] 9 2 rfl (by kernel_rfl) (fun _ _ d _ h=>by cases d<;>exact h) (by assumption) (by kernel_rfl) (by kernel_rfl) (by kernel_rfl) ?_
     refine ae (i:=46) (some 156) (v:=?_) (by kernel_rfl) rfl (by kernel_rfl) (by kernel_rfl) (by kernel_rfl) (fun _ _ _ h=>h) (Or.inl ⟨by kernel_rfl,?_⟩) (by assumption) ?_
     rotate_left
     ·(intro wq hSq;(try dsimp only at hSq);go_simp;try (with_reducible rfl))
     simp only [Act.put,List.setIfInBounds_toArray,List.set_cons_succ,List.set_cons_zero]
     refine ae (i:=47) (some 157) (v:=?_) (by kernel_rfl) rfl (by kernel_rfl) (by kernel_rfl) (by kernel_rfl) (fun _ _ _ h=>h) (Or.inl ⟨by kernel_rfl,?_⟩) (by assumption) ?_
     rotate_left
     ·(intro wq hSq;(try dsimp only at hSq);go_simp;try (with_reducible rfl))
     simp only [Act.put,List.setIfInBounds_toArray,List.set_cons_succ,List.set_cons_zero]
     refine wpAnyH_done (by kernel_rfl) ?_ _)
  have HGi:=hideS fun wx (hb:Below w13.heap.size w13 wx)=>sa k p3 g3 0 c3 (N+M) wx (HSk.out.below hb) HLk.out (by omega)
  have HOg:=hideS fun p g ck wx (hb:Below w.heap.size w wx) (hk:JSrc aF wx p g 0 (k.map bF))=>HO3.out (k.map bF) p g ck (N+M) wx hb hk (by rw [List.length_map];exact HLk.out) HGv.out.1 HGv.out.2.1
  rw [HGv.out.2.2] at HOg
  clear HSm1 HSm2 HVs HVd
  go_wp2_with fail
  have PZ:=hideS (PZ.out.drewN 1)
  go_region_held3 (fun w'=>w'.cell? ⟨w.heap.size,0,none⟩=some (.int .i64 bs)∧w'.cell? ⟨w.heap.size,1,none⟩=some (.int .i64 kd)∧w'.cell? ⟨w.heap.size,2,none⟩=some vd∧w'.cell? ⟨w.heap.size,3,none⟩=some vf)
   (first | exact⟨PZ.out.p.bx.t0,PZ.out.p.bx.t1,PZ.out.p.bx.t2,PZ.out.p.bx.t3⟩| go_keep)
   (first
    | (go_at_call 13;refine (HGi.out _ PZ.out.h).mono ?_;rintro e wz ⟨⟨u,rfl,ho⟩,hbz⟩;obtain⟨p4,g4,c4,rfl,s4,_,_,_⟩:=cw ho (by rw [List.length_map];exact HLk.out);have PZ:=hideS (PZ.out.step hbz);have HSg:=hideS s4;clear hbz s4 ho)
    | (go_at_call 6;refine (HOg.out _ _ _ _ PZ.out.p.bx.bl HSg.out).mono ?_;rintro e wz ⟨gn,rfl,hn,hbz⟩;have PN:=hideS (PtN.mk (PZ.out.step hbz).p (hn.mono (L':=200) (by omega)));have PZ:=hideS (PZ.out.step hbz);clear hbz hn))
  all_goals
   go_wp2_with fail
   obtain⟨bn,vn,cn,an⟩:=PN.out.n.at_
   have PM0:=hideS (PtM.mk PZ.out PN.out.n cn an)
   have PM:=hideS (PM0.out.step (lv (Below.refl _ _) 1))
   clear an
   have HTu:=hideS fun wx (hp:PtM w bs kd vd vf ga gb gd gs gt SA SB b1 b2' v1 v2 w13 gn bn vn wx)=>nh gd _ _ wx hp.a.p.d (by decide)
   have HSN:=hideS fun wx (hp:PtM w bs kd vd vf ga gb gd gs gt SA SB b1 b2' v1 v2 w13 gn bn vn wx)=>WAt.sign hp.an (by decide)
   have HSD:=hideS fun wx (hp:PtM w bs kd vd vf ga gb gd gs gt SA SB b1 b2' v1 v2 w13 gn bn vn wx)=>WAt.sign hp.a.d (by decide)
   obtain⟨sg,es,en,hwr,osg⟩:=sp (SA+SB)
   rw [en] at HSN
   rw [es] at HSD
   clear es en
   go_region_held3 (fun w'=>w'.cell? ⟨gn,0,none⟩=some (.pointer (some ⟨bn,0,none⟩))∧w'.cell? ⟨gd,0,none⟩=some (.pointer (some ⟨b2',0,none⟩)))
    (first | exact⟨PM.out.cn,PM.out.a.cd⟩| go_keep)
    (first
     | (go_at_call 14;refine (HTu.out _ PM.out).mono ?_;rintro e wz ⟨gr,rfl,hr,hbz⟩;have PM:=hideS (PM.out.step hbz);have HR:=hideS hr;clear hbz hr)
     | (go_at_call 10;refine (dF gn _ _ _ _ _ _ rfl PM.out.n HR.out (by decide) (by decide)).mono ?_;rintro e wz ⟨rfl,hbz⟩;have PM:=hideS (PM.out.step hbz);clear hbz)
     | (go_at_call_of 15 (Value.pointer (some ⟨bn,0,none⟩));refine (turned (HSN.out _ PM.out)).mono ?_;rintro e wz ⟨rfl,rfl⟩)
     | (go_at_call_of 15 (Value.pointer (some ⟨b2',0,none⟩));refine (turned (HSD.out _ PM.out)).mono ?_;rintro e wz ⟨rfl,rfl⟩))
   all_goals
    go_wp2_with fail
    refine (vz gn gd _ _ 0 200 200 201 _ (by omega) PM.out.n PM.out.a.p.d (by decide) (by decide) (by decide)).mono ?_
    rintro e w20 ⟨go,rfl,hgo,hb20⟩
    have PM:=hideS (PM.out.step hb20)
    have HG:=hideS hgo
    clear hb20 hgo
    go_wp2_with fail
    refine (fb _).mono ?_
    rintro e w21 ⟨g0,rfl,h0,hb21⟩
    have PM:=hideS (PM.out.step hb21)
    have HG:=hideS (HG.out.below hb21)
    have H0:=hideS h0
    clear hb21 h0
    go_wp2_with fail
    refine (dF go g0 _ _ _ _ _ rfl HG.out H0.out (by decide) (by decide)).mono ?_
    rintro e w22 ⟨rfl,hb22⟩
    have PM:=hideS (PM.out.step hb22)
    have HG:=hideS (HG.out.below hb22)
    clear hb22 H0
    obtain⟨bo,vo,co,ao⟩:=HG.out.at_
    go_wp2_with fail
    refine (WAt.value ao (by decide)).mono ?_
    rw [sc]
    rintro e w23 ⟨rfl,hb23⟩
    have PM:=hideS (PM.out.step hb23)
    clear hb23 HG ao co
    go_wp2_with fail
    refine (turned (cH _ _)).mono ?_
    rintro e w24 ⟨rfl,rfl⟩
    go_wp2_with fail
    refine (rU ga _ _ _ PM.out.a.p.a (by decide)).mono ?_
    rintro e w25 ⟨gq,rfl,hq,hb25⟩
    have PM:=hideS (PM.out.step hb25)
    have HQ:=hideS hq
    clear hb25 hq
    go_wp2_with fail
    refine (dF gq ga _ _ _ _ _ rfl HQ.out PM.out.a.p.a (by decide) (by decide)).mono ?_
    rintro e w26 ⟨rfl,hb26⟩
    have PM:=hideS (PM.out.step hb26)
    clear hb26 HQ
    go_wp2_with fail
    refine (HA.out _).mono ?_
    rintro e w27 ⟨rfl,hb27⟩
    have HB:=hideS (PM.out.step hb27).a.p.bx.bl
    clear hb27 PM
    go_wp2_with fail
    go_ret
    exact⟨rfl,HB.out⟩
end Go.Proofs.YtbokkedmfolfdaaGreat
