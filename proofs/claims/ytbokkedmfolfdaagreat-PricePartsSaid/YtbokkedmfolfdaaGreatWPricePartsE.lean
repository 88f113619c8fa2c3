/-  -/
import Derived.Test.YtbokkedmfolfdaaGreatHbh
import Derived.Test.YtbokkedmfolfdaaGreatXmA
import Derived.Test.YtbokkedmfolfdaaGreatFFlw
namespace Go.Proofs.YtbokkedmfolfdaaGreat
open Go.RowKit

theorem oW {w:World} {B n c:Nat} {e:TypeId} {p:Option Addr} {ys:List Value} (h:w.ownsRow B e 3 (.slice p n c) n ys):p=none→n=0∧c=0:=fun hp=>by
 subst hp
 rcases h.2 with⟨hv,h0⟩| ⟨g,cap,cu,hv,_⟩
 ·injection hv with _ _ hc
  exact⟨h0,hc⟩
 ·injection hv with hv _ _
  cases hv
theorem jj (l:List Flw) (cur:Int) (c:Cv) (pl:Option Addr) (bl ol cl N:Nat) (pd pf:Option Addr) (bd od cd b2 o2 cf:Nat) (w:World) (E:Int) (hE:VisR l cur c E) (hl:JSrc aF w pl bl ol l) (hN:l.length=N) (hNb:N≤30000) (hf:bK l) (hs:TFl w pd pf bd od b2 o2 c.ds c.fs) :
  Calls Tryz.prog 6 #[.slice pl N cl,.int .i64 cur,.agg #[.int .i64 c.base,.int .i64 c.kind,.slice pd c.ds.length cd,.slice pf c.fs.length cf]] w fun e w'=>(∃ q,e=.returned (.tuple #[.pointer q,.int .i64 E]))∧Below w.heap.size w w':=
 (vc l cur c pl bl ol cl N pd pf bd od cd b2 o2 cf w E hE hl hN hNb hf hs).mono fun e w' h=>by
  refine⟨?_,h.bl⟩
  by_cases hz:E=0
  ·obtain⟨g,he,_⟩:=h.ok hz
   exact⟨_,by rw [he,hz]⟩
  ·exact⟨_,h.bad hz⟩
set_option maxRecDepth 40000 in
set_option maxHeartbeats 6400000 in
theorem jk (l m:List Flw) (cur:Int) (c:Cv) (xs:List Int) (pl:Option Addr) (bl ol cl N:Nat) (pm:Option Addr) (bm om cm M:Nat) (pp:Option Addr) (bp op cp L:Nat) (pd pf:Option Addr) (bd od cd b2 o2 cf:Nat) (w:World) (hl:JSrc aF w pl bl ol l) (hN:l.length=N) (hf:bK l) (hnl:pl=none→N=0∧cl=0) (hl2:JSrc aF w pm bm om m) (hM:m.length=M) (hf2:bK m) (hnm:pm=none→M=0∧cm=0) (hx:VSrc w pp bp op L (xV xs)) (hL:L≤9223372036854775807) (hs:TFl w pd pf bd od b2 o2 c.ds c.fs) (hm:N≤60∧c.ds.length≤12∧c.fs.length≤12) (hm2:M≤60∧c.ds.length≤12∧c.fs.length≤12) (hbad:¬ (FineP l cur c∧FineP m cur c)) :
  Calls Tryz.prog 3 #[.slice pl N cl,.slice pm M cm,.slice pp L cp,.int .i64 cur,.agg #[.int .i64 c.base,.int .i64 c.kind,.slice pd c.ds.length cd,.slice pf c.fs.length cf]] w fun e w'=>e=.returned (.bool true)∧Below w.heap.size w w':=by
 have HK:=hideS (aM w c.base c.kind (.slice pd c.ds.length cd) (.slice pf c.fs.length cf))
 have HS1:=hideS fun wx=>bw c.base c.kind pl pd pf N cl c.ds.length cd c.fs.length cf wx
 have HS2:=hideS fun wx=>bw c.base c.kind pm pd pf M cm c.ds.length cd c.fs.length cf wx
 rw [decide_eq_true hm] at HS1
 rw [decide_eq_true hm2] at HS2
 obtain⟨E,hE⟩:=lq l cur c
 obtain⟨F,hF⟩:=lq m cur c
 have hEF:¬ (E=0∧F=0):=fun⟨p,q⟩=>hbad ⟨(fK hE).1 p,(fK hF).1 q⟩
 have HO1:=hideS fun wx (hb:Below w.heap.size w wx)=>jj l cur c pl bl ol cl N pd pf bd od cd b2 o2 cf wx E hE (hl.below hb) hN (by omega) hf (hs.below hb)
 have HO2:=hideS fun wx (hb:Below w.heap.size w wx)=>jj m cur c pm bm om cm M pd pf bd od cd b2 o2 cf wx F hF (hl2.below hb) hM (by omega) hf2 (hs.below hb)
 have HO3:=hideS fun (k:List Flw) p g ck n G wx (hb:Below w.heap.size w wx) (hG:VisR k cur c G) (hk:JSrc aF wx p g 0 k) (hn:k.length=n) (h0:n≤30000) (hfk:bK k)=>jj k cur c p g 0 ck n pd pf bd od cd b2 o2 cf wx G hG hk hn h0 hfk (hs.below hb)
 have HMi:=hideS fun (k:List Flw) p g ck n wx (hb:Below w.heap.size w wx) (hk:JSrc aF wx p g 0 k) (hn:k.length=n) (h0:p=none→n=0∧ck=0) (h200:n≤200)=>kp k p g 0 ck n pp bp op cp L xs wx hk hn h0 h200 (hx.below hb) hL
 have HA:=hideS gO
 have hN60:=hm.1
 have hM60:=hm2.1
 have HQl:=hideS (And.intro hl (And.intro hN hnl))
 have HQm:=hideS (And.intro hl2 (And.intro hM hnm))
 have HFit:=hideS (And.intro hf hf2)
 have HFP:=hideS hbad
 clear hl hN hf hl2 hM hf2 hs hm hm2 hx hnl hnm hbad hE hF
 generalize Value.slice pd c.ds.length cd=vd at *
 generalize Value.slice pf c.fs.length cf=vf at *
 obtain⟨bs,hbs⟩:∃ b,c.base=b:=⟨_,rfl⟩
 obtain⟨kd,hkd⟩:∃ b,c.kind=b:=⟨_,rfl⟩
 rw [hbs,hkd] at HK HS1 HS2 HO1 HO2 HO3 ⊢
 clear hbs hkd
 obtain⟨w2,hw2⟩:∃ w2,w.alloc (.cells #[.int .i64 bs,.int .i64 kd,vd,vf] 26)=w2:=⟨_,rfl⟩
 rw [hw2] at HK
 have t0:=HK.out.t0
 have t1:=HK.out.t1
 have t2:=HK.out.t2
 have t3:=HK.out.t3
 go_enter Tryz.func3,Tryz.ntmps3
 go_wp2_with fail
 clear hw2 t0 t1 t2 t3
 refine (HS1.out _).mono ?_
 rintro e w3 ⟨rfl,hb3⟩
 have H3:=hideS (HK.out.step hb3)
 clear hb3 HK HS1
 have t0:=H3.out.t0
 have t1:=H3.out.t1
 have t2:=H3.out.t2
 have t3:=H3.out.t3
 go_wp2_with fail
 clear t0 t1 t2 t3
 refine (HS2.out _).mono ?_
 rintro e w4 ⟨rfl,hb4⟩
 have H4:=hideS (H3.out.step hb4)
 clear hb4 H3 HS2
 have t0:=H4.out.t0
 have t1:=H4.out.t1
 have t2:=H4.out.t2
 have t3:=H4.out.t3
 go_wp2_with fail
 clear t0 t1 t2 t3
 refine (HO1.out _ H4.out.bl).mono ?_
 rintro e w5 ⟨⟨qa,rfl⟩,hb5⟩
 have H5:=hideS (H4.out.step hb5)
 clear hb5 H4 HO1
 have t0:=H5.out.t0
 have t1:=H5.out.t1
 have t2:=H5.out.t2
 have t3:=H5.out.t3
 go_wp2_with fail
 clear t0 t1 t2 t3
 refine (HO2.out _ H5.out.bl).mono ?_
 rintro e w6 ⟨⟨qb,rfl⟩,hb6⟩
 have H6:=hideS (H5.out.step hb6)
 clear hb6 H5 HO2
 have HE:=hideS (eA w6)
 have HB0:=hideS ((Below.refl _ w6).alloc (Nat.le_refl _) (.cells #[] 50))
 go_wp2_with (at_builtin;refine aH _ rfl _ _ rfl w6.heap.size (.slice (some ⟨w6.heap.size,0,none⟩) 0 0) 0 [] rfl HE.out pl bl ol cl N l rfl HQl.out.2.1 (HQl.out.1.below (H6.out.bl.trans (HB0.out.mono H6.out.bl.size))) HQl.out.2.2 (by omega) HB0.out.size ?_)
 intro v1 w7 ho1 hg1
 have HB7:Hid (Below w6.heap.size w6 w7):=HB0.out.trans (be HE.out hg1 HB0.out.size)
 have HO7:=hideS ho1
 have H7:=hideS (H6.out.step HB7.out)
 clear ho1 hg1 HE HB0
 go_wp2_with (at_builtin;refine aH _ rfl _ _ rfl w6.heap.size v1 N l rfl HO7.out pm bm om cm M m rfl HQm.out.2.1 (HQm.out.1.below H7.out.bl) HQm.out.2.2 (by omega) HB7.out.size ?_)
 intro v2 w8 ho2 hg2
 have HB8:Hid (Below w6.heap.size w6 w8):=HB7.out.trans (be HO7.out hg2 HB7.out.size)
 have hlen:(l++m).length=N+M:=by rw [List.length_append,HQl.out.2.1,HQm.out.2.1]
 obtain⟨p2,g2,c2,rfl,s2,_,_,_⟩:=cw ho2 hlen
 have H8:=hideS (H6.out.step HB8.out)
 have HM8:=hideS (HMi.out (l++m) p2 g2 c2 (N+M) w8 H8.out.bl s2 hlen (oW ho2) (by omega))
 have HLen:=hideS hlen
 clear ho2 hg2 hlen s2 HO7 H7 HB7 HB8 H6 HMi
 go_wp2_with fail
 refine HM8.out.mono ?_
 rintro e w9 ⟨u,k,rfl,ho3,hp,hb9⟩
 have hlen:k.length=N+M:=hp.length_eq.trans HLen.out
 obtain⟨p3,g3,c3,rfl,s3,_,_,_⟩:=cw ho3 hlen
 have H9:=hideS (H8.out.step hb9)
 have hmix:=np (cur:=cur) (c:=c) hp (by rw [HQl.out.2.1,HQm.out.2.1];omega)
 obtain⟨G,hG⟩:=lq k cur c
 have hGz:G≠0:=fun p=>HFP.out (hmix.1.1 ((fK hG).1 p))
 have HFt:Hid (bK k):=pW fun f hf=>by
  rcases List.mem_append.1 (hp.mem_iff.1 hf) with h | h
  ·exact bR HFit.out.1 h
  ·exact bR HFit.out.2 h
 have HO9:=hideS (HO3.out k p3 g3 c3 (N+M) G w9 H9.out.bl hG s3 hlen (by omega) HFt.out)
 clear hb9 ho3 hp hlen s3 hmix H8 HM8 HLen HFP HFit hG HO3
 have oG:(G !=0)=true:=bne_iff_ne.2 hGz
 clear hGz
 have t0:=H9.out.t0
 have t1:=H9.out.t1
 have t2:=H9.out.t2
 have t3:=H9.out.t3
 go_wp2_with fail
 clear t0 t1 t2 t3
 refine HO9.out.mono ?_
 rintro e w10 ⟨⟨qd,rfl⟩,hb10⟩
 have H10:=hideS (H9.out.step hb10)
 clear hb10 H9 HO9
 by_cases hz:E=0
 ·have oF:(F !=0)=true:=bne_iff_ne.2 fun p=>hEF ⟨hz,p⟩
  clear hEF
  subst hz
  go_wp2_with fail
  refine (HA.out _).mono ?_
  rintro e w11 ⟨rfl,hb11⟩
  have HB:=hideS (H10.out.step hb11).bl
  clear hb11 H10
  go_wp2_with fail
  go_ret
  exact⟨rfl,HB.out⟩
 ·have oE:(E !=0)=true:=bne_iff_ne.2 hz
  clear hEF hz
  go_wp2_with fail
  refine (HA.out _).mono ?_
  rintro e w11 ⟨rfl,hb11⟩
  have HB:=hideS (H10.out.step hb11).bl
  clear hb11 H10
  go_wp2_with fail
  go_ret
  exact⟨rfl,HB.out⟩
end Go.Proofs.YtbokkedmfolfdaaGreat
