/-  -/
import Derived.Test.YtpddmnmhdahnlaaGreatHbw
import Derived.Test.YtpddmnmhdahnlaaGreatFFlw
namespace Go.Proofs.YtpddmnmhdahnlaaGreat
open Go.RowKit

set_option maxRecDepth 40000 in
set_option maxHeartbeats 3200000 in
theorem qg (cur base kind i:Int) (pl pd pf:Option Addr) (N cl D cd F cf:Nat) (w:World) (h:¬ (N≤20∧D≤8∧F≤8)) :
  Calls Tryz.prog 7 #[.slice pl N cl,.int .i64 cur,.agg #[.int .i64 base,.int .i64 kind,.slice pd D cd,.slice pf F cf],.int .i64 i] w fun e w'=>e=.returned (.bool true)∧Below w.heap.size w w':=by
 have HB:=hideS (aW w base kind (.slice pd D cd) (.slice pf F cf))
 have HSm:=hideS fun wx=>pu base kind pl pd pf N cl D cd F cf wx
 rw [decide_eq_false h] at HSm
 have HAw:=hideS AC
 clear h
 have t0:=HB.out.t0
 have t1:=HB.out.t1
 have t2:=HB.out.t2
 have t3:=HB.out.t3
 go_enter Tryz.func7,Tryz.ntmps7
 go_wp2_with fail
 refine (HSm.out _).mono ?_
 rintro e w2 ⟨rfl,hb2⟩
 have HB2:=hideS (HB.out.bl.trans (hb2.mono HB.out.bl.size))
 clear hb2 t0 t1 t2 t3 HB HSm
 go_wp2_with fail
 refine (HAw.out _).mono ?_
 rintro e w3 ⟨rfl,hb3⟩
 have HB3:=hideS (HB2.out.trans (hb3.mono HB2.out.size))
 clear hb3
 go_wp2_with fail
 go_ret
 exact⟨rfl,HB3.out⟩
structure NnB (w:World) (c:Cv) (pd pf:Option Addr) (bd od cd b2 o2 cf:Nat) (pl:Option Addr) (fb ol:Nat) (l:List Flw) (wr:World):Prop where
 bx:BxK wr w.heap.size c.base c.kind (.slice pd c.ds.length cd) (.slice pf c.fs.length cf)
 bl:Below w.heap.size w wr
 src:TFl wr pd pf bd od b2 o2 c.ds c.fs
 fl:JSrc aF wr pl fb ol l
theorem NnB.step {w:World} {c:Cv} {pd pf:Option Addr} {bd od cd b2 o2 cf:Nat} {pl:Option Addr} {bl ol:Nat} {l:List Flw} {wr w':World} (h:NnB w c pd pf bd od cd b2 o2 cf pl bl ol l wr) (hb:Below wr.heap.size wr w'):NnB w c pd pf bd od cd b2 o2 cf pl bl ol l w':=⟨h.bx.step hb,h.bl.trans (hb.mono h.bl.size),h.src.below hb,h.fl.below hb⟩
set_option maxRecDepth 40000 in
set_option maxHeartbeats 25600000 in
theorem wW (l:List Flw) (cur:Int) (c:Cv) (i:Int) (pl:Option Addr) (bl ol cl N:Nat) (pd pf:Option Addr) (bd od cd b2 o2 cf:Nat) (w:World) (hl:JSrc aF w pl bl ol l) (hN:l.length=N) (hf:eC l) (hs:TFl w pd pf bd od b2 o2 c.ds c.fs) (hm:N≤20∧c.ds.length≤8∧c.fs.length≤8) :
  Calls Tryz.prog 7 #[.slice pl N cl,.int .i64 cur,.agg #[.int .i64 c.base,.int .i64 c.kind,.slice pd c.ds.length cd,.slice pf c.fs.length cf],.int .i64 i] w fun e w'=>e=.returned (.bool true)∧Below w.heap.size w w':=by
 obtain⟨da,EA,hA⟩:=JS c i 0
 obtain⟨db,EB,hB⟩:=JT c 0
 obtain⟨C,hC⟩:=iO c.base c.kind c.ds c.fs
 obtain⟨f1,f2,f3,f4⟩:=zl w hs.f i hA hB hC
 subst f1
 have HF2:=hideS f2
 have HF3:=hideS f3
 have HF4:=hideS f4
 have HLn:=hideS (Kc (l:=l) (cur:=cur) (c:=c) w hs.f)
 have HUp:=hideS (Kd (l:=l) (cur:=cur) (c:=c) w hs.f)
 have HSm:=hideS fun wx=>pu c.base c.kind pl pd pf N cl c.ds.length cd c.fs.length cf wx
 rw [decide_eq_true hm] at HSm
 have HAw:=hideS AC
 have HOf:Hid (∀ wx,TFl wx pd pf bd od b2 o2 c.ds c.fs→_):=fun wx hx=>LL c.base c.kind pd pf bd od cd b2 o2 cf c.ds c.fs wx hx (by omega)
 have HBu:Hid (∀ wx,TFl wx pd pf bd od b2 o2 c.ds c.fs→_):=fun wx hx=>lk c da i 0 EA pd pf bd od cd b2 o2 cf wx hA (by decide) hx
 have HPu:Hid (∀ wx,TFl wx pd pf bd od b2 o2 c.ds c.fs→_):=fun wx hx=>ll c db 0 EB pd pf bd od cd b2 o2 cf wx hB (by decide) hx
 have HCk:Hid (∀ wx,TFl wx pd pf bd od b2 o2 c.ds c.fs→_):=fun wx hx=>bU c.base c.kind pd pf bd od cd b2 o2 cf c.ds c.fs wx hx hC
 have HPr:Hid (∀ wx,TFl wx pd pf bd od b2 o2 c.ds c.fs→JSrc aF wx pl bl ol l→_):=fun wx hx hj=>kq l cur c pl bl ol cl N pd pf bd od cd b2 o2 cf wx (prV l cur c) (prE l cur c) (prR l cur c) hj hN (by omega) hf hx
 have HLb:Hid (prE l cur c≠0→∀ wx,TFl wx pd pf bd od b2 o2 c.ds c.fs→JSrc aF wx pl bl ol l→Calls Tryz.prog 18 #[.slice pl N cl,.int .i64 cur,.agg #[.int .i64 c.base,.int .i64 c.kind,.slice pd c.ds.length cd,.slice pf c.fs.length cf],.float .f64 0] wx fun e w'=>e=.returned (.tuple #[.slice none 0 0,.int .i64 (prE l cur c)])∧Below wx.heap.size wx w'):=fun hp wx hx hj=>(jB l cur c 0 pl bl ol cl N pd pf bd od cd b2 o2 cf wx (by decide) hj hN (by omega) hf hx).mono fun e w' ho=>⟨ho.1.elim (fun h=>h.2) (fun h=>absurd h.1 hp),ho.2⟩
 have HLa:Hid (prE l cur c=0→∀ wx,TFl wx pd pf bd od b2 o2 c.ds c.fs→JSrc aF wx pl bl ol l→Calls Tryz.prog 18 #[.slice pl N cl,.int .i64 cur,.agg #[.int .i64 c.base,.int .i64 c.kind,.slice pd c.ds.length cd,.slice pf c.fs.length cf],.float .f64 0] wx fun e w'=>∃ g,e=.returned (.tuple #[.slice (some ⟨g,0,none⟩) c.ds.length c.ds.length,.int .i64 0])∧(∀ j<c.ds.length,w'.cell? ⟨g,0+j,none⟩=some (.float .f64 0))∧g<w'.heap.size∧Below wx.heap.size wx w'):=fun hp wx hx hj=>(jB l cur c 0 pl bl ol cl N pd pf bd od cd b2 o2 cf wx (by decide) hj hN (by omega) hf hx).mono fun e w' ho=>by
  obtain⟨z,_⟩:=HLn.out hp
  rcases ho.1 with⟨h,_⟩| ⟨_,h⟩
  ·exact absurd hp h
  ·rcases h with⟨k,hk,hE,_⟩| ⟨_,g,he,ho'⟩
   ·exact absurd (z k hk).2 hE
   ·have hlo:=(dm hp).1.ok.lo
    obtain⟨g',c',e',hs',_⟩:=cQ ho' (by simp) (by omega)
    injection e' with e1 _ _
    injection e1 with e1
    injection e1 with e1
    subst e1
    refine⟨g,he,fun j hj=>?_,hs'.lt (by omega),ho.2⟩
    rw [hs'.cell j hj]
    unfold flV
    rw [wN _ hj,(z j hj).1]
 have HDb:Hid (prE l cur c≠0→∀ wx,TFl wx pd pf bd od b2 o2 c.ds c.fs→JSrc aF wx pl bl ol l→Calls Tryz.prog 22 #[.slice pl N cl,.int .i64 cur,.agg #[.int .i64 c.base,.int .i64 c.kind,.slice pd c.ds.length cd,.slice pf c.fs.length cf],.float .f64 0] wx fun e w'=>e=.returned (.tuple #[.float .f64 0,.int .i64 (prE l cur c)])∧Below wx.heap.size wx w'):=fun hp wx hx hj=>(lp l cur c 0 pl bl ol cl N pd pf bd od cd b2 o2 cf wx (by decide) hj hN (by omega) hf hx).mono fun e w' ho=>⟨ho.1.elim (fun h=>h.2) (fun h=>absurd h.1 hp),ho.2⟩
 have HDa:Hid (prE l cur c=0→∀ wx,TFl wx pd pf bd od b2 o2 c.ds c.fs→JSrc aF wx pl bl ol l→Calls Tryz.prog 22 #[.slice pl N cl,.int .i64 cur,.agg #[.int .i64 c.base,.int .i64 c.kind,.slice pd c.ds.length cd,.slice pf c.fs.length cf],.float .f64 0] wx fun e w'=>e=.returned (.tuple #[.float .f64 0,.int .i64 0])∧Below wx.heap.size wx w'):=fun hp wx hx hj=>(lp l cur c 0 pl bl ol cl N pd pf bd od cd b2 o2 cf wx (by decide) hj hN (by omega) hf hx).mono fun e w' ho=>⟨ho.1.elim (fun h=>absurd hp h.1) (fun h=>by rw [h.2,(HLn.out hp).2.1,(HLn.out hp).2.2]),ho.2⟩
 have HGb:Hid (prE l cur c≠0→∀ wx,TFl wx pd pf bd od b2 o2 c.ds c.fs→JSrc aF wx pl bl ol l→Calls Tryz.prog 24 #[.slice pl N cl,.int .i64 cur,.agg #[.int .i64 c.base,.int .i64 c.kind,.slice pd c.ds.length cd,.slice pf c.fs.length cf],.float .f64 0] wx fun e w'=>e=.returned (.tuple #[.float .f64 0,.int .i64 (prE l cur c)])∧Below wx.heap.size wx w'):=fun hp wx hx hj=>(rK l cur c 0 pl bl ol cl N pd pf bd od cd b2 o2 cf wx (by decide) hj hN (by omega) hf hx).mono fun e w' ho=>⟨ho.1.elim (fun h=>h.2) (fun h=>absurd h.1 hp),ho.2⟩
 have HGa:Hid (prE l cur c=0→∀ wx,TFl wx pd pf bd od b2 o2 c.ds c.fs→JSrc aF wx pl bl ol l→Calls Tryz.prog 24 #[.slice pl N cl,.int .i64 cur,.agg #[.int .i64 c.base,.int .i64 c.kind,.slice pd c.ds.length cd,.slice pf c.fs.length cf],.float .f64 0] wx fun e w'=>e=.returned (.tuple #[.float .f64 0,.int .i64 0])∧Below wx.heap.size wx w'):=fun hp wx hx hj=>(rK l cur c 0 pl bl ol cl N pd pf bd od cd b2 o2 cf wx (by decide) hj hN (by omega) hf hx).mono fun e w' ho=>by
  obtain⟨z1,z2,z3,z4⟩:=HUp.out hp
  rcases ho.1 with⟨h,_⟩| ⟨_,h⟩
  ·exact absurd hp h
  ·rcases h with⟨h,_⟩| ⟨_,h,_⟩| ⟨_,_,h⟩
   ·exact absurd z1 h
   ·exact absurd z2 h
   ·rw [z3,z4] at h;exact⟨h,ho.2⟩
 have hA0:=(Below.refl w.heap.size w).alloc (Nat.le_refl _) (.cells #[.int .i64 c.base,.int .i64 c.kind,.slice pd c.ds.length cd,.slice pf c.fs.length cf] 25)
 have HB:Hid (NnB w c pd pf bd od cd b2 o2 cf pl bl ol l (w.alloc (.cells #[.int .i64 c.base,.int .i64 c.kind,.slice pd c.ds.length cd,.slice pf c.fs.length cf] 25))):=⟨oL w _ _ _ _,hA0,hs.below hA0,hl.below hA0⟩
 obtain⟨w1,hw1⟩:∃ w1,w.alloc (.cells #[.int .i64 c.base,.int .i64 c.kind,.slice pd c.ds.length cd,.slice pf c.fs.length cf] 25)=w1:=⟨_,rfl⟩
 rw [hw1] at HB
 have Hsl:=hideS (show c.ds.length≤8∧c.fs.length≤8 from hm.2)
 obtain⟨base,hbase⟩:∃ b,c.base=b:=⟨_,rfl⟩
 obtain⟨kind,hkind⟩:∃ b,c.kind=b:=⟨_,rfl⟩
 obtain⟨n,hn⟩:∃ b,c.ds.length=b:=⟨_,rfl⟩
 obtain⟨m,hmm⟩:∃ b,c.fs.length=b:=⟨_,rfl⟩
 have Hbase:=hideS hbase
 have Hkind:=hideS hkind
 have Hn:=hideS hn
 have Hm:=hideS hmm
 rw [hbase,hkind,hn,hmm] at hw1
 rw [hbase,hkind,hn,hmm]
 rw [hn,hmm] at Hsl
 have hn8:=Hsl.out.1
 obtain⟨t0,t1,t2,t3⟩:=HB.out.bx.t
 rw [hbase] at t0
 rw [hkind] at t1
 rw [hn] at t2
 rw [hmm] at t3
 clear hl hN hf hs hm hA hB hC f2 f3 f4 hA0 hbase hkind hn hmm
 go_enter Tryz.func7,Tryz.ntmps7
 go_wp2_with fail
 clear hw1 t0 t1 t2 t3
 have HSm1:=HSm.out w1
 rw [Hbase.out,Hkind.out,Hn.out,Hm.out] at HSm1
 refine HSm1.mono ?_
 rintro e w2 ⟨rfl,hb2⟩
 have HB2:=hideS (HB.out.step hb2)
 clear hb2 HB HSm HSm1
 have tt:∀ wx,NnB w c pd pf bd od cd b2 o2 cf pl bl ol l wx→wx.cell? ⟨w.heap.size,0,none⟩=some (.int .i64 base)∧wx.cell? ⟨w.heap.size,1,none⟩=some (.int .i64 kind)∧wx.cell? ⟨w.heap.size,2,none⟩=some (.slice pd n cd)∧wx.cell? ⟨w.heap.size,3,none⟩=some (.slice pf m cf):=fun wx hx=>by
  have:=hx.bx.t
  rw [Hbase.out,Hkind.out,Hn.out,Hm.out] at this
  exact this
 have Htt:=hideS tt
 clear tt
 obtain⟨t0,t1,t2,t3⟩:=Htt.out _ HB2.out
 go_wp2_with fail
 clear t0 t1 t2 t3
 have HOf1:=HOf.out w2 HB2.out.src
 rw [Hbase.out,Hkind.out,Hn.out,Hm.out] at HOf1
 refine HOf1.mono ?_
 rintro e w3 ⟨dp,dg,dc,rfl,hcs,hb3⟩
 obtain⟨u1,u2,u3,u4,⟨e0,z0,y0⟩,⟨e1,z1,y1⟩,⟨e2,z2,y2⟩,⟨e3,z3,y3⟩,hZ,hBB⟩:=JW w3.heap.size base kind (.slice pd n cd) (.slice dp m dc) (w3.alloc lj) (heap_alloc_new _ _)
 have hB2:Below w3.heap.size w3 u4:=((Below.refl _ w3).alloc (Nat.le_refl _) lj).trans hBB
 have HB4:=hideS ((HB2.out.step hb3).step hB2)
 have HD4:=hideS hZ
 have HC4:=hideS (hcs.below hB2)
 obtain⟨w4,hw4⟩:∃ w4,w3.alloc lj=w4:=⟨_,rfl⟩
 rw [hw4] at e0 z0 y0
 unfold lj at hw4
 obtain⟨t0,t1,t2,t3⟩:=Htt.out _ HB4.out
 clear hcs hb3 hZ hBB hB2 HB2 HOf HOf1
 go_wp2_with fail
 clear hw4 e0 z0 y0 e1 z1 y1 e2 z2 y2 e3 z3 y3 t0 t1 t2 t3
 generalize w3.heap.size=gw at *
 have HBu1:=HBu.out u4 HB4.out.src
 rw [Hbase.out,Hkind.out,Hn.out,Hm.out] at HBu1
 refine HBu1.mono ?_
 intro e w5 ho
 obtain⟨ab,ak,apx,apy,anx,acx,any',acy,agx,agy,he,hsh⟩:=ho.shape
 subst he
 obtain⟨v1,v2,v3,v4,⟨e0,z0,y0⟩,⟨e1,z1,y1⟩,⟨e2,z2,y2⟩,⟨e3,z3,y3⟩,hZ,hBB⟩:=aP w5.heap.size ab ak (.slice apx anx acx) (.slice apy any' acy) (w5.alloc ap) (heap_alloc_new _ _)
 have hB2:Below w5.heap.size w5 v4:=((Below.refl _ w5).alloc (Nat.le_refl _) ap).trans hBB
 have HB5:=hideS ((HB4.out.step ho.bl).step hB2)
 have HD5:=hideS ((HD4.out.step ho.bl).step hB2)
 have HC5:=hideS ((HC4.out.below ho.bl).below hB2)
 have HA5:=hideS hZ
 have HSa:Hid (EA=0→ab=base∧ak=kind∧anx=n∧any'=m∧TFl v4 apx apy agx 0 agy 0 c.ds c.fs):=fun h=>by
  obtain⟨r1,r2,r3,r4,r5⟩:=hsh h
  rw [(HF3.out h).1,Hbase.out] at r1
  rw [(HF3.out h).1,Hkind.out] at r2
  rw [(HF3.out h).1,Hn.out] at r3
  rw [(HF3.out h).1,Hm.out] at r4
  rw [(HF3.out h).1] at r5
  exact⟨r1,r2,r3,r4,r5.below hB2⟩
 obtain⟨w6,hw6⟩:∃ w6,w5.alloc ap=w6:=⟨_,rfl⟩
 rw [hw6] at e0 z0 y0
 unfold ap at hw6
 obtain⟨t0,t1,t2,t3⟩:=Htt.out _ HB5.out
 clear hsh ho hZ hBB hB2 HB4 HD4 HC4 HBu HBu1
 go_wp2_with fail
 clear hw6 e0 z0 y0 e1 z1 y1 e2 z2 y2 e3 z3 y3 t0 t1 t2 t3
 generalize w5.heap.size=ga at *
 have HPu1:=HPu.out v4 HB5.out.src
 rw [Hbase.out,Hkind.out,Hn.out,Hm.out] at HPu1
 refine HPu1.mono ?_
 intro e w7 ho
 obtain⟨bb,bk,bpx,bpy,bnx,bcx,bny,bcy,bgx,bgy,he,hsh⟩:=ho.shape
 subst he
 obtain⟨x1,x2,x3,x4,⟨e0,z0,y0⟩,⟨e1,z1,y1⟩,⟨e2,z2,y2⟩,⟨e3,z3,y3⟩,hZ,hBB⟩:=aP w7.heap.size bb bk (.slice bpx bnx bcx) (.slice bpy bny bcy) (w7.alloc ap) (heap_alloc_new _ _)
 have hB2:Below w7.heap.size w7 x4:=((Below.refl _ w7).alloc (Nat.le_refl _) ap).trans hBB
 have HB7:=hideS ((HB5.out.step ho.bl).step hB2)
 have HD7:=hideS ((HD5.out.step ho.bl).step hB2)
 have HC7:=hideS ((HC5.out.below ho.bl).below hB2)
 have HA7:=hideS ((HA5.out.step ho.bl).step hB2)
 have HP7:=hideS hZ
 have HSa7:Hid (EA=0→ab=base∧ak=kind∧anx=n∧any'=m∧TFl x4 apx apy agx 0 agy 0 c.ds c.fs):=fun h=>by
  obtain⟨r1,r2,r3,r4,r5⟩:=HSa.out h
  exact⟨r1,r2,r3,r4,(r5.below ho.bl).below hB2⟩
 have HSb:Hid (EB=0→bb=base∧bk=kind∧bnx=n∧bny=m∧TFl x4 bpx bpy bgx 0 bgy 0 c.ds c.fs):=fun h=>by
  obtain⟨r1,r2,r3,r4,r5⟩:=hsh h
  rw [HF2.out h,Hbase.out] at r1
  rw [HF2.out h,Hkind.out] at r2
  rw [HF2.out h,Hn.out] at r3
  rw [HF2.out h,Hm.out] at r4
  rw [HF2.out h] at r5
  exact⟨r1,r2,r3,r4,r5.below hB2⟩
 obtain⟨w8,hw8⟩:∃ w8,w7.alloc ap=w8:=⟨_,rfl⟩
 rw [hw8] at e0 z0 y0
 unfold ap at hw8
 obtain⟨t0,t1,t2,t3⟩:=Htt.out _ HB7.out
 clear hsh ho hZ hBB hB2 HB5 HD5 HC5 HA5 HSa HPu HPu1
 go_wp2_with fail
 clear hw8 e0 z0 y0 e1 z1 y1 e2 z2 y2 e3 z3 y3 t0 t1 t2 t3
 generalize w7.heap.size=gb at *
 have HCk1:=HCk.out x4 HB7.out.src
 rw [Hbase.out,Hkind.out,Hn.out,Hm.out] at HCk1
 refine HCk1.mono ?_
 rintro e w9 ⟨rfl,hb9⟩
 have HB9:=hideS (HB7.out.step hb9)
 have HD9:=hideS (HD7.out.step hb9)
 have HC9:=hideS (HC7.out.below hb9)
 have HA9:=hideS (HA7.out.step hb9)
 have HP9:=hideS (HP7.out.step hb9)
 have HSa9:Hid (EA=0→ab=base∧ak=kind∧anx=n∧any'=m∧TFl w9 apx apy agx 0 agy 0 c.ds c.fs):=fun h=>by
  obtain⟨r1,r2,r3,r4,r5⟩:=HSa7.out h
  exact⟨r1,r2,r3,r4,r5.below hb9⟩
 have HSb9:Hid (EB=0→bb=base∧bk=kind∧bnx=n∧bny=m∧TFl w9 bpx bpy bgx 0 bgy 0 c.ds c.fs):=fun h=>by
  obtain⟨r1,r2,r3,r4,r5⟩:=HSb.out h
  exact⟨r1,r2,r3,r4,r5.below hb9⟩
 clear hb9 HB7 HD7 HC7 HA7 HP7 HSa7 HSb HCk HCk1
 have HSm:Hid (∀ wx b k px py gx gy cx cy n' m',Below w9.heap.size w9 wx→b=base→k=kind→n'=n→m'=m→TFl w9 px py gx 0 gy 0 c.ds c.fs→Calls Tryz.prog 16 #[.agg #[.int .i64 b,.int .i64 k,.slice px n' cx,.slice py m' cy],.agg #[.int .i64 base,.int .i64 kind,.slice pd n cd,.slice dp m dc]] wx fun e w'=>e=.returned (.bool true)∧Below wx.heap.size wx w'):=fun wx b k px py gx gy cx cy n' m' hb h1 h2 h3 h4 hx=>by
  subst h1 h2 h3 h4
  exact tq _ _ px py pd dp gx 0 cx gy 0 cy bd od cd dg 0 dc _ _ c.ds c.fs wx Hn.out Hm.out (by have:=Hsl.out;omega) (by have:=Hsl.out;omega) (hx.below hb) (HC9.out.below hb)
 obtain⟨pa0,pa1,pa2,pa3⟩:=HA9.out.t
 obtain⟨pb0,pb1,pb2,pb3⟩:=HP9.out.t
 obtain⟨pd0,pd1,pd2,pd3⟩:=HD9.out.t
 obtain⟨t0,t1,t2,t3⟩:=Htt.out _ HB9.out
 refine Or.elim (Classical.em (EB=0)) (fun hE=>?eb0) (fun hE=>?ebn)
 case' ebn=>
  have dE:(EB==0)=false:=beq_eq_false_iff_ne.2 hE
  have dA:(EA==0)=false:=beq_eq_false_iff_ne.2 (fun h=>hE (HF3.out h).2)
  clear hE
  go_wp2_with fail
  have HBz:=hideS HB9.out
 case' eb0=>
  obtain⟨r1,r2,r3,r4,r5⟩:=HSb9.out hE
  have HS1:=hideS (HSm.out w9 bb bk bpx bpy bgx bgy bcx bcy bnx bny (Below.refl _ _) r1 r2 r3 r4 r5)
  have HEB:=hideS hE
  rw [hE]
  clear r1 r2 r3 r4 r5 hE
  go_wp2_with fail
  refine HS1.out.mono ?_
  rintro e wa ⟨rfl,hba⟩
  have HBa:=hideS (HB9.out.step hba)
  have HBe:=hideS hba
  obtain⟨pa0,pa1,pa2,pa3⟩:=(HA9.out.step hba).t
  obtain⟨pd0,pd1,pd2,pd3⟩:=(HD9.out.step hba).t
  obtain⟨t0,t1,t2,t3⟩:=Htt.out _ HBa.out
  clear hba HS1
  refine Or.elim (Classical.em (EA=0)) (fun hA=>?ea0) (fun hA=>?ean)
  case' ea0=>
   obtain⟨r1,r2,r3,r4,r5⟩:=HSa9.out hA
   have HS2:=hideS (HSm.out wa ab ak apx apy agx agy acx acy anx any' HBe.out r1 r2 r3 r4 r5)
   obtain⟨i1,i2⟩:=(HF4.out HEB.out).1 hA
   rw [hA]
   clear r1 r2 r3 r4 r5 hA
   go_wp2_with fail
   refine HS2.out.mono ?_
   rintro e wz ⟨rfl,hbz⟩
   have HBz:=hideS (HBa.out.step hbz)
   obtain⟨t0,t1,t2,t3⟩:=Htt.out _ HBz.out
   have i3:i<(n:Int):=by rw [Hn.out] at i2;exact i2
   clear hbz HS2 i2
   go_wp2_with fail
  case' ean=>
   have dA:(EA==0)=false:=beq_eq_false_iff_ne.2 hA
   have hi:=fun h=>hA ((HF4.out HEB.out).2 h)
   rw [Hn.out] at hi
   have HBz:=hideS HBa.out
   clear hA
   refine Or.elim (Classical.em (0≤i)) (fun h1=>?i1) (fun h1=>?i2)
   case' i1=>
    have h2:¬ i<(n:Int):=fun h=>hi ⟨h1,h⟩
    clear hi
    go_wp2_with fail
   case' i2=>
    clear hi
    go_wp2_with fail
 all_goals
  have HP1:=HPr.out _ HBz.out.src HBz.out.fl
  rw [Hbase.out,Hkind.out,Hn.out,Hm.out] at HP1
  by_cases hp:prE l cur c=0
  ·rw [hp] at HP1
   refine HP1.mono ?_
   rintro e wp ⟨rfl,hbp⟩
   have HBp:=hideS (HBz.out.step hbp)
   obtain⟨t0,t1,t2,t3⟩:=Htt.out _ HBp.out
   have HL1:=HLa.out hp wp HBp.out.src HBp.out.fl
   rw [Hbase.out,Hkind.out,Hn.out,Hm.out] at HL1
   clear hbp HP1
   go_wp2_with fail
   refine HL1.mono ?_
   rintro e wq ⟨g,rfl,hz,hg,hbq⟩
   have HBq:=hideS (HBp.out.step hbq)
   have HZq:=hideS hz
   have HGq:=hideS hg
   obtain⟨t0,t1,t2,t3⟩:=Htt.out _ HBq.out
   have HD1:=HDa.out hp wq HBq.out.src HBq.out.fl
   rw [Hbase.out,Hkind.out,Hn.out,Hm.out] at HD1
   clear hbq HL1 hz hg
   go_wp2_with fail
   refine HD1.mono ?_
   rintro e ws ⟨rfl,hbs⟩
   have HBs:=hideS (HBq.out.step hbs)
   have HZs:Hid (∀ j<n,ws.cell? ⟨g,0+j,none⟩=some (.float .f64 0)):=fun j hj=>(hbs.cell (p:=⟨g,0+j,none⟩) HGq.out).trans (HZq.out j hj)
   have HGs:Hid (g<ws.heap.size):=Nat.lt_of_lt_of_le HGq.out hbs.size
   obtain⟨t0,t1,t2,t3⟩:=Htt.out _ HBs.out
   have HG1:=HGa.out hp ws HBs.out.src HBs.out.fl
   rw [Hbase.out,Hkind.out,Hn.out,Hm.out] at HG1
   clear hbs HD1 HZq HGq
   go_wp2_with fail
   refine HG1.mono ?_
   rintro e wt ⟨rfl,hbt⟩
   have HBt:=hideS (HBs.out.step hbt)
   have HZt:Hid (∀ j<n,wt.cell? ⟨g,0+j,none⟩=some (.float .f64 0)):=fun j hj=>(hbt.cell (p:=⟨g,0+j,none⟩) HGs.out).trans (HZs.out j hj)
   obtain⟨t0,t1,t2,t3⟩:=Htt.out _ HBt.out
   have HN1:=hideS (me (some ⟨g,0,none⟩) g 0 n n wt (fun _=>rfl) HZt.out (by have:=Hsl.out;omega))
   have HN2:=hideS (me (some ⟨wt.heap.size,0,none⟩) wt.heap.size 0 2 2 (wt.alloc (.cells #[.float .f64 0,.float .f64 0] 26)) (fun _=>rfl) (fun j hj=>by
    rcases (show j=0∨j=1 by omega) with rfl | rfl
    ·exact fC wt _ _ 0
    ·exact fC wt _ _ 1) (by omega))
   have HBl:=hideS (HBt.out.bl.alloc HBt.out.bl.size (.cells #[.float .f64 0,.float .f64 0] 26))
   clear hbt HG1 HZs HGs
   go_wp2_with fail
   refine (turned HN1.out).mono ?_
   rintro e w' ⟨rfl,rfl⟩
   go_wp2_with fail
   refine (turned HN2.out).mono ?_
   rintro e w' ⟨rfl,rfl⟩
   go_wp2_with fail
   refine (HAw.out _).mono ?_
   rintro e wv ⟨rfl,hbv⟩
   have HBv:=hideS (HBl.out.trans (hbv.mono HBl.out.size))
   clear hbv
   go_wp2_with fail
   go_ret
   exact⟨rfl,HBv.out⟩
  ·have HP2:=hideS (prR l cur c)
   have hv0:prV l cur c=0:=by
    have h:=HP2.out
    generalize prV l cur c=V at h
    generalize hE:prE l cur c=E at h
    cases h with
    | bad=>rfl
    | ok h=>
     rw [hE] at hp
     unfold vV iX at hp
     unfold sW ij
     cases hb:aQ (gV (wsI cur c l):Int)
     ·rfl
     ·rw [hb] at hp;exact absurd rfl hp
   rw [hv0] at HP1
   refine HP1.mono ?_
   rintro e wp ⟨rfl,hbp⟩
   have HBp:=hideS (HBz.out.step hbp)
   obtain⟨t0,t1,t2,t3⟩:=Htt.out _ HBp.out
   have HL1:=HLb.out hp wp HBp.out.src HBp.out.fl
   rw [Hbase.out,Hkind.out,Hn.out,Hm.out] at HL1
   clear hbp HP1 HP2 hv0
   have HDb1:=hideS (HDb.out hp)
   have HGb1:=hideS (HGb.out hp)
   have dp':(prE l cur c !=0)=true:=bne_iff_ne.2 hp
   generalize prE l cur c=PE at *
   have q0:(FloatKind.f64.format.order 0 0==some .eq)=true:=by kernel_rfl
   clear hp
   go_wp2_with fail
   refine HL1.mono ?_
   rintro e wq ⟨rfl,hbq⟩
   have HBq:=hideS (HBp.out.step hbq)
   obtain⟨t0,t1,t2,t3⟩:=Htt.out _ HBq.out
   have HD1:=HDb1.out wq HBq.out.src HBq.out.fl
   rw [Hbase.out,Hkind.out,Hn.out,Hm.out] at HD1
   clear hbq HL1
   go_wp2_with fail
   refine HD1.mono ?_
   rintro e ws ⟨rfl,hbs⟩
   have HBs:=hideS (HBq.out.step hbs)
   obtain⟨t0,t1,t2,t3⟩:=Htt.out _ HBs.out
   have HG1:=HGb1.out ws HBs.out.src HBs.out.fl
   rw [Hbase.out,Hkind.out,Hn.out,Hm.out] at HG1
   clear hbs HD1
   go_wp2_with fail
   refine HG1.mono ?_
   rintro e wt ⟨rfl,hbt⟩
   have HBt:=hideS (HBs.out.step hbt)
   clear hbt HG1
   go_wp2_with fail
   refine (HAw.out _).mono ?_
   rintro e wv ⟨rfl,hbv⟩
   have HBv:=hideS (HBt.out.bl.trans (hbv.mono HBt.out.bl.size))
   clear hbv
   go_wp2_with fail
   go_ret
   exact⟨rfl,HBv.out⟩
theorem qh (pl:Option Addr) (bl ol cl:Nat) (l:List Flw) (cur:Int) (pd pf:Option Addr) (bd od cd b2 o2 cf:Nat) (c:Cv) (i:Int) (w:World) (hl:JSrc aF w pl bl ol l) (hf:eC l) (_:l.length≤9223372036854775807) (_:Da cur) (hs:TFl w pd pf bd od b2 o2 c.ds c.fs) (_:Da i) :
  Calls Tryz.prog 7 #[.slice pl l.length cl,.int .i64 cur,.agg #[.int .i64 c.base,.int .i64 c.kind,.slice pd c.ds.length cd,.slice pf c.fs.length cf],.int .i64 i] w fun e w'=>e=.returned (.bool true)∧Below w.heap.size w w':=by
 by_cases hm:l.length≤20∧c.ds.length≤8∧c.fs.length≤8
 ·exact wW l cur c i pl bl ol cl _ pd pf bd od cd b2 o2 cf w hl rfl hf hs hm
 ·exact qg cur c.base c.kind i pl pd pf _ cl _ cd _ cf w hm
end Go.Proofs.YtpddmnmhdahnlaaGreat
