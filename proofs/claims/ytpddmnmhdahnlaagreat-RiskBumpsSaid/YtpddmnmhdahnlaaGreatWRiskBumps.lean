/-  -/
import Derived.Test.YtpddmnmhdahnlaaGreatRkW
import Derived.Test.YtpddmnmhdahnlaaGreatHbw
import Derived.Test.YtpddmnmhdahnlaaGreatFFlw
namespace Go.Proofs.YtpddmnmhdahnlaaGreat
open Go.RowKit

set_option maxRecDepth 40000 in
set_option maxHeartbeats 3200000 in
theorem pL (base kind i:Int) (h:Nat) (pd pf:Option Addr) (D cd F cf:Nat) (w:World) (hn:¬ (D≤30∧F≤30)) :
  Calls Tryz.prog 3 #[.agg #[.int .i64 base,.int .i64 kind,.slice pd D cd,.slice pf F cf],.int .i64 i,.float .f64 h] w fun e w'=>e=.returned (.bool true)∧Below w.heap.size w w':=by
 have HB:=hideS (bA w base kind (.slice pd D cd) (.slice pf F cf))
 have HAw:=hideS AL
 have t0:=HB.out.t0
 have t1:=HB.out.t1
 have t2:=HB.out.t2
 have t3:=HB.out.t3
 have HBl:=hideS HB.out.bl
 by_cases h1:D≤30
 ·have l1:(D:Int)≤30:=by omega
  have l2:(30:Int)<(F:Int):=by omega
  clear hn h1
  go_enter Tryz.func3,Tryz.ntmps3
  go_wp2_with fail
  refine (HAw.out _).mono ?_
  rintro e w3 ⟨rfl,hb3⟩
  have HB3:=hideS (HBl.out.trans (hb3.mono HBl.out.size))
  clear hb3
  go_wp2_with fail
  go_ret
  exact⟨rfl,HB3.out⟩
 ·have l1:(30:Int)<(D:Int):=by omega
  clear hn h1
  go_enter Tryz.func3,Tryz.ntmps3
  go_wp2_with fail
  refine (HAw.out _).mono ?_
  rintro e w3 ⟨rfl,hb3⟩
  have HB3:=hideS (HBl.out.trans (hb3.mono HBl.out.size))
  clear hb3
  go_wp2_with fail
  go_ret
  exact⟨rfl,HB3.out⟩
structure BuB (w:World) (c:Cv) (pd pf:Option Addr) (bd od cd b2 o2 cf:Nat) (wr:World):Prop where
 bx:BxK wr w.heap.size c.base c.kind (.slice pd c.ds.length cd) (.slice pf c.fs.length cf)
 bl:Below w.heap.size w wr
 src:TFl wr pd pf bd od b2 o2 c.ds c.fs
theorem BuB.step {w:World} {c:Cv} {pd pf:Option Addr} {bd od cd b2 o2 cf:Nat} {wr w':World} (h:BuB w c pd pf bd od cd b2 o2 cf wr) (hb:Below wr.heap.size wr w'):BuB w c pd pf bd od cd b2 o2 cf w':=⟨h.bx.step hb,h.bl.trans (hb.mono h.bl.size),h.src.below hb⟩
set_option maxRecDepth 40000 in
set_option maxHeartbeats 25600000 in
theorem tF (c:Cv) (i:Int) (h:Nat) (pd pf:Option Addr) (bd od cd b2 o2 cf:Nat) (w:World) (hh:h<18446744073709551616) (hs:TFl w pd pf bd od b2 o2 c.ds c.fs) (hm:c.ds.length≤30∧c.fs.length≤30) :
  Calls Tryz.prog 3 #[.agg #[.int .i64 c.base,.int .i64 c.kind,.slice pd c.ds.length cd,.slice pf c.fs.length cf],.int .i64 i,.float .f64 h] w fun e w'=>e=.returned (.bool true)∧Below w.heap.size w w':=by
 obtain⟨da,EA,hA⟩:=Kd c i h
 obtain⟨db,EB,hB⟩:=Ke c h
 have HAw:=hideS AL
 have HOf:Hid (∀ wx,TFl wx pd pf bd od b2 o2 c.ds c.fs→_):=fun wx hx=>LQ c.base c.kind pd pf bd od cd b2 o2 cf c.ds c.fs wx hx (by omega)
 have HBu:Hid (∀ wx,TFl wx pd pf bd od b2 o2 c.ds c.fs→_):=fun wx hx=>lz c da i h EA pd pf bd od cd b2 o2 cf wx hA hh hx
 have HPu:Hid (∀ wx,TFl wx pd pf bd od b2 o2 c.ds c.fs→_):=fun wx hx=>lA c db h EB pd pf bd od cd b2 o2 cf wx hB hh hx
 have HDu:Hid (∀ dp dg dc wx,CSrcD wx pd dp bd od dg 0 c.ds c.fs→_):=fun dp dg dc wx hx=>wY c da i EA h pd dp bd od cd dg 0 dc wx hh hx hs.f hA
 have HQu:Hid (∀ dp dg dc wx,CSrcD wx pd dp bd od dg 0 c.ds c.fs→_):=fun dp dg dc wx hx=>zo c db EB h pd dp bd od cd dg 0 dc wx hh hx hs.f hB
 have HPa:Hid (EA=0→0<c.ds.length):=Kq hA
 have HPb:Hid (EB=0→0<c.ds.length):=Kr hB
 have HLa:Hid (EA=0→da.ds.length≤1000∧da.fs.length≤1000):=Kp hA
 have HLb:Hid (EB=0→db.ds.length≤1000∧db.fs.length≤1000):=Ks hB
 have hA0:=(Below.refl w.heap.size w).alloc (Nat.le_refl _) (.cells #[.int .i64 c.base,.int .i64 c.kind,.slice pd c.ds.length cd,.slice pf c.fs.length cf] 25)
 have HB:Hid (BuB w c pd pf bd od cd b2 o2 cf (w.alloc (.cells #[.int .i64 c.base,.int .i64 c.kind,.slice pd c.ds.length cd,.slice pf c.fs.length cf] 25))):=⟨oU w _ _ _ _,hA0,hs.below hA0⟩
 obtain⟨w1,hw1⟩:∃ w1,w.alloc (.cells #[.int .i64 c.base,.int .i64 c.kind,.slice pd c.ds.length cd,.slice pf c.fs.length cf] 25)=w1:=⟨_,rfl⟩
 rw [hw1] at HB
 obtain⟨base,hbase⟩:∃ b,c.base=b:=⟨_,rfl⟩
 obtain⟨kind,hkind⟩:∃ b,c.kind=b:=⟨_,rfl⟩
 obtain⟨n,hn⟩:∃ b,c.ds.length=b:=⟨_,rfl⟩
 obtain⟨m,hmm⟩:∃ b,c.fs.length=b:=⟨_,rfl⟩
 have Hbase:=hideS hbase
 have Hkind:=hideS hkind
 have Hn:=hideS hn
 have Hm:=hideS hmm
 rw [hn,hmm] at hm
 have hn30:(n:Int)≤30:=by omega
 have hm30:(m:Int)≤30:=by omega
 rw [hbase,hkind,hn,hmm] at hw1
 rw [hbase,hkind,hn,hmm]
 have tt:∀ wx,BuB w c pd pf bd od cd b2 o2 cf wx→wx.cell? ⟨w.heap.size,0,none⟩=some (.int .i64 base)∧wx.cell? ⟨w.heap.size,1,none⟩=some (.int .i64 kind)∧wx.cell? ⟨w.heap.size,2,none⟩=some (.slice pd n cd)∧wx.cell? ⟨w.heap.size,3,none⟩=some (.slice pf m cf):=fun wx hx=>by
  have:=hx.bx.t
  rw [Hbase.out,Hkind.out,Hn.out,Hm.out] at this
  exact this
 have Htt:=hideS tt
 clear tt
 obtain⟨t0,t1,t2,t3⟩:=Htt.out _ HB.out
 clear hs hm hA hB hA0 hbase hkind hn hmm hh
 go_enter Tryz.func3,Tryz.ntmps3
 go_wp2_with fail
 clear hw1 t0 t1 t2 t3
 have HOf1:=HOf.out w1 HB.out.src
 rw [Hbase.out,Hkind.out,Hn.out,Hm.out] at HOf1
 refine HOf1.mono ?_
 rintro e w3 ⟨dp,dg,dc,rfl,hcs,hb3⟩
 obtain⟨u1,u2,u3,u4,⟨e0,z0,y0⟩,⟨e1,z1,y1⟩,⟨e2,z2,y2⟩,⟨e3,z3,y3⟩,hZ,hBB⟩:=bO w3.heap.size base kind (.slice pd n cd) (.slice dp m dc) (w3.alloc aw) (heap_alloc_new _ _)
 have hB2:Below w3.heap.size w3 u4:=((Below.refl _ w3).alloc (Nat.le_refl _) aw).trans hBB
 have HB4:=hideS ((HB.out.step hb3).step hB2)
 have HD4:=hideS hZ
 have HC4:=hideS (hcs.below hB2)
 obtain⟨w4,hw4⟩:∃ w4,w3.alloc aw=w4:=⟨_,rfl⟩
 rw [hw4] at e0 z0 y0
 unfold aw at hw4
 obtain⟨t0,t1,t2,t3⟩:=Htt.out _ HB4.out
 clear hcs hb3 hZ hBB hB2 HB HOf HOf1
 go_wp2_with fail
 clear hw4 e0 z0 y0 e1 z1 y1 e2 z2 y2 e3 z3 y3 t0 t1 t2 t3
 generalize w3.heap.size=gw at *
 have HBu1:=HBu.out u4 HB4.out.src
 rw [Hbase.out,Hkind.out,Hn.out,Hm.out] at HBu1
 refine HBu1.mono ?_
 intro e w5 ho
 obtain⟨ab,ak,apx,apy,anx,acx,any',acy,agx,agy,he,hsh⟩:=ho.shp
 subst he
 obtain⟨v1,v2,v3,v4,⟨e0,z0,y0⟩,⟨e1,z1,y1⟩,⟨e2,z2,y2⟩,⟨e3,z3,y3⟩,hZ,hBB⟩:=aR w5.heap.size ab ak (.slice apx anx acx) (.slice apy any' acy) (w5.alloc ap) (heap_alloc_new _ _)
 have hB2:Below w5.heap.size w5 v4:=((Below.refl _ w5).alloc (Nat.le_refl _) ap).trans hBB
 have HB5:=hideS ((HB4.out.step ho.bl).step hB2)
 have HD5:=hideS ((HD4.out.step ho.bl).step hB2)
 have HC5:=hideS ((HC4.out.below ho.bl).below hB2)
 have HA5:=hideS hZ
 have HSa5:=hideS (hsh.step hB2)
 obtain⟨w6,hw6⟩:∃ w6,w5.alloc ap=w6:=⟨_,rfl⟩
 rw [hw6] at e0 z0 y0
 unfold ap at hw6
 clear hsh ho hZ hBB hB2 HB4 HD4 HC4 HBu HBu1
 go_wp2_with fail
 clear hw6 e0 z0 y0 e1 z1 y1 e2 z2 y2 e3 z3 y3
 generalize w5.heap.size=ga at *
 have HDu7:=hideS (HDu.out dp dg dc)
 rw [Hbase.out,Hkind.out,Hn.out,Hm.out] at HDu7
 have hz7:=hideS ((Below.refl v4.heap.size v4).alloc (Nat.le_refl _) aw)
 have HZa7:=hideS (HC5.out.drewN 1)
 have HZb7:=hideS ((HC5.out.below hz7.out).drewN 1)
 have HZz7:Hid ((v4.alloc aw).heap[v4.heap.size]? =some aw):=heap_alloc_new _ _
 have HS7a:=hideS HD5.out.t
 have HS7b:=hideS (HD5.out.step hz7.out).t
 unfold aw at HZb7 HS7b
 have HBx7:Hid (EA=0→bd≠v4.heap.size):=fun e=>Nat.ne_of_lt (HC5.out.d.lt (HPa.out e))
 go_region_held3 (fun w'=>w'.cell? ⟨gw,0,none⟩=some (.int .i64 base)∧w'.cell? ⟨gw,1,none⟩=some (.int .i64 kind)∧w'.cell? ⟨gw,2,none⟩=some (.slice pd n cd)∧w'.cell? ⟨gw,3,none⟩=some (.slice dp m dc)) (first | exact HS7a.out | exact HS7b.out | exact HS7c.out | exact HS7d.out | exact HS7e.out | go_keep) (first | (go_at_call 13;refine (turned (eY _ _)).mono ?_;rintro e wb ⟨rfl,rfl⟩) | (go_at_call 12;refine (HDu7.out _ HZa7.out).mono ?_;intro e w7 ho;obtain⟨bb7,bk7,bpx7,bpy7,bnx7,bcx7,bny7,bcy7,bgy7,he,hsh,hgy⟩:=ho.shp;subst he;obtain⟨xa7,xb7,xc7,xd7,⟨e0,z0,y0⟩,⟨e1,z1,y1⟩,⟨e2,z2,y2⟩,⟨e3,z3,y3⟩,hZ,hBB⟩:=bO w7.heap.size bb7 bk7 (.slice bpx7 bnx7 bcx7) (.slice bpy7 bny7 bcy7) (w7.alloc aw) (heap_alloc_new _ _);have hb7:Below v4.heap.size v4 w7:=⟨ho.bl.os,ho.bl.tape,ho.bl.output,ho.bl.size,ho.bl.block⟩;have ha7:=(Below.refl w7.heap.size w7).alloc (Nat.le_refl _) aw;have hB2:Below w7.heap.size w7 xd7:=ha7.trans hBB;have hbx:Below v4.heap.size v4 xd7:=hb7.trans (hB2.mono hb7.size);have HB7:=hideS (HB5.out.step hbx);have HD7:=hideS (HD5.out.step hbx);have HC7:=hideS (HC5.out.below hbx);have HA7:=hideS (HA5.out.step hbx);have HSa7:=hideS (HSa5.out.step hbx);have HY7:=hideS (hsh.step hB2);have HT7:=hideS hZ;have HS7c:=hideS (HD5.out.step hb7).t;have HS7d:=hideS ((HD5.out.step hb7).step ha7).t;have HS7e:=hideS HD7.out.t;obtain⟨wa7,hwa⟩:∃ wa,w7.alloc aw=wa:=⟨_,rfl⟩;rw [hwa] at e0 z0 y0 HS7d;unfold aw at hwa;obtain⟨gb7,hgb7⟩:∃ g,w7.heap.size=g:=⟨_,rfl⟩;rw [hgb7] at HT7 e0 z0 y0 e1 z1 y1 e2 z2 y2 e3 z3 y3;clear hsh hgy ho hZ hBB hb7 ha7 hB2 hbx) | (go_at_call 12;refine (HDu7.out _ HZb7.out).mono ?_;intro e w7 ho;obtain⟨bb7,bk7,bpx7,bpy7,bnx7,bcx7,bny7,bcy7,bgy7,he,hsh,hgy⟩:=ho.shp;subst he;have ho2:Below (v4.alloc aw).heap.size (v4.alloc aw) w7:=⟨ho.bl.os,ho.bl.tape,ho.bl.output,ho.bl.size,ho.bl.block⟩;have hzz:w7.heap[v4.heap.size]? =some aw:=(ho2.block v4.heap.size (Array.getElem?_eq_some_iff.1 HZz7.out).1).trans HZz7.out;obtain⟨xa7,xb7,xc7,xd7,⟨e0,z0,y0⟩,⟨e1,z1,y1⟩,⟨e2,z2,y2⟩,⟨e3,z3,y3⟩,hZ,hBB⟩:=bO v4.heap.size bb7 bk7 (.slice bpx7 bnx7 bcx7) (.slice bpy7 bny7 bcy7) w7 hzz;have hb7:Below v4.heap.size v4 w7:=hz7.out.trans (ho2.mono hz7.out.size);have hbx:Below v4.heap.size v4 xd7:=hb7.trans hBB;have HB7:=hideS (HB5.out.step hbx);have HD7:=hideS (HD5.out.step hbx);have HC7:=hideS (HC5.out.below hbx);have HA7:=hideS (HA5.out.step hbx);have HSa7:=hideS (HSa5.out.step hbx);have HY7:=hideS (hsh.fill HBx7.out (fun e=>(by have h1:=hgy e;have h2:=(Array.getElem?_eq_some_iff.1 HZz7.out).1;unfold aw at h2;exact Nat.ne_of_gt (Nat.lt_of_lt_of_le h2 h1))) e0 e1 e2 e3);have HT7:=hideS hZ;have HS7c:=hideS (HD5.out.step hb7).t;have HS7d:=HS7c;have HS7e:=hideS HD7.out.t;obtain⟨gb7,hgb7⟩:∃ g,v4.heap.size=g:=⟨_,rfl⟩;rw [hgb7] at HT7 e0 z0 y0 e1 z1 y1 e2 z2 y2 e3 z3 y3;clear hsh hgy ho ho2 hzz hZ hBB hb7 hbx))
 all_goals
  clear hgb7 e0 z0 y0 e1 z1 y1 e2 z2 y2 e3 z3 y3 HDu7 hz7 HZa7 HZb7 HZz7 HS7a HS7b HBx7 HS7c HS7d HS7e HB5 HD5 HC5 HA5 HSa5 HDu
  try clear hwa
  obtain⟨t0,t1,t2,t3⟩:=Htt.out _ HB7.out
  go_wp2_with fail
  clear t0 t1 t2 t3
  have HPu1:=HPu.out xd7 HB7.out.src
  rw [Hbase.out,Hkind.out,Hn.out,Hm.out] at HPu1
  refine HPu1.mono ?_
  intro e w8 ho
  obtain⟨pb,pk,ppx,ppy,pnx,pcx,pny,pcy,pgx,pgy,he,hsh⟩:=ho.shp
  subst he
  obtain⟨s1,s2,s3,s4,⟨e0,z0,y0⟩,⟨e1,z1,y1⟩,⟨e2,z2,y2⟩,⟨e3,z3,y3⟩,hZ,hBB⟩:=aR w8.heap.size pb pk (.slice ppx pnx pcx) (.slice ppy pny pcy) (w8.alloc ap) (heap_alloc_new _ _)
  have hB2:Below w8.heap.size w8 s4:=((Below.refl _ w8).alloc (Nat.le_refl _) ap).trans hBB
  have hbx:Below xd7.heap.size xd7 s4:=ho.bl.trans (hB2.mono ho.bl.size)
  have HB8:=hideS (HB7.out.step hbx)
  have HD8:=hideS (HD7.out.step hbx)
  have HC8:=hideS (HC7.out.below hbx)
  have HA8:=hideS (HA7.out.step hbx)
  have HSa8:=hideS (HSa7.out.step hbx)
  have HTa8:=hideS (HT7.out.step hbx)
  have HYa8:=hideS (HY7.out.step hbx)
  have HX8:=hideS hZ
  have HSx8:=hideS (hsh.step hB2)
  obtain⟨wc,hwc⟩:∃ wc,w8.alloc ap=wc:=⟨_,rfl⟩
  rw [hwc] at e0 z0 y0
  unfold ap at hwc
  clear hsh ho hZ hBB hB2 hbx HB7 HD7 HC7 HA7 HSa7 HT7 HY7 HPu HPu1
  go_wp2_with fail
  clear hwc e0 z0 y0 e1 z1 y1 e2 z2 y2 e3 z3 y3
  generalize w8.heap.size=gx at *
  have HDu9:=hideS (HQu.out dp dg dc)
  rw [Hbase.out,Hkind.out,Hn.out,Hm.out] at HDu9
  have hz9:=hideS ((Below.refl s4.heap.size s4).alloc (Nat.le_refl _) aw)
  have HZa9:=hideS (HC8.out.drewN 1)
  have HZb9:=hideS ((HC8.out.below hz9.out).drewN 1)
  have HZz9:Hid ((s4.alloc aw).heap[s4.heap.size]? =some aw):=heap_alloc_new _ _
  have HS9a:=hideS HD8.out.t
  have HS9b:=hideS (HD8.out.step hz9.out).t
  unfold aw at HZb9 HS9b
  have HBx9:Hid (EB=0→bd≠s4.heap.size):=fun e=>Nat.ne_of_lt (HC8.out.d.lt (HPb.out e))
  go_region_held3 (fun w'=>w'.cell? ⟨gw,0,none⟩=some (.int .i64 base)∧w'.cell? ⟨gw,1,none⟩=some (.int .i64 kind)∧w'.cell? ⟨gw,2,none⟩=some (.slice pd n cd)∧w'.cell? ⟨gw,3,none⟩=some (.slice dp m dc)) (first | exact HS9a.out | exact HS9b.out | exact HS9c.out | exact HS9d.out | exact HS9e.out | go_keep) (first | (go_at_call 13;refine (turned (eY _ _)).mono ?_;rintro e wb ⟨rfl,rfl⟩) | (go_at_call 15;refine (HDu9.out _ HZa9.out).mono ?_;intro e w9 ho;obtain⟨bb9,bk9,bpx9,bpy9,bnx9,bcx9,bny9,bcy9,bgy9,he,hsh,hgy⟩:=ho.shp;subst he;obtain⟨xa9,xb9,xc9,xd9,⟨e0,z0,y0⟩,⟨e1,z1,y1⟩,⟨e2,z2,y2⟩,⟨e3,z3,y3⟩,hZ,hBB⟩:=bO w9.heap.size bb9 bk9 (.slice bpx9 bnx9 bcx9) (.slice bpy9 bny9 bcy9) (w9.alloc aw) (heap_alloc_new _ _);have hb7:Below s4.heap.size s4 w9:=⟨ho.bl.os,ho.bl.tape,ho.bl.output,ho.bl.size,ho.bl.block⟩;have ha7:=(Below.refl w9.heap.size w9).alloc (Nat.le_refl _) aw;have hB2:Below w9.heap.size w9 xd9:=ha7.trans hBB;have hbx:Below s4.heap.size s4 xd9:=hb7.trans (hB2.mono hb7.size);have HB9:=hideS (HB8.out.step hbx);have HD9:=hideS (HD8.out.step hbx);have HC9:=hideS (HC8.out.below hbx);have HA9:=hideS (HA8.out.step hbx);have HSa9:=hideS (HSa8.out.step hbx);have HTa9:=hideS (HTa8.out.step hbx);have HYa9:=hideS (HYa8.out.step hbx);have HX9:=hideS (HX8.out.step hbx);have HSx9:=hideS (HSx8.out.step hbx);have HY9:=hideS (hsh.step hB2);have HT9:=hideS hZ;have HS9c:=hideS (HD8.out.step hb7).t;have HS9d:=hideS ((HD8.out.step hb7).step ha7).t;have HS9e:=hideS HD9.out.t;obtain⟨wa9,hwa⟩:∃ wa,w9.alloc aw=wa:=⟨_,rfl⟩;rw [hwa] at e0 z0 y0 HS9d;unfold aw at hwa;obtain⟨gb9,hgb9⟩:∃ g,w9.heap.size=g:=⟨_,rfl⟩;rw [hgb9] at HT9 e0 z0 y0 e1 z1 y1 e2 z2 y2 e3 z3 y3;clear hsh hgy ho hZ hBB hb7 ha7 hB2 hbx) | (go_at_call 15;refine (HDu9.out _ HZb9.out).mono ?_;intro e w9 ho;obtain⟨bb9,bk9,bpx9,bpy9,bnx9,bcx9,bny9,bcy9,bgy9,he,hsh,hgy⟩:=ho.shp;subst he;have ho2:Below (s4.alloc aw).heap.size (s4.alloc aw) w9:=⟨ho.bl.os,ho.bl.tape,ho.bl.output,ho.bl.size,ho.bl.block⟩;have hzz:w9.heap[s4.heap.size]? =some aw:=(ho2.block s4.heap.size (Array.getElem?_eq_some_iff.1 HZz9.out).1).trans HZz9.out;obtain⟨xa9,xb9,xc9,xd9,⟨e0,z0,y0⟩,⟨e1,z1,y1⟩,⟨e2,z2,y2⟩,⟨e3,z3,y3⟩,hZ,hBB⟩:=bO s4.heap.size bb9 bk9 (.slice bpx9 bnx9 bcx9) (.slice bpy9 bny9 bcy9) w9 hzz;have hb7:Below s4.heap.size s4 w9:=hz9.out.trans (ho2.mono hz9.out.size);have hbx:Below s4.heap.size s4 xd9:=hb7.trans hBB;have HB9:=hideS (HB8.out.step hbx);have HD9:=hideS (HD8.out.step hbx);have HC9:=hideS (HC8.out.below hbx);have HA9:=hideS (HA8.out.step hbx);have HSa9:=hideS (HSa8.out.step hbx);have HTa9:=hideS (HTa8.out.step hbx);have HYa9:=hideS (HYa8.out.step hbx);have HX9:=hideS (HX8.out.step hbx);have HSx9:=hideS (HSx8.out.step hbx);have HY9:=hideS (hsh.fill HBx9.out (fun e=>(by have h1:=hgy e;have h2:=(Array.getElem?_eq_some_iff.1 HZz9.out).1;unfold aw at h2;exact Nat.ne_of_gt (Nat.lt_of_lt_of_le h2 h1))) e0 e1 e2 e3);have HT9:=hideS hZ;have HS9c:=hideS (HD8.out.step hb7).t;have HS9d:=HS9c;have HS9e:=hideS HD9.out.t;obtain⟨gb9,hgb9⟩:∃ g,s4.heap.size=g:=⟨_,rfl⟩;rw [hgb9] at HT9 e0 z0 y0 e1 z1 y1 e2 z2 y2 e3 z3 y3;clear hsh hgy ho ho2 hzz hZ hBB hb7 hbx))
  all_goals
   clear hgb9 e0 z0 y0 e1 z1 y1 e2 z2 y2 e3 z3 y3 HDu9 hz9 HZa9 HZb9 HZz9 HS9a HS9b HBx9 HS9c HS9d HS9e HB8 HD8 HC8 HA8 HSa8 HTa8 HYa8 HX8 HSx8 HQu
   try clear hwa
   obtain⟨a0,a1,a2,a3⟩:=HA9.out.t
   obtain⟨c0,c1,c2,c3⟩:=HTa9.out.t
   have qa:(EA==EA)=true:=beq_self_eq_true _
   have qb:(EB==EB)=true:=beq_self_eq_true _
   have HSm1:=hideS (sc acx acy bcx7 bcy7 HSa9.out HYa9.out HLa.out)
   go_wp2_with fail
   refine HSm1.out.mono ?_
   rintro e w11 ⟨rfl,hb11⟩
   have HB11:=hideS (HB9.out.step hb11)
   have HX11:=hideS (HX9.out.step hb11)
   have HT11:=hideS (HT9.out.step hb11)
   have HSx11:=hideS (HSx9.out.step hb11)
   have HY11:=hideS (HY9.out.step hb11)
   clear a0 a1 a2 a3 c0 c1 c2 c3 hb11 HSm1 HB9 HX9 HT9 HSx9 HY9 HSa9 HYa9 HTa9 HA9 HD9 HC9
   obtain⟨a0,a1,a2,a3⟩:=HX11.out.t
   obtain⟨c0,c1,c2,c3⟩:=HT11.out.t
   have HSm2:=hideS (sc pcx pcy bcx9 bcy9 HSx11.out HY11.out HLb.out)
   go_wp2_with fail
   refine HSm2.out.mono ?_
   rintro e w12 ⟨rfl,hb12⟩
   have HB12:=hideS (HB11.out.step hb12)
   clear hb12 HSm2 a0 a1 a2 a3 c0 c1 c2 c3 HX11 HT11 HSx11 HY11 HB11
   go_wp2_with fail
   refine (HAw.out _).mono ?_
   rintro e w13 ⟨rfl,hb13⟩
   have HB13:=hideS (HB12.out.step hb13)
   clear hb13
   go_wp2_with fail
   go_ret
   exact⟨rfl,HB13.out.bl⟩
theorem pM (pd pf:Option Addr) (bd od cd b2 o2 cf:Nat) (c:Cv) (i:Int) (h:Nat) (w:World) (hs:TFl w pd pf bd od b2 o2 c.ds c.fs) (_:Hw i) (hh:h<18446744073709551616) :
  Calls Tryz.prog 3 #[.agg #[.int .i64 c.base,.int .i64 c.kind,.slice pd c.ds.length cd,.slice pf c.fs.length cf],.int .i64 i,.float .f64 h] w fun e w'=>e=.returned (.bool true)∧Below w.heap.size w w':=by
 by_cases hm:c.ds.length≤30∧c.fs.length≤30
 ·exact tF c i h pd pf bd od cd b2 o2 cf w hh hs hm
 ·exact pL c.base c.kind i h pd pf _ cd _ cf w hm
end Go.Proofs.YtpddmnmhdahnlaaGreat
