/-  -/
import Derived.Test.YtpddmnmhdahnlaaGreatHbw
import Derived.Test.YtpddmnmhdahnlaaGreatFFlw
import Derived.Test.YtpddmnmhdahnlaaGreatHaz
namespace Go.Proofs.YtpddmnmhdahnlaaGreat
open Go.RowKit

def frB (nr fr:Int) (f:Flw):Bool:=decide (f.day≤nr)||decide (fr≤f.day)
def frN (nr fr:Int) (l:List Flw):Nat→List Flw
 | 0=>[]
 | k+1=>if frB nr fr (l.getD k flw0)=true then frN nr fr l k++[l.getD k flw0] else frN nr fr l k
theorem sY (nr fr:Int) (l:List Flw):∀ k,(frN nr fr l k).length≤k
 | 0=>Nat.le_refl _
 | k+1=>by
  have:=sY nr fr l k
  rw [frN]
  split
  ·rw [List.length_append];simp;omega
  ·omega
theorem sZ (nr fr:Int) (l:List Flw):∀ k,∀ f ∈ frN nr fr l k,frB nr fr f=true
 | 0,f,h=>by cases h
 | k+1,f,h=>by
  rw [frN] at h
  split at h
  ·rename_i hc
   rcases List.mem_append.1 h with h | h
   ·exact sZ nr fr l k f h
   ·simp only [List.mem_cons,List.not_mem_nil,or_false] at h
    rw [h];exact hc
  ·exact sZ nr fr l k f h
theorem tc {nr fr:Int} {l:List Flw} (hf:dw l):∀ k,dw (frN nr fr l k)
 | 0,i=>by
  cases i<;>exact (by decide:flw0.am<18446744073709551616)
 | k+1,i=>by
  rw [frN]
  split
  ·by_cases hi:i<(frN nr fr l k).length
   ·rw [List.getD_eq_getElem?_getD,List.getElem?_append_left hi,← List.getD_eq_getElem?_getD]
    exact tc hf k i
   ·by_cases he:i=(frN nr fr l k).length
    ·subst he
     rw [List.getD_eq_getElem?_getD,List.getElem?_append_right (Nat.le_refl _),Nat.sub_self]
     exact hf k
    ·rw [List.getD_eq_getElem?_getD,List.getElem?_eq_none (by rw [List.length_append];simp;omega)]
     decide
  ·exact tc hf k i
set_option maxRecDepth 40000 in
set_option maxHeartbeats 3200000 in
theorem wH (cur base kind i:Int) (h:Nat) (pl pd pf:Option Addr) (N cl D cd F cf:Nat) (w:World) (hn:¬ ((N≤20∧D≤8∧F≤8)∧kind≠3∧0≤i∧i<(D:Int))) :
  Calls Tryz.prog 8 #[.slice pl N cl,.int .i64 cur,.agg #[.int .i64 base,.int .i64 kind,.slice pd D cd,.slice pf F cf],.int .i64 i,.float .f64 h] w fun e w'=>e=.returned (.bool true)∧Below w.heap.size w w':=by
 have HB:=hideS (be w base kind (.slice pd D cd) (.slice pf F cf))
 have HSm:=hideS fun wx=>pe base kind pl pd pf N cl D cd F cf wx
 have HAw:=hideS Ai
 have t0:=HB.out.t0
 have t1:=HB.out.t1
 have t2:=HB.out.t2
 have t3:=HB.out.t3
 by_cases h1:N≤20∧D≤8∧F≤8
 ·rw [decide_eq_true h1] at HSm
  have h1':¬ (kind≠3∧0≤i∧i<(D:Int)):=fun hx=>hn ⟨h1,hx⟩
  clear hn h1
  go_enter Tryz.func8,Tryz.ntmps8
  go_wp2_with fail
  refine (HSm.out _).mono ?_
  rintro e w2 ⟨rfl,hb2⟩
  have HB2:=hideS (HB.out.step hb2)
  have t1:=HB2.out.t1
  have t2:=HB2.out.t2
  clear hb2 HSm
  by_cases h2:kind=3
  ·subst h2
   clear h1'
   go_wp2_with fail
   refine (HAw.out _).mono ?_
   rintro e w3 ⟨rfl,hb3⟩
   have HB3:=hideS (HB2.out.bl.trans (hb3.mono HB2.out.bl.size))
   clear hb3
   go_wp2_with fail
   go_ret
   exact⟨rfl,HB3.out⟩
  ·have d2:(kind==3)=false:=beq_eq_false_iff_ne.2 h2
   by_cases h3:i<0
   ·clear h1' h2
    go_wp2_with fail
    refine (HAw.out _).mono ?_
    rintro e w3 ⟨rfl,hb3⟩
    have HB3:=hideS (HB2.out.bl.trans (hb3.mono HB2.out.bl.size))
    clear hb3
    go_wp2_with fail
    go_ret
    exact⟨rfl,HB3.out⟩
   ·have h4:(D:Int)≤i:=by
     apply Classical.byContradiction
     intro h4
     exact h1' ⟨h2,by omega,by omega⟩
    clear h1' h2
    go_wp2_with fail
    refine (HAw.out _).mono ?_
    rintro e w3 ⟨rfl,hb3⟩
    have HB3:=hideS (HB2.out.bl.trans (hb3.mono HB2.out.bl.size))
    clear hb3
    go_wp2_with fail
    go_ret
    exact⟨rfl,HB3.out⟩
 ·rw [decide_eq_false h1] at HSm
  clear hn h1
  go_enter Tryz.func8,Tryz.ntmps8
  go_wp2_with fail
  refine (HSm.out _).mono ?_
  rintro e w2 ⟨rfl,hb2⟩
  have HB2:=hideS (HB.out.step hb2)
  clear hb2 HSm
  go_wp2_with fail
  refine (HAw.out _).mono ?_
  rintro e w3 ⟨rfl,hb3⟩
  have HB3:=hideS (HB2.out.bl.trans (hb3.mono HB2.out.bl.size))
  clear hb3
  go_wp2_with fail
  go_ret
  exact⟨rfl,HB3.out⟩
structure FaI (w:World) (c d:Cv) (pd pf:Option Addr) (bd od cd b2 o2 cf:Nat) (gd:Nat) (qx qy:Option Addr) (gx gy qcx qcy:Nat) (pl:Option Addr) (fb ol:Nat) (l:List Flw) (wr:World):Prop where
 bx:BxK wr w.heap.size c.base c.kind (.slice pd c.ds.length cd) (.slice pf c.fs.length cf)
 dx:BxK wr gd d.base d.kind (.slice qx d.ds.length qcx) (.slice qy d.fs.length qcy)
 bl:Below w.heap.size w wr
 src:TFl wr pd pf bd od b2 o2 c.ds c.fs
 dsrc:TFl wr qx qy gx 0 gy 0 d.ds d.fs
 fl:JSrc aF wr pl fb ol l
theorem FaI.step {w:World} {c d:Cv} {pd pf:Option Addr} {bd od cd b2 o2 cf:Nat} {gd:Nat} {qx qy:Option Addr} {gx gy qcx qcy:Nat} {pl:Option Addr} {fb ol:Nat} {l:List Flw} {wr w':World} (h:FaI w c d pd pf bd od cd b2 o2 cf gd qx qy gx gy qcx qcy pl fb ol l wr) (hb:Below wr.heap.size wr w'):FaI w c d pd pf bd od cd b2 o2 cf gd qx qy gx gy qcx qcy pl fb ol l w':=⟨h.bx.step hb,h.dx.step hb,h.bl.trans (hb.mono h.bl.size),h.src.below hb,h.dsrc.below hb,h.fl.below hb⟩
theorem Lw {l:List Flw} {cur:Int} {c:Cv} {k h:Nat} (ok:c.Ok) (hk:k<c.ds.length) (hb:bmB c k h=true) (hV:∀ f ∈ l,(c.bump k h).V f.day=c.V f.day) (h0:prE l cur c=0):lnV l cur c h k=0:=by
 have hs:=JJ (l:=l) (cur:=cur) ok (ko ok hk hb) rfl (fun f _=>GJ ok hk hb f.day) hV
 have e:bmE c k h=0:=by unfold bmE;rw [if_pos hb]
 unfold lnV oZ
 rw [e,if_pos rfl]
 exact (Ae h0 hs).1
set_option maxRecDepth 400000 in
set_option maxHeartbeats 25600000 in
theorem yT (l:List Flw) (cur:Int) (c:Cv) (k h:Nat) (pl:Option Addr) (bl ol cl N:Nat) (pd pf:Option Addr) (bd od cd b2 o2 cf:Nat) (w:World) (hl:JSrc aF w pl bl ol l) (hN:l.length=N) (hf:dw l) (hh:h<18446744073709551616) (hs:TFl w pd pf bd od b2 o2 c.ds c.fs) (hm:N≤20∧c.ds.length≤8∧c.fs.length≤8) (h3:c.kind≠3) (hk:k<c.ds.length) :
  Calls Tryz.prog 8 #[.slice pl N cl,.int .i64 cur,.agg #[.int .i64 c.base,.int .i64 c.kind,.slice pd c.ds.length cd,.slice pf c.fs.length cf],.int .i64 (k:Nat),.float .f64 h] w fun e w'=>e=.returned (.bool true)∧Below w.heap.size w w':=by
 obtain⟨d,E,hA⟩:=JA c (k:Nat) h
 have HSm:=hideS fun wx=>pe c.base c.kind pl pd pf N cl c.ds.length cd c.fs.length cf wx
 rw [decide_eq_true hm] at HSm
 have HAw:=hideS Ai
 have HBu:Hid (∀ wx,TFl wx pd pf bd od b2 o2 c.ds c.fs→_):=fun wx hx=>kZ c d (k:Nat) h E pd pf bd od cd b2 o2 cf wx hA hh hx
 have HOk:Hid (E=0→d=c.bump k h∧c.Ok∧bmB c k h=true):=fun hE=>by
  cases hA with
  | chk _ _ hE'=>exact absurd hE hE'
  | arg _ _=>exact absurd hE (by decide)
  | val _ _ _ _ _=>exact absurd hE (by decide)
  | ok ok k' hk' e hb=>
   obtain rfl:k=k':=by omega
   exact⟨rfl,ok,hb⟩
 have hA0:=(Below.refl w.heap.size w).alloc (Nat.le_refl _) (.cells #[.int .i64 c.base,.int .i64 c.kind,.slice pd c.ds.length cd,.slice pf c.fs.length cf] 25)
 obtain⟨base,hbase⟩:∃ b,c.base=b:=⟨_,rfl⟩
 obtain⟨kind,hkind⟩:∃ b,c.kind=b:=⟨_,rfl⟩
 obtain⟨n,hn⟩:∃ b,c.ds.length=b:=⟨_,rfl⟩
 obtain⟨m,hmm⟩:∃ b,c.fs.length=b:=⟨_,rfl⟩
 have HB:=hideS (be w base kind (.slice pd n cd) (.slice pf m cf))
 rw [hbase,hkind,hn,hmm] at hA0
 have HX:=hideS (oE w base kind (.slice pd n cd) (.slice pf m cf))
 have HSr:=hideS (hs.below hA0)
 have HFl:=hideS (hl.below hA0)
 obtain⟨w1,hw1⟩:∃ w1,w.alloc (.cells #[.int .i64 base,.int .i64 kind,.slice pd n cd,.slice pf m cf] 25)=w1:=⟨_,rfl⟩
 rw [hw1] at HB HX HSr HFl
 have Hbase:=hideS hbase
 have Hkind:=hideS hkind
 have Hn:=hideS hn
 have Hm:=hideS hmm
 have d3:(kind==3)=false:=by rw [← hkind];exact beq_eq_false_iff_ne.2 h3
 have H3:=hideS h3
 have Hk:=hideS hk
 have HN:=hideS hN
 have HFt:=hideS hf
 have Hhh:=hideS hh
 have HN20:=hideS hm.1
 have hn8:n≤8:=by rw [← hn];exact hm.2.1
 have hkn:k<n:=by rw [← hn];exact hk
 have hN20:N≤20:=hm.1
 rw [hbase,hkind,hn,hmm]
 have t0:=HB.out.t0
 have t1:=HB.out.t1
 have t2:=HB.out.t2
 have t3:=HB.out.t3
 clear hl hN hf hs hm hA hA0 hbase hkind hn hmm h3 hk hh
 go_enter Tryz.func8,Tryz.ntmps8
 go_wp2_with fail
 clear hw1 t0 t1 t2 t3
 have HSm1:=HSm.out w1
 rw [Hbase.out,Hkind.out,Hn.out,Hm.out] at HSm1
 refine HSm1.mono ?_
 rintro e w2 ⟨rfl,hb2⟩
 have HB2:=hideS (HB.out.step hb2)
 have HX2:=hideS (HX.out.step hb2)
 have HSr2:=hideS (HSr.out.below hb2)
 have HFl2:=hideS (HFl.out.below hb2)
 clear hb2 HB HX HSr HFl HSm HSm1
 have t0:=HB2.out.t0
 have t1:=HB2.out.t1
 have t2:=HB2.out.t2
 have t3:=HB2.out.t3
 have g1:¬ (k:Int)<0:=by omega
 have g2:¬ (n:Int)≤(k:Int):=by omega
 go_wp2_with fail
 clear t0 t1 t2 t3
 have HBu1:=HBu.out w2 HSr2.out
 rw [Hbase.out,Hkind.out,Hn.out,Hm.out] at HBu1
 refine HBu1.mono ?_
 intro e w3 ho
 obtain⟨ab,ak,apx,apy,anx,acx,any',acy,agx,agy,he,hsh⟩:=ho.shape
 subst he
 obtain⟨v1,v2,v3,v4,⟨e0,z0,y0⟩,⟨e1,z1,y1⟩,⟨e2,z2,y2⟩,⟨e3,z3,y3⟩,hZ,hBB⟩:=aS w3.heap.size ab ak (.slice apx anx acx) (.slice apy any' acy) (w3.alloc ap) (heap_alloc_new _ _)
 have hB2:Below w3.heap.size w3 v4:=((Below.refl _ w3).alloc (Nat.le_refl _) ap).trans hBB
 have HB4:=hideS ((HB2.out.step ho.bl).step hB2)
 have HX4:=hideS ((HX2.out.step ho.bl).step hB2)
 have HSr4:=hideS ((HSr2.out.below ho.bl).below hB2)
 have HFl4:=hideS ((HFl2.out.below ho.bl).below hB2)
 have HD4:=hideS hZ
 have HSh:Hid (E=0→ab=d.base∧ak=d.kind∧anx=d.ds.length∧any'=d.fs.length∧TFl v4 apx apy agx 0 agy 0 d.ds d.fs):=fun hE=>by
  obtain⟨r1,r2,r3,r4,r5⟩:=hsh hE
  exact⟨r1,r2,r3,r4,r5.below hB2⟩
 obtain⟨w5,hw5⟩:∃ w5,w3.alloc ap=w5:=⟨_,rfl⟩
 rw [hw5] at e0 z0 y0
 unfold ap at hw5
 clear hsh ho hZ hBB hB2 HB2 HX2 HSr2 HFl2 HBu HBu1
 by_cases hE:E=0
 ·subst hE
  obtain⟨r1,r2,r3,r4,r5⟩:=HSh.out rfl
  obtain⟨rfl,ok,hbm⟩:=HOk.out rfl
  subst r1 r2 r3 r4
  have HI:Hid (FaI w c (c.bump k h) pd pf bd od cd b2 o2 cf w3.heap.size apx apy agx agy acx acy pl bl ol l v4):=⟨by rw [Hbase.out,Hkind.out,Hn.out,Hm.out];exact HX4.out,HD4.out,HB4.out.bl,HSr4.out,r5,HFl4.out⟩
  have Hok:=hideS ok
  have Hbm:=hideS hbm
  have HEq:Hid (∀ x,(c.bump k h).E x=c.E x):=GJ ok Hk.out hbm
  obtain⟨db,hdb⟩:∃ b,(c.bump k h).base=b:=⟨_,rfl⟩
  obtain⟨dk,hdk⟩:∃ b,(c.bump k h).kind=b:=⟨_,rfl⟩
  obtain⟨dn,hdn⟩:∃ b,(c.bump k h).ds.length=b:=⟨_,rfl⟩
  obtain⟨dm,hdm⟩:∃ b,(c.bump k h).fs.length=b:=⟨_,rfl⟩
  rw [hdb,hdk,hdn,hdm] at HD4
  rw [hdb] at e0
  rw [hdk] at e1
  rw [hdn] at e2
  rw [hdm] at e3
  rw [hdb,hdk,hdn,hdm]
  have Hdb:=hideS hdb
  have Hdk:=hideS hdk
  have Hdn:=hideS hdn
  have Hdm:=hideS hdm
  obtain⟨q0,q1,q2,q3⟩:=HX4.out.t
  have HTt:Hid (∀ wx,FaI w c (c.bump k h) pd pf bd od cd b2 o2 cf w3.heap.size apx apy agx agy acx acy pl bl ol l wx→(wx.cell? ⟨w.heap.size,0,none⟩=some (.int .i64 base)∧wx.cell? ⟨w.heap.size,1,none⟩=some (.int .i64 kind)∧wx.cell? ⟨w.heap.size,2,none⟩=some (.slice pd n cd)∧wx.cell? ⟨w.heap.size,3,none⟩=some (.slice pf m cf))∧wx.cell? ⟨w3.heap.size,0,none⟩=some (.int .i64 db)∧wx.cell? ⟨w3.heap.size,1,none⟩=some (.int .i64 dk)∧wx.cell? ⟨w3.heap.size,2,none⟩=some (.slice apx dn acx)∧wx.cell? ⟨w3.heap.size,3,none⟩=some (.slice apy dm acy)):=fun wx hx=>by
   have a:=hx.bx.t
   have b:=hx.dx.t
   rw [Hbase.out,Hkind.out,Hn.out,Hm.out] at a
   rw [Hdb.out,Hdk.out,Hdn.out,Hdm.out] at b
   exact⟨a,b⟩
  obtain⟨nr,hnr⟩:∃ nr,cN c.base c.ds k=nr:=⟨_,rfl⟩
  have HNr:=hideS hnr
  have HFar0:Hid (∀ x,x≤nr∨(k+1<c.ds.length∧c.ds.getD (k+1) 0≤x)∨109573≤x→(c.bump k h).V x=c.V x):=fun x hx=>GK ok Hk.out hbm H3.out (by rw [hnr];exact hx)
  have HCd:Hid (∀ j<n,v4.cell? ⟨bd,od+j,none⟩=some (.int .i64 (c.ds.getD j 0))∧pd=some ⟨bd,od,none⟩):=fun j hj=>⟨HSr4.out.x.cell j (by rw [Hn.out];exact hj),HSr4.out.x.at_ (by rw [Hn.out];omega)⟩
  clear r5 ok hbm hdb hdk hdn hdm hnr HSh HOk HX4 HB4 HD4 HSr4 HFl4
  obtain rfl:=(HCd.out k hkn).2
  obtain⟨k2,hk2⟩:∃ k2,k2=k+1:=⟨_,rfl⟩
  have Hk2:=hideS hk2
  obtain⟨ki,hki⟩:∃ ki:Int,(k:Int)=ki:=⟨_,rfl⟩
  obtain⟨ki2,hki2⟩:∃ ki2:Int,ki2=ki+1:=⟨_,rfl⟩
  have Hki:=hideS hki
  have Hki2:=hideS hki2
  have a3:IntKind.i64.wrap (ki+1)=ki2:=by rw [IntKind.wrap_i64];omega
  have a6:IntKind.i64.wrap ki2=ki2:=by rw [IntKind.wrap_i64];omega
  have a8:ki2.toNat=k2:=by omega
  have a9:0≤ki2:=by omega
  rw [hki]
  clear hk2 hki hki2 g1 g2
  refine Or.elim (Classical.em (k=0)) (fun hk0=>?k0) (fun hk0=>?k1)
  case' k0=>
   have e:nr=base:=by
    have a:=HNr.out
    rw [hk0] at a
    rw [← a];exact Hbase.out
   rw [← e] at q0
   obtain rfl:ki=0:=by have:=Hki.out;omega
   obtain rfl:k2=1:=by have:=Hk2.out;omega
   clear e a3 a6 a8 a9 Hki2
   by_cases hf0:1<n
  case' k1=>
   obtain⟨j,hj⟩:∃ j,j=k - 1:=⟨_,rfl⟩
   obtain⟨ji,hji⟩:∃ ji:Int,ji=ki - 1:=⟨_,rfl⟩
   have a:=(HCd.out j (by omega)).1
   have e:c.ds.getD j 0=nr:=by
    have a:=HNr.out
    rw [show k=j+1 by omega] at a
    exact a
   rw [e] at a
   have hk':=Hki.out
   have g3:(0:Int)<ki:=by omega
   have g4:(0:Int)≤ji:=by omega
   have g5:ji<(n:Int):=by omega
   have a5:IntKind.i64.wrap (ki - 1)=ji:=by rw [IntKind.wrap_i64];omega
   have a7:IntKind.i64.wrap ji=ji:=by rw [IntKind.wrap_i64];omega
   have b8:ji.toNat=j:=by omega
   clear e hk0 hj hji hk'
   by_cases hf0:k2<n
  all_goals
   first
   | (have b:=(HCd.out 1 hf0).1
      obtain⟨fr,hfr⟩:∃ fr,c.ds.getD 1 0=fr:=⟨_,rfl⟩
      rw [hfr] at b
      have HFar:Hid (∀ x,x≤nr∨fr≤x→(c.bump k h).V x=c.V x):=fun x hx=>HFar0.out x (hx.elim Or.inl (fun hx=>Or.inr (Or.inl ⟨by rw [Hn.out];omega,by rw [hk0,hfr];exact hx⟩)))
      have g7:(1:Int)<(n:Int):=by omega
      clear hfr HFar0 hf0
      go_wp2_with fail
      clear b g7)
   | (have HFar':Hid (∀ x,x≤nr∨109573≤x→(c.bump k h).V x=c.V x):=fun x hx=>HFar0.out x (hx.elim Or.inl (fun hx=>Or.inr (Or.inr hx)))
      have g7:decide ((1:Int)<(n:Int))=false:=decide_eq_false (by omega)
      have hk0':=hk0
      clear hf0 HFar0
      go_wp2_with fail
      obtain⟨fr,hfr⟩:∃ fr:Int,(109573:Int)=fr:=⟨_,rfl⟩
      have HFar:Hid (∀ x,x≤nr∨fr≤x→(c.bump k h).V x=c.V x):=by
        show ∀ x,_
        rw [← hfr];exact HFar'.out
      rw [hfr]
      clear hfr HFar' g7)
   | (have b:=(HCd.out k2 hf0).1
      obtain⟨fr,hfr⟩:∃ fr,c.ds.getD k2 0=fr:=⟨_,rfl⟩
      rw [hfr] at b
      have HFar:Hid (∀ x,x≤nr∨fr≤x→(c.bump k h).V x=c.V x):=fun x hx=>HFar0.out x (hx.elim Or.inl (fun hx=>Or.inr (Or.inl ⟨by have:=Hk2.out;rw [Hn.out];omega,by rw [← Hk2.out,hfr];exact hx⟩)))
      have g7:ki2<(n:Int):=by have:=Hki.out;have:=Hki2.out;have:=Hk2.out;omega
      clear hfr HFar0 hf0
      go_wp2_with fail
      clear b g7 a8 a9 a3 a6)
   | (have HFar':Hid (∀ x,x≤nr∨109573≤x→(c.bump k h).V x=c.V x):=fun x hx=>HFar0.out x (hx.elim Or.inl (fun hx=>Or.inr (Or.inr hx)))
      have g7:decide (ki2<(n:Int))=false:=decide_eq_false (by have:=Hki.out;have:=Hki2.out;have:=Hk2.out;omega)
      clear hf0 HFar0 a8 a9 a6
      go_wp2_with fail
      obtain⟨fr,hfr⟩:∃ fr:Int,(109573:Int)=fr:=⟨_,rfl⟩
      have HFar:Hid (∀ x,x≤nr∨fr≤x→(c.bump k h).V x=c.V x):=by
        show ∀ x,_
        rw [← hfr];exact HFar'.out
      rw [hfr]
      clear hfr HFar' g7)
  all_goals
   clear hw5 e0 z0 y0 e1 z1 y1 e2 z2 y2 e3 z3 y3 q0 q1 q2 q3
   have HO0:=hideS (Fm aF v4 v4.heap.size 74)
   have HLd:Hid (∀ (mm cp g:Nat) (q:Option Addr) (mL:List Flw) wx,TFl wx (some ⟨bd,od,none⟩) pf bd od b2 o2 c.ds c.fs→JSrc aF wx q g 0 mL→mL.length=mm→mm≤20→dw mL→(∀ f ∈ mL,(c.bump k h).V f.day=c.V f.day)→Calls Tryz.prog 18 #[.slice q mm cp,.int .i64 cur,.agg #[.int .i64 base,.int .i64 kind,.slice (some ⟨bd,od,none⟩) n cd,.slice pf m cf],.float .f64 h] wx fun e w'=>((∃ EE,EE≠0∧e=.returned (.tuple #[.slice none 0 0,.int .i64 EE]))∨∃ g,e=.returned (.tuple #[.slice (some ⟨g,0,none⟩) n n,.int .i64 0])∧w'.cell? ⟨g,k,none⟩=some (.float .f64 0))∧Below wx.heap.size wx w'):=fun mm cp g q mL wx hx hj hmL hmm hfm hVm=>by
    have:=pc mL cur c h q g 0 cp mm (some ⟨bd,od,none⟩) pf bd od cd b2 o2 cf wx Hhh.out hj hmL (by omega) hfm hx
    rw [Hbase.out,Hkind.out,Hn.out,Hm.out] at this
    refine this.mono ?_
    rintro e w' ⟨ho,hb⟩
    refine⟨?_,hb⟩
    rcases ho with⟨h0,he⟩| ⟨h0,ho⟩
    ·exact Or.inl ⟨_,h0,he⟩
    ·rcases ho with⟨i,_,hE,_,he⟩| ⟨_,g',he,ho⟩
     ·exact Or.inl ⟨_,hE,he⟩
     ·obtain⟨g2,c2,e2,hs2,_⟩:=cP ho (by simp) (by omega)
      injection e2 with e3 _ _
      injection e3 with e3
      injection e3 with e3
      subst e3
      have hc0:=hs2.cell k hkn
      unfold flV at hc0
      rw [wj _ hkn,Lw Hok.out Hk.out Hbm.out hVm h0,Nat.zero_add] at hc0
      exact Or.inr ⟨g',he,hc0⟩
   go_loopw [15,16,17,18,19,20] (fun r i _ _ _ _ wr=>∃ (j mm:Nat) (q:Option Addr) (cp:Nat),j≤N∧i=.int .i64 j∧r=.slice q mm cp∧Hid (mm=(frN nr fr l j).length)∧Hid (wr.ownsRow v4.heap.size 74 3 (.slice q mm cp) mm (dT aF (frN nr fr l j)))∧Hid (Below v4.heap.size v4 wr)) (fun _ i _ _ _ _ _=>N - (intOf i).toNat)
   case atStart=>exact⟨0,0,none,0,Nat.zero_le _,rfl,rfl,rfl,HO0,Below.refl _ _⟩
   case round=>
    clear HO0
    obtain⟨j,mm,q,cp,hj,rfl,rfl,HM,HO,HBv⟩:=hrel
    have HIr:=hideS (HI.out.step HBv.out)
    by_cases hlt:j<N
    ·obtain rfl:=HIr.out.fl.at_ (by rw [HN.out];omega)
     obtain⟨c0,c1,c2⟩:=HIr.out.fl.cell j (by rw [HN.out];exact hlt)
     have HblL:=hideS (HIr.out.fl.lt (by rw [HN.out];omega))
     have HS:Hid (frN nr fr l (j+1)=if frB nr fr (l.getD j flw0)=true then frN nr fr l j++[l.getD j flw0] else frN nr fr l j):=rfl
     have HL:=hideS (sY nr fr l j)
     obtain⟨f,hf⟩:∃ f,l.getD j flw0=f:=⟨_,rfl⟩
     rw [hf] at HS c0 c1 c2
     clear hf
     obtain⟨qd,qa,qc⟩:=f
     dsimp only [aF] at *
     have HFc:Hid (∀ wx,Below v4.heap.size v4 wx→Calls Tryz.prog 34 #[.agg #[.int .i64 base,.int .i64 kind,.slice (some ⟨bd,od,none⟩) n cd,.slice pf m cf],.int .i64 qd] wx fun e w'=>e=.returned (.tuple #[.float .f64 (c.V qd),.int .i64 (c.E qd)])∧Below wx.heap.size wx w'):=fun wx hx=>by
      have:=eI c.base c.kind qd (c.E qd) (c.V qd) (some ⟨bd,od,none⟩) pf bd od cd b2 o2 cf c.ds c.fs wx (HI.out.step hx).src (gu c.base c.kind c.ds c.fs qd)
      rw [Hbase.out,Hkind.out,Hn.out,Hm.out] at this
      exact this
     have HFd:Hid (∀ wx,Below v4.heap.size v4 wx→Calls Tryz.prog 34 #[.agg #[.int .i64 db,.int .i64 dk,.slice apx dn acx,.slice apy dm acy],.int .i64 qd] wx fun e w'=>e=.returned (.tuple #[.float .f64 ((c.bump k h).V qd),.int .i64 (c.E qd)])∧Below wx.heap.size wx w'):=fun wx hx=>by
      have:=eI (c.bump k h).base (c.bump k h).kind qd ((c.bump k h).E qd) ((c.bump k h).V qd) apx apy agx 0 acx agy 0 acy (c.bump k h).ds (c.bump k h).fs wx (HI.out.step hx).dsrc (gu _ _ _ _ qd)
      rw [Hdb.out,Hdk.out,Hdn.out,Hdm.out,HEq.out] at this
      exact this
     have HFq:=hideS (HFar.out qd)
     obtain⟨Y,hY⟩:∃ Y,(c.bump k h).V qd=Y:=⟨_,rfl⟩
     rw [hY] at HFd HFq
     generalize c.V qd=X at *
     generalize c.E qd=EX at *
     have l1:(0:Int)≤(j:Int):=Int.natCast_nonneg _
     have l2:(j:Int)<(N:Int):=by omega
     have HC0:=hideS c0
     clear hY
     have HCel:Hid (∀ wx,Below v4.heap.size v4 wx→(wx.cell? ⟨w.heap.size,0,none⟩=some (.int .i64 base)∧wx.cell? ⟨w.heap.size,1,none⟩=some (.int .i64 kind)∧wx.cell? ⟨w.heap.size,2,none⟩=some (.slice (some ⟨bd,od,none⟩) n cd)∧wx.cell? ⟨w.heap.size,3,none⟩=some (.slice pf m cf)∧wx.cell? ⟨bl,ol+j*3,none⟩=some (.int .i64 qd))∧(wx.cell? ⟨w3.heap.size,0,none⟩=some (.int .i64 db)∧wx.cell? ⟨w3.heap.size,1,none⟩=some (.int .i64 dk)∧wx.cell? ⟨w3.heap.size,2,none⟩=some (.slice apx dn acx)∧wx.cell? ⟨w3.heap.size,3,none⟩=some (.slice apy dm acy)∧wx.cell? ⟨bl,ol+j*3,none⟩=some (.int .i64 qd))):=fun wx hx=>by
      obtain⟨⟨x0,x1,x2,x3⟩,x4,x5,x6,x7⟩:=HTt.out wx (HI.out.step hx)
      have hbv:bl<v4.heap.size:=HI.out.fl.lt (by rw [HN.out];omega)
      have x8:wx.cell? ⟨bl,ol+j*3,none⟩=some (.int .i64 qd):=(hx.cell (p:=⟨bl,ol+j*3,none⟩) hbv).trans (((HBv.out.cell (p:=⟨bl,ol+j*3,none⟩) hbv).symm).trans HC0.out)
      exact⟨⟨x0,x1,x2,x3,x8⟩,x4,x5,x6,x7,x8⟩
     by_cases h1:qd≤nr
     ·rw [if_pos (by unfold frB;simp [h1])] at HS
      have hbw:=(Below.refl wr.heap.size wr).alloc (Nat.le_refl _) (.cells #[.int .i64 qd,.float .f64 qa,.int .i64 qc] 74)
      have HO4:=hideS (bM HO.out hbw)
      have HFcl:=hideS (pg wr ⟨qd,qa,qc⟩)
      have HB4:=hideS (HBv.out.trans (hbw.mono HBv.out.size))
      have HLn:Hid ((frN nr fr l (j+1)).length=mm+1):=by show _=_;rw [HS.out,List.length_append,← HM.out];rfl
      clear hbw
      go_wp2_with (at_builtin;refine fE _ rfl (.tmp 98) (.tmp 103) rfl v4.heap.size (.slice q mm cp) mm (frN nr fr l j) rfl HO4.out HB4.out.size wr.heap.size ⟨qd,qa,qc⟩ rfl HFcl.out (by have:=HL.out;have:=HM.out;omega) ?_;intro v5 w5 ho5 hb5;rw [← HS.out] at ho5;have HB5:=hideS (HB4.out.trans hb5);obtain⟨q5,g5,k5,hv5,_,_,_,hm5⟩:=ow ho5 HLn.out;subst hv5;have HO5:=hideS ho5;clear ho5 hb5)
      clear c0 c1 c2
      have HC5:=hideS (HCel.out _ HB5.out)
      obtain⟨t0,t1,t2,t3,t4⟩:=HC5.out.1
      obtain⟨d0,d1,d2,d3',d4⟩:=HC5.out.2
      (skip)
      go_region_held3 (fun wx=>wx.cell? ⟨w.heap.size,0,none⟩=some (.int .i64 base)∧wx.cell? ⟨w.heap.size,1,none⟩=some (.int .i64 kind)∧wx.cell? ⟨w.heap.size,2,none⟩=some (.slice (some ⟨bd,od,none⟩) n cd)∧wx.cell? ⟨w.heap.size,3,none⟩=some (.slice pf m cf)∧wx.cell? ⟨bl,ol+j*3,none⟩=some (.int .i64 qd)) (first | go_keep | exact (HCel.out _ HB6.out).1) ((go_at_call 34;refine (HFc.out _ HB5.out.drew).mono ?_;rintro e w6 ⟨rfl,hb6⟩;have HB6:Hid (Below v4.heap.size v4 w6):=HB5.out.trans ((⟨hb6.os,hb6.tape,hb6.output,hb6.size,hb6.block⟩:Below w5.heap.size w5 w6).mono HB5.out.size);have HO6:=hideS (bM HO5.out (⟨hb6.os,hb6.tape,hb6.output,hb6.size,hb6.block⟩:Below w5.heap.size w5 w6));clear hb6))
      all_goals
       clear t0 t1 t2 t3 t4 d0 d1 d2 d3' d4 HC5
       obtain⟨d0,d1,d2,d3',d4⟩:=(HCel.out _ HB6.out).2
       go_wp2_with fail
       go_region_held3 (fun wx=>wx.cell? ⟨w3.heap.size,0,none⟩=some (.int .i64 db)∧wx.cell? ⟨w3.heap.size,1,none⟩=some (.int .i64 dk)∧wx.cell? ⟨w3.heap.size,2,none⟩=some (.slice apx dn acx)∧wx.cell? ⟨w3.heap.size,3,none⟩=some (.slice apy dm acy)∧wx.cell? ⟨bl,ol+j*3,none⟩=some (.int .i64 qd)) (first | go_keep | exact (HCel.out _ HB7.out).2) ((go_at_call 34;refine (HFd.out _ HB6.out.drew).mono ?_;rintro e w7 ⟨rfl,hb7⟩;have HB7:Hid (Below v4.heap.size v4 w7):=HB6.out.trans ((⟨hb7.os,hb7.tape,hb7.output,hb7.size,hb7.block⟩:Below w6.heap.size w6 w7).mono HB6.out.size);have HO7:=hideS (bM HO6.out (⟨hb7.os,hb7.tape,hb7.output,hb7.size,hb7.block⟩:Below w6.heap.size w6 w7));clear hb7))
       all_goals
        clear d0 d1 d2 d3' d4
        obtain⟨_,_,_,_,t4⟩:=(HCel.out _ HB7.out).1
        obtain rfl:=HFq.out (Or.inl h1)
        go_wp2_with (go_at_call 13;refine (turned (eM _ _)).mono ?_;rintro e w' ⟨rfl,rfl⟩)
        go_roundw
        case rel=>exact⟨j+1,mm+1,q5,k5,by omega,by simp,rfl,HLn.out.symm,HO7,HB7⟩
        case measure=>simp [intOf];omega
     ·by_cases h2:fr≤qd
      ·rw [if_pos (by unfold frB;simp [h2])] at HS
       have hbw:=(Below.refl wr.heap.size wr).alloc (Nat.le_refl _) (.cells #[.int .i64 qd,.float .f64 qa,.int .i64 qc] 74)
       have HO4:=hideS (bM HO.out hbw)
       have HFcl:=hideS (pg wr ⟨qd,qa,qc⟩)
       have HB4:=hideS (HBv.out.trans (hbw.mono HBv.out.size))
       have HLn:Hid ((frN nr fr l (j+1)).length=mm+1):=by show _=_;rw [HS.out,List.length_append,← HM.out];rfl
       clear hbw
       go_wp2_with (at_builtin;refine fE _ rfl (.tmp 98) (.tmp 103) rfl v4.heap.size (.slice q mm cp) mm (frN nr fr l j) rfl HO4.out HB4.out.size wr.heap.size ⟨qd,qa,qc⟩ rfl HFcl.out (by have:=HL.out;have:=HM.out;omega) ?_;intro v5 w5 ho5 hb5;rw [← HS.out] at ho5;have HB5:=hideS (HB4.out.trans hb5);obtain⟨q5,g5,k5,hv5,_,_,_,hm5⟩:=ow ho5 HLn.out;subst hv5;have HO5:=hideS ho5;clear ho5 hb5)
       clear c0 c1 c2
       have HC5:=hideS (HCel.out _ HB5.out)
       obtain⟨t0,t1,t2,t3,t4⟩:=HC5.out.1
       obtain⟨d0,d1,d2,d3',d4⟩:=HC5.out.2
       (skip)
       go_region_held3 (fun wx=>wx.cell? ⟨w.heap.size,0,none⟩=some (.int .i64 base)∧wx.cell? ⟨w.heap.size,1,none⟩=some (.int .i64 kind)∧wx.cell? ⟨w.heap.size,2,none⟩=some (.slice (some ⟨bd,od,none⟩) n cd)∧wx.cell? ⟨w.heap.size,3,none⟩=some (.slice pf m cf)∧wx.cell? ⟨bl,ol+j*3,none⟩=some (.int .i64 qd)) (first | go_keep | exact (HCel.out _ HB6.out).1) ((go_at_call 34;refine (HFc.out _ HB5.out.drew).mono ?_;rintro e w6 ⟨rfl,hb6⟩;have HB6:Hid (Below v4.heap.size v4 w6):=HB5.out.trans ((⟨hb6.os,hb6.tape,hb6.output,hb6.size,hb6.block⟩:Below w5.heap.size w5 w6).mono HB5.out.size);have HO6:=hideS (bM HO5.out (⟨hb6.os,hb6.tape,hb6.output,hb6.size,hb6.block⟩:Below w5.heap.size w5 w6));clear hb6))
       all_goals
        clear t0 t1 t2 t3 t4 d0 d1 d2 d3' d4 HC5
        obtain⟨d0,d1,d2,d3',d4⟩:=(HCel.out _ HB6.out).2
        go_wp2_with fail
        go_region_held3 (fun wx=>wx.cell? ⟨w3.heap.size,0,none⟩=some (.int .i64 db)∧wx.cell? ⟨w3.heap.size,1,none⟩=some (.int .i64 dk)∧wx.cell? ⟨w3.heap.size,2,none⟩=some (.slice apx dn acx)∧wx.cell? ⟨w3.heap.size,3,none⟩=some (.slice apy dm acy)∧wx.cell? ⟨bl,ol+j*3,none⟩=some (.int .i64 qd)) (first | go_keep | exact (HCel.out _ HB7.out).2) ((go_at_call 34;refine (HFd.out _ HB6.out.drew).mono ?_;rintro e w7 ⟨rfl,hb7⟩;have HB7:Hid (Below v4.heap.size v4 w7):=HB6.out.trans ((⟨hb7.os,hb7.tape,hb7.output,hb7.size,hb7.block⟩:Below w6.heap.size w6 w7).mono HB6.out.size);have HO7:=hideS (bM HO6.out (⟨hb7.os,hb7.tape,hb7.output,hb7.size,hb7.block⟩:Below w6.heap.size w6 w7));clear hb7))
        all_goals
         clear d0 d1 d2 d3' d4
         obtain⟨_,_,_,_,t4⟩:=(HCel.out _ HB7.out).1
         obtain rfl:=HFq.out (Or.inr h2)
         go_wp2_with (go_at_call 13;refine (turned (eM _ _)).mono ?_;rintro e w' ⟨rfl,rfl⟩)
         go_roundw
         case rel=>exact⟨j+1,mm+1,q5,k5,by omega,by simp,rfl,HLn.out.symm,HO7,HB7⟩
         case measure=>simp [intOf];omega
      ·rw [if_neg (by unfold frB;simp [h1,h2])] at HS
       have HMs:Hid (mm=(frN nr fr l (j+1)).length):=by show _=_;rw [HS.out];exact HM.out
       have HO5:Hid (wr.ownsRow v4.heap.size 74 3 (.slice q mm cp) mm (dT aF (frN nr fr l (j+1)))):=by show World.ownsRow _ _ _ _ _ _ _;rw [HS.out];exact HO.out
       have g20:decide (qd≤nr)=false:=decide_eq_false h1
       have g21:decide (fr≤qd)=false:=decide_eq_false h2
       clear h1 h2
       go_wp2_with fail
       clear c0 c1 c2
       have HC5:=hideS (HCel.out _ HBv.out)
       obtain⟨t0,t1,t2,t3,t4⟩:=HC5.out.1
       obtain⟨d0,d1,d2,d3',d4⟩:=HC5.out.2
       (skip)
       go_region_held3 (fun wx=>wx.cell? ⟨w.heap.size,0,none⟩=some (.int .i64 base)∧wx.cell? ⟨w.heap.size,1,none⟩=some (.int .i64 kind)∧wx.cell? ⟨w.heap.size,2,none⟩=some (.slice (some ⟨bd,od,none⟩) n cd)∧wx.cell? ⟨w.heap.size,3,none⟩=some (.slice pf m cf)∧wx.cell? ⟨bl,ol+j*3,none⟩=some (.int .i64 qd)) (first | go_keep | exact (HCel.out _ HB6.out).1) ((go_at_call 34;refine (HFc.out _ HBv.out.drew).mono ?_;rintro e w6 ⟨rfl,hb6⟩;have HB6:Hid (Below v4.heap.size v4 w6):=HBv.out.trans ((⟨hb6.os,hb6.tape,hb6.output,hb6.size,hb6.block⟩:Below wr.heap.size wr w6).mono HBv.out.size);have HO6:=hideS (bM HO5.out (⟨hb6.os,hb6.tape,hb6.output,hb6.size,hb6.block⟩:Below wr.heap.size wr w6));clear hb6))
       all_goals
        clear t0 t1 t2 t3 t4 d0 d1 d2 d3' d4 HC5
        obtain⟨d0,d1,d2,d3',d4⟩:=(HCel.out _ HB6.out).2
        go_wp2_with fail
        go_region_held3 (fun wx=>wx.cell? ⟨w3.heap.size,0,none⟩=some (.int .i64 db)∧wx.cell? ⟨w3.heap.size,1,none⟩=some (.int .i64 dk)∧wx.cell? ⟨w3.heap.size,2,none⟩=some (.slice apx dn acx)∧wx.cell? ⟨w3.heap.size,3,none⟩=some (.slice apy dm acy)∧wx.cell? ⟨bl,ol+j*3,none⟩=some (.int .i64 qd)) (first | go_keep | exact (HCel.out _ HB7.out).2) ((go_at_call 34;refine (HFd.out _ HB6.out.drew).mono ?_;rintro e w7 ⟨rfl,hb7⟩;have HB7:Hid (Below v4.heap.size v4 w7):=HB6.out.trans ((⟨hb7.os,hb7.tape,hb7.output,hb7.size,hb7.block⟩:Below w6.heap.size w6 w7).mono HB6.out.size);have HO7:=hideS (bM HO6.out (⟨hb7.os,hb7.tape,hb7.output,hb7.size,hb7.block⟩:Below w6.heap.size w6 w7));clear hb7))
        all_goals
         clear d0 d1 d2 d3' d4
         obtain⟨_,_,_,_,t4⟩:=(HCel.out _ HB7.out).1
         go_wp2_with fail
         go_roundw
         case rel=>exact⟨j+1,mm,q,cp,by omega,by simp,rfl,HMs,HO7,HB7⟩
         case measure=>simp [intOf];omega
    ·obtain rfl:j=N:=by omega
     obtain⟨q',g',c',hv',hsrc,_,_,_⟩:=ow HO.out HM.out.symm
     injection hv' with hv1 _ hv3
     subst hv1 hv3
     have HLc:=hideS (HLd.out mm cp g' q (frN nr fr l j) wr HIr.out.src hsrc HM.out.symm (by have:=sY nr fr l j;have:=HM.out;omega) (tc HFt.out j) (fun f hf=>HFar.out _ (by
      have:=sZ nr fr l j f hf
      unfold frB at this
      simpa using this)))
     obtain⟨⟨t0,t1,t2,t3⟩,_⟩:=HTt.out _ HIr.out
     have HBl:=hideS HIr.out.bl
     clear hsrc HO HM HBv
     go_wp2_with fail
     refine HLc.out.mono ?_
     rintro e wl ⟨ho,hbl⟩
     have HIl:=hideS (HIr.out.step hbl)
     obtain⟨⟨t0,t1,t2,t3⟩,_⟩:=HTt.out _ HIl.out
     clear hbl HLc HLd
     rcases ho with⟨EE,hEE,rfl⟩| ⟨g2,rfl,hc0⟩
     ·have dE:(EE !=0)=true:=bne_iff_ne.2 hEE
      clear hEE
      go_wp2_with fail
      refine (HAw.out _).mono ?_
      rintro e wm ⟨rfl,hbm⟩
      have HBm:=hideS (HIl.out.bl.trans (hbm.mono HIl.out.bl.size))
      clear hbm
      go_wp2_with fail
      go_ret
      exact⟨rfl,HBm.out⟩
     ·have hki':=Hki.out
      have g8:(0:Int)<(n:Int):=by omega
      first
      | (rw [hk0] at hc0
         clear hki'
         go_wp2_with (go_at_call 13;refine (turned (eM _ _)).mono ?_;rintro e w' ⟨rfl,rfl⟩))
      | (have g9:0≤ki:=by omega
         have g10:ki<(n:Int):=by omega
         have g11:ki.toNat=k:=by omega
         clear hki'
         go_wp2_with (go_at_call 13;refine (turned (eM _ _)).mono ?_;rintro e w' ⟨rfl,rfl⟩))
      refine (HAw.out _).mono ?_
      rintro e wm ⟨rfl,hbm⟩
      have HBm:=hideS (HIl.out.bl.trans (hbm.mono HIl.out.bl.size))
      clear hbm
      go_wp2_with fail
      go_ret
      exact⟨rfl,HBm.out⟩
 ·have dE:(E !=0)=true:=bne_iff_ne.2 hE
  have HBl:=hideS (HB4.out.bl)
  clear hE
  go_wp2_with fail
  refine (HAw.out _).mono ?_
  rintro e w6 ⟨rfl,hb6⟩
  have HB6:=hideS (HBl.out.trans (hb6.mono HBl.out.size))
  clear hb6
  go_wp2_with fail
  go_ret
  exact⟨rfl,HB6.out⟩
theorem te (pl:Option Addr) (bl ol cl:Nat) (l:List Flw) (cur:Int) (pd pf:Option Addr) (bd od cd b2 o2 cf:Nat) (c:Cv) (i:Int) (h:Nat) (w:World) (hl:JSrc aF w pl bl ol l) (hf:dw l) (_:l.length≤9223372036854775807) (_:CJ cur) (hs:TFl w pd pf bd od b2 o2 c.ds c.fs) (_:CJ i) (hh:h<18446744073709551616) :
  Calls Tryz.prog 8 #[.slice pl l.length cl,.int .i64 cur,.agg #[.int .i64 c.base,.int .i64 c.kind,.slice pd c.ds.length cd,.slice pf c.fs.length cf],.int .i64 i,.float .f64 h] w fun e w'=>e=.returned (.bool true)∧Below w.heap.size w w':=by
 by_cases hm:(l.length≤20∧c.ds.length≤8∧c.fs.length≤8)∧c.kind≠3∧0≤i∧i<(c.ds.length:Int)
 ·obtain⟨k,rfl⟩:∃ k:Nat,i=(k:Int):=⟨i.toNat,by omega⟩
  exact yT l cur c k h pl bl ol cl _ pd pf bd od cd b2 o2 cf w hl rfl hf hh hs hm.1 hm.2.1 (by omega)
 ·exact wH cur c.base c.kind i h pl pd pf _ cl _ cd _ cf w hm
end Go.Proofs.YtpddmnmhdahnlaaGreat
