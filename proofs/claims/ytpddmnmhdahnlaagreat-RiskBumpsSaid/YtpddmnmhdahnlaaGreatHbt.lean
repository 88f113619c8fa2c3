/-  -/
import Derived.Test.YtpddmnmhdahnlaaGreatHbr
import Derived.Test.YtpddmnmhdahnlaaGreatHbs
import Derived.Laws.EntriesVeiled
import Derived.Deep.RegionHeld3
import Derived.Test.YtpddmnmhdahnlaaGreatFnv
import Derived.Test.YtpddmnmhdahnlaaGreatHbo
import Derived.Test.YtpddmnmhdahnlaaGreatHar
import Derived.Test.YtpddmnmhdahnlaaGreatHbd
import Derived.Test.YtpddmnmhdahnlaaGreatHbe
import Derived.Test.YtpddmnmhdahnlaaGreatHbq
namespace Go.Proofs.YtpddmnmhdahnlaaGreat
open Go.RowKit

theorem Gh (n:Int) (w:World) :
  Calls Tryz.prog 159 #[.int .i64 n] w fun e w'=>e=.returned (.bool (decide (1≤n∧n≤8)))∧w'=w:=by
 by_cases h1:1≤n<;>by_cases h2:n≤8
 all_goals
  first | rw [decide_eq_true (⟨h1,h2⟩:1≤n∧n≤8)] | rw [decide_eq_false (fun h:1≤n∧n≤8=>by omega)]
  go_enter Tryz.func159,Tryz.ntmps159
  go_wp2
  go_ret
  exact⟨rfl,rfl⟩
set_option maxHeartbeats 800000 in
theorem Gi (x:Nat) (w:World) (hx:U64 x) :
  Calls Tryz.prog 112 #[.float .f64 x] w fun e w'=>e=.returned (.bool (aH x))∧w'=w:=by
 have H1:=hideS fun w=>aP x w hx
 cases hn:ag (x:Int)
 ·rw [hn] at H1
  have H2:=hideS fun w=>gD x _ w hx (ov hn)
  generalize aH x=b at *
  clear hn hx
  cases b
  all_goals
   go_enter Tryz.func112,Tryz.ntmps112
   go_wp2_with fail
   refine (H1.out _).mono ?_
   rintro e w' ⟨rfl,rfl⟩
   go_wp2_with fail
   refine (H2.out _).mono ?_
   rintro e w' ⟨rfl,rfl⟩
   go_wp2_with fail
   go_ret
   exact⟨rfl,rfl⟩
 ·rw [hn] at H1
  rw [mH hn]
  clear hn hx
  go_enter Tryz.func112,Tryz.ntmps112
  go_wp2_with fail
  refine (H1.out _).mono ?_
  rintro e w' ⟨rfl,rfl⟩
  go_wp2_with fail
  go_ret
  exact⟨rfl,rfl⟩
theorem wi (x:Nat) (w:World) (hx:U64 x) :
  Calls Tryz.prog 72 #[.float .f64 x] w fun e w'=>e=.returned (.tuple #[.float .f64 (mr x),.int .i64 (ms x)])∧w'=w:=by
 have HN:=hideS fun w=>Gi x w hx
 unfold mr ms
 cases hb:aH (x:Int)
 all_goals
  rw [hb] at HN
  clear hb hx
  simp only [Bool.false_eq_true,if_false,if_true]
  go_enter Tryz.func72,Tryz.ntmps72
  go_wp2_with (go_at_call 112;refine (HN.out _).mono ?_;rintro e w' ⟨rfl,rfl⟩)
  go_ret2
  exact⟨rfl,rfl⟩

structure TkC (fN:Nat) (fst cap:Array Value) (l:List Flw) (cur:Int) (c:Cv) (w0:World) (I:Nat→World→Prop) (Ow:World→Nat→Prop):Prop where
 call:∀ k wx,k<l.length→gH (l.getD k aO)=0→c.Ok→tkB cur c.base (l.getD k aO)=true→c.E (l.getD k aO).day=0→I k wx→Calls Tryz.prog fN (fst++(#[.float .f64 (l.getD k aO).am,.float .f64 (c.V (l.getD k aO).day)]++cap)) wx fun e w'=>e=.returned (.tuple #[])∧I (k+1) w'∧wx.heap.size≤w'.heap.size∧∀ x<wx.heap.size,¬ Ow wx x→w'.heap[x]? =wx.heap[x]? ∧¬ Ow w' x
 skip:∀ k wx,k<l.length→tkB cur c.base (l.getD k aO)=false→I k wx→I (k+1) wx
 stay:∀ k wx wy,I k wx→Below wx.heap.size wx wy→I k wy∧∀ x,Ow wy x→Ow wx x
 low:∀ k wx,I k wx→Below w0.heap.size w0 wx
 lt:∀ k wx x,I k wx→Ow wx x→x<wx.heap.size
structure BxK (w:World) (g:Nat) (base kind:Int) (vd vf:Value):Prop where
 blk:w.heap[g]? =some (.cells #[.int .i64 base,.int .i64 kind,vd,vf] 25)
theorem BxK.lt {w:World} {g:Nat} {base kind:Int} {vd vf:Value} (h:BxK w g base kind vd vf):g<w.heap.size:=(Array.getElem?_eq_some_iff.1 h.blk).1
theorem BxK.t {w:World} {g:Nat} {base kind:Int} {vd vf:Value} (h:BxK w g base kind vd vf):w.cell? ⟨g,0,none⟩=some (.int .i64 base)∧w.cell? ⟨g,1,none⟩=some (.int .i64 kind)∧w.cell? ⟨g,2,none⟩=some vd∧w.cell? ⟨g,3,none⟩=some vf:=by
 have hb:=h.blk
 exact⟨by simp [World.cell?,hb],by simp [World.cell?,hb],by simp [World.cell?,hb],by simp [World.cell?,hb]⟩
theorem BxK.step {w w':World} {g:Nat} {base kind:Int} {vd vf:Value} (h:BxK w g base kind vd vf) (hb:Below w.heap.size w w'):BxK w' g base kind vd vf:=⟨(hb.block g h.lt).trans h.blk⟩
theorem oU (w:World) (base kind:Int) (vd vf:Value):BxK (w.alloc (.cells #[.int .i64 base,.int .i64 kind,vd,vf] 25)) w.heap.size base kind vd vf:=⟨heap_alloc_new _ _⟩
theorem Gj {l:List Flw} (h:ChkF l 0 0):l.length≤4096∧∀ i<l.length,gH (l.getD i aO)=0:=by
 generalize hz:(0:Int)=z at h
 cases h with
 | fine hl h=>exact⟨hl,h⟩
 | bad hl k hk e he h0 h=>exact absurd hz.symm h0

set_option maxRecDepth 20000 in
set_option maxHeartbeats 6400000 in
theorem CD (fN:Nat) (fst cap:Array Value) (l:List Flw) (cur:Int) (c:Cv) (pl:Option Addr) (bl ol cl N:Nat) (pd pf:Option Addr) (bd od cd b2 o2 cf:Nat) (I:Nat→World→Prop) (Ow:World→Nat→Prop) (w0 w:World) (E:Int) (hE:VisR l cur c E) (hl:JSrc aF w0 pl bl ol l) (hN:l.length=N) (hNb:N≤9223372036854775807) (hf:gI l) (hs:TFl w0 pd pf bd od b2 o2 c.ds c.fs) (hen:∀ args w,(callFunc fN args).run Tryz.prog w=.ok (.enter fN args) w) (hT:TkC fN fst cap l cur c w0 I Ow) (hI:I 0 w) :
  Calls Tryz.prog 110 #[.slice pl N cl,.int .i64 cur,.agg #[.int .i64 c.base,.int .i64 c.kind,.slice pd c.ds.length cd,.slice pf c.fs.length cf],.func (.func fN) fst cap] w fun e w'=>e=.returned (.int .i64 E)∧∃ k,I k w'∧(E=0→k=N):=by
 obtain⟨E1,K1,h1⟩:=AB l
 obtain⟨E2,h2⟩:=ko c.base c.kind c.ds c.fs
 have HCk:=hideS fun wx (hb:Below w0.heap.size w0 wx)=>yG l pl bl ol cl N E1 K1 wx (hl.below hb) hN hNb hf h1
 have HCu:=hideS fun wx=>Gh cur wx
 have HCc:=hideS fun wx (hb:Below w0.heap.size w0 wx)=>cM c.base c.kind pd pf bd od cd b2 o2 cf c.ds c.fs wx (hs.below hb) h2
 have HFa:=hideS fun x wx (hb:Below w0.heap.size w0 wx)=>qu c.base c.kind x (c.E x) (c.V x) pd pf bd od cd b2 o2 cf c.ds c.fs wx (hs.below hb) (mL c.base c.kind c.ds c.fs x)
 have HK:=hideS (oU w c.base c.kind (.slice pd c.ds.length cd) (.slice pf c.fs.length cf))
 have H0:=hideS (hT.stay 0 w _ hI ((Below.refl _ _).alloc (Nat.le_refl _) (.cells #[.int .i64 c.base,.int .i64 c.kind,.slice pd c.ds.length cd,.slice pf c.fs.length cf] 25))).1
 have HO:Hid (¬ Ow (w.alloc (.cells #[.int .i64 c.base,.int .i64 c.kind,.slice pd c.ds.length cd,.slice pf c.fs.length cf] 25)) w.heap.size):=fun h=>Nat.lt_irrefl _ (hT.lt 0 w _ hI ((hT.stay 0 w _ hI ((Below.refl _ _).alloc (Nat.le_refl _) _)).2 _ h))
 have HE:=hideS hE
 have HT:=hideS hT
 have HQ:=hideS hl
 have HN:=hideS hN
 have HP:Hid (0<N→pl=some ⟨bl,ol,none⟩):=fun h=>hl.at_ (by omega)
 have H1:=hideS h1
 have H2:=hideS h2
 clear hE hT hl hN hf hs h1 h2 hI
 generalize hvd:Value.slice pd c.ds.length cd=vd at *
 generalize hvf:Value.slice pf c.fs.length cf=vf at *
 obtain⟨base,hbase⟩:∃ b,c.base=b:=⟨_,rfl⟩
 obtain⟨kind,hkind⟩:∃ b,c.kind=b:=⟨_,rfl⟩
 rw [hbase,hkind] at HCc HFa HK H0 HO ⊢
 have HBs:=hideS hbase
 clear hvd hvf hbase hkind
 obtain⟨w1,hw1⟩:∃ w1,w.alloc (.cells #[.int .i64 base,.int .i64 kind,vd,vf] 25)=w1:=⟨_,rfl⟩
 rw [hw1] at HK H0 HO
 obtain⟨g,hg⟩:∃ g,w.heap.size=g:=⟨_,rfl⟩
 rw [hg] at HK HO
 go_enter Tryz.func110,Tryz.ntmps110
 go_wp2_with fail
 clear hg hw1
 refine (HCk.out _ (HT.out.low _ _ H0.out)).mono ?_
 rintro e w2 ⟨rfl,hb2⟩
 have HK2:=hideS (HK.out.step hb2)
 have HO2:Hid (¬ Ow w2 g):=fun h=>HO.out ((HT.out.stay _ _ _ H0.out hb2).2 _ h)
 have HI2:=hideS (HT.out.stay _ _ _ H0.out hb2).1
 clear hb2 HK HO H0 HCk
 by_cases hE1:E1=0
 ·subst hE1
  have HKz:=hideS (rG H1.out)
  rw [HKz.out] at H1
  by_cases hc:1≤cur∧cur≤8
  ·rw [decide_eq_true hc] at HCu
   have HC8:=hideS hc
   clear hc
   obtain⟨t0,t1,t2,t3⟩:=HK2.out.t
   go_wp2_with (go_at_call 159;refine (HCu.out _).mono ?_;rintro e w' ⟨rfl,rfl⟩)
   refine (HCc.out _ (HT.out.low _ _ HI2.out)).mono ?_
   rintro e w3 ⟨rfl,hb3⟩
   have HK3:=hideS (HK2.out.step hb3)
   have HO3:Hid (¬ Ow w3 g):=fun h=>HO2.out ((HT.out.stay _ _ _ HI2.out hb3).2 _ h)
   have HI3:=hideS (HT.out.stay _ _ _ HI2.out hb3).1
   clear hb3 HK2 HO2 HI2 HCc HCu t0 t1 t2 t3
   by_cases hE2:E2=0
   ·subst hE2
    have HOk:=hideS (gF H2.out)
    have HFi:=hideS fun i (hi:i<N)=>(Gj H1.out).2 i (by rw [HN.out];exact hi)
    have HNs:=hideS (Gj H1.out).1
    go_wp2_with fail
    go_loopw [34] (fun i wr=>∃ k:Nat,k≤N∧i=.int .i64 k∧Hid (∀ j<k,tkB cur c.base (l.getD j aO)=true→c.E (l.getD j aO).day=0)∧Hid (I k wr∧BxK wr g base kind vd vf∧¬ Ow wr g)) (fun i _=>N - (intOf i).toNat)
    case atStart=>exact⟨0,Nat.zero_le _,rfl,fun j hj=>by omega,HI3.out,HK3.out,HO3.out⟩
    case round=>
     clear HI3 HK3 HO3
     obtain⟨k,hk,rfl,HFn,HR⟩:=hrel
     by_cases hlt:k<N
     ·obtain rfl:=HP.out (by omega)
      have HQr:=hideS (HQ.out.below (HT.out.low _ _ HR.out.1))
      obtain⟨c0,c1,c2⟩:=HQr.out.cell k (by rw [HN.out];exact hlt)
      have HQB:=hideS (vU wr (l.getD k aO))
      have HCl:=hideS (HT.out.call k)
      have HSk:=hideS (HT.out.skip k)
      obtain⟨⟨z0,z1,z2⟩,fz⟩:=lW wr
      have y0:=fz 0
      have y1:=fz 1
      have y2:=fz 2
      clear fz
      obtain⟨q,hq⟩:∃ q,l.getD k aO=q:=⟨_,rfl⟩
      have HBd:=hideS (HFi.out k hlt)
      rw [hq] at HCl HSk HQB c0 c1 c2 HBd
      have Hq:=hideS hq
      clear hq
      obtain⟨qd,qa,qc⟩:=q
      dsimp only [aF] at *
      obtain⟨w4,hw4⟩:∃ w4,wr.alloc du=w4:=⟨_,rfl⟩
      rw [hw4] at z0 z1 z2 y0 y1 y2 HQB
      unfold du at hw4
      obtain⟨w5,hw5⟩:∃ w5,Cu w4 wr.heap.size ⟨qd,qa,qc⟩=w5:=⟨_,rfl⟩
      rw [hw5] at HQB
      unfold Cu at hw5
      dsimp only at hw5
      have f0:=HQB.out.t0
      have f1:=HQB.out.t1
      have f2:=HQB.out.t2
      dsimp only at f0 f1 f2
      have hst:=rF
      have HK5:=hideS (HR.out.2.1.step HQB.out.bl)
      have HI5:=hideS (HT.out.stay _ _ _ HR.out.1 HQB.out.bl).1
      have HO5:Hid (¬ Ow w5 g):=fun h=>HR.out.2.2 ((HT.out.stay _ _ _ HR.out.1 HQB.out.bl).2 _ h)
      obtain⟨t0,t1,t2,t3⟩:=HK5.out.t
      have HTk:Hid (tkB cur c.base ⟨qd,qa,qc⟩=(decide (qc=cur)&&decide (base≤qd))):=by show _=_;unfold tkB;rw [HBs.out]
      rw [HTk.out] at HCl HSk
      clear HTk HQB HR HQr
      by_cases hcu:qc=cur
      ·subst hcu
       by_cases hda:qd<base
       ·have HI6:=hideS (HSk.out w5 (by rw [HN.out];exact hlt) (by simp;omega) HI5.out)
        have HFn2:Hid (∀ j<k+1,tkB qc c.base (l.getD j aO)=true→c.E (l.getD j aO).day=0):=fun j hj ht=>by
         by_cases d:j<k
         ·exact HFn.out j d ht
         ·obtain rfl:j=k:=by omega
          rw [Hq.out] at ht
          unfold tkB at ht
          rw [HBs.out] at ht
          simp at ht;omega
        have o1:(qc !=qc)=false:=by simp
        go_wp2_with fail
        clear hst hw4 hw5 z0 z1 z2 y0 y1 y2 f0 f1 f2 t0 t1 t2 t3
        go_roundw
        case rel=>exact⟨k+1,by omega,by simp,HFn2,HI6.out,HK5.out,HO5.out⟩
        case measure=>simp [intOf];omega
       ·have HFc:=hideS (HFa.out qd)
        obtain⟨FE,hFE⟩:∃ x,c.E qd=x:=⟨_,rfl⟩
        obtain⟨FV,hFV⟩:∃ x,c.V qd=x:=⟨_,rfl⟩
        rw [hFE,hFV] at HFc HCl
        have HFE:=hideS hFE
        clear hFE hFV
        have o1:(qc !=qc)=false:=by simp
        have o2:decide (qd<base)=false:=decide_eq_false hda
        have HTy:Hid (tkB qc c.base (l.getD k aO)=true):=by show _=_;rw [Hq.out];unfold tkB;rw [HBs.out];simp;omega
        have hlw:wr.heap.size<w5.heap.size:=World.block_lt_of_cell? _ _ f1
        by_cases hz:FE=0
        ·subst hz
         have HFn2:Hid (∀ j<k+1,tkB qc c.base (l.getD j aO)=true→c.E (l.getD j aO).day=0):=fun j hj ht=>by
          by_cases d:j<k
          ·exact HFn.out j d ht
          ·obtain rfl:j=k:=by omega
           rw [Hq.out];exact HFE.out
         go_wp2_with fail
         clear hst hw4 hw5 z0 z1 z2 y0 y1 y2 t0 t1 t2 t3
         refine (HFc.out _ (HT.out.low _ _ HI5.out)).mono ?_
         rintro e w6 ⟨rfl,hb6⟩
         have HK6:=hideS (HK5.out.step hb6)
         have HI6:=hideS (HT.out.stay _ _ _ HI5.out hb6).1
         have HO6:Hid (¬ Ow w6 g):=fun h=>HO5.out ((HT.out.stay _ _ _ HI5.out hb6).2 _ h)
         have g1:w6.cell? ⟨wr.heap.size,1,none⟩=some (.float .f64 qa):=(hb6.cell (p:=⟨wr.heap.size,1,none⟩) hlw).trans f1
         clear hb6 HK5 HI5 HO5 HFc f0 f1 f2 hlw
         go_wp2_with fail
         refine (HCl.out w6 (by rw [HN.out];exact hlt) HBd.out HOk.out (by simp;omega) trivial HI6.out).mono ?_
         rintro e w7 ⟨rfl,hi7,hs7,hk7⟩
         have HI7:=hideS hi7
         have HK7:Hid (BxK w7 g base kind vd vf):=⟨(hk7 g HK6.out.lt HO6.out).1.trans HK6.out.blk⟩
         have HO7:=hideS (hk7 g HK6.out.lt HO6.out).2
         clear hi7 hs7 hk7 g1 HK6 HI6 HO6
         go_wp2_with fail
         go_roundw
         case rel=>exact⟨k+1,by omega,by simp,HFn2,HI7.out,HK7.out,HO7.out⟩
         case measure=>simp [intOf];omega
        ·have HX:Hid (E=FE):=eC HE.out (.fac H1.out HC8.out HOk.out k (by rw [HN.out];exact hlt) HTy.out FE (by rw [Hq.out];exact HFE.out) hz HFn.out)
         have d1:(FE !=0)=true:=bne_iff_ne.2 hz
         clear hz
         go_wp2_with fail
         clear hst hw4 hw5 z0 z1 z2 y0 y1 y2 t0 t1 t2 t3
         refine (HFc.out _ (HT.out.low _ _ HI5.out)).mono ?_
         rintro e w6 ⟨rfl,hb6⟩
         have HI6:=hideS (HT.out.stay _ _ _ HI5.out hb6).1
         clear hb6 HK5 HI5 HO5 HFc f0 f1 f2 hlw
         go_wp2_with fail
         go_ret
         rw [HX.out]
         exact⟨rfl,k,HI6.out,fun h=>absurd h (bne_iff_ne.1 d1)⟩
      ·have o1:(qc !=cur)=true:=bne_iff_ne.2 hcu
       have HI6:=hideS (HSk.out w5 (by rw [HN.out];exact hlt) (by simp [hcu]) HI5.out)
       have HFn2:Hid (∀ j<k+1,tkB cur c.base (l.getD j aO)=true→c.E (l.getD j aO).day=0):=fun j hj ht=>by
        by_cases d:j<k
        ·exact HFn.out j d ht
        ·obtain rfl:j=k:=by omega
         rw [Hq.out] at ht
         unfold tkB at ht
         simp [hcu] at ht
       clear hcu
       go_wp2_with fail
       clear hst hw4 hw5 z0 z1 z2 y0 y1 y2 f0 f1 f2 t0 t1 t2 t3
       go_roundw
       case rel=>exact⟨k+1,by omega,by simp,HFn2,HI6.out,HK5.out,HO5.out⟩
       case measure=>simp [intOf];omega
     ·obtain rfl:k=N:=by omega
      have HX:Hid (E=0):=eC HE.out (.ok H1.out HC8.out HOk.out (fun i hi=>HFn.out i (by rw [HN.out] at hi;exact hi)))
      go_wp2_with fail
      go_ret
      rw [HX.out]
      exact⟨rfl,k,HR.out.1,fun _=>rfl⟩
   ·have HX:Hid (E=E2):=eC HE.out (.curve H1.out HC8.out E2 H2.out hE2)
    have d1:(E2 !=0)=true:=bne_iff_ne.2 hE2
    clear hE2
    go_wp2_with fail
    go_ret
    rw [HX.out]
    exact⟨rfl,0,HI3.out,fun h=>absurd h (bne_iff_ne.1 d1)⟩
  ·have HX:Hid (E=140):=eC HE.out (.cur H1.out hc)
   rw [decide_eq_false hc] at HCu
   clear hc
   go_wp2_with (go_at_call 159;refine (HCu.out _).mono ?_;rintro e w' ⟨rfl,rfl⟩)
   go_ret
   rw [HX.out]
   exact⟨rfl,0,HI2.out,fun h=>by cases h⟩
 ·have HX:Hid (E=E1):=eC HE.out (.flow E1 K1 H1.out hE1)
  have d1:(E1 !=0)=true:=bne_iff_ne.2 hE1
  clear hE1
  go_wp2_with fail
  go_ret
  rw [HX.out]
  exact⟨rfl,0,HI2.out,fun h=>absurd h (bne_iff_ne.1 d1)⟩
end Go.Proofs.YtpddmnmhdahnlaaGreat
namespace Go.Proofs.YtpddmnmhdahnlaaGreat
open Go.RowKit

theorem yL (args:Array Value) (w:World):(callFunc 111 args).run Tryz.prog w=.ok (.enter 111 args) w:=kp Tryz.func111 (by kernel_rfl) rfl args w
def Jz (w:World) (b:Nat) (cur:Int) (c:Cv) (l:List Flw) (k:Nat) (wx:World):Prop:=∃ v,A.Run w wx b v (70+k) ⟨0,wsI cur c (l.take k)⟩
def LB (b:Nat) (wx:World) (x:Nat):Prop:=x=b∨∃ v:Value,wx.cell? ⟨b,1,none⟩=some v∧v.ownBlock=some x
theorem ks {w:World} {B b L:Nat} {v:Value} {a:A.St} (h:A.AccAt w B b v L a) (x:Nat):LB b w x↔A.Ft b v x:=by
 constructor
 ·rintro (e | ⟨v',h1,h2⟩)
  ·exact Or.inl e
  ·rw [h.cell1] at h1
   injection h1 with h1
   subst h1
   exact Or.inr h2
 ·rintro (e | e)
  ·exact Or.inl e
  ·exact Or.inr ⟨v,h.cell1,e⟩
theorem JA {cur:Int} {c:Cv} {f:Flw} (h:tkB cur c.base f=true):ctI cur c f=prI c f:=by unfold ctI;rw [if_pos h]
theorem LC {cur:Int} {c:Cv} {f:Flw} (h:tkB cur c.base f=false):ctI cur c f=0:=by unfold ctI;rw [h];rfl
theorem Gk {a:A.St} (h:a.s=0) (N:Int):(⟨0,N⟩:A.St).merge a=⟨0,N+a.N⟩:=by
 obtain⟨s,M⟩:=a
 dsimp only at h
 subst h
 rfl
theorem Cv.splV {c:Cv} {x:Int} (ok:c.Ok) (hf:c.Fit) (h:c.E x=0):aS ((c.V x:Nat):Int)=true:=FR ok hf h
theorem LD {f:Flw} (h:gH f=0):aS (f.am:Int)=true:=Lx h
theorem JB {l:List Flw} {cur:Int} {c:Cv} {w:World} {b:Nat} (hn:l.length≤30000) (hf:gI l) (hv:c.Fit):TkC 111 #[.pointer (some ⟨b,0,none⟩)] #[] l cur c w (Jz w b cur c l) (LB b) where
 call:=fun k wx hk hb ok ht hE ⟨v,hr⟩=>by
  obtain⟨hV,_,_⟩:=Cv.num ok hv hE
  refine (A.uG w.heap.size b v (70+k) _ _ _ _ _ wx hr.acc hr.bl.size rfl (ah (hf k)) rfl (ah hV) (LD hb) (Cv.splV ok hv hE) (by omega)).mono ?_
  rintro e w' ⟨rfl,v',hd⟩
  refine⟨rfl,⟨v',?_⟩,hd.wrote.size,fun x hx hn=>?_⟩
  ·have:=hr.did hd
   have e1:max (70+k) 70+1=70+(k+1):=by omega
   rw [e1] at this
   have e2:(⟨0,wsI cur c (l.take k)⟩:A.St).merge (A.jc ((l.getD k aO).am:Int) (c.V (l.getD k aO).day:Int))=⟨0,wsI cur c (l.take (k+1))⟩:=by
    rw [vV hk,JA ht,Gk rfl];unfold prI;rfl
   rw [e2] at this
   exact this
  ·rw [ks hr.acc] at hn
   refine⟨hd.wrote.block x hx hn,fun h=>?_⟩
   rw [ks hd.acc] at h
   rcases h with h | h
   ·exact hn (Or.inl h)
   ·rcases hd.new x h with h2 | h2
    ·exact hn (Or.inr h2)
    ·omega
 skip:=fun k wx hk ht ⟨v,hr⟩=>⟨v,by
  have:=hr.mono (L':=70+(k+1)) (by omega)
  rw [vV hk,LC ht,Int.add_zero]
  exact this⟩
 stay:=fun k wx wy ⟨v,hr⟩ hb=>⟨⟨v,hr.acc.below hb,hr.bl.trans (hb.mono hr.bl.size)⟩,fun x h=>by
  rw [ks (hr.acc.below hb)] at h
  rw [ks hr.acc];exact h⟩
 low:=fun k wx ⟨v,hr⟩=>hr.bl
 lt:=fun k wx x ⟨v,hr⟩ h=>by
  rw [ks hr.acc] at h
  exact (hr.acc.base x h).2

structure OfP (l:List Flw) (cur:Int) (c:Cv) (N:Nat) (E:Int) (w:World) (e:Ending) (w':World):Prop where
 bad:E≠0→e=.returned (.tuple #[.pointer none,.int .i64 E])
 ok:E=0→∃ g,e=.returned (.tuple #[.pointer (some ⟨g,0,none⟩),.int .i64 0])∧WAt w' g (wsI cur c l) (70+N)
 bl:Below w.heap.size w w'
set_option maxRecDepth 20000 in
set_option maxHeartbeats 3200000 in
theorem Gl (l:List Flw) (cur:Int) (c:Cv) (pl:Option Addr) (bl ol cl N:Nat) (pd pf:Option Addr) (bd od cd b2 o2 cf:Nat) (w:World) (E:Int) (hE:VisR l cur c E) (hl:JSrc aF w pl bl ol l) (hN:l.length=N) (hNb:N≤30000) (hf:gI l) (hs:TFl w pd pf bd od b2 o2 c.ds c.fs) :
  Calls Tryz.prog 71 #[.slice pl N cl,.int .i64 cur,.agg #[.int .i64 c.base,.int .i64 c.kind,.slice pd c.ds.length cd,.slice pf c.fs.length cf]] w fun e w'=>OfP l cur c N E w e w':=by
 have HK:=hideS (bA w c.base c.kind (.slice pd c.ds.length cd) (.slice pf c.fs.length cf))
 have HN:=hideS fun wx (hb:Below w.heap.size w wx)=>A.sR wx w.heap.size hb.size
 have HV:=hideS fun b wx (hi:Jz w b cur c l 0 wx)=>CD 111 #[.pointer (some ⟨b,0,none⟩)] #[] l cur c pl bl ol cl N pd pf bd od cd b2 o2 cf (Jz w b cur c l) (LB b) w wx E hE hl hN (by omega) hf hs yL (JB (by omega) hf hs.f) hi
 have HNl:=hideS hN
 clear hE hl hN hf hs
 generalize Value.slice pd c.ds.length cd=vd at *
 generalize Value.slice pf c.fs.length cf=vf at *
 have hmk:=kq
 go_enter Tryz.func71,Tryz.ntmps71
 go_wp2_with fail
 refine (HN.out _ HK.out.bl).mono ?_
 rintro e w2 ⟨rfl,ha2,hb2⟩
 have HK2:=hideS (HK.out.step hb2)
 have HI:Hid (Jz w (w.alloc (.cells #[.int .i64 c.base,.int .i64 c.kind,vd,vf] 25)).heap.size cur c l 0 w2):=⟨_,ha2.mono (by omega),HK2.out.bl⟩
 clear ha2 hb2 HN HK
 obtain⟨b,hb⟩:∃ b,(w.alloc (.cells #[.int .i64 c.base,.int .i64 c.kind,vd,vf] 25)).heap.size=b:=⟨_,rfl⟩
 rw [hb] at HI ⊢
 clear hb
 have t0:=HK2.out.t0
 have t1:=HK2.out.t1
 have t2:=HK2.out.t2
 have t3:=HK2.out.t3
 go_wp2_with fail
 refine (HV.out b _ HI.out).mono ?_
 rintro e w3 ⟨rfl,k,hk,hz⟩
 obtain⟨v,hr⟩:=hk
 have HR:=hideS hr
 have HZ:=hideS hz
 clear hr hz HV t0 t1 t2 t3 hmk HK2 HI
 by_cases h0:E=0
 ·subst h0
  have HW:=hideS (Jy (LA (B':=0) HR.out.acc (fun _ _=>Nat.zero_le _)))
  have HB:=hideS (HR.out.bl.alloc HR.out.bl.size (.cells #[.pointer (some ⟨b,0,none⟩)] 119))
  go_wp2_with fail
  go_ret2
  refine⟨fun h=>absurd rfl h,fun _=>⟨_,rfl,?_⟩,HB.out⟩
  have e1:=HZ.out trivial
  have:=HW.out
  rw [e1,← HNl.out,List.take_length,HNl.out] at this
  exact this
 ·have d1:(E !=0)=true:=bne_iff_ne.2 h0
  have HE:=hideS h0
  clear h0
  go_wp2_with fail
  go_ret2
  exact⟨fun _=>rfl,fun h=>absurd h HE.out,HR.out.bl⟩
theorem JC (l:List Flw) (cur:Int) (c:Cv) (pl:Option Addr) (bl ol cl N:Nat) (pd pf:Option Addr) (bd od cd b2 o2 cf:Nat) (w:World) (E:Int) (hE:VisR l cur c E) (h0:E≠0) (hl:JSrc aF w pl bl ol l) (hN:l.length=N) (hNb:N≤30000) (hf:gI l) (hs:TFl w pd pf bd od b2 o2 c.ds c.fs) :
  Calls Tryz.prog 71 #[.slice pl N cl,.int .i64 cur,.agg #[.int .i64 c.base,.int .i64 c.kind,.slice pd c.ds.length cd,.slice pf c.fs.length cf]] w fun e w'=>e=.returned (.tuple #[.pointer none,.int .i64 E])∧Below w.heap.size w w':=
 (Gl l cur c pl bl ol cl N pd pf bd od cd b2 o2 cf w E hE hl hN hNb hf hs).mono fun _ _ h=>⟨h.bad h0,h.bl⟩
theorem LE (l:List Flw) (cur:Int) (c:Cv) (pl:Option Addr) (bl ol cl N:Nat) (pd pf:Option Addr) (bd od cd b2 o2 cf:Nat) (w:World) (h0:FineP l cur c) (hl:JSrc aF w pl bl ol l) (hN:l.length=N) (hf:gI l) (hs:TFl w pd pf bd od b2 o2 c.ds c.fs) :
  Calls Tryz.prog 71 #[.slice pl N cl,.int .i64 cur,.agg #[.int .i64 c.base,.int .i64 c.kind,.slice pd c.ds.length cd,.slice pf c.fs.length cf]] w fun e w'=>∃ g,e=.returned (.tuple #[.pointer (some ⟨g,0,none⟩),.int .i64 0])∧WAt w' g (wsI cur c l) (70+N)∧Below w.heap.size w w':=
 (Gl l cur c pl bl ol cl N pd pf bd od cd b2 o2 cf w 0 (rL h0) hl hN (by have:=h0.len;omega) hf hs).mono fun _ _ h=>by
  obtain⟨g,e,h'⟩:=h.ok rfl
  exact⟨g,e,h',h.bl⟩
noncomputable def yM (l:List Flw) (cur:Int) (c:Cv):Nat:=mr (iV (wsI cur c l))
noncomputable def yN (l:List Flw) (cur:Int) (c:Cv):Int:=ms (iV (wsI cur c l))
theorem AD (N:Int):iV N<18446744073709551616:=by
 unfold iV aC
 have:=hH N.natAbs (-2148)
 split
 ·omega
 ·split<;>omega
set_option maxRecDepth 20000 in
set_option maxHeartbeats 3200000 in
theorem Gm (l:List Flw) (cur:Int) (c:Cv) (pl:Option Addr) (bl ol cl N:Nat) (pd pf:Option Addr) (bd od cd b2 o2 cf:Nat) (w:World) (E:Int) (hE:VisR l cur c E) (h0:E≠0) (hl:JSrc aF w pl bl ol l) (hN:l.length=N) (hNb:N≤30000) (hf:gI l) (hs:TFl w pd pf bd od b2 o2 c.ds c.fs) :
  Calls Tryz.prog 32 #[.slice pl N cl,.int .i64 cur,.agg #[.int .i64 c.base,.int .i64 c.kind,.slice pd c.ds.length cd,.slice pf c.fs.length cf]] w fun e w'=>e=.returned (.tuple #[.float .f64 0,.int .i64 E])∧Below w.heap.size w w':=by
 have HK:=hideS (bA w c.base c.kind (.slice pd c.ds.length cd) (.slice pf c.fs.length cf))
 have HO:=hideS fun wx (hb:Below w.heap.size w wx)=>JC l cur c pl bl ol cl N pd pf bd od cd b2 o2 cf wx E hE h0 (hl.below hb) hN hNb hf (hs.below hb)
 clear hE hl hN hf hs
 generalize Value.slice pd c.ds.length cd=vd at *
 generalize Value.slice pf c.fs.length cf=vf at *
 have d1:(E !=0)=true:=bne_iff_ne.2 h0
 clear h0
 go_enter Tryz.func32,Tryz.ntmps32
 go_wp2_with fail
 refine (HO.out _ HK.out.bl).mono ?_
 rintro e w2 ⟨rfl,hb2⟩
 have HK2:=hideS (HK.out.step hb2)
 clear hb2 HK HO
 go_wp2_with fail
 go_ret2
 exact⟨rfl,HK2.out.bl⟩
set_option maxRecDepth 20000 in
set_option maxHeartbeats 3200000 in
theorem JD (l:List Flw) (cur:Int) (c:Cv) (pl:Option Addr) (bl ol cl N:Nat) (pd pf:Option Addr) (bd od cd b2 o2 cf:Nat) (w:World) (h0:FineP l cur c) (hl:JSrc aF w pl bl ol l) (hN:l.length=N) (hf:gI l) (hs:TFl w pd pf bd od b2 o2 c.ds c.fs) :
  Calls Tryz.prog 32 #[.slice pl N cl,.int .i64 cur,.agg #[.int .i64 c.base,.int .i64 c.kind,.slice pd c.ds.length cd,.slice pf c.fs.length cf]] w fun e w'=>e=.returned (.tuple #[.float .f64 (yM l cur c),.int .i64 (yN l cur c)])∧Below w.heap.size w w':=by
 have HK:=hideS (bA w c.base c.kind (.slice pd c.ds.length cd) (.slice pf c.fs.length cf))
 have HO:=hideS fun wx (hb:Below w.heap.size w wx)=>LE l cur c pl bl ol cl N pd pf bd od cd b2 o2 cf wx h0 (hl.below hb) hN hf (hs.below hb)
 have HNu:=hideS fun wx=>wi (iV (wsI cur c l)) wx (ah (AD _))
 have HL:Hid (N≤4096):=by show _≤_;have:=h0.len;omega
 unfold yM yN
 clear h0 hl hN hf hs
 generalize wsI cur c l=S at *
 obtain⟨x,hx⟩:∃ x,iV S=x:=⟨_,rfl⟩
 have HX:=hideS hx
 rw [hx] at HNu ⊢
 clear hx
 generalize Value.slice pd c.ds.length cd=vd at *
 generalize Value.slice pf c.fs.length cf=vf at *
 go_enter Tryz.func32,Tryz.ntmps32
 go_wp2_with fail
 refine (HO.out _ HK.out.bl).mono ?_
 rintro e w2 ⟨g,rfl,hw,hb2⟩
 have HK2:=hideS (HK.out.step hb2)
 obtain⟨b,v,c0,ha⟩:=hw.at_
 have HVa:=hideS (WAt.value ha (by have:=HL.out;omega))
 rw [HX.out] at HVa
 clear hb2 HK HO hw ha
 go_wp2_with fail
 refine HVa.out.mono ?_
 rintro e w3 ⟨rfl,hb3⟩
 have HK3:=hideS (HK2.out.step hb3)
 clear hb3 HK2 HVa c0
 go_wp2_with (go_at_call 72;refine (HNu.out _).mono ?_;rintro e w' ⟨rfl,rfl⟩)
 go_ret2
 exact⟨rfl,HK3.out.bl⟩
inductive PreR (l:List Flw) (cur:Int) (c:Cv):Nat→Int→Prop
 | bad (E:Int) (h:VisR l cur c E) (hE:E≠0):PreR l cur c 0 E
 | ok (h:FineP l cur c):PreR l cur c (yM l cur c) (yN l cur c)
theorem tv (l:List Flw) (cur:Int) (c:Cv):∃ V E,PreR l cur c V E:=by
 obtain⟨E,h⟩:=Jv l cur c
 by_cases h0:E=0
 ·subst h0;exact⟨_,_,.ok (rK h)⟩
 ·exact⟨0,E,.bad E h h0⟩
theorem oV (l:List Flw) (cur:Int) (c:Cv) (pl:Option Addr) (bl ol cl N:Nat) (pd pf:Option Addr) (bd od cd b2 o2 cf:Nat) (w:World) (V:Nat) (E:Int) (h:PreR l cur c V E) (hl:JSrc aF w pl bl ol l) (hN:l.length=N) (hNb:N≤30000) (hf:gI l) (hs:TFl w pd pf bd od b2 o2 c.ds c.fs) :
  Calls Tryz.prog 32 #[.slice pl N cl,.int .i64 cur,.agg #[.int .i64 c.base,.int .i64 c.kind,.slice pd c.ds.length cd,.slice pf c.fs.length cf]] w fun e w'=>e=.returned (.tuple #[.float .f64 V,.int .i64 E])∧Below w.heap.size w w':=by
 cases h with
 | bad E h hE=>exact Gm l cur c pl bl ol cl N pd pf bd od cd b2 o2 cf w E h hE hl hN hNb hf hs
 | ok h=>exact JD l cur c pl bl ol cl N pd pf bd od cd b2 o2 cf w h hl hN hf hs
theorem CF {l:List Flw} {cur:Int} {c:Cv} {V:Nat} (h:PreR l cur c V 0):FineP l cur c∧V=iV (wsI cur c l)∧aH (V:Nat)=true:=by
 generalize hz:(0:Int)=z at h
 cases h with
 | bad E h hE=>exact absurd hz.symm hE
 | ok h=>
  refine⟨h,?_⟩
  unfold yN ms at hz
  unfold yM mr
  cases hb:aH (iV (wsI cur c l):Int)
  ·rw [hb] at hz;cases hz
  ·rw [if_pos rfl];exact⟨rfl,hb⟩
theorem rN {l:List Flw} {cur:Int} {c:Cv} {V:Nat} {E:Int} (h:PreR l cur c V E) (hf:FineP l cur c):V=yM l cur c∧E=yN l cur c:=by
 cases h with
 | bad E h hE=>exact absurd ((rM h).2 hf) hE
 | ok h=>exact⟨rfl,rfl⟩
structure TwoB (w:World) (a p:Int) (vd vf:Value) (b q:Int) (ud uf:Value) (wr:World):Prop where
 k1:BxK wr w.heap.size a p vd vf
 k2:BxK wr (w.heap.size+1) b q ud uf
 bl:Below w.heap.size w wr
theorem TwoB.step {w wr w':World} {a p b q:Int} {vd vf ud uf:Value} (h:TwoB w a p vd vf b q ud uf wr) (hb:Below wr.heap.size wr w'):TwoB w a p vd vf b q ud uf w':=⟨h.k1.step hb,h.k2.step hb,h.bl.trans (hb.mono h.bl.size)⟩
theorem BxK.drewN {w:World} {g:Nat} {base kind:Int} {vd vf:Value} (h:BxK w g base kind vd vf) (m:Nat):BxK (w.drewN m) g base kind vd vf:=⟨h.blk⟩
theorem TwoB.drewN {w wr:World} {a p b q:Int} {vd vf ud uf:Value} (h:TwoB w a p vd vf b q ud uf wr) (m:Nat):TwoB w a p vd vf b q ud uf (wr.drewN m):=⟨h.k1.drewN m,h.k2.drewN m,⟨h.bl.os,h.bl.tape,h.bl.output,h.bl.size,h.bl.block⟩⟩
end Go.Proofs.YtpddmnmhdahnlaaGreat
namespace Go.Proofs.YtpddmnmhdahnlaaGreat
open Go.RowKit

theorem bJ {x:Nat} (h:aH (x:Int)=true):af x:=by
 unfold aH at h
 rw [decide_eq_true_eq] at h
 unfold szI at h
 unfold af
 omega
end Go.Proofs.YtpddmnmhdahnlaaGreat
namespace Go.Proofs.YtpddmnmhdahnlaaGreat
open Go.RowKit

def rkT (base d:Int):Nat:=yW (d - base) 365
theorem Kc (base d:Int):iv (fun _=>false) 2 base d=d - base:=by
 unfold iv gS
 split<;>simp<;>omega
theorem mQ {base d:Int} (h0:base<d) (h1:d - base≤109572):af (rkT base d)∧rkT base d<18446744073709551616:=by
 have hn:¬ d - base=0:=by omega
 have hd:decide (d - base<0)=false:=decide_eq_false (by omega)
 have:=CJ (X:=(d - base).natAbs) (Y:=(365:Int).natAbs) (by omega)
 unfold rkT yW
 rw [if_neg hn,hd]
 unfold wrd af
 rw [if_neg (by decide)]
 exact⟨by omega,by omega⟩
noncomputable def rkX (base d:Int) (h:Nat):Nat:=(Lk (Ll (opO .mul (some h) (some (rkT base d))))).getD 0
theorem zc {base d:Int} {h:Nat} (hn:af h) (ht:af (rkT base d)):∃ m,floatBits .mul .f64 h (rkT base d)=some m∧m<18446744073709551616∧li (flipN m)=some (rkX base d h)∧rkX base d h≤9218868437227405312:=by
 obtain⟨m,hm,k⟩:=ie hn ht
 have e:opO .mul (some h) (some (rkT base d))=some m:=hm
 obtain⟨y,hy,hy2⟩:=(bY (bS k.2.1).1).num (by rw [Fq k.2.1];exact k.2.2)
 have e2:Lk (Ll (opO .mul (some h) (some (rkT base d))))=some y:=by rw [e];exact hy
 refine⟨m,hm,k.2.1,?_,?_⟩
 ·unfold rkX;rw [e2];exact hy
 ·unfold rkX;rw [e2];exact hy2
noncomputable def rkF (base d:Int) (f h:Nat):Nat:=(floatBits .mul .f64 f (rkX base d h)).getD 0
theorem pB {f:Nat} (hn:af f) (hl:f<18446744073709551616) (h0:0<aa (f:Nat)):sB f=false∧f % 9223372036854775808≠0:=by
 rcases vI_rank hl hn with⟨_,_,c⟩| ⟨a,_,_⟩
 ·have hs:f<9223372036854775808:=by
   apply Nat.lt_of_not_le
   intro hge
   have:aa (f:Nat)≤0:=by
    unfold aa szI
    split
    ·omega
    ·rw [if_pos (by unfold sgB;rw [decide_eq_true_eq];omega)];omega
   omega
  refine⟨?_,by omega⟩
  unfold sB
  rw [Nat.div_eq_of_lt hs];rfl
 ·omega
theorem LO {base d:Int} {f h:Nat} (hn:af f) (hl:f<18446744073709551616) (h0:0<aa (f:Nat)) (hx:rkX base d h≤9218868437227405312):floatBits .mul .f64 f (rkX base d h)=some (rkF base d f h)∧rkF base d f h<18446744073709551616∧ag (rkF base d f h:Nat)=false∧0≤aa (rkF base d f h:Nat):=by
 have key:∃ r,floatBits .mul .f64 f (rkX base d h)=some r∧r<18446744073709551616∧ag (r:Nat)=false∧0≤aa (r:Nat):=by
  obtain⟨s0,z0⟩:=pB hn hl h0
  rcases Nat.lt_or_eq_of_le hx with hx | hx
  ·have hxn:af (rkX base d h):=by unfold af;omega
   obtain⟨r,e,k⟩:=ie hn hxn
   refine⟨r,e,k.2.1,k.2.2,?_⟩
   rw [k.1]
   have v1:0≤vI f:=by
    rw [jd,s0];exact Int.natCast_nonneg _
   have v2:0≤vI (rkX base d h):=by
    have:sB (rkX base d h)=false:=by unfold sB;rw [Nat.div_eq_of_lt (by omega)];rfl
    rw [jd,this];exact Int.natCast_nonneg _
   have:=dt (-2148) (Int.mul_nonneg v1 v2)
   exact this
  ·rw [hx]
   have:=(eL (x:=9218868437227405312) (by decide) hn z0).2
   rw [s0,show sB 9218868437227405312=false by decide] at this
   exact⟨_,this,by decide,by decide,by decide⟩
 obtain⟨r,e,k⟩:=key
 unfold rkF
 rw [e];exact⟨rfl,k⟩
def rkB (u:Nat):Bool:=aH (u:Int)&&decide (0<aa (u:Int))
noncomputable def Cv.bm (c:Cv) (k h:Nat):Nat:=rkF c.base (c.ds.getD k 0) (c.fs.getD k 0) h
noncomputable def bmB (c:Cv) (k h:Nat):Bool:=aH (h:Int)&&rkB (c.bm k h)
noncomputable def bmV (c:Cv) (k h:Nat):Nat:=if bmB c k h=true then c.bm k h else 0
noncomputable def bmE (c:Cv) (k h:Nat):Int:=if bmB c k h=true then 0 else 91
theorem Cv.Ok.day {c:Cv} (ok:c.Ok) {k:Nat} (hk:k<c.ds.length):c.base<c.ds.getD k 0∧c.ds.getD k 0≤109572:=by
 have b:=OkV.pos ok k (by omega)
 obtain⟨a1,a2,_⟩:=bN (ok.node k hk)
 have:∀ j≤c.ds.length,c.base≤cK c.base c.ds j:=fun j hj=>by
  induction j with
  | zero=>exact Int.le_refl _
  | succ j ih=>
   have:=(bN (ok.node j (by omega))).1
   have:=ih (by omega)
   show c.base≤c.ds.getD j 0
   omega
 have:=this k (by omega)
 exact⟨by omega,a2⟩
theorem Cv.Ok.fac {c:Cv} (ok:c.Ok) {k:Nat} (hk:k<c.ds.length):af (c.fs.getD k 0)∧0<aa (c.fs.getD k 0:Nat):=by
 obtain⟨_,_,a3,a4⟩:=bN (ok.node k hk)
 refine⟨bJ a3,?_⟩
 have:=il ok (k+1) hk
 exact this.1
theorem rX {c:Cv} {k h:Nat} (ok:c.Ok) (hv:c.Fit) (hk:k<c.ds.length) (hh:af h):rkX c.base (c.ds.getD k 0) h≤9218868437227405312∧floatBits .mul .f64 (c.fs.getD k 0) (rkX c.base (c.ds.getD k 0) h)=some (c.bm k h)∧c.bm k h<18446744073709551616∧ag (c.bm k h:Nat)=false∧0≤aa (c.bm k h:Nat):=by
 obtain⟨d0,d1⟩:=ok.day hk
 have b0:=ok.b0
 obtain⟨t0,t1⟩:=mQ d0 (by omega)
 obtain⟨m,_,_,_,hx⟩:=zc (base:=c.base) (d:=c.ds.getD k 0) hh t0
 obtain⟨f0,f1⟩:=ok.fac hk
 exact⟨hx,LO f0 (hv k (by rw [ok.len];exact hk)) f1 hx⟩
theorem GV {base kind:Int} {ds:List Int} {fs gs:List Nat} (ok:OkV base kind ds fs) (hl:gs.length=ds.length) (hg:∀ i<ds.length,rkB (gs.getD i 0)=true):OkV base kind ds gs:=by
 refine⟨ok.b0,ok.b1,ok.k1,ok.k4,ok.lo,ok.hi,hl,fun i hi=>?_⟩
 obtain⟨a,b,_,_⟩:=bN (ok.node i hi)
 have:=hg i hi
 unfold rkB at this
 rw [Bool.and_eq_true,decide_eq_true_eq] at this
 have hn:=gv (bJ this.1)
 have hlt:ltB 0 (gs.getD i 0:Nat)=true:=by
  rw [ax (by decide) hn,decide_eq_true_eq]
  rw [show aa 0=0 by decide];exact this.2
 unfold jv
 rw [this.1,hlt,decide_eq_false (show ¬ ds.getD i 0≤cK base ds i by omega),decide_eq_false (show ¬ 109572<ds.getD i 0 by omega)]
 rfl
theorem Cv.Ok.rkB {c:Cv} (ok:c.Ok) {k:Nat} (hk:k<c.ds.length):rkB (c.fs.getD k 0)=true:=by
 obtain⟨_,_,a3,_⟩:=bN (ok.node k hk)
 unfold Go.Proofs.YtpddmnmhdahnlaaGreat.rkB
 rw [a3,decide_eq_true (ok.fac hk).2];rfl
noncomputable def Cv.bump (c:Cv) (k h:Nat):Cv:=⟨c.base,c.kind,c.ds,c.fs.set k (c.bm k h)⟩
noncomputable def Cv.parL (c:Cv) (h:Nat):Nat→List Nat
 | 0=>c.fs
 | k+1=>(c.parL h k).set k (c.bm k h)
noncomputable def Cv.para (c:Cv) (h:Nat):Cv:=⟨c.base,c.kind,c.ds,c.parL h c.ds.length⟩
theorem dw (c:Cv) (h:Nat):∀ k,(c.parL h k).length=c.fs.length
 | 0=>rfl
 | k+1=>by rw [Cv.parL,List.length_set,dw c h k]
theorem getD_set {l:List Nat} {k j u:Nat} (hk:k<l.length):(l.set k u).getD j 0=if j=k then u else l.getD j 0:=by
 rw [List.getD_eq_getElem?_getD,List.getD_eq_getElem?_getD,List.getElem?_set]
 by_cases h:k=j
 ·subst h;simp [hk]
 ·rw [if_neg h,if_neg (fun e=>h e.symm)]
theorem kE (c:Cv) (h:Nat):∀ k,k≤c.fs.length→∀ j,(c.parL h k).getD j 0=if j<k then c.bm j h else c.fs.getD j 0
 | 0,_,j=>by rw [if_neg (by omega)];rfl
 | k+1,hk,j=>by
  rw [Cv.parL,getD_set (by rw [dw];omega),kE c h k (by omega) j]
  by_cases e:j=k
  ·subst e;rw [if_pos rfl,if_pos (by omega)]
  ·rw [if_neg e]
   by_cases d:j<k
   ·rw [if_pos d,if_pos (by omega)]
   ·rw [if_neg d,if_neg (by omega)]
theorem kF {c:Cv} {k h:Nat} (hk:k<c.fs.length) (j:Nat):(c.bump k h).fs.getD j 0=if j=k then c.bm k h else c.fs.getD j 0:=getD_set hk
def cv0:Cv:=⟨0,0,[],[]⟩
inductive BmpR (c:Cv) (i:Int) (h:Nat):Cv→Int→Prop
 | chk (E:Int) (hC:c.Chk E) (hE:E≠0):BmpR c i h cv0 E
 | arg (ok:c.Ok) (hi:¬ (0≤i∧i<(c.ds.length:Int))):BmpR c i h cv0 1
 | val (ok:c.Ok) (k:Nat) (hk:k<c.ds.length) (e:i=(k:Int)) (hb:bmB c k h=false):BmpR c i h cv0 91
 | ok (ok:c.Ok) (k:Nat) (hk:k<c.ds.length) (e:i=(k:Int)) (hb:bmB c k h=true):BmpR c i h (c.bump k h) 0
theorem Kd (c:Cv) (i:Int) (h:Nat):∃ d E,BmpR c i h d E:=by
 obtain⟨E,hE⟩:=ko c.base c.kind c.ds c.fs
 by_cases hz:E=0
 ·subst hz
  have ok:c.Ok:=gF hE
  by_cases hi:0≤i∧i<(c.ds.length:Int)
  ·cases hb:bmB c i.toNat h
   ·exact⟨_,_,.val ok i.toNat (by omega) (by omega) hb⟩
   ·exact⟨_,_,.ok ok i.toNat (by omega) (by omega) hb⟩
  ·exact⟨_,_,.arg ok hi⟩
 ·exact⟨_,_,.chk E hE hz⟩
inductive ParR (c:Cv) (h:Nat):Cv→Int→Prop
 | chk (E:Int) (hC:c.Chk E) (hE:E≠0):ParR c h cv0 E
 | val (ok:c.Ok) (k:Nat) (hk:k<c.ds.length) (hb:bmB c k h=false) (fine:∀ j<k,bmB c j h=true):ParR c h cv0 91
 | ok (ok:c.Ok) (hb:∀ k<c.ds.length,bmB c k h=true):ParR c h (c.para h) 0
theorem Ke (c:Cv) (h:Nat):∃ d E,ParR c h d E:=by
 obtain⟨E,hE⟩:=ko c.base c.kind c.ds c.fs
 by_cases hz:E=0
 ·subst hz
  have ok:c.Ok:=gF hE
  obtain⟨K,hK,h1,h2⟩:=fG (p:=fun k=>!bmB c k h) c.ds.length
  by_cases hk:K<c.ds.length
  ·exact⟨_,_,.val ok K hk (by have:=h2 hk;simpa using this) (fun j hj=>by have:=h1 j hj;simpa using this)⟩
  ·exact⟨_,_,.ok ok (fun k hk'=>by have:=h1 k (by omega);simpa using this)⟩
 ·exact⟨_,_,.chk E hE hz⟩
theorem pC {c:Cv} {k h:Nat} (hb:bmB c k h=true):rkB (c.bm k h)=true∧aH (h:Int)=true:=by
 unfold bmB at hb
 have:=Bool.and_eq_true_iff.1 hb
 exact⟨this.2,this.1⟩
theorem tC {c:Cv} {k h:Nat} (ok:c.Ok) (hk:k<c.ds.length) (hb:bmB c k h=true):(c.bump k h).Ok:=
 GV ok (by show (c.fs.set k _).length=_;rw [List.length_set];exact ok.len) fun i hi=>by
  show rkB ((c.bump k h).fs.getD i 0)=true
  rw [kF (by rw [ok.len];exact hk)]
  split
  ·exact (pC hb).1
  ·exact ok.rkB hi
theorem AF {c:Cv} {h:Nat} (ok:c.Ok) (hb:∀ k<c.ds.length,bmB c k h=true):(c.para h).Ok:=
 GV ok (by show (c.parL h c.ds.length).length=_;rw [dw];exact ok.len) fun i hi=>by
  show rkB ((c.parL h c.ds.length).getD i 0)=true
  rw [kE c h _ (by rw [ok.len];exact Nat.le_refl _),if_pos (show i<c.ds.length from hi)]
  exact (pC (hb i hi)).1
theorem GW {c:Cv} {k h:Nat} (ok:c.Ok) (hv:c.Fit) (hk:k<c.ds.length) (hb:bmB c k h=true):(c.bump k h).Fit:=fun i hi=>by
 rw [kF (by rw [ok.len];exact hk)]
 split
 ·exact (rX ok hv hk (bJ (pC hb).2)).2.2.1
 ·exact hv i (by have:(c.fs.set k (c.bm k h)).length=c.fs.length:=List.length_set;rw [← this];exact hi)
theorem GX {c:Cv} {h:Nat} (ok:c.Ok) (hv:c.Fit) (hb:∀ k<c.ds.length,bmB c k h=true):(c.para h).Fit:=fun i hi=>by
 have hi2:i<c.ds.length:=by
  have:(c.parL h c.ds.length).length=c.fs.length:=dw _ _ _
  have h3:i<(c.parL h c.ds.length).length:=hi
  rw [this,ok.len] at h3;exact h3
 show (c.parL h c.ds.length).getD i 0<_
 rw [kE c h _ (by rw [ok.len];exact Nat.le_refl _),if_pos hi2]
 exact (rX ok hv hi2 (bJ (pC (hb i hi2)).2)).2.2.1
end Go.Proofs.YtpddmnmhdahnlaaGreat
namespace Go.Proofs.YtpddmnmhdahnlaaGreat
open Go.RowKit

theorem GY (w:World) (x:Nat):(Op.unary .neg (.float .f64 x)).run Tryz.prog w=.ok (.float .f64 (Op.negFloat .f64 x)) w:=rfl
set_option maxHeartbeats 800000 in
theorem pD (x:Nat) (w:World) (hx:U64 x) :
  Calls Tryz.prog 57 #[.float .f64 x] w fun e w'=>e=.returned (.bool (aH x))∧w'=w:=by
 have H1:=hideS fun w=>aP x w hx
 cases hn:ag (x:Int)
 ·rw [hn] at H1
  have H2:=hideS fun w=>gD x _ w hx (ov hn)
  generalize aH x=b at *
  clear hn hx
  cases b
  all_goals
   go_enter Tryz.func57,Tryz.ntmps57
   go_wp2_with fail
   refine (H1.out _).mono ?_
   rintro e w' ⟨rfl,rfl⟩
   go_wp2_with fail
   refine (H2.out _).mono ?_
   rintro e w' ⟨rfl,rfl⟩
   go_wp2_with fail
   go_ret
   exact⟨rfl,rfl⟩
 ·rw [hn] at H1
  rw [mH hn]
  clear hn hx
  go_enter Tryz.func57,Tryz.ntmps57
  go_wp2_with fail
  refine (H1.out _).mono ?_
  rintro e w' ⟨rfl,rfl⟩
  go_wp2_with fail
  go_ret
  exact⟨rfl,rfl⟩
theorem ml (x:Nat) (w:World) (hx:U64 x) :
  Calls Tryz.prog 52 #[.float .f64 x] w fun e w'=>e=.returned (.tuple #[.float .f64 (mr x),.int .i64 (ms x)])∧w'=w:=by
 have HN:=hideS fun w=>pD x w hx
 unfold mr ms
 cases hb:aH (x:Int)
 all_goals
  rw [hb] at HN
  clear hb hx
  simp only [Bool.false_eq_true,if_false,if_true]
  go_enter Tryz.func52,Tryz.ntmps52
  go_wp2_with (go_at_call 57;refine (HN.out _).mono ?_;rintro e w' ⟨rfl,rfl⟩)
  go_ret2
  exact⟨rfl,rfl⟩
theorem LP {x y:Nat} (hx:x<18446744073709551616) (h:li x=some y) (w:World):Calls Tryz.prog 77 #[.float .f64 x] w fun e w'=>e=.returned (.float .f64 y)∧Below w.heap.size w w':=
 ((bY hx).prog w).mono fun e w' ⟨z,a,b,c⟩=>by
  have:=b.1
  rw [h] at this
  rw [a,cz this];exact⟨rfl,c⟩
theorem Kf {base d:Int} (h0:0≤base) (h1:base<d) (h2:d≤109572) (wx:World):Calls Tryz.prog 76 #[.int .i64 2,.agg #[.int .i64 0,.slice none 0 0],.int .i64 base,.int .i64 d] wx fun e w'=>e=.returned (.tuple #[.float .f64 (rkT base d),.int .i64 0])∧Below wx.heap.size wx w':=by
 have hb:=wE (fun _=>false) (kind:=2) (a:=base) (b:=d) ⟨h0,by omega⟩ ⟨by omega,h2⟩
 have:=wS 2 0 base d (iv (fun _=>false) 2 base d) (dF 2) (.slice none 0 0) wx hb.1 hb.2 (by decide) (by decide) (wR (fun _=>false) 2 0 base d (.slice none 0 0) wx (by decide) (by decide) ⟨h0,by omega⟩ ⟨by omega,h2⟩)
 rw [Kc,show dF 2=365 by decide] at this
 exact this

set_option maxRecDepth 20000 in
set_option maxHeartbeats 3200000 in
theorem zd (c:Cv) (k h:Nat) (vd vf:Value) (w:World) (hh:h<18446744073709551616) (hn:aH (h:Int)=false) :
  Calls Tryz.prog 35 #[.agg #[.int .i64 c.base,.int .i64 c.kind,vd,vf],.int .i64 k,.float .f64 h] w fun e w'=>e=.returned (.tuple #[.float .f64 0,.int .i64 91])∧Below w.heap.size w w':=by
 have HNu:=hideS fun wx=>pD h wx (ah hh)
 rw [hn] at HNu
 have HK:=hideS (bA w c.base c.kind vd vf)
 clear hh hn
 go_enter Tryz.func35,Tryz.ntmps35
 go_wp2_with fail
 refine (turned (HNu.out _)).mono ?_
 rintro e w' ⟨rfl,rfl⟩
 go_wp2_with fail
 go_ret2
 exact⟨rfl,HK.out.bl⟩
set_option maxRecDepth 20000 in
set_option maxHeartbeats 6400000 in
theorem ze (base kind D:Int) (n m k h F t p x u V:Nat) (E:Int) (bd od cd b2 o2 cf:Nat) (w:World) (hk:k<n) (hkm:k<m) (hD:w.cell? ⟨bd,od+k,none⟩=some (.int .i64 D)) (hF:w.cell? ⟨b2,o2+k,none⟩=some (.float .f64 F)) (hbd:bd<w.heap.size) (hb2:b2<w.heap.size)
  (HNu:Hid (∀ wx,Calls Tryz.prog 57 #[.float .f64 h] wx fun e w'=>e=.returned (.bool true)∧w'=wx))
  (HY:Hid (∀ wx,Calls Tryz.prog 76 #[.int .i64 2,.agg #[.int .i64 0,.slice none 0 0],.int .i64 base,.int .i64 D] wx fun e w'=>e=.returned (.tuple #[.float .f64 t,.int .i64 0])∧Below wx.heap.size wx w'))
  (r1:∀ w,(binOp .mul 26 (.float .f64 h) (.float .f64 t)).run Tryz.prog w=.ok (.float .f64 p) w)
  (HE:Hid (∀ wx,Calls Tryz.prog 77 #[.float .f64 (Op.negFloat .f64 p)] wx fun e w'=>e=.returned (.float .f64 x)∧Below wx.heap.size wx w'))
  (r2:∀ w,(binOp .mul 26 (.float .f64 F) (.float .f64 x)).run Tryz.prog w=.ok (.float .f64 u) w)
  (lB eB:Bool) (o1:(FloatKind.f64.format.order u 0==some .lt)=lB) (o2':(FloatKind.f64.format.order u 0==some .eq)=eB)
  (HN:Hid (∀ wx,Calls Tryz.prog 52 #[.float .f64 u] wx fun e w'=>e=.returned (.tuple #[.float .f64 V,.int .i64 E])∧w'=wx)) :
  Calls Tryz.prog 35 #[.agg #[.int .i64 base,.int .i64 kind,.slice (some ⟨bd,od,none⟩) n cd,.slice (some ⟨b2,o2,none⟩) m cf],.int .i64 k,.float .f64 h] w fun e w'=>e=.returned (.tuple #[.float .f64 (if (lB||eB)=true then 0 else V),.int .i64 (if (lB||eB)=true then 91 else E)])∧Below w.heap.size w w':=by
 have HK:=hideS (bA w base kind (.slice (some ⟨bd,od,none⟩) n cd) (.slice (some ⟨b2,o2,none⟩) m cf))
 obtain⟨w1,hw1⟩:∃ w1,w.alloc (.cells #[.int .i64 base,.int .i64 kind,.slice (some ⟨bd,od,none⟩) n cd,.slice (some ⟨b2,o2,none⟩) m cf] 25)=w1:=⟨_,rfl⟩
 rw [hw1] at HK
 have HD:=hideS ((HK.out.bl.cell (p:=⟨bd,od+k,none⟩) hbd).trans hD)
 have HF:=hideS ((HK.out.bl.cell (p:=⟨b2,o2+k,none⟩) hb2).trans hF)
 have HL1:Hid (bd<w1.heap.size):=Nat.lt_of_lt_of_le hbd HK.out.bl.size
 have HL2:Hid (b2<w1.heap.size):=Nat.lt_of_lt_of_le hb2 HK.out.bl.size
 have hneg:=GY
 have g1:(0:Int)≤(k:Int):=by omega
 have g2:(k:Int)<(n:Int):=by omega
 have g3:(k:Int)<(m:Int):=by omega
 clear hD hF hbd hb2
 go_enter Tryz.func35,Tryz.ntmps35
 go_wp2_with fail
 clear hw1
 refine (turned (HNu.out _)).mono ?_
 rintro e w' ⟨rfl,rfl⟩
 have t0:=HK.out.t0
 have t2:=HK.out.t2
 have t3:=HK.out.t3
 have d0:=HD.out
 have f0:=HF.out
 go_wp2_with fail
 go_region_held3 (fun w'=>w'.cell? ⟨w.heap.size,0,none⟩=some (.int .i64 base)∧w'.cell? ⟨w.heap.size,2,none⟩=some (.slice (some ⟨bd,od,none⟩) n cd)∧w'.cell? ⟨bd,od+k,none⟩=some (.int .i64 D)) (first | go_keep | exact⟨HK2.out.t0,HK2.out.t2,HD2.out⟩) ((go_at_call 76;refine (HY.out _).mono ?_;rintro e w2 ⟨rfl,hb2⟩;have HB2:Hid (Below w1.heap.size w1 w2):=⟨hb2.os,hb2.tape,hb2.output,hb2.size,hb2.block⟩;have HK2:=hideS (HK.out.step HB2.out);have HD2:=hideS ((HB2.out.cell (p:=⟨bd,od+k,none⟩) HL1.out).trans HD.out);clear hb2))
 all_goals
  have HF2:=hideS ((HB2.out.cell (p:=⟨b2,o2+k,none⟩) HL2.out).trans HF.out)
  have HL3:Hid (b2<w2.heap.size):=Nat.lt_of_lt_of_le HL2.out HB2.out.size
  clear t0 t2 t3 d0 f0
  have t3:=HK2.out.t3
  have f0:=HF2.out
  go_wp2_with fail
  go_region_held3 (fun w'=>w'.cell? ⟨w.heap.size,3,none⟩=some (.slice (some ⟨b2,o2,none⟩) m cf)∧w'.cell? ⟨b2,o2+k,none⟩=some (.float .f64 F)) (first | go_keep | exact⟨HK3.out.t3,HF3.out⟩) ((go_at_call 77;refine (HE.out _).mono ?_;rintro e w3 ⟨rfl,hb3⟩;have HB3:Hid (Below w2.heap.size w2 w3):=⟨hb3.os,hb3.tape,hb3.output,hb3.size,hb3.block⟩;have HK3:=hideS (HK2.out.step HB3.out);have HF3:=hideS ((HB3.out.cell (p:=⟨b2,o2+k,none⟩) HL3.out).trans HF2.out);clear hb3))
  all_goals
   clear t3 f0
   cases lB<;>cases eB
   all_goals
    go_wp2_with (go_at_call 52;refine (turned (HN.out _)).mono ?_;rintro e w' ⟨rfl,rfl⟩)
    go_ret2
    exact⟨rfl,HK3.out.bl⟩
theorem jB (c:Cv) (k h:Nat) (pd pf:Option Addr) (bd od cd b2 o2 cf:Nat) (w:World) (ok:c.Ok) (hk:k<c.ds.length) (hh:h<18446744073709551616) (hs:TFl w pd pf bd od b2 o2 c.ds c.fs) :
  Calls Tryz.prog 35 #[.agg #[.int .i64 c.base,.int .i64 c.kind,.slice pd c.ds.length cd,.slice pf c.fs.length cf],.int .i64 (k:Nat),.float .f64 h] w fun e w'=>e=.returned (.tuple #[.float .f64 (bmV c k h),.int .i64 (bmE c k h)])∧Below w.heap.size w w':=by
 cases hn:aH (h:Int) with
 | false=>
  have e:bmB c k h=false:=by unfold bmB;rw [hn];rfl
  unfold bmV bmE
  rw [e]
  exact zd c k h _ _ w hh hn
 | true=>
  have len:=ok.len
  have px:=hs.x.at_ (by omega)
  have py:=hs.y.at_ (by omega)
  subst px py
  obtain⟨d0,d1⟩:=ok.day hk
  have b0:=ok.b0
  obtain⟨t0,t1⟩:=mQ d0 (by omega)
  obtain⟨m,hm,hml,hex,_⟩:=zc (bJ hn) t0
  obtain⟨_,hfm,hul,hun,hu0⟩:=rX ok hs.f hk (bJ hn)
  have HNu:Hid (∀ wx,Calls Tryz.prog 57 #[.float .f64 h] wx fun e w'=>e=.returned (.bool true)∧w'=wx):=fun wx=>by
   have:=pD h wx (ah hh)
   rw [hn] at this;exact this
  have HE:Hid (∀ wx,Calls Tryz.prog 77 #[.float .f64 (Op.negFloat .f64 m)] wx fun e w'=>e=.returned (.float .f64 (rkX c.base (c.ds.getD k 0) h))∧Below wx.heap.size wx w'):=fun wx=>by
   rw [Fr hml];exact LP (bS hml).1 hex wx
  have key:=ze c.base c.kind (c.ds.getD k 0) c.ds.length c.fs.length k h (c.fs.getD k 0) (rkT c.base (c.ds.getD k 0)) m (rkX c.base (c.ds.getD k 0) h) (c.bm k h) (mr (c.bm k h)) (ms (c.bm k h)) bd od cd b2 o2 cf w hk (by omega) (hs.x.cell k hk) (hs.y.cell k (by omega)) (hs.x.lt (by omega)) (hs.y.lt (by omega)) HNu (fun wx=>Kf b0 d0 d1 wx) (fun w=>run_float_arith (P:=Tryz.prog) w .mul 26 .f64 _ _ _ hm) HE (fun w=>run_float_arith (P:=Tryz.prog) w .mul 26 .f64 _ _ _ hfm) _ _ rfl rfl (fun wx=>ml (c.bm k h) wx (ah hul))
  rw [FK hul (by decide) hun (by decide),show aa ((0:Nat):Int)=0 by decide] at key
  have e:bmB c k h=(aH (c.bm k h:Nat)&&decide (0<aa (c.bm k h:Nat))):=by unfold bmB rkB;rw [hn,Bool.true_and]
  unfold bmV bmE
  rw [e]
  unfold mr ms at key
  by_cases hr:aa (c.bm k h:Nat)≤0
  ·rw [decide_eq_true hr] at key
   rw [decide_eq_false (show ¬ 0<aa (c.bm k h:Nat) by omega),Bool.and_false]
   simp only [Bool.false_eq_true,if_false,if_true] at key ⊢
   exact key
  ·rw [decide_eq_false hr] at key
   rw [decide_eq_true (show 0<aa (c.bm k h:Nat) by omega),Bool.and_true]
   simp only [Bool.false_eq_true,if_false] at key
   exact key
end Go.Proofs.YtpddmnmhdahnlaaGreat
namespace Go.Proofs.YtpddmnmhdahnlaaGreat
open Go.RowKit

def ap:Obj:=.cells #[.int .i64 0,.int .i64 0,.slice none 0 0,.slice none 0 0] 25
theorem aR (g:Nat) (base:Int) (kind:Int) (vd:Value) (vf:Value) (wr:World) (h:wr.heap[g]? =some ap):∃ u1 u2 u3 u4:World,(wr.setCell ⟨g,0,none⟩ (.int .i64 base)=u1∧wr.cell? ⟨g,0,none⟩=some (.int .i64 0)∧wr.frozen? ⟨g,0,none⟩=false)∧(u1.setCell ⟨g,1,none⟩ (.int .i64 kind)=u2∧u1.cell? ⟨g,1,none⟩=some (.int .i64 0)∧u1.frozen? ⟨g,1,none⟩=false)∧(u2.setCell ⟨g,2,none⟩ (vd)=u3∧u2.cell? ⟨g,2,none⟩=some (.slice none 0 0)∧u2.frozen? ⟨g,2,none⟩=false)∧(u3.setCell ⟨g,3,none⟩ (vf)=u4∧u3.cell? ⟨g,3,none⟩=some (.slice none 0 0)∧u3.frozen? ⟨g,3,none⟩=false)∧BxK u4 g base kind vd vf∧Below g wr u4:=by
 unfold ap at h
 have b0:=Below.refl g wr
 obtain⟨u1,e1⟩:∃ u1,wr.setCell ⟨g,0,none⟩ (.int .i64 base)=u1:=⟨_,rfl⟩
 have h1:u1.heap[g]? =some (.cells #[.int .i64 base,.int .i64 0,.slice none 0 0,.slice none 0 0] 25):=by rw [← e1];exact ar _ h
 have b1:Below g wr u1:=by rw [← e1];exact b0.setCell (p:=⟨g,0,none⟩) (Nat.le_refl _) _
 obtain⟨u2,e2⟩:∃ u2,u1.setCell ⟨g,1,none⟩ (.int .i64 kind)=u2:=⟨_,rfl⟩
 have h2:u2.heap[g]? =some (.cells #[.int .i64 base,.int .i64 kind,.slice none 0 0,.slice none 0 0] 25):=by rw [← e2];exact ar _ h1
 have b2:Below g wr u2:=by rw [← e2];exact b1.setCell (p:=⟨g,1,none⟩) (Nat.le_refl _) _
 obtain⟨u3,e3⟩:∃ u3,u2.setCell ⟨g,2,none⟩ (vd)=u3:=⟨_,rfl⟩
 have h3:u3.heap[g]? =some (.cells #[.int .i64 base,.int .i64 kind,vd,.slice none 0 0] 25):=by rw [← e3];exact ar _ h2
 have b3:Below g wr u3:=by rw [← e3];exact b2.setCell (p:=⟨g,2,none⟩) (Nat.le_refl _) _
 obtain⟨u4,e4⟩:∃ u4,u3.setCell ⟨g,3,none⟩ (vf)=u4:=⟨_,rfl⟩
 have h4:u4.heap[g]? =some (.cells #[.int .i64 base,.int .i64 kind,vd,vf] 25):=by rw [← e4];exact ar _ h3
 have b4:Below g wr u4:=by rw [← e4];exact b3.setCell (p:=⟨g,3,none⟩) (Nat.le_refl _) _
 exact⟨u1,u2,u3,u4,⟨e1,by simp only [World.cell?,h,Option.isSome_none,Bool.false_eq_true,if_false];rfl,frozen_of_row _ _ 0 _ _ h⟩,⟨e2,by simp only [World.cell?,h1,Option.isSome_none,Bool.false_eq_true,if_false];rfl,frozen_of_row _ _ 1 _ _ h1⟩,⟨e3,by simp only [World.cell?,h2,Option.isSome_none,Bool.false_eq_true,if_false];rfl,frozen_of_row _ _ 2 _ _ h2⟩,⟨e4,by simp only [World.cell?,h3,Option.isSome_none,Bool.false_eq_true,if_false];rfl,frozen_of_row _ _ 3 _ _ h3⟩,⟨h4⟩,b4⟩
structure DxK (w:World) (g:Nat) (base kind:Int) (vd vf:Value):Prop where
 blk:w.heap[g]? =some (.cells #[.int .i64 base,.int .i64 kind,vd,vf] 30)
theorem DxK.lt {w:World} {g:Nat} {base kind:Int} {vd vf:Value} (h:DxK w g base kind vd vf):g<w.heap.size:=(Array.getElem?_eq_some_iff.1 h.blk).1
theorem DxK.t {w:World} {g:Nat} {base kind:Int} {vd vf:Value} (h:DxK w g base kind vd vf):w.cell? ⟨g,0,none⟩=some (.int .i64 base)∧w.cell? ⟨g,1,none⟩=some (.int .i64 kind)∧w.cell? ⟨g,2,none⟩=some vd∧w.cell? ⟨g,3,none⟩=some vf:=by
 have hb:=h.blk
 exact⟨by simp [World.cell?,hb],by simp [World.cell?,hb],by simp [World.cell?,hb],by simp [World.cell?,hb]⟩
theorem DxK.step {w w':World} {g:Nat} {base kind:Int} {vd vf:Value} (h:DxK w g base kind vd vf) (hb:Below w.heap.size w w'):DxK w' g base kind vd vf:=⟨(hb.block g h.lt).trans h.blk⟩
def aw:Obj:=.cells #[.int .i64 0,.int .i64 0,.slice none 0 0,.slice none 0 0] 30
theorem bO (g:Nat) (base:Int) (kind:Int) (vd:Value) (vf:Value) (wr:World) (h:wr.heap[g]? =some aw):∃ u1 u2 u3 u4:World,(wr.setCell ⟨g,0,none⟩ (.int .i64 base)=u1∧wr.cell? ⟨g,0,none⟩=some (.int .i64 0)∧wr.frozen? ⟨g,0,none⟩=false)∧(u1.setCell ⟨g,1,none⟩ (.int .i64 kind)=u2∧u1.cell? ⟨g,1,none⟩=some (.int .i64 0)∧u1.frozen? ⟨g,1,none⟩=false)∧(u2.setCell ⟨g,2,none⟩ (vd)=u3∧u2.cell? ⟨g,2,none⟩=some (.slice none 0 0)∧u2.frozen? ⟨g,2,none⟩=false)∧(u3.setCell ⟨g,3,none⟩ (vf)=u4∧u3.cell? ⟨g,3,none⟩=some (.slice none 0 0)∧u3.frozen? ⟨g,3,none⟩=false)∧DxK u4 g base kind vd vf∧Below g wr u4:=by
 unfold aw at h
 have b0:=Below.refl g wr
 obtain⟨u1,e1⟩:∃ u1,wr.setCell ⟨g,0,none⟩ (.int .i64 base)=u1:=⟨_,rfl⟩
 have h1:u1.heap[g]? =some (.cells #[.int .i64 base,.int .i64 0,.slice none 0 0,.slice none 0 0] 30):=by rw [← e1];exact ar _ h
 have b1:Below g wr u1:=by rw [← e1];exact b0.setCell (p:=⟨g,0,none⟩) (Nat.le_refl _) _
 obtain⟨u2,e2⟩:∃ u2,u1.setCell ⟨g,1,none⟩ (.int .i64 kind)=u2:=⟨_,rfl⟩
 have h2:u2.heap[g]? =some (.cells #[.int .i64 base,.int .i64 kind,.slice none 0 0,.slice none 0 0] 30):=by rw [← e2];exact ar _ h1
 have b2:Below g wr u2:=by rw [← e2];exact b1.setCell (p:=⟨g,1,none⟩) (Nat.le_refl _) _
 obtain⟨u3,e3⟩:∃ u3,u2.setCell ⟨g,2,none⟩ (vd)=u3:=⟨_,rfl⟩
 have h3:u3.heap[g]? =some (.cells #[.int .i64 base,.int .i64 kind,vd,.slice none 0 0] 30):=by rw [← e3];exact ar _ h2
 have b3:Below g wr u3:=by rw [← e3];exact b2.setCell (p:=⟨g,2,none⟩) (Nat.le_refl _) _
 obtain⟨u4,e4⟩:∃ u4,u3.setCell ⟨g,3,none⟩ (vf)=u4:=⟨_,rfl⟩
 have h4:u4.heap[g]? =some (.cells #[.int .i64 base,.int .i64 kind,vd,vf] 30):=by rw [← e4];exact ar _ h3
 have b4:Below g wr u4:=by rw [← e4];exact b3.setCell (p:=⟨g,3,none⟩) (Nat.le_refl _) _
 exact⟨u1,u2,u3,u4,⟨e1,by simp only [World.cell?,h,Option.isSome_none,Bool.false_eq_true,if_false];rfl,frozen_of_row _ _ 0 _ _ h⟩,⟨e2,by simp only [World.cell?,h1,Option.isSome_none,Bool.false_eq_true,if_false];rfl,frozen_of_row _ _ 1 _ _ h1⟩,⟨e3,by simp only [World.cell?,h2,Option.isSome_none,Bool.false_eq_true,if_false];rfl,frozen_of_row _ _ 2 _ _ h2⟩,⟨e4,by simp only [World.cell?,h3,Option.isSome_none,Bool.false_eq_true,if_false];rfl,frozen_of_row _ _ 3 _ _ h3⟩,⟨h4⟩,b4⟩
structure PsB (w:World) (g:Nat) (v0:Value) (cur base kind:Int) (vd vf:Value) (V:Nat):Prop where
 blk:w.heap[g]? =some (.cells #[v0,.int .i64 cur,.int .i64 base,.int .i64 kind,vd,vf,.float .f64 V] 83)
theorem PsB.lt {w:World} {g:Nat} {v0 vd vf:Value} {cur base kind:Int} {V:Nat} (h:PsB w g v0 cur base kind vd vf V):g<w.heap.size:=(Array.getElem?_eq_some_iff.1 h.blk).1
theorem PsB.t {w:World} {g:Nat} {v0 vd vf:Value} {cur base kind:Int} {V:Nat} (h:PsB w g v0 cur base kind vd vf V):w.cell? ⟨g,0,none⟩=some v0∧w.cell? ⟨g,1,none⟩=some (.int .i64 cur)∧w.cell? ⟨g,2,none⟩=some (.int .i64 base)∧w.cell? ⟨g,3,none⟩=some (.int .i64 kind)∧w.cell? ⟨g,4,none⟩=some vd∧w.cell? ⟨g,5,none⟩=some vf∧w.cell? ⟨g,6,none⟩=some (.float .f64 V):=by
 have hb:=h.blk
 exact⟨by simp [World.cell?,hb],by simp [World.cell?,hb],by simp [World.cell?,hb],by simp [World.cell?,hb],by simp [World.cell?,hb],by simp [World.cell?,hb],by simp [World.cell?,hb]⟩
theorem PsB.step {w w':World} {g:Nat} {v0 vd vf:Value} {cur base kind:Int} {V:Nat} (h:PsB w g v0 cur base kind vd vf V) (hb:Below w.heap.size w w'):PsB w' g v0 cur base kind vd vf V:=⟨(hb.block g h.lt).trans h.blk⟩
theorem PsB.stay {w w':World} {g B:Nat} {v0 vd vf:Value} {cur base kind:Int} {V:Nat} (h:PsB w g v0 cur base kind vd vf V) (hb:Below B w w') (hg:g<B):PsB w' g v0 cur base kind vd vf V:=⟨(hb.block g hg).trans h.blk⟩
theorem pE (w:World) (v0 vd vf:Value) (cur base kind:Int) (V:Nat):PsB (w.alloc (.cells #[v0,.int .i64 cur,.int .i64 base,.int .i64 kind,vd,vf,.float .f64 V] 83)) w.heap.size v0 cur base kind vd vf V:=⟨heap_alloc_new _ _⟩
def aZ:Obj:=.cells #[.slice none 0 0,.int .i64 0,.int .i64 0,.int .i64 0,.slice none 0 0,.slice none 0 0,.float .f64 0] 83
theorem iR (g:Nat) (v0:Value) (cur:Int) (base:Int) (kind:Int) (vd:Value) (vf:Value) (V:Nat) (wr:World) (h:wr.heap[g]? =some aZ):∃ u1 u2 u3 u4 u5 u6 u7:World,(wr.setCell ⟨g,0,none⟩ (v0)=u1∧wr.cell? ⟨g,0,none⟩=some (.slice none 0 0)∧wr.frozen? ⟨g,0,none⟩=false)∧(u1.setCell ⟨g,1,none⟩ (.int .i64 cur)=u2∧u1.cell? ⟨g,1,none⟩=some (.int .i64 0)∧u1.frozen? ⟨g,1,none⟩=false)∧(u2.setCell ⟨g,2,none⟩ (.int .i64 base)=u3∧u2.cell? ⟨g,2,none⟩=some (.int .i64 0)∧u2.frozen? ⟨g,2,none⟩=false)∧(u3.setCell ⟨g,3,none⟩ (.int .i64 kind)=u4∧u3.cell? ⟨g,3,none⟩=some (.int .i64 0)∧u3.frozen? ⟨g,3,none⟩=false)∧(u4.setCell ⟨g,4,none⟩ (vd)=u5∧u4.cell? ⟨g,4,none⟩=some (.slice none 0 0)∧u4.frozen? ⟨g,4,none⟩=false)∧(u5.setCell ⟨g,5,none⟩ (vf)=u6∧u5.cell? ⟨g,5,none⟩=some (.slice none 0 0)∧u5.frozen? ⟨g,5,none⟩=false)∧(u6.setCell ⟨g,6,none⟩ (.float .f64 V)=u7∧u6.cell? ⟨g,6,none⟩=some (.float .f64 0)∧u6.frozen? ⟨g,6,none⟩=false)∧PsB u7 g v0 cur base kind vd vf V∧Below g wr u7:=by
 unfold aZ at h
 have b0:=Below.refl g wr
 obtain⟨u1,e1⟩:∃ u1,wr.setCell ⟨g,0,none⟩ (v0)=u1:=⟨_,rfl⟩
 have h1:u1.heap[g]? =some (.cells #[v0,.int .i64 0,.int .i64 0,.int .i64 0,.slice none 0 0,.slice none 0 0,.float .f64 0] 83):=by rw [← e1];exact ar _ h
 have b1:Below g wr u1:=by rw [← e1];exact b0.setCell (p:=⟨g,0,none⟩) (Nat.le_refl _) _
 obtain⟨u2,e2⟩:∃ u2,u1.setCell ⟨g,1,none⟩ (.int .i64 cur)=u2:=⟨_,rfl⟩
 have h2:u2.heap[g]? =some (.cells #[v0,.int .i64 cur,.int .i64 0,.int .i64 0,.slice none 0 0,.slice none 0 0,.float .f64 0] 83):=by rw [← e2];exact ar _ h1
 have b2:Below g wr u2:=by rw [← e2];exact b1.setCell (p:=⟨g,1,none⟩) (Nat.le_refl _) _
 obtain⟨u3,e3⟩:∃ u3,u2.setCell ⟨g,2,none⟩ (.int .i64 base)=u3:=⟨_,rfl⟩
 have h3:u3.heap[g]? =some (.cells #[v0,.int .i64 cur,.int .i64 base,.int .i64 0,.slice none 0 0,.slice none 0 0,.float .f64 0] 83):=by rw [← e3];exact ar _ h2
 have b3:Below g wr u3:=by rw [← e3];exact b2.setCell (p:=⟨g,2,none⟩) (Nat.le_refl _) _
 obtain⟨u4,e4⟩:∃ u4,u3.setCell ⟨g,3,none⟩ (.int .i64 kind)=u4:=⟨_,rfl⟩
 have h4:u4.heap[g]? =some (.cells #[v0,.int .i64 cur,.int .i64 base,.int .i64 kind,.slice none 0 0,.slice none 0 0,.float .f64 0] 83):=by rw [← e4];exact ar _ h3
 have b4:Below g wr u4:=by rw [← e4];exact b3.setCell (p:=⟨g,3,none⟩) (Nat.le_refl _) _
 obtain⟨u5,e5⟩:∃ u5,u4.setCell ⟨g,4,none⟩ (vd)=u5:=⟨_,rfl⟩
 have h5:u5.heap[g]? =some (.cells #[v0,.int .i64 cur,.int .i64 base,.int .i64 kind,vd,.slice none 0 0,.float .f64 0] 83):=by rw [← e5];exact ar _ h4
 have b5:Below g wr u5:=by rw [← e5];exact b4.setCell (p:=⟨g,4,none⟩) (Nat.le_refl _) _
 obtain⟨u6,e6⟩:∃ u6,u5.setCell ⟨g,5,none⟩ (vf)=u6:=⟨_,rfl⟩
 have h6:u6.heap[g]? =some (.cells #[v0,.int .i64 cur,.int .i64 base,.int .i64 kind,vd,vf,.float .f64 0] 83):=by rw [← e6];exact ar _ h5
 have b6:Below g wr u6:=by rw [← e6];exact b5.setCell (p:=⟨g,5,none⟩) (Nat.le_refl _) _
 obtain⟨u7,e7⟩:∃ u7,u6.setCell ⟨g,6,none⟩ (.float .f64 V)=u7:=⟨_,rfl⟩
 have h7:u7.heap[g]? =some (.cells #[v0,.int .i64 cur,.int .i64 base,.int .i64 kind,vd,vf,.float .f64 V] 83):=by rw [← e7];exact ar _ h6
 have b7:Below g wr u7:=by rw [← e7];exact b6.setCell (p:=⟨g,6,none⟩) (Nat.le_refl _) _
 exact⟨u1,u2,u3,u4,u5,u6,u7,⟨e1,by simp only [World.cell?,h,Option.isSome_none,Bool.false_eq_true,if_false];rfl,frozen_of_row _ _ 0 _ _ h⟩,⟨e2,by simp only [World.cell?,h1,Option.isSome_none,Bool.false_eq_true,if_false];rfl,frozen_of_row _ _ 1 _ _ h1⟩,⟨e3,by simp only [World.cell?,h2,Option.isSome_none,Bool.false_eq_true,if_false];rfl,frozen_of_row _ _ 2 _ _ h2⟩,⟨e4,by simp only [World.cell?,h3,Option.isSome_none,Bool.false_eq_true,if_false];rfl,frozen_of_row _ _ 3 _ _ h3⟩,⟨e5,by simp only [World.cell?,h4,Option.isSome_none,Bool.false_eq_true,if_false];rfl,frozen_of_row _ _ 4 _ _ h4⟩,⟨e6,by simp only [World.cell?,h5,Option.isSome_none,Bool.false_eq_true,if_false];rfl,frozen_of_row _ _ 5 _ _ h5⟩,⟨e7,by simp only [World.cell?,h6,Option.isSome_none,Bool.false_eq_true,if_false];rfl,frozen_of_row _ _ 6 _ _ h6⟩,⟨h7⟩,b7⟩
end Go.Proofs.YtpddmnmhdahnlaaGreat
