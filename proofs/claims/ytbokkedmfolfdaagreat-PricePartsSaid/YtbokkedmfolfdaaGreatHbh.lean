/-  -/
import Derived.Test.YtbokkedmfolfdaaGreatHbf
import Derived.Test.YtbokkedmfolfdaaGreatHbg
import Derived.Laws.EntriesVeiled
import Derived.Deep.RegionHeld3
import Derived.Test.YtbokkedmfolfdaaGreatFnv
import Derived.Test.YtbokkedmfolfdaaGreatHbc
import Derived.Test.YtbokkedmfolfdaaGreatHaj
import Derived.Test.YtbokkedmfolfdaaGreatHaq
import Derived.Test.YtbokkedmfolfdaaGreatHas
import Derived.Deep.QuietTactic
namespace Go.Proofs.YtbokkedmfolfdaaGreat
open Go.RowKit

theorem uT (n:Int) (w:World) :
  Calls Tryz.prog 33 #[.int .i64 n] w fun e w'=>e=.returned (.bool (decide (1≤n∧n≤8)))∧w'=w:=by
 by_cases h1:1≤n<;>by_cases h2:n≤8
 all_goals
  first | rw [decide_eq_true (⟨h1,h2⟩:1≤n∧n≤8)] | rw [decide_eq_false (fun h:1≤n∧n≤8=>by omega)]
  go_enter Tryz.func33,Tryz.ntmps33
  go_wp2
  go_ret
  exact⟨rfl,rfl⟩
set_option maxHeartbeats 800000 in
theorem uU (x:Nat) (w:World) (hx:U64 x) :
  Calls Tryz.prog 41 #[.float .f64 x] w fun e w'=>e=.returned (.bool (aD x))∧w'=w:=by
 have H1:=hideS fun w=>az x w hx
 cases hn:af (x:Int)
 ·rw [hn] at H1
  have H2:=hideS fun w=>el x _ w hx (lc hn)
  generalize aD x=b at *
  clear hn hx
  cases b
  all_goals
   go_enter Tryz.func41,Tryz.ntmps41
   go_wp2_with fail
   refine (H1.out _).mono ?_
   rintro e w' ⟨rfl,rfl⟩
   go_wp2_with fail
   refine (H2.out _).mono ?_
   rintro e w' ⟨rfl,rfl⟩
   go_wp2_with fail
   go_ret
   exact⟨rfl,rfl⟩
 ·rw [hn] at H1
  rw [gJ hn]
  clear hn hx
  go_enter Tryz.func41,Tryz.ntmps41
  go_wp2_with fail
  refine (H1.out _).mono ?_
  rintro e w' ⟨rfl,rfl⟩
  go_wp2_with fail
  go_ret
  exact⟨rfl,rfl⟩
theorem gw (x:Nat) (w:World) (hx:U64 x) :
  Calls Tryz.prog 21 #[.float .f64 x] w fun e w'=>e=.returned (.tuple #[.float .f64 (fL x),.int .i64 (fM x)])∧w'=w:=by
 have HN:=hideS fun w=>uU x w hx
 unfold fL fM
 cases hb:aD (x:Int)
 all_goals
  rw [hb] at HN
  clear hb hx
  simp only [Bool.false_eq_true,if_false,if_true]
  go_enter Tryz.func21,Tryz.ntmps21
  go_wp2_with (go_at_call 41;refine (HN.out _).mono ?_;rintro e w' ⟨rfl,rfl⟩)
  go_ret2
  exact⟨rfl,rfl⟩

structure TkC (fN:Nat) (fst cap:Array Value) (l:List Flw) (cur:Int) (c:Cv) (w0:World) (I:Nat→World→Prop) (Ow:World→Nat→Prop):Prop where
 call:∀ k wx,k<l.length→cz (l.getD k ai)=0→c.Ok→tkB cur c.base (l.getD k ai)=true→c.E (l.getD k ai).day=0→I k wx→Calls Tryz.prog fN (fst++(#[.float .f64 (l.getD k ai).am,.float .f64 (c.V (l.getD k ai).day)]++cap)) wx fun e w'=>e=.returned (.tuple #[])∧I (k+1) w'∧wx.heap.size≤w'.heap.size∧∀ x<wx.heap.size,¬ Ow wx x→w'.heap[x]? =wx.heap[x]? ∧¬ Ow w' x
 skip:∀ k wx,k<l.length→tkB cur c.base (l.getD k ai)=false→I k wx→I (k+1) wx
 stay:∀ k wx wy,I k wx→Below wx.heap.size wx wy→I k wy∧∀ x,Ow wy x→Ow wx x
 low:∀ k wx,I k wx→Below w0.heap.size w0 wx
 lt:∀ k wx x,I k wx→Ow wx x→x<wx.heap.size
structure BxK (w:World) (g:Nat) (base kind:Int) (vd vf:Value):Prop where
 blk:w.heap[g]? =some (.cells #[.int .i64 base,.int .i64 kind,vd,vf] 26)
theorem BxK.lt {w:World} {g:Nat} {base kind:Int} {vd vf:Value} (h:BxK w g base kind vd vf):g<w.heap.size:=(Array.getElem?_eq_some_iff.1 h.blk).1
theorem BxK.t {w:World} {g:Nat} {base kind:Int} {vd vf:Value} (h:BxK w g base kind vd vf):w.cell? ⟨g,0,none⟩=some (.int .i64 base)∧w.cell? ⟨g,1,none⟩=some (.int .i64 kind)∧w.cell? ⟨g,2,none⟩=some vd∧w.cell? ⟨g,3,none⟩=some vf:=by
 have hb:=h.blk
 exact⟨by simp [World.cell?,hb],by simp [World.cell?,hb],by simp [World.cell?,hb],by simp [World.cell?,hb]⟩
theorem BxK.step {w w':World} {g:Nat} {base kind:Int} {vd vf:Value} (h:BxK w g base kind vd vf) (hb:Below w.heap.size w w'):BxK w' g base kind vd vf:=⟨(hb.block g h.lt).trans h.blk⟩
theorem yl (w:World) (base kind:Int) (vd vf:Value):BxK (w.alloc (.cells #[.int .i64 base,.int .i64 kind,vd,vf] 26)) w.heap.size base kind vd vf:=⟨heap_alloc_new _ _⟩
theorem uW {l:List Flw} (h:ChkF l 0 0):l.length≤4096∧∀ i<l.length,cz (l.getD i ai)=0:=by
 generalize hz:(0:Int)=z at h
 cases h with
 | fine hl h=>exact⟨hl,h⟩
 | bad hl k hk e he h0 h=>exact absurd hz.symm h0

set_option maxRecDepth 20000 in
set_option maxHeartbeats 6400000 in
theorem ko (fN:Nat) (fst cap:Array Value) (l:List Flw) (cur:Int) (c:Cv) (pl:Option Addr) (bl ol cl N:Nat) (pd pf:Option Addr) (bd od cd b2 o2 cf:Nat) (I:Nat→World→Prop) (Ow:World→Nat→Prop) (w0 w:World) (E:Int) (hE:VisR l cur c E) (hl:JSrc aF w0 pl bl ol l) (hN:l.length=N) (hNb:N≤9223372036854775807) (hf:bK l) (hs:TFl w0 pd pf bd od b2 o2 c.ds c.fs) (hen:∀ args w,(callFunc fN args).run Tryz.prog w=.ok (.enter fN args) w) (hT:TkC fN fst cap l cur c w0 I Ow) (hI:I 0 w) :
  Calls Tryz.prog 19 #[.slice pl N cl,.int .i64 cur,.agg #[.int .i64 c.base,.int .i64 c.kind,.slice pd c.ds.length cd,.slice pf c.fs.length cf],.func (.func fN) fst cap] w fun e w'=>e=.returned (.int .i64 E)∧∃ k,I k w'∧(E=0→k=N):=by
 obtain⟨E1,K1,h1⟩:=pQ l
 obtain⟨E2,h2⟩:=ll c.base c.kind c.ds c.fs
 have HCk:=hideS fun wx (hb:Below w0.heap.size w0 wx)=>oH l pl bl ol cl N E1 K1 wx (hl.below hb) hN hNb hf h1
 have HCu:=hideS fun wx=>uT cur wx
 have HCc:=hideS fun wx (hb:Below w0.heap.size w0 wx)=>dh c.base c.kind pd pf bd od cd b2 o2 cf c.ds c.fs wx (hs.below hb) h2
 have HFa:=hideS fun x wx (hb:Below w0.heap.size w0 wx)=>jy c.base c.kind x (c.E x) (c.V x) pd pf bd od cd b2 o2 cf c.ds c.fs wx (hs.below hb) (gN c.base c.kind c.ds c.fs x)
 have HK:=hideS (yl w c.base c.kind (.slice pd c.ds.length cd) (.slice pf c.fs.length cf))
 have H0:=hideS (hT.stay 0 w _ hI ((Below.refl _ _).alloc (Nat.le_refl _) (.cells #[.int .i64 c.base,.int .i64 c.kind,.slice pd c.ds.length cd,.slice pf c.fs.length cf] 26))).1
 have HO:Hid (¬ Ow (w.alloc (.cells #[.int .i64 c.base,.int .i64 c.kind,.slice pd c.ds.length cd,.slice pf c.fs.length cf] 26)) w.heap.size):=fun h=>Nat.lt_irrefl _ (hT.lt 0 w _ hI ((hT.stay 0 w _ hI ((Below.refl _ _).alloc (Nat.le_refl _) _)).2 _ h))
 have HE:=hideS hE
 have HT:=hideS hT
 have HQ:=hideS hl
 have HN:=hideS hN
 have HP:Hid (0<N→pl=some ⟨bl,ol,none⟩):=fun h=>hl.at_ (by omega)
 have H1:=hideS h1
 have H2:=hideS h2
 clear hE hT hl hN hf hs h1 h2 hI
 generalize hvd:Value.slice pd c.ds.length cd=vd at *
 generalize hvf:Value.slice pf c.fs.length cf=vf at *
 obtain⟨base,hbase⟩:∃ b,c.base=b:=⟨_,rfl⟩
 obtain⟨kind,hkind⟩:∃ b,c.kind=b:=⟨_,rfl⟩
 rw [hbase,hkind] at HCc HFa HK H0 HO ⊢
 have HBs:=hideS hbase
 clear hvd hvf hbase hkind
 obtain⟨w1,hw1⟩:∃ w1,w.alloc (.cells #[.int .i64 base,.int .i64 kind,vd,vf] 26)=w1:=⟨_,rfl⟩
 rw [hw1] at HK H0 HO
 obtain⟨g,hg⟩:∃ g,w.heap.size=g:=⟨_,rfl⟩
 rw [hg] at HK HO
 go_enter Tryz.func19,Tryz.ntmps19
 go_wp2_with fail
 clear hg hw1
 refine (HCk.out _ (HT.out.low _ _ H0.out)).mono ?_
 rintro e w2 ⟨rfl,hb2⟩
 have HK2:=hideS (HK.out.step hb2)
 have HO2:Hid (¬ Ow w2 g):=fun h=>HO.out ((HT.out.stay _ _ _ H0.out hb2).2 _ h)
 have HI2:=hideS (HT.out.stay _ _ _ H0.out hb2).1
 clear hb2 HK HO H0 HCk
 by_cases hE1:E1=0
 ·subst hE1
  have HKz:=hideS (km H1.out)
  rw [HKz.out] at H1
  by_cases hc:1≤cur∧cur≤8
  ·rw [decide_eq_true hc] at HCu
   have HC8:=hideS hc
   clear hc
   obtain⟨t0,t1,t2,t3⟩:=HK2.out.t
   go_wp2_with (go_at_call 33;refine (HCu.out _).mono ?_;rintro e w' ⟨rfl,rfl⟩)
   refine (HCc.out _ (HT.out.low _ _ HI2.out)).mono ?_
   rintro e w3 ⟨rfl,hb3⟩
   have HK3:=hideS (HK2.out.step hb3)
   have HO3:Hid (¬ Ow w3 g):=fun h=>HO2.out ((HT.out.stay _ _ _ HI2.out hb3).2 _ h)
   have HI3:=hideS (HT.out.stay _ _ _ HI2.out hb3).1
   clear hb3 HK2 HO2 HI2 HCc HCu t0 t1 t2 t3
   by_cases hE2:E2=0
   ·subst hE2
    have HOk:=hideS (eU H2.out)
    have HFi:=hideS fun i (hi:i<N)=>(uW H1.out).2 i (by rw [HN.out];exact hi)
    have HNs:=hideS (uW H1.out).1
    go_wp2_with fail
    go_loopw [34] (fun i wr=>∃ k:Nat,k≤N∧i=.int .i64 k∧Hid (∀ j<k,tkB cur c.base (l.getD j ai)=true→c.E (l.getD j ai).day=0)∧Hid (I k wr∧BxK wr g base kind vd vf∧¬ Ow wr g)) (fun i _=>N - (intOf i).toNat)
    case atStart=>exact⟨0,Nat.zero_le _,rfl,fun j hj=>by omega,HI3.out,HK3.out,HO3.out⟩
    case round=>
     clear HI3 HK3 HO3
     obtain⟨k,hk,rfl,HFn,HR⟩:=hrel
     by_cases hlt:k<N
     ·obtain rfl:=HP.out (by omega)
      have HQr:=hideS (HQ.out.below (HT.out.low _ _ HR.out.1))
      obtain⟨c0,c1,c2⟩:=HQr.out.cell k (by rw [HN.out];exact hlt)
      have HQB:=hideS (eX wr (l.getD k ai))
      have HCl:=hideS (HT.out.call k)
      have HSk:=hideS (HT.out.skip k)
      obtain⟨⟨z0,z1,z2⟩,fz⟩:=dE wr
      have y0:=fz 0
      have y1:=fz 1
      have y2:=fz 2
      clear fz
      obtain⟨q,hq⟩:∃ q,l.getD k ai=q:=⟨_,rfl⟩
      have HBd:=hideS (HFi.out k hlt)
      rw [hq] at HCl HSk HQB c0 c1 c2 HBd
      have Hq:=hideS hq
      clear hq
      obtain⟨qd,qa,qc⟩:=q
      dsimp only [aF] at *
      obtain⟨w4,hw4⟩:∃ w4,wr.alloc bH=w4:=⟨_,rfl⟩
      rw [hw4] at z0 z1 z2 y0 y1 y2 HQB
      unfold bH at hw4
      obtain⟨w5,hw5⟩:∃ w5,mU w4 wr.heap.size ⟨qd,qa,qc⟩=w5:=⟨_,rfl⟩
      rw [hw5] at HQB
      unfold mU at hw5
      dsimp only at hw5
      have f0:=HQB.out.t0
      have f1:=HQB.out.t1
      have f2:=HQB.out.t2
      dsimp only at f0 f1 f2
      have hst:=ca
      have HK5:=hideS (HR.out.2.1.step HQB.out.bl)
      have HI5:=hideS (HT.out.stay _ _ _ HR.out.1 HQB.out.bl).1
      have HO5:Hid (¬ Ow w5 g):=fun h=>HR.out.2.2 ((HT.out.stay _ _ _ HR.out.1 HQB.out.bl).2 _ h)
      obtain⟨t0,t1,t2,t3⟩:=HK5.out.t
      have HTk:Hid (tkB cur c.base ⟨qd,qa,qc⟩=(decide (qc=cur)&&decide (base≤qd))):=by show _=_;unfold tkB;rw [HBs.out]
      rw [HTk.out] at HCl HSk
      clear HTk HQB HR HQr
      by_cases hcu:qc=cur
      ·subst hcu
       by_cases hda:qd<base
       ·have HI6:=hideS (HSk.out w5 (by rw [HN.out];exact hlt) (by simp;omega) HI5.out)
        have HFn2:Hid (∀ j<k+1,tkB qc c.base (l.getD j ai)=true→c.E (l.getD j ai).day=0):=fun j hj ht=>by
         by_cases d:j<k
         ·exact HFn.out j d ht
         ·obtain rfl:j=k:=by omega
          rw [Hq.out] at ht
          unfold tkB at ht
          rw [HBs.out] at ht
          simp at ht;omega
        have o1:(qc !=qc)=false:=by simp
        go_wp2_with fail
        clear hst hw4 hw5 z0 z1 z2 y0 y1 y2 f0 f1 f2 t0 t1 t2 t3
        go_roundw
        case rel=>exact⟨k+1,by omega,by simp,HFn2,HI6.out,HK5.out,HO5.out⟩
        case measure=>simp [intOf];omega
       ·have HFc:=hideS (HFa.out qd)
        obtain⟨FE,hFE⟩:∃ x,c.E qd=x:=⟨_,rfl⟩
        obtain⟨FV,hFV⟩:∃ x,c.V qd=x:=⟨_,rfl⟩
        rw [hFE,hFV] at HFc HCl
        have HFE:=hideS hFE
        clear hFE hFV
        have o1:(qc !=qc)=false:=by simp
        have o2:decide (qd<base)=false:=decide_eq_false hda
        have HTy:Hid (tkB qc c.base (l.getD k ai)=true):=by show _=_;rw [Hq.out];unfold tkB;rw [HBs.out];simp;omega
        have hlw:wr.heap.size<w5.heap.size:=World.block_lt_of_cell? _ _ f1
        by_cases hz:FE=0
        ·subst hz
         have HFn2:Hid (∀ j<k+1,tkB qc c.base (l.getD j ai)=true→c.E (l.getD j ai).day=0):=fun j hj ht=>by
          by_cases d:j<k
          ·exact HFn.out j d ht
          ·obtain rfl:j=k:=by omega
           rw [Hq.out];exact HFE.out
         go_wp2_with fail
         clear hst hw4 hw5 z0 z1 z2 y0 y1 y2 t0 t1 t2 t3
         refine (HFc.out _ (HT.out.low _ _ HI5.out)).mono ?_
         rintro e w6 ⟨rfl,hb6⟩
         have HK6:=hideS (HK5.out.step hb6)
         have HI6:=hideS (HT.out.stay _ _ _ HI5.out hb6).1
         have HO6:Hid (¬ Ow w6 g):=fun h=>HO5.out ((HT.out.stay _ _ _ HI5.out hb6).2 _ h)
         have g1:w6.cell? ⟨wr.heap.size,1,none⟩=some (.float .f64 qa):=(hb6.cell (p:=⟨wr.heap.size,1,none⟩) hlw).trans f1
         clear hb6 HK5 HI5 HO5 HFc f0 f1 f2 hlw
         go_wp2_with fail
         refine (HCl.out w6 (by rw [HN.out];exact hlt) HBd.out HOk.out (by simp;omega) trivial HI6.out).mono ?_
         rintro e w7 ⟨rfl,hi7,hs7,hk7⟩
         have HI7:=hideS hi7
         have HK7:Hid (BxK w7 g base kind vd vf):=⟨(hk7 g HK6.out.lt HO6.out).1.trans HK6.out.blk⟩
         have HO7:=hideS (hk7 g HK6.out.lt HO6.out).2
         clear hi7 hs7 hk7 g1 HK6 HI6 HO6
         go_wp2_with fail
         go_roundw
         case rel=>exact⟨k+1,by omega,by simp,HFn2,HI7.out,HK7.out,HO7.out⟩
         case measure=>simp [intOf];omega
        ·have HX:Hid (E=FE):=cS HE.out (.fac H1.out HC8.out HOk.out k (by rw [HN.out];exact hlt) HTy.out FE (by rw [Hq.out];exact HFE.out) hz HFn.out)
         have d1:(FE !=0)=true:=bne_iff_ne.2 hz
         clear hz
         go_wp2_with fail
         clear hst hw4 hw5 z0 z1 z2 y0 y1 y2 t0 t1 t2 t3
         refine (HFc.out _ (HT.out.low _ _ HI5.out)).mono ?_
         rintro e w6 ⟨rfl,hb6⟩
         have HI6:=hideS (HT.out.stay _ _ _ HI5.out hb6).1
         clear hb6 HK5 HI5 HO5 HFc f0 f1 f2 hlw
         go_wp2_with fail
         go_ret
         rw [HX.out]
         exact⟨rfl,k,HI6.out,fun h=>absurd h (bne_iff_ne.1 d1)⟩
      ·have o1:(qc !=cur)=true:=bne_iff_ne.2 hcu
       have HI6:=hideS (HSk.out w5 (by rw [HN.out];exact hlt) (by simp [hcu]) HI5.out)
       have HFn2:Hid (∀ j<k+1,tkB cur c.base (l.getD j ai)=true→c.E (l.getD j ai).day=0):=fun j hj ht=>by
        by_cases d:j<k
        ·exact HFn.out j d ht
        ·obtain rfl:j=k:=by omega
         rw [Hq.out] at ht
         unfold tkB at ht
         simp [hcu] at ht
       clear hcu
       go_wp2_with fail
       clear hst hw4 hw5 z0 z1 z2 y0 y1 y2 f0 f1 f2 t0 t1 t2 t3
       go_roundw
       case rel=>exact⟨k+1,by omega,by simp,HFn2,HI6.out,HK5.out,HO5.out⟩
       case measure=>simp [intOf];omega
     ·obtain rfl:k=N:=by omega
      have HX:Hid (E=0):=cS HE.out (.ok H1.out HC8.out HOk.out (fun i hi=>HFn.out i (by rw [HN.out] at hi;exact hi)))
      go_wp2_with fail
      go_ret
      rw [HX.out]
      exact⟨rfl,k,HR.out.1,fun _=>rfl⟩
   ·have HX:Hid (E=E2):=cS HE.out (.curve H1.out HC8.out E2 H2.out hE2)
    have d1:(E2 !=0)=true:=bne_iff_ne.2 hE2
    clear hE2
    go_wp2_with fail
    go_ret
    rw [HX.out]
    exact⟨rfl,0,HI3.out,fun h=>absurd h (bne_iff_ne.1 d1)⟩
  ·have HX:Hid (E=140):=cS HE.out (.cur H1.out hc)
   rw [decide_eq_false hc] at HCu
   clear hc
   go_wp2_with (go_at_call 33;refine (HCu.out _).mono ?_;rintro e w' ⟨rfl,rfl⟩)
   go_ret
   rw [HX.out]
   exact⟨rfl,0,HI2.out,fun h=>by cases h⟩
 ·have HX:Hid (E=E1):=cS HE.out (.flow E1 K1 H1.out hE1)
  have d1:(E1 !=0)=true:=bne_iff_ne.2 hE1
  clear hE1
  go_wp2_with fail
  go_ret
  rw [HX.out]
  exact⟨rfl,0,HI2.out,fun h=>absurd h (bne_iff_ne.1 d1)⟩
end Go.Proofs.YtbokkedmfolfdaaGreat
namespace Go.Proofs.YtbokkedmfolfdaaGreat
open Go.RowKit

theorem oN (args:Array Value) (w:World):(callFunc 20 args).run Tryz.prog w=.ok (.enter 20 args) w:=ni Tryz.func20 (by kernel_rfl) rfl args w
def xc (w:World) (b:Nat) (cur:Int) (c:Cv) (l:List Flw) (k:Nat) (wx:World):Prop:=∃ v,A.Run w wx b v (70+k) ⟨0,wsI cur c (l.take k)⟩
def yo (b:Nat) (wx:World) (x:Nat):Prop:=x=b∨∃ v:Value,wx.cell? ⟨b,1,none⟩=some v∧v.ownBlock=some x
theorem fc {w:World} {B b L:Nat} {v:Value} {a:A.St} (h:A.AccAt w B b v L a) (x:Nat):yo b w x↔A.Ft b v x:=by
 constructor
 ·rintro (e | ⟨v',h1,h2⟩)
  ·exact Or.inl e
  ·rw [h.cell1] at h1
   injection h1 with h1
   subst h1
   exact Or.inr h2
 ·rintro (e | e)
  ·exact Or.inl e
  ·exact Or.inr ⟨v,h.cell1,e⟩
theorem lw {cur:Int} {c:Cv} {f:Flw} (h:tkB cur c.base f=true):ctI cur c f=prI c f:=by unfold ctI;rw [if_pos h]
theorem oO {cur:Int} {c:Cv} {f:Flw} (h:tkB cur c.base f=false):ctI cur c f=0:=by unfold ctI;rw [h];rfl
theorem uZ {a:A.St} (h:a.s=0) (N:Int):(⟨0,N⟩:A.St).merge a=⟨0,N+a.N⟩:=by
 obtain⟨s,M⟩:=a
 dsimp only at h
 subst h
 rfl
theorem Cv.splV {c:Cv} {x:Int} (ok:c.Ok) (hf:c.Fit) (h:c.E x=0):av ((c.V x:Nat):Int)=true:=iX ok hf h
theorem yp {f:Flw} (h:cz f=0):av (f.am:Int)=true:=oJ h
theorem xd {l:List Flw} {cur:Int} {c:Cv} {w:World} {b:Nat} (hn:l.length≤30000) (hf:bK l) (hv:c.Fit):TkC 20 #[.pointer (some ⟨b,0,none⟩)] #[] l cur c w (xc w b cur c l) (yo b) where
 call:=fun k wx hk hb ok ht hE ⟨v,hr⟩=>by
  obtain⟨hV,_,_⟩:=Cv.num ok hv hE
  refine (A.lR w.heap.size b v (70+k) _ _ _ _ _ wx hr.acc hr.bl.size rfl (aI (hf k)) rfl (aI hV) (yp hb) (Cv.splV ok hv hE) (by omega)).mono ?_
  rintro e w' ⟨rfl,v',hd⟩
  refine⟨rfl,⟨v',?_⟩,hd.wrote.size,fun x hx hn=>?_⟩
  ·have:=hr.did hd
   have e1:max (70+k) 70+1=70+(k+1):=by omega
   rw [e1] at this
   have e2:(⟨0,wsI cur c (l.take k)⟩:A.St).merge (A.dw ((l.getD k ai).am:Int) (c.V (l.getD k ai).day:Int))=⟨0,wsI cur c (l.take (k+1))⟩:=by
    rw [mW hk,lw ht,uZ rfl];unfold prI;rfl
   rw [e2] at this
   exact this
  ·rw [fc hr.acc] at hn
   refine⟨hd.wrote.block x hx hn,fun h=>?_⟩
   rw [fc hd.acc] at h
   rcases h with h | h
   ·exact hn (Or.inl h)
   ·rcases hd.new x h with h2 | h2
    ·exact hn (Or.inr h2)
    ·omega
 skip:=fun k wx hk ht ⟨v,hr⟩=>⟨v,by
  have:=hr.mono (L':=70+(k+1)) (by omega)
  rw [mW hk,oO ht,Int.add_zero]
  exact this⟩
 stay:=fun k wx wy ⟨v,hr⟩ hb=>⟨⟨v,hr.acc.below hb,hr.bl.trans (hb.mono hr.bl.size)⟩,fun x h=>by
  rw [fc (hr.acc.below hb)] at h
  rw [fc hr.acc];exact h⟩
 low:=fun k wx ⟨v,hr⟩=>hr.bl
 lt:=fun k wx x ⟨v,hr⟩ h=>by
  rw [fc hr.acc] at h
  exact (hr.acc.base x h).2

structure OfP (l:List Flw) (cur:Int) (c:Cv) (N:Nat) (E:Int) (w:World) (e:Ending) (w':World):Prop where
 bad:E≠0→e=.returned (.tuple #[.pointer none,.int .i64 E])
 ok:E=0→∃ g,e=.returned (.tuple #[.pointer (some ⟨g,0,none⟩),.int .i64 0])∧WAt w' g (wsI cur c l) (70+N)
 bl:Below w.heap.size w w'
set_option maxRecDepth 20000 in
set_option maxHeartbeats 3200000 in
theorem vc (l:List Flw) (cur:Int) (c:Cv) (pl:Option Addr) (bl ol cl N:Nat) (pd pf:Option Addr) (bd od cd b2 o2 cf:Nat) (w:World) (E:Int) (hE:VisR l cur c E) (hl:JSrc aF w pl bl ol l) (hN:l.length=N) (hNb:N≤30000) (hf:bK l) (hs:TFl w pd pf bd od b2 o2 c.ds c.fs) :
  Calls Tryz.prog 6 #[.slice pl N cl,.int .i64 cur,.agg #[.int .i64 c.base,.int .i64 c.kind,.slice pd c.ds.length cd,.slice pf c.fs.length cf]] w fun e w'=>OfP l cur c N E w e w':=by
 have HK:=hideS (aM w c.base c.kind (.slice pd c.ds.length cd) (.slice pf c.fs.length cf))
 have HN:=hideS fun wx (hb:Below w.heap.size w wx)=>A.gG wx w.heap.size hb.size
 have HV:=hideS fun b wx (hi:xc w b cur c l 0 wx)=>ko 20 #[.pointer (some ⟨b,0,none⟩)] #[] l cur c pl bl ol cl N pd pf bd od cd b2 o2 cf (xc w b cur c l) (yo b) w wx E hE hl hN (by omega) hf hs oN (xd (by omega) hf hs.f) hi
 have HNl:=hideS hN
 clear hE hl hN hf hs
 generalize Value.slice pd c.ds.length cd=vd at *
 generalize Value.slice pf c.fs.length cf=vf at *
 have hmk:=nj
 go_enter Tryz.func6,Tryz.ntmps6
 go_wp2_with fail
 refine (HN.out _ HK.out.bl).mono ?_
 rintro e w2 ⟨rfl,ha2,hb2⟩
 have HK2:=hideS (HK.out.step hb2)
 have HI:Hid (xc w (w.alloc (.cells #[.int .i64 c.base,.int .i64 c.kind,vd,vf] 26)).heap.size cur c l 0 w2):=⟨_,ha2.mono (by omega),HK2.out.bl⟩
 clear ha2 hb2 HN HK
 obtain⟨b,hb⟩:∃ b,(w.alloc (.cells #[.int .i64 c.base,.int .i64 c.kind,vd,vf] 26)).heap.size=b:=⟨_,rfl⟩
 rw [hb] at HI ⊢
 clear hb
 have t0:=HK2.out.t0
 have t1:=HK2.out.t1
 have t2:=HK2.out.t2
 have t3:=HK2.out.t3
 go_wp2_with fail
 refine (HV.out b _ HI.out).mono ?_
 rintro e w3 ⟨rfl,k,hk,hz⟩
 obtain⟨v,hr⟩:=hk
 have HR:=hideS hr
 have HZ:=hideS hz
 clear hr hz HV t0 t1 t2 t3 hmk HK2 HI
 by_cases h0:E=0
 ·subst h0
  have HW:=hideS (fa (ym (B':=0) HR.out.acc (fun _ _=>Nat.zero_le _)))
  have HB:=hideS (HR.out.bl.alloc HR.out.bl.size (.cells #[.pointer (some ⟨b,0,none⟩)] 44))
  go_wp2_with fail
  go_ret2
  refine⟨fun h=>absurd rfl h,fun _=>⟨_,rfl,?_⟩,HB.out⟩
  have e1:=HZ.out trivial
  have:=HW.out
  rw [e1,← HNl.out,List.take_length,HNl.out] at this
  exact this
 ·have d1:(E !=0)=true:=bne_iff_ne.2 h0
  have HE:=hideS h0
  clear h0
  go_wp2_with fail
  go_ret2
  exact⟨fun _=>rfl,fun h=>absurd h HE.out,HR.out.bl⟩
theorem je (l:List Flw) (cur:Int) (c:Cv) (pl:Option Addr) (bl ol cl N:Nat) (pd pf:Option Addr) (bd od cd b2 o2 cf:Nat) (w:World) (h0:FineP l cur c) (hl:JSrc aF w pl bl ol l) (hN:l.length=N) (hf:bK l) (hs:TFl w pd pf bd od b2 o2 c.ds c.fs) :
  Calls Tryz.prog 6 #[.slice pl N cl,.int .i64 cur,.agg #[.int .i64 c.base,.int .i64 c.kind,.slice pd c.ds.length cd,.slice pf c.fs.length cf]] w fun e w'=>∃ g,e=.returned (.tuple #[.pointer (some ⟨g,0,none⟩),.int .i64 0])∧WAt w' g (wsI cur c l) (70+N)∧Below w.heap.size w w':=
 (vc l cur c pl bl ol cl N pd pf bd od cd b2 o2 cf w 0 (fJ h0) hl hN (by have:=h0.len;omega) hf hs).mono fun _ _ h=>by
  obtain⟨g,e,h'⟩:=h.ok rfl
  exact⟨g,e,h',h.bl⟩
noncomputable def rX (l:List Flw) (cur:Int) (c:Cv):Nat:=fL (dk (wsI cur c l))
noncomputable def rY (l:List Flw) (cur:Int) (c:Cv):Int:=fM (dk (wsI cur c l))
theorem pU (N:Int):dk N<18446744073709551616:=by
 unfold dk aw
 have:=dt N.natAbs (-2148)
 split
 ·omega
 ·split<;>omega
set_option maxRecDepth 20000 in
set_option maxHeartbeats 3200000 in
theorem pV (l:List Flw) (cur:Int) (c:Cv) (pl:Option Addr) (bl ol cl N:Nat) (pd pf:Option Addr) (bd od cd b2 o2 cf:Nat) (w:World) (h0:FineP l cur c) (hl:JSrc aF w pl bl ol l) (hN:l.length=N) (hf:bK l) (hs:TFl w pd pf bd od b2 o2 c.ds c.fs) :
  Calls Tryz.prog 8 #[.slice pl N cl,.int .i64 cur,.agg #[.int .i64 c.base,.int .i64 c.kind,.slice pd c.ds.length cd,.slice pf c.fs.length cf]] w fun e w'=>e=.returned (.tuple #[.float .f64 (rX l cur c),.int .i64 (rY l cur c)])∧Below w.heap.size w w':=by
 have HK:=hideS (aM w c.base c.kind (.slice pd c.ds.length cd) (.slice pf c.fs.length cf))
 have HO:=hideS fun wx (hb:Below w.heap.size w wx)=>je l cur c pl bl ol cl N pd pf bd od cd b2 o2 cf wx h0 (hl.below hb) hN hf (hs.below hb)
 have HNu:=hideS fun wx=>gw (dk (wsI cur c l)) wx (aI (pU _))
 have HL:Hid (N≤4096):=by show _≤_;have:=h0.len;omega
 unfold rX rY
 clear h0 hl hN hf hs
 generalize wsI cur c l=S at *
 obtain⟨x,hx⟩:∃ x,dk S=x:=⟨_,rfl⟩
 have HX:=hideS hx
 rw [hx] at HNu ⊢
 clear hx
 generalize Value.slice pd c.ds.length cd=vd at *
 generalize Value.slice pf c.fs.length cf=vf at *
 go_enter Tryz.func8,Tryz.ntmps8
 go_wp2_with fail
 refine (HO.out _ HK.out.bl).mono ?_
 rintro e w2 ⟨g,rfl,hw,hb2⟩
 have HK2:=hideS (HK.out.step hb2)
 obtain⟨b,v,c0,ha⟩:=hw.at_
 have HVa:=hideS (WAt.value ha (by have:=HL.out;omega))
 rw [HX.out] at HVa
 clear hb2 HK HO hw ha
 go_wp2_with fail
 refine HVa.out.mono ?_
 rintro e w3 ⟨rfl,hb3⟩
 have HK3:=hideS (HK2.out.step hb3)
 clear hb3 HK2 HVa c0
 go_wp2_with (go_at_call 21;refine (HNu.out _).mono ?_;rintro e w' ⟨rfl,rfl⟩)
 go_ret2
 exact⟨rfl,HK3.out.bl⟩
end Go.Proofs.YtbokkedmfolfdaaGreat
namespace Go.Proofs.YtbokkedmfolfdaaGreat
open Go.RowKit

theorem nl {x:Nat} (h:aD (x:Int)=true):ab x:=by
 unfold aD at h
 rw [decide_eq_true_eq] at h
 unfold szI at h
 unfold ab
 omega
theorem nm {x y:Nat} (hx:x<18446744073709551616) (fx:aD (x:Int)=true) (hy:y<18446744073709551616) (fy:aD (y:Int)=true):(A.dw (x:Int) (y:Int)).N=vI x*vI y:=by
 have h:=jQ hx (nl fx) hy (nl fy)
 unfold A.bj at h
 have e1:av (x:Int)=true:=fx
 have e2:av (y:Int)=true:=fy
 rw [e1,e2] at h
 simp only [Bool.and_self,if_true] at h
 rw [h]
theorem bR {l:List Flw} (hf:bK l) {f:Flw} (h:f ∈ l):f.am<18446744073709551616:=by
 obtain⟨i,_,rfl⟩:=fI h
 exact hf i
theorem yq {l:List Flw} {cur:Int} {c:Cv} (h:FineP l cur c) (hf:bK l) (hv:c.Fit) {f:Flw} (hm:f ∈ l) (ht:tkB cur c.base f=true):prI c f=vI f.am*vI (c.V f.day):=
 nm (bR hf hm) (oJ (h.bad f hm)) (Cv.num h.ok hv (h.fac f hm ht)).1 (iX h.ok hv (h.fac f hm ht))
end Go.Proofs.YtbokkedmfolfdaaGreat
namespace Go.Proofs.YtbokkedmfolfdaaGreat
open Go.RowKit

theorem oQ {x:Nat} (h:x<18446744073709551616):Op.negFloat .f64 x<18446744073709551616∧aD (Op.negFloat .f64 x:Int)=aD (x:Int)∧vI (Op.negFloat .f64 x)= -vI x:=by
 rw [ue h]
 obtain⟨h1,h2,h3⟩:=cY h
 refine⟨h1,?_,?_⟩
 ·unfold aD
  rw [kG,kG,h2]
 ·rw [cg,cg]
  unfold aV
  rw [h2]
  have e:sB (flipN x)=!sB x:=h3
  rw [e]
  cases sB x<;>simp [sgZ]
theorem vi {f:Flw} (h:f.am<18446744073709551616):cz (bF f)=cz f:=by
 unfold cz bF
 dsimp only
 rw [(oQ h).2.1]
theorem sb {l:List Flw} {cur:Int} {c:Cv} (h:FineP l cur c) (hf:bK l) (hv:c.Fit):FineP (l.map bF) cur c∧bK (l.map bF)∧wsI cur c (l.map bF)= -wsI cur c l:=by
 have hin:∀ f ∈ l.map bF,∃ g ∈ l,bF g=f:=fun f hf=>List.mem_map.1 hf
 refine⟨⟨by rw [List.length_map];exact h.len,fun f hm=>?_,h.cu,h.ok,fun f hm ht=>?_⟩,fun i=>?_,?_⟩
 ·obtain⟨g,hg,rfl⟩:=hin f hm
  rw [vi (bR hf hg)];exact h.bad g hg
 ·obtain⟨g,hg,rfl⟩:=hin f hm
  exact h.fac g hg ht
 ·by_cases hi:i<(l.map bF).length
  ·obtain⟨g,hg,e⟩:=hin _ (dO hi)
   rw [← e];exact (oQ (bR hf hg)).1
  ·rw [List.getD_eq_getElem?_getD,List.getElem?_eq_none (by omega)];decide
 ·have key:∀ f ∈ l,ctI cur c (bF f)= -ctI cur c f:=fun f hm=>by
   by_cases ht:tkB cur c.base f=true
   ·have ht':tkB cur c.base (bF f)=true:=ht
    obtain⟨n1,n2,n3⟩:=oQ (bR hf hm)
    have hE:=h.fac f hm ht
    rw [lw ht,lw ht',yq h hf hv hm ht]
    unfold prI
    have e:=nm (x:=Op.negFloat .f64 f.am) n1 (n2.trans (oJ (h.bad f hm))) (Cv.num h.ok hv hE).1 (iX h.ok hv hE)
    rw [n3,Int.neg_mul] at e
    exact e
   ·have ht':tkB cur c.base (bF f)=false:=by
     have:tkB cur c.base (bF f)=tkB cur c.base f:=rfl
     rw [this];simpa using ht
    rw [oO ht',oO (by simpa using ht)];rfl
  clear hin h hf hv
  induction l with
  | nil=>rfl
  | cons f l ih=>
   simp only [List.map_cons,wsI]
   rw [key f (List.mem_cons_self ..),ih (fun x hx=>key x (List.mem_cons_of_mem _ hx))]
   omega
theorem xe (N:Int):A.da (-N)= -A.da N:=by
 unfold A.da
 by_cases h:N<0
 ·rw [if_neg (by omega),if_neg (by omega),if_pos h];rfl
 ·by_cases h0:N=0
  ·subst h0;rfl
  ·rw [if_pos (by omega),if_neg h,if_neg h0]
theorem sc:dk 0=0:=rfl
theorem np {l m k:List Flw} {cur:Int} {c:Cv} (hp:k.Perm (l++m)) (hn:l.length+m.length≤4096):(FineP k cur c↔FineP l cur c∧FineP m cur c)∧wsI cur c k=wsI cur c l+wsI cur c m:=by
 have hl:(l++m).length≤4096:=by rw [List.length_append];exact hn
 refine⟨⟨fun h=>(eY hl).1 (iZ hp h),fun h=>iZ hp.symm ((eY hl).2 h)⟩,?_⟩
 rw [uL hp,eo]
theorem pW {l:List Flw} (h:∀ f ∈ l,f.am<18446744073709551616):bK l:=fun i=>by
 by_cases hi:i<l.length
 ·exact h _ (dO hi)
 ·rw [List.getD_eq_getElem?_getD,List.getElem?_eq_none (by omega)];decide
end Go.Proofs.YtbokkedmfolfdaaGreat
namespace Go.Proofs.YtbokkedmfolfdaaGreat
open Go.RowKit

theorem oR (args:Array Value) (w:World):(callFunc 31 args).run Tryz.prog w=.ok (.enter 31 args) w:=ni Tryz.func31 (by kernel_rfl) rfl args w
noncomputable def flO (cur:Int) (c:Cv) (l:List Flw):Nat→Option Nat
 | 0=>some 0
 | k+1=>if tkB cur c.base (l.getD k ai)=true then opO .add (flO cur c l k) (opO .mul (some (l.getD k ai).am) (some (c.V (l.getD k ai).day))) else flO cur c l k
def gdO (o:Option Nat):Nat:=o.getD 9221120237041090561
theorem xf {o:Option Nat} {x:Nat} (h:AgU o x):fL x=fL (gdO o)∧fM x=fM (gdO o):=by
 cases o with
 | some r=>rw [bq h.1];exact⟨rfl,rfl⟩
 | none=>
  have h1:aD (x:Int)=false:=gJ (bV h.1).1
  have h2:aD ((9221120237041090561:Nat):Int)=false:=by decide
  rw [show gdO none=9221120237041090561 from rfl]
  unfold fL fM
  rw [h1,h2]
  exact⟨rfl,rfl⟩
set_option maxHeartbeats 1600000 in
theorem vl (s x a f:Nat) (o:Option Nat) (w:World) (hs:w.heap[s]? =some (.cells #[.float .f64 x] 34)) (hx:AgU o x) (ha:a<18446744073709551616) (hf:f<18446744073709551616) :
  Calls Tryz.prog 31 #[.float .f64 a,.float .f64 f,.pointer (some ⟨s,0,none⟩)] w fun e w'=>e=.returned (.tuple #[])∧∃ y q,AgU (opO .add o (opO .mul (some a) (some f))) y∧w'=(w.drewN q).setCell ⟨s,0,none⟩ (.float .f64 y):=by
 have c0:w.cell? ⟨s,0,none⟩=some (.float .f64 x):=by simp [World.cell?,hs]
 obtain⟨r,⟨q,h1⟩,g⟩:=pL .mul (by simp) 34 (iO ha) (iO hf) w
 obtain⟨y,⟨q',h2⟩,g'⟩:=pL .add (by simp) 34 hx g (w.drewN q)
 have HG:=hideS g'
 have z0:w.frozen? ⟨s,0,none⟩=false:=by simp [World.frozen?,hs]
 have hst:=ca
 clear g g' hx ha hf hs
 go_enter Tryz.func31,Tryz.ntmps31
 go_wp2_with fail
 go_end0
 exact⟨rfl,y,q+q',HG.out,rfl⟩
def FlK (w:World) (s:Nat) (cur:Int) (c:Cv) (l:List Flw) (k:Nat) (wx:World):Prop:=∃ x,wx.heap[s]? =some (.cells #[.float .f64 x] 34)∧AgU (flO cur c l k) x∧Below w.heap.size w wx∧w.heap.size≤s
theorem xg {l:List Flw} {cur:Int} {c:Cv} {w:World} {s:Nat} (hf:bK l) (hv:c.Fit):TkC 31 #[] #[.pointer (some ⟨s,0,none⟩)] l cur c w (FlK w s cur c l) (fun _ x=>x=s) where
 call:=fun k wx hk hb ok ht hE ⟨x,h1,h2,h3,h4⟩=>by
  obtain⟨hV,_,_⟩:=Cv.num ok hv hE
  refine (vl s x _ _ _ wx h1 h2 (hf k) hV).mono ?_
  rintro e w' ⟨rfl,y,q,g,rfl⟩
  have hd:(wx.drewN q).heap[s]? =some (.cells #[.float .f64 x] 34):=h1
  have hb2:Below s (wx.drewN q) ((wx.drewN q).setCell ⟨s,0,none⟩ (.float .f64 y)):=(Below.refl _ _).setCell (p:=⟨s,0,none⟩) (Nat.le_refl _) _
  have hB:Below w.heap.size w ((wx.drewN q).setCell ⟨s,0,none⟩ (.float .f64 y)):=(⟨h3.os,h3.tape,h3.output,h3.size,h3.block⟩:Below w.heap.size w (wx.drewN q)).trans (hb2.mono h4)
  refine⟨rfl,⟨y,?_,?_,hB,h4⟩,hb2.size,fun z hz hn=>⟨Below.heap_setCell (wx.drewN q) ⟨s,0,none⟩ _ z hn,hn⟩⟩
  ·exact cA _ hd
  ·unfold flO;rw [if_pos ht];exact g
 skip:=fun k wx hk ht ⟨x,h1,h2,h3,h4⟩=>⟨x,h1,by unfold flO;rw [ht];exact h2,h3,h4⟩
 stay:=fun k wx wy ⟨x,h1,h2,h3,h4⟩ hb=>⟨⟨x,(hb.block s (Array.getElem?_eq_some_iff.1 h1).1).trans h1,h2,h3.trans (hb.mono h3.size),h4⟩,fun _ h=>h⟩
 low:=fun k wx ⟨x,h1,h2,h3,h4⟩=>h3
 lt:=fun k wx x ⟨y,h1,h2,h3,h4⟩ h=>by subst h;exact (Array.getElem?_eq_some_iff.1 h1).1
noncomputable def vm (l:List Flw) (cur:Int) (c:Cv):Nat:=fL (gdO (flO cur c l l.length))
noncomputable def vp (l:List Flw) (cur:Int) (c:Cv):Int:=fM (gdO (flO cur c l l.length))
structure FlP (l:List Flw) (cur:Int) (c:Cv) (E:Int) (w:World) (e:Ending) (w':World):Prop where
 bad:E≠0→e=.returned (.tuple #[.float .f64 0,.int .i64 E])
 ok:E=0→e=.returned (.tuple #[.float .f64 (vm l cur c),.int .i64 (vp l cur c)])
 bl:Below w.heap.size w w'
set_option maxRecDepth 20000 in
set_option maxHeartbeats 3200000 in
theorem vq (l:List Flw) (cur:Int) (c:Cv) (pl:Option Addr) (bl ol cl N:Nat) (pd pf:Option Addr) (bd od cd b2 o2 cf:Nat) (w:World) (E:Int) (hE:VisR l cur c E) (hl:JSrc aF w pl bl ol l) (hN:l.length=N) (hNb:N≤30000) (hf:bK l) (hs:TFl w pd pf bd od b2 o2 c.ds c.fs) :
  Calls Tryz.prog 17 #[.slice pl N cl,.int .i64 cur,.agg #[.int .i64 c.base,.int .i64 c.kind,.slice pd c.ds.length cd,.slice pf c.fs.length cf]] w fun e w'=>FlP l cur c E w e w':=by
 have HK:=hideS (aM w c.base c.kind (.slice pd c.ds.length cd) (.slice pf c.fs.length cf))
 have HV:=hideS fun b wx (hi:FlK w b cur c l 0 wx)=>ko 31 #[] #[.pointer (some ⟨b,0,none⟩)] l cur c pl bl ol cl N pd pf bd od cd b2 o2 cf (FlK w b cur c l) (fun _ x=>x=b) w wx E hE hl hN (by omega) hf hs oR (xg hf hs.f) hi
 have HNl:=hideS hN
 clear hE hl hN hf hs
 generalize Value.slice pd c.ds.length cd=vd at *
 generalize Value.slice pf c.fs.length cf=vf at *
 obtain⟨w2,hw2⟩:∃ w2,w.alloc (.cells #[.int .i64 c.base,.int .i64 c.kind,vd,vf] 26)=w2:=⟨_,rfl⟩
 rw [hw2] at HK
 have HK3:=hideS (HK.out.step ((Below.refl w2.heap.size w2).alloc (Nat.le_refl _) (.cells #[.float .f64 0] 34)))
 have HI:Hid (FlK w w2.heap.size cur c l 0 (w2.alloc (.cells #[.float .f64 0] 34))):=⟨0,heap_alloc_new _ _,iO (by decide),HK3.out.bl,HK.out.bl.size⟩
 have hmk:=nj
 have hst:=ca
 obtain⟨s,hs⟩:∃ s,w2.heap.size=s:=⟨_,rfl⟩
 rw [hs] at HI
 have t0:=HK3.out.t0
 have t1:=HK3.out.t1
 have t2:=HK3.out.t2
 have t3:=HK3.out.t3
 clear HK
 go_enter Tryz.func17,Tryz.ntmps17
 go_wp2_with fail
 clear hw2 hs hst hmk t0 t1 t2 t3
 refine (HV.out s _ HI.out).mono ?_
 rintro e w4 ⟨rfl,k,hk,hz⟩
 obtain⟨x,h1,h2,h3,h4⟩:=hk
 have c0:w4.cell? ⟨s,0,none⟩=some (.float .f64 x):=by simp [World.cell?,h1]
 have HNu:=hideS fun wx=>gw x wx h2.u
 have HTo:=hideS (xf h2)
 have HB:=hideS h3
 have HZ:=hideS hz
 clear h1 h2 h3 h4 hz HV HI
 by_cases h0:E=0
 ·subst h0
  have HT:Hid (fL x=vm l cur c∧fM x=vp l cur c):=by
   have e1:=HZ.out rfl
   have:=HTo.out
   rw [e1,← HNl.out] at this
   exact this
  rw [HT.out.1,HT.out.2] at HNu
  go_wp2_with (go_at_call 21;refine (HNu.out _).mono ?_;rintro e w' ⟨rfl,rfl⟩)
  go_ret2
  exact⟨fun h=>absurd rfl h,fun _=>rfl,HB.out⟩
 ·have d1:(E !=0)=true:=bne_iff_ne.2 h0
  have HE:=hideS h0
  clear h0
  go_wp2_with fail
  go_ret2
  exact⟨fun _=>rfl,fun h=>absurd h HE.out,HB.out⟩
theorem vr (l:List Flw) (cur:Int) (c:Cv) (pl:Option Addr) (bl ol cl N:Nat) (pd pf:Option Addr) (bd od cd b2 o2 cf:Nat) (w:World) (h0:FineP l cur c) (hl:JSrc aF w pl bl ol l) (hN:l.length=N) (hf:bK l) (hs:TFl w pd pf bd od b2 o2 c.ds c.fs) :
  Calls Tryz.prog 17 #[.slice pl N cl,.int .i64 cur,.agg #[.int .i64 c.base,.int .i64 c.kind,.slice pd c.ds.length cd,.slice pf c.fs.length cf]] w fun e w'=>e=.returned (.tuple #[.float .f64 (vm l cur c),.int .i64 (vp l cur c)])∧Below w.heap.size w w':=
 (vq l cur c pl bl ol cl N pd pf bd od cd b2 o2 cf w 0 (fJ h0) hl hN (by have:=h0.len;omega) hf hs).mono fun _ _ h=>⟨h.ok rfl,h.bl⟩
end Go.Proofs.YtbokkedmfolfdaaGreat
namespace Go.Proofs.YtbokkedmfolfdaaGreat
open Go.RowKit

theorem bw (base kind:Int) (pl pd pf:Option Addr) (N cl D cd F cf:Nat) (w:World) :
  Calls Tryz.prog 4 #[.slice pl N cl,.agg #[.int .i64 base,.int .i64 kind,.slice pd D cd,.slice pf F cf]] w fun e w'=>e=.returned (.bool (decide (N≤60∧D≤12∧F≤12)))∧Below w.heap.size w w':=by
 have HB:=hideS (aM w base kind (.slice pd D cd) (.slice pf F cf))
 have t2:=HB.out.t2
 have t3:=HB.out.t3
 by_cases h1:N≤60<;>by_cases h2:D≤12<;>by_cases h3:F≤12
 all_goals
  first | rw [decide_eq_true (⟨h1,h2,h3⟩:N≤60∧D≤12∧F≤12)] | rw [decide_eq_false (fun h:N≤60∧D≤12∧F≤12=>by omega)]
  have f3:decide ((F:Int)≤12)=decide (F≤12):=decide_eq_decide.2 (by omega)
  first | rw [decide_eq_true h3] at f3 | rw [decide_eq_false h3] at f3
  go_enter Tryz.func4,Tryz.ntmps4
  go_wp2_with fail
  go_ret
  exact⟨rfl,HB.out.bl⟩
def xL:List Flw:=[⟨50,4616189618054758400,1⟩,⟨200,4620693217682128896,1⟩,⟨10,4607182418800017408,2⟩]
def xC:Cv:=⟨0,2,avD,avF⟩
def oS:Obj:=.cells #[.int .i64 50,.float .f64 4616189618054758400,.int .i64 1,.int .i64 200,.float .f64 4620693217682128896,.int .i64 1,.int .i64 10,.float .f64 4607182418800017408,.int .i64 2] 50
theorem yu (w:World):JSrc aF (w.alloc oS) (some ⟨w.heap.size,0,none⟩) w.heap.size 0 xL:=by
 have h:=heap_alloc_new w oS
 refine⟨fun _=>rfl,fun _=>(Array.getElem?_eq_some_iff.1 h).1,fun i hi=>?_⟩
 have hi3:i<3:=hi
 unfold oS at h
 rcases (show i=0∨i=1∨i=2 by omega) with rfl | rfl | rfl
 all_goals
  refine⟨?_,?_,?_⟩
  all_goals
   simp only [World.cell?,h,oS,Option.isSome_none,Bool.false_eq_true,if_false]
   rfl
theorem oT:bK xL:=fun i=>by
 rcases (show i=0∨i=1∨i=2∨3≤i by omega) with rfl | rfl | rfl | h
 ·decide
 ·decide
 ·decide
 ·rw [List.getD_eq_getElem?_getD,List.getElem?_eq_none (by exact h)];decide
theorem vt:nU (ctY avF) 0 100 10=4606732058837280358:=by decide+kernel
theorem xh:FacO 0 2 avD avF 10 4606732058837280358 0:=by
 have hI:Inside (ctX 0 avD) 10 0 100 10:=⟨by decide,by decide,by decide,by decide,by decide⟩
 have hk:FindR (ctX 0 avD) 10 0:=⟨by decide,by decide,fun _=>by decide⟩
 have:=AtO.piece (kind:=2) (xs:=ctX 0 avD) (ys:=ctY avF) (x:=10) 0 100 10 av_ok.table (.at_ av_ok.table (by decide) (by decide) 0 hk (fun j hj=>by omega)) hk (by decide) hI
 unfold rF at this
 rw [if_neg (by decide),if_pos rfl,vt] at this
 exact .ok av_ok _ _ this
theorem xC_50:xC.V 50=4604930618986332160∧xC.E 50=0:=lp av_ok yT
theorem xC_200:xC.V 200=4598175219545276416∧xC.E 200=0:=lp av_ok (.ok av_ok _ _ (uB av_ok (i:=2) (by decide)))
theorem xC_10:xC.V 10=4606732058837280358∧xC.E 10=0:=lp av_ok xh
theorem vu:∀ f ∈ xL,cz f=0:=by decide
theorem nt:FineP xL 1 xC:=⟨by decide,vu,by decide,av_ok,fun f hf ht=>by
 simp only [xL,List.mem_cons,List.not_mem_nil,or_false] at hf
 rcases hf with rfl | rfl | rfl
 ·exact xC_50.2
 ·exact xC_200.2
 ·exact absurd ht (by decide)⟩
theorem vv:FineP xL 2 xC:=⟨by decide,vu,by decide,av_ok,fun f hf ht=>by
 simp only [xL,List.mem_cons,List.not_mem_nil,or_false] at hf
 rcases hf with rfl | rfl | rfl
 ·exact absurd ht (by decide)
 ·exact absurd ht (by decide)
 ·exact xC_10.2⟩
def gz (u v:Int):Int:=ar u*ar v*((2^(aB u+aB v+2148).toNat:Nat):Int)
theorem jf (u v:Int):(A.dw u v).N=gz u v:=by unfold A.dw gz;rw [Int.natCast_pow];rfl
theorem xi:wsI 1 xC xL=gz 4616189618054758400 4604930618986332160+(gz 4620693217682128896 4598175219545276416+(0+0)):=by
 have e1:ctI 1 xC ⟨50,4616189618054758400,1⟩=gz 4616189618054758400 4604930618986332160:=by
  unfold ctI;rw [if_pos (by decide)];unfold prI;dsimp only;rw [xC_50.1,jf];rfl
 have e2:ctI 1 xC ⟨200,4620693217682128896,1⟩=gz 4620693217682128896 4598175219545276416:=by
  unfold ctI;rw [if_pos (by decide)];unfold prI;dsimp only;rw [xC_200.1,jf];rfl
 have e3:ctI 1 xC ⟨10,4607182418800017408,2⟩=0:=by
  unfold ctI;rw [if_neg (by decide)]
 simp only [wsI,xL]
 rw [e1,e2,e3]
theorem xj:wsI 2 xC xL=0+(0+(gz 4607182418800017408 4606732058837280358+0)):=by
 have e1:ctI 2 xC ⟨50,4616189618054758400,1⟩=0:=by unfold ctI;rw [if_neg (by decide)]
 have e2:ctI 2 xC ⟨200,4620693217682128896,1⟩=0:=by unfold ctI;rw [if_neg (by decide)]
 have e3:ctI 2 xC ⟨10,4607182418800017408,2⟩=gz 4607182418800017408 4606732058837280358:=by
  unfold ctI;rw [if_pos (by decide)];unfold prI;dsimp only;rw [xC_10.1,jf];rfl
 simp only [wsI,xL]
 rw [e1,e2,e3]
theorem xk:dk (wsI 1 xC xL)=4617315517961601024:=by rw [xi];decide+kernel
theorem xL_val2:dk (wsI 2 xC xL)=4606732058837280358∧A.da (wsI 2 xC xL)=1:=by rw [xj];exact⟨by decide+kernel,by decide+kernel⟩
theorem xl:flO 1 xC xL 3=some 4617315517961601024:=by
 have h3:flO 1 xC xL 3=flO 1 xC xL 2:=by
  show (if tkB 1 xC.base (xL.getD 2 ai)=true then _ else _)=_
  rw [if_neg (by decide)]
 have h2:flO 1 xC xL 2=opO .add (flO 1 xC xL 1) (opO .mul (some 4620693217682128896) (some 4598175219545276416)):=by
  show (if tkB 1 xC.base (xL.getD 1 ai)=true then _ else _)=_
  rw [if_pos (by decide),show (xL.getD 1 ai).day=200 from rfl,xC_200.1];rfl
 have h1:flO 1 xC xL 1=opO .add (some 0) (opO .mul (some 4616189618054758400) (some 4604930618986332160)):=by
  show (if tkB 1 xC.base (xL.getD 0 ai)=true then _ else _)=_
  rw [if_pos (by decide),show (xL.getD 0 ai).day=50 from rfl,xC_50.1];rfl
 rw [h3,h2,h1]
 decide+kernel
theorem fd:aD ((4617315517961601024:Nat):Int)=true:=by decide
theorem xL_pre:rX xL 1 xC=4617315517961601024∧rY xL 1 xC=0:=by
 unfold rX rY;rw [xk];unfold fL fM;rw [if_pos fd,if_pos fd];exact⟨rfl,rfl⟩
theorem xL_fla:vm xL 1 xC=4617315517961601024∧vp xL 1 xC=0:=by
 unfold vm vp;rw [show xL.length=3 from rfl,xl];unfold gdO fL fM;rw [Option.getD_some,if_pos fd,if_pos fd];exact⟨rfl,rfl⟩

set_option maxRecDepth 40000 in
set_option maxHeartbeats 6400000 in
theorem gO (w:World):Calls Tryz.prog 5 #[] w fun e w'=>e=.returned (.bool true)∧Below w.heap.size w w':=by
 obtain⟨⟨c0,c1,c2,c3⟩,fz⟩:=si w
 have z0:=fz 0
 have z1:=fz 1
 have z2:=fz 2
 have z3:=fz 3
 have HS:=hideS (fT w).1.1
 have HB:=hideS (yt w)
 clear fz
 obtain⟨w3,hw3⟩:∃ w3,av3 w=w3:=⟨_,rfl⟩
 rw [hw3] at c0 c1 c2 c3 z0 z1 z2 z3 HB HS
 obtain⟨w4,hw4⟩:∃ w4,av4 w w3=w4:=⟨_,rfl⟩
 rw [hw4] at HB
 unfold av3 lz ns sf at hw3
 unfold av4 at hw4
 have q1:(FloatKind.f64.format.order 4617315517961601024 4617315517961601024==some .eq)=true:=by kernel_rfl
 have q2:(FloatKind.f64.format.order 4606732058837280358 4606732058837280358==some .eq)=true:=by kernel_rfl
 have HSr:=hideS (yu w4)
 have HB5:=hideS (HB.out.step ((Below.refl _ w4).alloc (Nat.le_refl _) oS))
 obtain⟨w5,hw5⟩:∃ w5,w4.alloc oS=w5:=⟨_,rfl⟩
 rw [hw5] at HSr HB5
 unfold oS at hw5
 obtain⟨g,hg⟩:∃ g,w4.heap.size=g:=⟨_,rfl⟩
 rw [hg] at HSr
 have HPr:Hid (∀ wx,Below w5.heap.size w5 wx→Calls Tryz.prog 8 #[.slice (some ⟨g,0,none⟩) 3 3,.int .i64 1,.agg #[.int .i64 0,.int .i64 2,.slice (some ⟨w.heap.size,0,none⟩) 2 2,.slice (some ⟨w.heap.size+1,0,none⟩) 2 2]] wx fun e w'=>e=.returned (.tuple #[.float .f64 4617315517961601024,.int .i64 0])∧Below wx.heap.size wx w'):=fun wx hb=>by
  have:=pV xL 1 xC (some ⟨g,0,none⟩) g 0 3 3 (some ⟨w.heap.size,0,none⟩) (some ⟨w.heap.size+1,0,none⟩) w.heap.size 0 2 (w.heap.size+1) 0 2 wx nt (HSr.out.below hb) rfl oT (HB5.out.src.below hb)
  rw [xL_pre.1,xL_pre.2] at this
  exact this
 have HFl:Hid (∀ wx,Below w5.heap.size w5 wx→Calls Tryz.prog 17 #[.slice (some ⟨g,0,none⟩) 3 3,.int .i64 1,.agg #[.int .i64 0,.int .i64 2,.slice (some ⟨w.heap.size,0,none⟩) 2 2,.slice (some ⟨w.heap.size+1,0,none⟩) 2 2]] wx fun e w'=>e=.returned (.tuple #[.float .f64 4617315517961601024,.int .i64 0])∧Below wx.heap.size wx w'):=fun wx hb=>by
  have:=vr xL 1 xC (some ⟨g,0,none⟩) g 0 3 3 (some ⟨w.heap.size,0,none⟩) (some ⟨w.heap.size+1,0,none⟩) w.heap.size 0 2 (w.heap.size+1) 0 2 wx nt (HSr.out.below hb) rfl oT (HB5.out.src.below hb)
  rw [xL_fla.1,xL_fla.2] at this
  exact this
 have HOf:Hid (∀ wx,Below w5.heap.size w5 wx→Calls Tryz.prog 6 #[.slice (some ⟨g,0,none⟩) 3 3,.int .i64 2,.agg #[.int .i64 0,.int .i64 2,.slice (some ⟨w.heap.size,0,none⟩) 2 2,.slice (some ⟨w.heap.size+1,0,none⟩) 2 2]] wx fun e w'=>∃ g,e=.returned (.tuple #[.pointer (some ⟨g,0,none⟩),.int .i64 0])∧WAt w' g (wsI 2 xC xL) 73∧Below wx.heap.size wx w'):=fun wx hb=>
  je xL 2 xC (some ⟨g,0,none⟩) g 0 3 3 (some ⟨w.heap.size,0,none⟩) (some ⟨w.heap.size+1,0,none⟩) w.heap.size 0 2 (w.heap.size+1) 0 2 wx vv (HSr.out.below hb) rfl oT (HB5.out.src.below hb)
 have HNo:=hideS fb
 have t0:=HB5.out.t0
 have t1:=HB5.out.t1
 have t2:=HB5.out.t2
 have t3:=HB5.out.t3
 clear HB
 go_enter Tryz.func5,Tryz.ntmps5
 go_wp2_with fail
 clear hw3 hw4 hw5 hg c0 c1 c2 c3 z0 z1 z2 z3 t0 t1 t2 t3 HS
 refine (HPr.out _ (Below.refl _ _)).mono ?_
 rintro e w6 ⟨rfl,hb6⟩
 have HB6:=hideS (HB5.out.step hb6)
 have HL6:=hideS hb6
 clear hb6 HPr
 have t0:=HB6.out.t0
 have t1:=HB6.out.t1
 have t2:=HB6.out.t2
 have t3:=HB6.out.t3
 go_wp2_with fail
 clear t0 t1 t2 t3
 refine (HFl.out _ HL6.out).mono ?_
 rintro e w7 ⟨rfl,hb7⟩
 have HB7:=hideS (HB6.out.step hb7)
 have HL7:=hideS (HL6.out.trans (hb7.mono HL6.out.size))
 clear hb7 HFl HB6 HL6
 have t0:=HB7.out.t0
 have t1:=HB7.out.t1
 have t2:=HB7.out.t2
 have t3:=HB7.out.t3
 go_wp2_with fail
 clear t0 t1 t2 t3
 refine (HOf.out _ HL7.out).mono ?_
 rintro e w8 ⟨r,rfl,hr,hb8⟩
 have HB8:=hideS (HB7.out.step hb8).bl
 have HW8:=hideS hr
 clear hb8 hr HOf HB7 HL7
 go_wp2_with fail
 refine (HNo.out w8).mono ?_
 rintro e w9 ⟨n,rfl,hn,hb9⟩
 have HB9:=hideS (HB8.out.trans (hb9.mono HB8.out.size))
 obtain⟨b,v,d0,ha⟩:=(HW8.out.below hb9).at_
 obtain⟨b',v',d1,ha'⟩:=hn.at_
 have HVa:=hideS (WAt.value ha (by decide))
 rw [xL_val2.1] at HVa
 have hlt:=(HW8.out.below hb9).lt
 have hlt':=hn.lt
 have HSg:=hideS fun wx (hb:Below w9.heap.size w9 wx)=>WAt.sign (ha.below hb) (by decide)
 have HSn:=hideS fun wx (hb:Below w9.heap.size w9 wx)=>WAt.sign (ha'.below hb) (by decide)
 rw [xL_val2.2] at HSg
 rw [show A.da 0=0 from by decide] at HSn
 clear hb9 hn ha ha' HW8 HB8 HNo
 go_wp2_with fail
 refine HVa.out.mono ?_
 rintro e w10 ⟨rfl,hb10⟩
 have g0:w10.cell? ⟨r,0,none⟩=some (.pointer (some ⟨b,0,none⟩)):=(hb10.cell (p:=⟨r,0,none⟩) hlt).trans d0
 have g1:w10.cell? ⟨n,0,none⟩=some (.pointer (some ⟨b',0,none⟩)):=(hb10.cell (p:=⟨n,0,none⟩) hlt').trans d1
 have HBx:=hideS (HB9.out.trans (hb10.mono HB9.out.size))
 have HSg':=hideS (HSg.out _ hb10)
 have HSn':=hideS (HSn.out _ hb10)
 clear hb10 d0 d1 HVa HSg HSn hlt hlt'
 go_wp2_with fail
 refine HSg'.out.mono ?_
 rintro e w' ⟨rfl,rfl⟩
 go_wp2_with fail
 refine HSn'.out.mono ?_
 rintro e w' ⟨rfl,rfl⟩
 go_wp2_with fail
 go_ret
 exact⟨rfl,HBx.out⟩
end Go.Proofs.YtbokkedmfolfdaaGreat
