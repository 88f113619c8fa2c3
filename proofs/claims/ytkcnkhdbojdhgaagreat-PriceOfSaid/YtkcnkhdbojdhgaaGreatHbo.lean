/-  -/
import Derived.Test.YtkcnkhdbojdhgaaGreatHbm
import Derived.Test.YtkcnkhdbojdhgaaGreatHbn
import Derived.Laws.EntriesVeiled
import Derived.Deep.RegionHeld3
import Derived.Test.YtkcnkhdbojdhgaaGreatFnv
import Derived.Test.YtkcnkhdbojdhgaaGreatHbi
import Derived.Test.YtkcnkhdbojdhgaaGreatHaj
import Derived.Test.YtkcnkhdbojdhgaaGreatHbb
import Derived.Test.YtkcnkhdbojdhgaaGreatHbg
import Derived.Test.YtkcnkhdbojdhgaaGreatHax
namespace Go.Proofs.YtkcnkhdbojdhgaaGreat
open Go.RowKit

theorem Eq (n:Int) (w:World) :
  Calls Tryz.prog 79 #[.int .i64 n] w fun e w'=>e=.returned (.bool (decide (1≤n∧n≤8)))∧w'=w:=by
 by_cases h1:1≤n<;>by_cases h2:n≤8
 all_goals
  first | rw [decide_eq_true (⟨h1,h2⟩:1≤n∧n≤8)] | rw [decide_eq_false (fun h:1≤n∧n≤8=>by omega)]
  go_enter Tryz.func79,Tryz.ntmps79
  go_wp2
  go_ret
  exact⟨rfl,rfl⟩
set_option maxHeartbeats 800000 in
theorem Er (x:Nat) (w:World) (hx:U64 x) :
  Calls Tryz.prog 92 #[.float .f64 x] w fun e w'=>e=.returned (.bool (bf x))∧w'=w:=by
 have H1:=hideS fun w=>aT x w hx
 cases hn:ag (x:Int)
 ·rw [hn] at H1
  have H2:=hideS fun w=>iL x _ w hx (qV hn)
  generalize bf x=b at *
  clear hn hx
  cases b
  all_goals
   go_enter Tryz.func92,Tryz.ntmps92
   go_wp2_with fail
   refine (H1.out _).mono ?_
   rintro e w' ⟨rfl,rfl⟩
   go_wp2_with fail
   refine (H2.out _).mono ?_
   rintro e w' ⟨rfl,rfl⟩
   go_wp2_with fail
   go_ret
   exact⟨rfl,rfl⟩
 ·rw [hn] at H1
  rw [ls hn]
  clear hn hx
  go_enter Tryz.func92,Tryz.ntmps92
  go_wp2_with fail
  refine (H1.out _).mono ?_
  rintro e w' ⟨rfl,rfl⟩
  go_wp2_with fail
  go_ret
  exact⟨rfl,rfl⟩
theorem kU (x:Nat) (w:World) (hx:U64 x) :
  Calls Tryz.prog 43 #[.float .f64 x] w fun e w'=>e=.returned (.tuple #[.float .f64 (tldV x),.int .i64 (iN x)])∧w'=w:=by
 have HN:=hideS fun w=>Er x w hx
 unfold tldV iN
 cases hb:bf (x:Int)
 all_goals
  rw [hb] at HN
  clear hb hx
  simp only [Bool.false_eq_true,if_false,if_true]
  go_enter Tryz.func43,Tryz.ntmps43
  go_wp2_with (go_at_call 92;refine (HN.out _).mono ?_;rintro e w' ⟨rfl,rfl⟩)
  go_ret2
  exact⟨rfl,rfl⟩

structure TkC (fN:Nat) (fst cap:Array Value) (l:List Flw) (cur:Int) (c:Cv) (w0:World) (I:Nat→World→Prop) (Ow:World→Nat→Prop):Prop where
 call:∀ k wx,k<l.length→dU (l.getD k ar)=0→c.Ok→tkB cur c.base (l.getD k ar)=true→c.E (l.getD k ar).day=0→I k wx→Calls Tryz.prog fN (fst++(#[.float .f64 (l.getD k ar).am,.float .f64 (c.V (l.getD k ar).day)]++cap)) wx fun e w'=>e=.returned (.tuple #[])∧I (k+1) w'∧wx.heap.size≤w'.heap.size∧∀ x<wx.heap.size,¬ Ow wx x→w'.heap[x]? =wx.heap[x]? ∧¬ Ow w' x
 skip:∀ k wx,k<l.length→tkB cur c.base (l.getD k ar)=false→I k wx→I (k+1) wx
 stay:∀ k wx wy,I k wx→Below wx.heap.size wx wy→I k wy∧∀ x,Ow wy x→Ow wx x
 low:∀ k wx,I k wx→Below w0.heap.size w0 wx
 lt:∀ k wx x,I k wx→Ow wx x→x<wx.heap.size
structure BxK (w:World) (g:Nat) (base kind:Int) (vd vf:Value):Prop where
 blk:w.heap[g]? =some (.cells #[.int .i64 base,.int .i64 kind,vd,vf] 26)
theorem BxK.lt {w:World} {g:Nat} {base kind:Int} {vd vf:Value} (h:BxK w g base kind vd vf):g<w.heap.size:=(Array.getElem?_eq_some_iff.1 h.blk).1
theorem BxK.t {w:World} {g:Nat} {base kind:Int} {vd vf:Value} (h:BxK w g base kind vd vf):w.cell? ⟨g,0,none⟩=some (.int .i64 base)∧w.cell? ⟨g,1,none⟩=some (.int .i64 kind)∧w.cell? ⟨g,2,none⟩=some vd∧w.cell? ⟨g,3,none⟩=some vf:=by
 have hb:=h.blk
 exact⟨by simp [World.cell?,hb],by simp [World.cell?,hb],by simp [World.cell?,hb],by simp [World.cell?,hb]⟩
theorem BxK.step {w w':World} {g:Nat} {base kind:Int} {vd vf:Value} (h:BxK w g base kind vd vf) (hb:Below w.heap.size w w'):BxK w' g base kind vd vf:=⟨(hb.block g h.lt).trans h.blk⟩
theorem ID (w:World) (base kind:Int) (vd vf:Value):BxK (w.alloc (.cells #[.int .i64 base,.int .i64 kind,vd,vf] 26)) w.heap.size base kind vd vf:=⟨heap_alloc_new _ _⟩
theorem xg {l:List Flw} (h:ChkF l 0 0):l.length≤4096∧∀ i<l.length,dU (l.getD i ar)=0:=by
 generalize hz:(0:Int)=z at h
 cases h with
 | fine hl h=>exact⟨hl,h⟩
 | bad hl k hk e he h0 h=>exact absurd hz.symm h0

set_option maxRecDepth 20000 in
set_option maxHeartbeats 6400000 in
theorem pM (fN:Nat) (fst cap:Array Value) (l:List Flw) (cur:Int) (c:Cv) (pl:Option Addr) (bl ol cl N:Nat) (pd pf:Option Addr) (bd od cd b2 o2 cf:Nat) (I:Nat→World→Prop) (Ow:World→Nat→Prop) (w0 w:World) (E:Int) (hE:VisR l cur c E) (hl:JSrc aF w0 pl bl ol l) (hN:l.length=N) (hNb:N≤9223372036854775807) (hf:dV l) (hs:TFl w0 pd pf bd od b2 o2 c.ds c.fs) (hen:∀ args w,(callFunc fN args).run Tryz.prog w=.ok (.enter fN args) w) (hT:TkC fN fst cap l cur c w0 I Ow) (hI:I 0 w) :
  Calls Tryz.prog 38 #[.slice pl N cl,.int .i64 cur,.agg #[.int .i64 c.base,.int .i64 c.kind,.slice pd c.ds.length cd,.slice pf c.fs.length cf],.func (.func fN) fst cap] w fun e w'=>e=.returned (.int .i64 E)∧∃ k,I k w'∧(E=0→k=N):=by
 obtain⟨E1,K1,h1⟩:=rj l
 obtain⟨E2,h2⟩:=lv c.base c.kind c.ds c.fs
 have HCk:=hideS fun wx (hb:Below w0.heap.size w0 wx)=>xb l pl bl ol cl N E1 K1 wx (hl.below hb) hN hNb hf h1
 have HCu:=hideS fun wx=>Eq cur wx
 have HCc:=hideS fun wx (hb:Below w0.heap.size w0 wx)=>fX c.base c.kind pd pf bd od cd b2 o2 cf c.ds c.fs wx (hs.below hb) h2
 have HFa:=hideS fun x wx (hb:Below w0.heap.size w0 wx)=>oh c.base c.kind x (c.E x) (c.V x) pd pf bd od cd b2 o2 cf c.ds c.fs wx (hs.below hb) (ib c.base c.kind c.ds c.fs x)
 have HK:=hideS (ID w c.base c.kind (.slice pd c.ds.length cd) (.slice pf c.fs.length cf))
 have H0:=hideS (hT.stay 0 w _ hI ((Below.refl _ _).alloc (Nat.le_refl _) (.cells #[.int .i64 c.base,.int .i64 c.kind,.slice pd c.ds.length cd,.slice pf c.fs.length cf] 26))).1
 have HO:Hid (¬ Ow (w.alloc (.cells #[.int .i64 c.base,.int .i64 c.kind,.slice pd c.ds.length cd,.slice pf c.fs.length cf] 26)) w.heap.size):=fun h=>Nat.lt_irrefl _ (hT.lt 0 w _ hI ((hT.stay 0 w _ hI ((Below.refl _ _).alloc (Nat.le_refl _) _)).2 _ h))
 have HE:=hideS hE
 have HT:=hideS hT
 have HQ:=hideS hl
 have HN:=hideS hN
 have HP:Hid (0<N→pl=some ⟨bl,ol,none⟩):=fun h=>hl.at_ (by omega)
 have H1:=hideS h1
 have H2:=hideS h2
 clear hE hT hl hN hf hs h1 h2 hI
 generalize hvd:Value.slice pd c.ds.length cd=vd at *
 generalize hvf:Value.slice pf c.fs.length cf=vf at *
 obtain⟨base,hbase⟩:∃ b,c.base=b:=⟨_,rfl⟩
 obtain⟨kind,hkind⟩:∃ b,c.kind=b:=⟨_,rfl⟩
 rw [hbase,hkind] at HCc HFa HK H0 HO ⊢
 have HBs:=hideS hbase
 clear hvd hvf hbase hkind
 obtain⟨w1,hw1⟩:∃ w1,w.alloc (.cells #[.int .i64 base,.int .i64 kind,vd,vf] 26)=w1:=⟨_,rfl⟩
 rw [hw1] at HK H0 HO
 obtain⟨g,hg⟩:∃ g,w.heap.size=g:=⟨_,rfl⟩
 rw [hg] at HK HO
 go_enter Tryz.func38,Tryz.ntmps38
 go_wp2_with fail
 clear hg hw1
 refine (HCk.out _ (HT.out.low _ _ H0.out)).mono ?_
 rintro e w2 ⟨rfl,hb2⟩
 have HK2:=hideS (HK.out.step hb2)
 have HO2:Hid (¬ Ow w2 g):=fun h=>HO.out ((HT.out.stay _ _ _ H0.out hb2).2 _ h)
 have HI2:=hideS (HT.out.stay _ _ _ H0.out hb2).1
 clear hb2 HK HO H0 HCk
 by_cases hE1:E1=0
 ·subst hE1
  have HKz:=hideS (ie H1.out)
  rw [HKz.out] at H1
  by_cases hc:1≤cur∧cur≤8
  ·rw [decide_eq_true hc] at HCu
   have HC8:=hideS hc
   clear hc
   obtain⟨t0,t1,t2,t3⟩:=HK2.out.t
   go_wp2_with (go_at_call 79;refine (HCu.out _).mono ?_;rintro e w' ⟨rfl,rfl⟩)
   refine (HCc.out _ (HT.out.low _ _ HI2.out)).mono ?_
   rintro e w3 ⟨rfl,hb3⟩
   have HK3:=hideS (HK2.out.step hb3)
   have HO3:Hid (¬ Ow w3 g):=fun h=>HO2.out ((HT.out.stay _ _ _ HI2.out hb3).2 _ h)
   have HI3:=hideS (HT.out.stay _ _ _ HI2.out hb3).1
   clear hb3 HK2 HO2 HI2 HCc HCu t0 t1 t2 t3
   by_cases hE2:E2=0
   ·subst hE2
    have HOk:=hideS (hU H2.out)
    have HFi:=hideS fun i (hi:i<N)=>(xg H1.out).2 i (by rw [HN.out];exact hi)
    have HNs:=hideS (xg H1.out).1
    go_wp2_with fail
    go_loopw [34] (fun i wr=>∃ k:Nat,k≤N∧i=.int .i64 k∧Hid (∀ j<k,tkB cur c.base (l.getD j ar)=true→c.E (l.getD j ar).day=0)∧Hid (I k wr∧BxK wr g base kind vd vf∧¬ Ow wr g)) (fun i _=>N - (intOf i).toNat)
    case atStart=>exact⟨0,Nat.zero_le _,rfl,fun j hj=>by omega,HI3.out,HK3.out,HO3.out⟩
    case round=>
     clear HI3 HK3 HO3
     obtain⟨k,hk,rfl,HFn,HR⟩:=hrel
     by_cases hlt:k<N
     ·obtain rfl:=HP.out (by omega)
      have HQr:=hideS (HQ.out.below (HT.out.low _ _ HR.out.1))
      obtain⟨c0,c1,c2⟩:=HQr.out.cell k (by rw [HN.out];exact hlt)
      have HQB:=hideS (uq wr (l.getD k ar))
      have HCl:=hideS (HT.out.call k)
      have HSk:=hideS (HT.out.skip k)
      obtain⟨⟨z0,z1,z2⟩,fz⟩:=kT wr
      have y0:=fz 0
      have y1:=fz 1
      have y2:=fz 2
      clear fz
      obtain⟨q,hq⟩:∃ q,l.getD k ar=q:=⟨_,rfl⟩
      have HBd:=hideS (HFi.out k hlt)
      rw [hq] at HCl HSk HQB c0 c1 c2 HBd
      have Hq:=hideS hq
      clear hq
      obtain⟨qd,qa,qc⟩:=q
      dsimp only [aF] at *
      obtain⟨w4,hw4⟩:∃ w4,wr.alloc dh=w4:=⟨_,rfl⟩
      rw [hw4] at z0 z1 z2 y0 y1 y2 HQB
      unfold dh at hw4
      obtain⟨w5,hw5⟩:∃ w5,AI w4 wr.heap.size ⟨qd,qa,qc⟩=w5:=⟨_,rfl⟩
      rw [hw5] at HQB
      unfold AI at hw5
      dsimp only at hw5
      have f0:=HQB.out.t0
      have f1:=HQB.out.t1
      have f2:=HQB.out.t2
      dsimp only at f0 f1 f2
      have hst:=ic
      have HK5:=hideS (HR.out.2.1.step HQB.out.bl)
      have HI5:=hideS (HT.out.stay _ _ _ HR.out.1 HQB.out.bl).1
      have HO5:Hid (¬ Ow w5 g):=fun h=>HR.out.2.2 ((HT.out.stay _ _ _ HR.out.1 HQB.out.bl).2 _ h)
      obtain⟨t0,t1,t2,t3⟩:=HK5.out.t
      have HTk:Hid (tkB cur c.base ⟨qd,qa,qc⟩=(decide (qc=cur)&&decide (base≤qd))):=by show _=_;unfold tkB;rw [HBs.out]
      rw [HTk.out] at HCl HSk
      clear HTk HQB HR HQr
      by_cases hcu:qc=cur
      ·subst hcu
       by_cases hda:qd<base
       ·have HI6:=hideS (HSk.out w5 (by rw [HN.out];exact hlt) (by simp;omega) HI5.out)
        have HFn2:Hid (∀ j<k+1,tkB qc c.base (l.getD j ar)=true→c.E (l.getD j ar).day=0):=fun j hj ht=>by
         by_cases d:j<k
         ·exact HFn.out j d ht
         ·obtain rfl:j=k:=by omega
          rw [Hq.out] at ht
          unfold tkB at ht
          rw [HBs.out] at ht
          simp at ht;omega
        have o1:(qc !=qc)=false:=by simp
        go_wp2_with fail
        clear hst hw4 hw5 z0 z1 z2 y0 y1 y2 f0 f1 f2 t0 t1 t2 t3
        go_roundw
        case rel=>exact⟨k+1,by omega,by simp,HFn2,HI6.out,HK5.out,HO5.out⟩
        case measure=>simp [intOf];omega
       ·have HFc:=hideS (HFa.out qd)
        obtain⟨FE,hFE⟩:∃ x,c.E qd=x:=⟨_,rfl⟩
        obtain⟨FV,hFV⟩:∃ x,c.V qd=x:=⟨_,rfl⟩
        rw [hFE,hFV] at HFc HCl
        have HFE:=hideS hFE
        clear hFE hFV
        have o1:(qc !=qc)=false:=by simp
        have o2:decide (qd<base)=false:=decide_eq_false hda
        have HTy:Hid (tkB qc c.base (l.getD k ar)=true):=by show _=_;rw [Hq.out];unfold tkB;rw [HBs.out];simp;omega
        have hlw:wr.heap.size<w5.heap.size:=World.block_lt_of_cell? _ _ f1
        by_cases hz:FE=0
        ·subst hz
         have HFn2:Hid (∀ j<k+1,tkB qc c.base (l.getD j ar)=true→c.E (l.getD j ar).day=0):=fun j hj ht=>by
          by_cases d:j<k
          ·exact HFn.out j d ht
          ·obtain rfl:j=k:=by omega
           rw [Hq.out];exact HFE.out
         go_wp2_with fail
         clear hst hw4 hw5 z0 z1 z2 y0 y1 y2 t0 t1 t2 t3
         refine (HFc.out _ (HT.out.low _ _ HI5.out)).mono ?_
         rintro e w6 ⟨rfl,hb6⟩
         have HK6:=hideS (HK5.out.step hb6)
         have HI6:=hideS (HT.out.stay _ _ _ HI5.out hb6).1
         have HO6:Hid (¬ Ow w6 g):=fun h=>HO5.out ((HT.out.stay _ _ _ HI5.out hb6).2 _ h)
         have g1:w6.cell? ⟨wr.heap.size,1,none⟩=some (.float .f64 qa):=(hb6.cell (p:=⟨wr.heap.size,1,none⟩) hlw).trans f1
         clear hb6 HK5 HI5 HO5 HFc f0 f1 f2 hlw
         go_wp2_with fail
         refine (HCl.out w6 (by rw [HN.out];exact hlt) HBd.out HOk.out (by simp;omega) trivial HI6.out).mono ?_
         rintro e w7 ⟨rfl,hi7,hs7,hk7⟩
         have HI7:=hideS hi7
         have HK7:Hid (BxK w7 g base kind vd vf):=⟨(hk7 g HK6.out.lt HO6.out).1.trans HK6.out.blk⟩
         have HO7:=hideS (hk7 g HK6.out.lt HO6.out).2
         clear hi7 hs7 hk7 g1 HK6 HI6 HO6
         go_wp2_with fail
         go_roundw
         case rel=>exact⟨k+1,by omega,by simp,HFn2,HI7.out,HK7.out,HO7.out⟩
         case measure=>simp [intOf];omega
        ·have HX:Hid (E=FE):=bB HE.out (.fac H1.out HC8.out HOk.out k (by rw [HN.out];exact hlt) HTy.out FE (by rw [Hq.out];exact HFE.out) hz HFn.out)
         have d1:(FE !=0)=true:=bne_iff_ne.2 hz
         clear hz
         go_wp2_with fail
         clear hst hw4 hw5 z0 z1 z2 y0 y1 y2 t0 t1 t2 t3
         refine (HFc.out _ (HT.out.low _ _ HI5.out)).mono ?_
         rintro e w6 ⟨rfl,hb6⟩
         have HI6:=hideS (HT.out.stay _ _ _ HI5.out hb6).1
         clear hb6 HK5 HI5 HO5 HFc f0 f1 f2 hlw
         go_wp2_with fail
         go_ret
         rw [HX.out]
         exact⟨rfl,k,HI6.out,fun h=>absurd h (bne_iff_ne.1 d1)⟩
      ·have o1:(qc !=cur)=true:=bne_iff_ne.2 hcu
       have HI6:=hideS (HSk.out w5 (by rw [HN.out];exact hlt) (by simp [hcu]) HI5.out)
       have HFn2:Hid (∀ j<k+1,tkB cur c.base (l.getD j ar)=true→c.E (l.getD j ar).day=0):=fun j hj ht=>by
        by_cases d:j<k
        ·exact HFn.out j d ht
        ·obtain rfl:j=k:=by omega
         rw [Hq.out] at ht
         unfold tkB at ht
         simp [hcu] at ht
       clear hcu
       go_wp2_with fail
       clear hst hw4 hw5 z0 z1 z2 y0 y1 y2 f0 f1 f2 t0 t1 t2 t3
       go_roundw
       case rel=>exact⟨k+1,by omega,by simp,HFn2,HI6.out,HK5.out,HO5.out⟩
       case measure=>simp [intOf];omega
     ·obtain rfl:k=N:=by omega
      have HX:Hid (E=0):=bB HE.out (.ok H1.out HC8.out HOk.out (fun i hi=>HFn.out i (by rw [HN.out] at hi;exact hi)))
      go_wp2_with fail
      go_ret
      rw [HX.out]
      exact⟨rfl,k,HR.out.1,fun _=>rfl⟩
   ·have HX:Hid (E=E2):=bB HE.out (.curve H1.out HC8.out E2 H2.out hE2)
    have d1:(E2 !=0)=true:=bne_iff_ne.2 hE2
    clear hE2
    go_wp2_with fail
    go_ret
    rw [HX.out]
    exact⟨rfl,0,HI3.out,fun h=>absurd h (bne_iff_ne.1 d1)⟩
  ·have HX:Hid (E=140):=bB HE.out (.cur H1.out hc)
   rw [decide_eq_false hc] at HCu
   clear hc
   go_wp2_with (go_at_call 79;refine (HCu.out _).mono ?_;rintro e w' ⟨rfl,rfl⟩)
   go_ret
   rw [HX.out]
   exact⟨rfl,0,HI2.out,fun h=>by cases h⟩
 ·have HX:Hid (E=E1):=bB HE.out (.flow E1 K1 H1.out hE1)
  have d1:(E1 !=0)=true:=bne_iff_ne.2 hE1
  clear hE1
  go_wp2_with fail
  go_ret
  rw [HX.out]
  exact⟨rfl,0,HI2.out,fun h=>absurd h (bne_iff_ne.1 d1)⟩
end Go.Proofs.YtkcnkhdbojdhgaaGreat
namespace Go.Proofs.YtkcnkhdbojdhgaaGreat
open Go.RowKit

theorem xh (args:Array Value) (w:World):(callFunc 39 args).run Tryz.prog w=.ok (.enter 39 args) w:=uE Tryz.func39 (by kernel_rfl) rfl args w
def Gu (w:World) (b:Nat) (cur:Int) (c:Cv) (l:List Flw) (k:Nat) (wx:World):Prop:=∃ v,A.Run w wx b v (70+k) ⟨0,wsI cur c (l.take k)⟩
def IF (b:Nat) (wx:World) (x:Nat):Prop:=x=b∨∃ v:Value,wx.cell? ⟨b,1,none⟩=some v∧v.ownBlock=some x
theorem jH {w:World} {B b L:Nat} {v:Value} {a:A.St} (h:A.AccAt w B b v L a) (x:Nat):IF b w x↔A.Ft b v x:=by
 constructor
 ·rintro (e | ⟨v',h1,h2⟩)
  ·exact Or.inl e
  ·rw [h.cell1] at h1
   injection h1 with h1
   subst h1
   exact Or.inr h2
 ·rintro (e | e)
  ·exact Or.inl e
  ·exact Or.inr ⟨v,h.cell1,e⟩
theorem yx {cur:Int} {c:Cv} {f:Flw} (h:tkB cur c.base f=true):ctI cur c f=prI c f:=by unfold ctI;rw [if_pos h]
theorem Es {cur:Int} {c:Cv} {f:Flw} (h:tkB cur c.base f=false):ctI cur c f=0:=by unfold ctI;rw [h];rfl
theorem uG {a:A.St} (h:a.s=0) (N:Int):(⟨0,N⟩:A.St).merge a=⟨0,N+a.N⟩:=by
 obtain⟨s,M⟩:=a
 dsimp only at h
 subst h
 rfl
theorem Cv.splV {c:Cv} {x:Int} (ok:c.Ok) (hf:c.Fit) (h:c.E x=0):av ((c.V x:Nat):Int)=true:=Eb ok hf h
theorem Et {f:Flw} (h:dU f=0):av (f.am:Int)=true:=IA h
theorem Gv {l:List Flw} {cur:Int} {c:Cv} {w:World} {b:Nat} (hn:l.length≤30000) (hf:dV l) (hv:c.Fit):TkC 39 #[.pointer (some ⟨b,0,none⟩)] #[] l cur c w (Gu w b cur c l) (IF b) where
 call:=fun k wx hk hb ok ht hE ⟨v,hr⟩=>by
  obtain⟨hV,_,_⟩:=Cv.num ok hv hE
  refine (A.sQ w.heap.size b v (70+k) _ _ _ _ _ wx hr.acc hr.bl.size rfl (ah (hf k)) rfl (ah hV) (Et hb) (Cv.splV ok hv hE) (by omega)).mono ?_
  rintro e w' ⟨rfl,v',hd⟩
  refine⟨rfl,⟨v',?_⟩,hd.wrote.size,fun x hx hn=>?_⟩
  ·have:=hr.did hd
   have e1:max (70+k) 70+1=70+(k+1):=by omega
   rw [e1] at this
   have e2:(⟨0,wsI cur c (l.take k)⟩:A.St).merge (A.dQ ((l.getD k ar).am:Int) (c.V (l.getD k ar).day:Int))=⟨0,wsI cur c (l.take (k+1))⟩:=by
    rw [nj hk,yx ht,uG rfl];unfold prI;rfl
   rw [e2] at this
   exact this
  ·rw [jH hr.acc] at hn
   refine⟨hd.wrote.block x hx hn,fun h=>?_⟩
   rw [jH hd.acc] at h
   rcases h with h | h
   ·exact hn (Or.inl h)
   ·rcases hd.new x h with h2 | h2
    ·exact hn (Or.inr h2)
    ·omega
 skip:=fun k wx hk ht ⟨v,hr⟩=>⟨v,by
  have:=hr.mono (L':=70+(k+1)) (by omega)
  rw [nj hk,Es ht,Int.add_zero]
  exact this⟩
 stay:=fun k wx wy ⟨v,hr⟩ hb=>⟨⟨v,hr.acc.below hb,hr.bl.trans (hb.mono hr.bl.size)⟩,fun x h=>by
  rw [jH (hr.acc.below hb)] at h
  rw [jH hr.acc];exact h⟩
 low:=fun k wx ⟨v,hr⟩=>hr.bl
 lt:=fun k wx x ⟨v,hr⟩ h=>by
  rw [jH hr.acc] at h
  exact (hr.acc.base x h).2

structure OfP (l:List Flw) (cur:Int) (c:Cv) (N:Nat) (E:Int) (w:World) (e:Ending) (w':World):Prop where
 bad:E≠0→e=.returned (.tuple #[.pointer none,.int .i64 E])
 ok:E=0→∃ g,e=.returned (.tuple #[.pointer (some ⟨g,0,none⟩),.int .i64 0])∧WAt w' g (wsI cur c l) (70+N)
 bl:Below w.heap.size w w'
set_option maxRecDepth 20000 in
set_option maxHeartbeats 3200000 in
theorem xj (l:List Flw) (cur:Int) (c:Cv) (pl:Option Addr) (bl ol cl N:Nat) (pd pf:Option Addr) (bd od cd b2 o2 cf:Nat) (w:World) (E:Int) (hE:VisR l cur c E) (hl:JSrc aF w pl bl ol l) (hN:l.length=N) (hNb:N≤30000) (hf:dV l) (hs:TFl w pd pf bd od b2 o2 c.ds c.fs) :
  Calls Tryz.prog 13 #[.slice pl N cl,.int .i64 cur,.agg #[.int .i64 c.base,.int .i64 c.kind,.slice pd c.ds.length cd,.slice pf c.fs.length cf]] w fun e w'=>OfP l cur c N E w e w':=by
 have HK:=hideS (bK w c.base c.kind (.slice pd c.ds.length cd) (.slice pf c.fs.length cf))
 have HN:=hideS fun wx (hb:Below w.heap.size w wx)=>A.ll wx w.heap.size hb.size
 have HV:=hideS fun b wx (hi:Gu w b cur c l 0 wx)=>pM 39 #[.pointer (some ⟨b,0,none⟩)] #[] l cur c pl bl ol cl N pd pf bd od cd b2 o2 cf (Gu w b cur c l) (IF b) w wx E hE hl hN (by omega) hf hs xh (Gv (by omega) hf hs.f) hi
 have HNl:=hideS hN
 clear hE hl hN hf hs
 generalize Value.slice pd c.ds.length cd=vd at *
 generalize Value.slice pf c.fs.length cf=vf at *
 have hmk:=uF
 go_enter Tryz.func13,Tryz.ntmps13
 go_wp2_with fail
 refine (HN.out _ HK.out.bl).mono ?_
 rintro e w2 ⟨rfl,ha2,hb2⟩
 have HK2:=hideS (HK.out.step hb2)
 have HI:Hid (Gu w (w.alloc (.cells #[.int .i64 c.base,.int .i64 c.kind,vd,vf] 26)).heap.size cur c l 0 w2):=⟨_,ha2.mono (by omega),HK2.out.bl⟩
 clear ha2 hb2 HN HK
 obtain⟨b,hb⟩:∃ b,(w.alloc (.cells #[.int .i64 c.base,.int .i64 c.kind,vd,vf] 26)).heap.size=b:=⟨_,rfl⟩
 rw [hb] at HI ⊢
 clear hb
 have t0:=HK2.out.t0
 have t1:=HK2.out.t1
 have t2:=HK2.out.t2
 have t3:=HK2.out.t3
 go_wp2_with fail
 refine (HV.out b _ HI.out).mono ?_
 rintro e w3 ⟨rfl,k,hk,hz⟩
 obtain⟨v,hr⟩:=hk
 have HR:=hideS hr
 have HZ:=hideS hz
 clear hr hz HV t0 t1 t2 t3 hmk HK2 HI
 by_cases h0:E=0
 ·subst h0
  have HW:=hideS (yw (IE (B':=0) HR.out.acc (fun _ _=>Nat.zero_le _)))
  have HB:=hideS (HR.out.bl.alloc HR.out.bl.size (.cells #[.pointer (some ⟨b,0,none⟩)] 55))
  go_wp2_with fail
  go_ret2
  refine⟨fun h=>absurd rfl h,fun _=>⟨_,rfl,?_⟩,HB.out⟩
  have e1:=HZ.out trivial
  have:=HW.out
  rw [e1,← HNl.out,List.take_length,HNl.out] at this
  exact this
 ·have d1:(E !=0)=true:=bne_iff_ne.2 h0
  have HE:=hideS h0
  clear h0
  go_wp2_with fail
  go_ret2
  exact⟨fun _=>rfl,fun h=>absurd h HE.out,HR.out.bl⟩
theorem Gw (l:List Flw) (cur:Int) (c:Cv) (pl:Option Addr) (bl ol cl N:Nat) (pd pf:Option Addr) (bd od cd b2 o2 cf:Nat) (w:World) (E:Int) (hE:VisR l cur c E) (h0:E≠0) (hl:JSrc aF w pl bl ol l) (hN:l.length=N) (hNb:N≤30000) (hf:dV l) (hs:TFl w pd pf bd od b2 o2 c.ds c.fs) :
  Calls Tryz.prog 13 #[.slice pl N cl,.int .i64 cur,.agg #[.int .i64 c.base,.int .i64 c.kind,.slice pd c.ds.length cd,.slice pf c.fs.length cf]] w fun e w'=>e=.returned (.tuple #[.pointer none,.int .i64 E])∧Below w.heap.size w w':=
 (xj l cur c pl bl ol cl N pd pf bd od cd b2 o2 cf w E hE hl hN hNb hf hs).mono fun _ _ h=>⟨h.bad h0,h.bl⟩
theorem Eu (l:List Flw) (cur:Int) (c:Cv) (pl:Option Addr) (bl ol cl N:Nat) (pd pf:Option Addr) (bd od cd b2 o2 cf:Nat) (w:World) (h0:FineP l cur c) (hl:JSrc aF w pl bl ol l) (hN:l.length=N) (hf:dV l) (hs:TFl w pd pf bd od b2 o2 c.ds c.fs) :
  Calls Tryz.prog 13 #[.slice pl N cl,.int .i64 cur,.agg #[.int .i64 c.base,.int .i64 c.kind,.slice pd c.ds.length cd,.slice pf c.fs.length cf]] w fun e w'=>∃ g,e=.returned (.tuple #[.pointer (some ⟨g,0,none⟩),.int .i64 0])∧WAt w' g (wsI cur c l) (70+N)∧Below w.heap.size w w':=
 (xj l cur c pl bl ol cl N pd pf bd od cd b2 o2 cf w 0 (ks h0) hl hN (by have:=h0.len;omega) hf hs).mono fun _ _ h=>by
  obtain⟨g,e,h'⟩:=h.ok rfl
  exact⟨g,e,h',h.bl⟩
noncomputable def AT (l:List Flw) (cur:Int) (c:Cv):Nat:=tldV (valF (wsI cur c l))
noncomputable def AU (l:List Flw) (cur:Int) (c:Cv):Int:=iN (valF (wsI cur c l))
theorem lz (N:Int):valF N<18446744073709551616:=by
 unfold valF aG
 have:=gq N.natAbs (-2148)
 split
 ·omega
 ·split<;>omega
set_option maxRecDepth 20000 in
set_option maxHeartbeats 3200000 in
theorem Ev (l:List Flw) (cur:Int) (c:Cv) (pl:Option Addr) (bl ol cl N:Nat) (pd pf:Option Addr) (bd od cd b2 o2 cf:Nat) (w:World) (E:Int) (hE:VisR l cur c E) (h0:E≠0) (hl:JSrc aF w pl bl ol l) (hN:l.length=N) (hNb:N≤30000) (hf:dV l) (hs:TFl w pd pf bd od b2 o2 c.ds c.fs) :
  Calls Tryz.prog 15 #[.slice pl N cl,.int .i64 cur,.agg #[.int .i64 c.base,.int .i64 c.kind,.slice pd c.ds.length cd,.slice pf c.fs.length cf]] w fun e w'=>e=.returned (.tuple #[.float .f64 0,.int .i64 E])∧Below w.heap.size w w':=by
 have HK:=hideS (bK w c.base c.kind (.slice pd c.ds.length cd) (.slice pf c.fs.length cf))
 have HO:=hideS fun wx (hb:Below w.heap.size w wx)=>Gw l cur c pl bl ol cl N pd pf bd od cd b2 o2 cf wx E hE h0 (hl.below hb) hN hNb hf (hs.below hb)
 clear hE hl hN hf hs
 generalize Value.slice pd c.ds.length cd=vd at *
 generalize Value.slice pf c.fs.length cf=vf at *
 have d1:(E !=0)=true:=bne_iff_ne.2 h0
 clear h0
 go_enter Tryz.func15,Tryz.ntmps15
 go_wp2_with fail
 refine (HO.out _ HK.out.bl).mono ?_
 rintro e w2 ⟨rfl,hb2⟩
 have HK2:=hideS (HK.out.step hb2)
 clear hb2 HK HO
 go_wp2_with fail
 go_ret2
 exact⟨rfl,HK2.out.bl⟩
set_option maxRecDepth 20000 in
set_option maxHeartbeats 3200000 in
theorem yz (l:List Flw) (cur:Int) (c:Cv) (pl:Option Addr) (bl ol cl N:Nat) (pd pf:Option Addr) (bd od cd b2 o2 cf:Nat) (w:World) (h0:FineP l cur c) (hl:JSrc aF w pl bl ol l) (hN:l.length=N) (hf:dV l) (hs:TFl w pd pf bd od b2 o2 c.ds c.fs) :
  Calls Tryz.prog 15 #[.slice pl N cl,.int .i64 cur,.agg #[.int .i64 c.base,.int .i64 c.kind,.slice pd c.ds.length cd,.slice pf c.fs.length cf]] w fun e w'=>e=.returned (.tuple #[.float .f64 (AT l cur c),.int .i64 (AU l cur c)])∧Below w.heap.size w w':=by
 have HK:=hideS (bK w c.base c.kind (.slice pd c.ds.length cd) (.slice pf c.fs.length cf))
 have HO:=hideS fun wx (hb:Below w.heap.size w wx)=>Eu l cur c pl bl ol cl N pd pf bd od cd b2 o2 cf wx h0 (hl.below hb) hN hf (hs.below hb)
 have HNu:=hideS fun wx=>kU (valF (wsI cur c l)) wx (ah (lz _))
 have HL:Hid (N≤4096):=by show _≤_;have:=h0.len;omega
 unfold AT AU
 clear h0 hl hN hf hs
 generalize wsI cur c l=S at *
 obtain⟨x,hx⟩:∃ x,valF S=x:=⟨_,rfl⟩
 have HX:=hideS hx
 rw [hx] at HNu ⊢
 clear hx
 generalize Value.slice pd c.ds.length cd=vd at *
 generalize Value.slice pf c.fs.length cf=vf at *
 go_enter Tryz.func15,Tryz.ntmps15
 go_wp2_with fail
 refine (HO.out _ HK.out.bl).mono ?_
 rintro e w2 ⟨g,rfl,hw,hb2⟩
 have HK2:=hideS (HK.out.step hb2)
 obtain⟨b,v,c0,ha⟩:=hw.at_
 have HVa:=hideS (WAt.value ha (by have:=HL.out;omega))
 rw [HX.out] at HVa
 clear hb2 HK HO hw ha
 go_wp2_with fail
 refine HVa.out.mono ?_
 rintro e w3 ⟨rfl,hb3⟩
 have HK3:=hideS (HK2.out.step hb3)
 clear hb3 HK2 HVa c0
 go_wp2_with (go_at_call 43;refine (HNu.out _).mono ?_;rintro e w' ⟨rfl,rfl⟩)
 go_ret2
 exact⟨rfl,HK3.out.bl⟩
inductive PreR (l:List Flw) (cur:Int) (c:Cv):Nat→Int→Prop
 | bad (E:Int) (h:VisR l cur c E) (hE:E≠0):PreR l cur c 0 E
 | ok (h:FineP l cur c):PreR l cur c (AT l cur c) (AU l cur c)
theorem Gx (l:List Flw) (cur:Int) (c:Cv):∃ V E,PreR l cur c V E:=by
 obtain⟨E,h⟩:=jF l cur c
 by_cases h0:E=0
 ·subst h0;exact⟨_,_,.ok (kq h)⟩
 ·exact⟨0,E,.bad E h h0⟩
theorem Ew (l:List Flw) (cur:Int) (c:Cv) (pl:Option Addr) (bl ol cl N:Nat) (pd pf:Option Addr) (bd od cd b2 o2 cf:Nat) (w:World) (V:Nat) (E:Int) (h:PreR l cur c V E) (hl:JSrc aF w pl bl ol l) (hN:l.length=N) (hNb:N≤30000) (hf:dV l) (hs:TFl w pd pf bd od b2 o2 c.ds c.fs) :
  Calls Tryz.prog 15 #[.slice pl N cl,.int .i64 cur,.agg #[.int .i64 c.base,.int .i64 c.kind,.slice pd c.ds.length cd,.slice pf c.fs.length cf]] w fun e w'=>e=.returned (.tuple #[.float .f64 V,.int .i64 E])∧Below w.heap.size w w':=by
 cases h with
 | bad E h hE=>exact Ev l cur c pl bl ol cl N pd pf bd od cd b2 o2 cf w E h hE hl hN hNb hf hs
 | ok h=>exact yz l cur c pl bl ol cl N pd pf bd od cd b2 o2 cf w h hl hN hf hs
theorem AW {l:List Flw} {cur:Int} {c:Cv} {V:Nat} {E:Int} (h:PreR l cur c V E) (hf:FineP l cur c):V=AT l cur c∧E=AU l cur c:=by
 cases h with
 | bad E h hE=>exact absurd ((dA h).2 hf) hE
 | ok h=>exact⟨rfl,rfl⟩
structure TwoB (w:World) (a p:Int) (vd vf:Value) (b q:Int) (ud uf:Value) (wr:World):Prop where
 k1:BxK wr w.heap.size a p vd vf
 k2:BxK wr (w.heap.size+1) b q ud uf
 bl:Below w.heap.size w wr
theorem BxK.drewN {w:World} {g:Nat} {base kind:Int} {vd vf:Value} (h:BxK w g base kind vd vf) (m:Nat):BxK (w.drewN m) g base kind vd vf:=⟨h.blk⟩
theorem TwoB.drewN {w wr:World} {a p b q:Int} {vd vf ud uf:Value} (h:TwoB w a p vd vf b q ud uf wr) (m:Nat):TwoB w a p vd vf b q ud uf (wr.drewN m):=⟨h.k1.drewN m,h.k2.drewN m,⟨h.bl.os,h.bl.tape,h.bl.output,h.bl.size,h.bl.block⟩⟩
end Go.Proofs.YtkcnkhdbojdhgaaGreat
namespace Go.Proofs.YtkcnkhdbojdhgaaGreat
open Go.RowKit

end Go.Proofs.YtkcnkhdbojdhgaaGreat
namespace Go.Proofs.YtkcnkhdbojdhgaaGreat
open Go.RowKit

set_option maxRecDepth 20000 in
set_option maxHeartbeats 1600000 in
theorem nB (l:List Flw) (cur:Int) (c:Cv) (pl:Option Addr) (bl ol cl N:Nat) (pd pf:Option Addr) (bd od cd b2 o2 cf:Nat) (w:World) (E1 K1 E2:Int) (h1:ChkF l E1 K1) (h2:c.Chk E2) (hl:JSrc aB w pl bl ol l) (hN:l.length=N) (hNb:N≤30000) (hf:dV l) (hs:CSrcD w pd pf bd od b2 o2 c.ds c.fs) :
  Calls Tryz.prog 40 #[.slice pl N cl,.int .i64 cur,.agg #[.int .i64 c.base,.int .i64 c.kind,.slice pd c.ds.length cd,.slice pf c.fs.length cf]] w fun e w'=>e=.returned (.int .i64 (if E1=0 then (if 1≤cur∧cur≤8 then E2 else 140) else E1))∧Below w.heap.size w w':=by
 have HK:=hideS (dt w c.base c.kind (.slice pd c.ds.length cd) (.slice pf c.fs.length cf))
 have HC:=hideS fun wx (hb:Below w.heap.size w wx)=>nA l pl bl ol cl N E1 K1 wx (hl.below hb) hN (by omega) hf h1
 have HU:=hideS fun wx=>jI cur wx
 have HV:=hideS fun wx (hb:Below w.heap.size w wx)=>dW c.base c.kind pd pf bd od cd b2 o2 cf c.ds c.fs wx (hs.below hb) h2
 clear hl hN hf hs h1 h2
 generalize Value.slice pd c.ds.length cd=vd at *
 generalize Value.slice pf c.fs.length cf=vf at *
 by_cases hE:E1=0
 ·rw [if_pos hE]
  subst hE
  by_cases hc:1≤cur∧cur≤8
  ·rw [if_pos hc]
   rw [decide_eq_true hc] at HU
   clear hc
   go_enter Tryz.func40,Tryz.ntmps40
   go_wp2_with fail
   refine (HC.out _ HK.out.bl).mono ?_
   rintro e w2 ⟨rfl,hb2⟩
   have HK2:=hideS (HK.out.step hb2)
   clear hb2 HK HC
   have t0:=HK2.out.t0
   have t1:=HK2.out.t1
   have t2:=HK2.out.t2
   have t3:=HK2.out.t3
   go_wp2_with (go_at_call 60;refine (HU.out _).mono ?_;rintro e w' ⟨rfl,rfl⟩)
   clear t0 t1 t2 t3
   refine (HV.out _ HK2.out.bl).mono ?_
   rintro e w3 ⟨rfl,hb3⟩
   have HB3:=hideS (HK2.out.step hb3).bl
   clear hb3 HK2 HV
   go_wp2_with fail
   go_ret
   exact⟨rfl,HB3.out⟩
  ·rw [if_neg hc]
   rw [decide_eq_false hc] at HU
   clear hc
   go_enter Tryz.func40,Tryz.ntmps40
   go_wp2_with fail
   refine (HC.out _ HK.out.bl).mono ?_
   rintro e w2 ⟨rfl,hb2⟩
   have HK2:=hideS (HK.out.step hb2)
   clear hb2 HK HC
   go_wp2_with (go_at_call 60;refine (HU.out _).mono ?_;rintro e w' ⟨rfl,rfl⟩)
   go_ret
   exact⟨rfl,HK2.out.bl⟩
 ·rw [if_neg hE]
  have d1:(E1 !=0)=true:=bne_iff_ne.2 hE
  clear hE
  go_enter Tryz.func40,Tryz.ntmps40
  go_wp2_with fail
  refine (HC.out _ HK.out.bl).mono ?_
  rintro e w2 ⟨rfl,hb2⟩
  have HK2:=hideS (HK.out.step hb2)
  clear hb2 HK HC
  go_wp2_with fail
  go_ret
  exact⟨rfl,HK2.out.bl⟩
structure DO (w wr:World) (bs kd:Int) (vd vf:Value) (a:A.St) (k:Nat):Prop where
 c:wr.heap[w.heap.size]? =some (.cells #[.int .i64 bs,.int .i64 kd,vd,vf] 33)
 r:wr.heap[w.heap.size+1]? =some (.cells #[.int .i64 0,.bool false,.slice none 0 0,.int .i64 0] 42)
 h:Held w wr (w.heap.size+2) a k
theorem xl {w wr w':World} {B k:Nat} {a:A.St} (h:Held w wr B a k) (hb:Below wr.heap.size wr w'):Held w w' B a k:=by
 obtain⟨⟨neg,v,M,e,h1,h2,h3,h4⟩,h5,h6,h7⟩:=h
 exact⟨⟨neg,v,M,e,(hb.block B h7).trans h1,h2.below hb,h3,h4⟩,h5.trans (hb.mono h5.size),h6,Nat.lt_of_lt_of_le h7 hb.size⟩
theorem AY {w wr:World} {B k k':Nat} {a:A.St} (h:Held w wr B a k) (hk:k≤k'):Held w wr B a k':=by
 obtain⟨⟨neg,v,M,e,h1,h2,h3,h4⟩,h5,h6,h7⟩:=h
 exact⟨⟨neg,v,M,e,h1,h2,h3,h4.mono hk⟩,h5,h6,h7⟩
theorem DO.below {w wr w':World} {bs kd:Int} {vd vf:Value} {a:A.St} {k:Nat} (h:DO w wr bs kd vd vf a k) (hb:Below wr.heap.size wr w'):DO w w' bs kd vd vf a k:=
 ⟨(hb.block _ (Array.getElem?_eq_some_iff.1 h.c).1).trans h.c,(hb.block _ (Array.getElem?_eq_some_iff.1 h.r).1).trans h.r,xl h.h hb⟩
theorem DO.drewN {w wr:World} {bs kd:Int} {vd vf:Value} {a:A.St} {k:Nat} (h:DO w wr bs kd vd vf a k) (n:Nat):DO w (wr.drewN n) bs kd vd vf a k:=
 h.below (jG (Below.refl _ _) n)
theorem DO.mono {w wr:World} {bs kd:Int} {vd vf:Value} {a:A.St} {k k':Nat} (h:DO w wr bs kd vd vf a k) (hk:k≤k'):DO w wr bs kd vd vf a k':=⟨h.c,h.r,AY h.h hk⟩
theorem DO.t {w wr:World} {bs kd:Int} {vd vf:Value} {a:A.St} {k:Nat} (h:DO w wr bs kd vd vf a k):wr.cell? ⟨w.heap.size,0,none⟩=some (.int .i64 bs)∧wr.cell? ⟨w.heap.size,1,none⟩=some (.int .i64 kd)∧wr.cell? ⟨w.heap.size,2,none⟩=some vd∧wr.cell? ⟨w.heap.size,3,none⟩=some vf:=by
 have hb:=h.c
 exact⟨by simp [World.cell?,hb],by simp [World.cell?,hb],by simp [World.cell?,hb],by simp [World.cell?,hb]⟩
theorem Jl (w:World) (bs kd:Int) (vd vf:Value):DO w (((w.alloc (.cells #[.int .i64 bs,.int .i64 kd,vd,vf] 33)).alloc (.cells #[.int .i64 0,.bool false,.slice none 0 0,.int .i64 0] 42)).alloc (.cells #[.int .i64 0,.bool false,.slice none 0 0,.int .i64 0] 42)) bs kd vd vf ⟨0,0⟩ 0:=by
 have s1:(w.alloc (.cells #[.int .i64 bs,.int .i64 kd,vd,vf] 33)).heap.size=w.heap.size+1:=by simp
 have s2:((w.alloc (.cells #[.int .i64 bs,.int .i64 kd,vd,vf] 33)).alloc (.cells #[.int .i64 0,.bool false,.slice none 0 0,.int .i64 0] 42)).heap.size=w.heap.size+2:=by simp
 have B1:=(Below.refl _ w).alloc (Nat.le_refl _) (.cells #[.int .i64 bs,.int .i64 kd,vd,vf] 33)
 have B2:=(Below.refl _ (w.alloc (.cells #[.int .i64 bs,.int .i64 kd,vd,vf] 33))).alloc (Nat.le_refl _) (.cells #[.int .i64 0,.bool false,.slice none 0 0,.int .i64 0] 42)
 have B3:=(Below.refl _ ((w.alloc (.cells #[.int .i64 bs,.int .i64 kd,vd,vf] 33)).alloc (.cells #[.int .i64 0,.bool false,.slice none 0 0,.int .i64 0] 42))).alloc (Nat.le_refl _) (.cells #[.int .i64 0,.bool false,.slice none 0 0,.int .i64 0] 42)
 refine⟨?_,?_,⟨⟨false,.slice none 0 0,0,0,?_,Or.inl ⟨rfl,_,_,rfl⟩,eI _,DV.zero (by decide) 0⟩,?_,by omega,by simp⟩⟩
 ·rw [B3.block _ (by rw [s2];omega),B2.block _ (by rw [s1];omega)];exact heap_alloc_new _ _
 ·rw [B3.block _ (by rw [s2];omega),← s1];exact heap_alloc_new _ _
 ·rw [← s2];exact heap_alloc_new _ _
 ·exact B1.trans ((B2.mono (by rw [s1];omega)).trans (B3.mono (by rw [s2];omega)))
theorem DO.put {w wr w1:World} {bs kd:Int} {vd vf:Value} {a0 a:A.St} {k0 k M:Nat} {s:Int} {neg:Bool} {v:Value} {e:Int} {r:Ending} (h:DO w wr bs kd vd vf a0 k0) (hb:wr.heap[w.heap.size+2]? =some (.cells #[.int .i64 s,.bool neg,v,.int .i64 e] 42 (0,0))) (hv:From (w.heap.size+2+1) v) (hE:bN wr v M a k r w1) :
  ∃ neg' p l c e',r=.returned (AV (a.s:Int) neg' (.slice p l c) e')∧Held4 w1 (w.heap.size+2) s neg v e∧DO w (put4 w1 (w.heap.size+2) (a.s:Int) neg' (.slice p l c) e') bs kd vd vf a k:=by
 have hb1:Below wr.heap.size wr w1:=by
  obtain⟨_,_,_,_,_,_,_,_,hb1⟩:=hE
  exact hb1
 obtain⟨neg',p,l,c,e',hr,h4,hH⟩:=sU hb hv h.h.bl h.h.lo h.h.lt hE
 have hlt:=h.h.lt
 have hb2:Below (w.heap.size+2) wr (put4 w1 (w.heap.size+2) (a.s:Int) neg' (.slice p l c) e'):=bF (hb1.mono (by omega)) (Nat.le_refl _)
 exact⟨neg',p,l,c,e',hr,h4,⟨(hb2.block _ (by omega)).trans h.c,(hb2.block _ (by omega)).trans h.r,hH⟩⟩
end Go.Proofs.YtkcnkhdbojdhgaaGreat
namespace Go.Proofs.YtkcnkhdbojdhgaaGreat
open Go.RowKit

structure DOE (w:World) (S:Int) (E:Int) (N:Nat) (e:Ending) (w':World):Prop where
 ex:∃ neg v M ee,e=.returned (.tuple #[AV 0 neg v ee,.int .i64 E])∧DN w' v M∧DV 0 neg M ee S N
 bl:Below w.heap.size w w'
theorem AZ {x y:Nat} (hx:av (x:Int)=true) (hy:av (y:Int)=true):A.aS x y=A.dQ (x:Int) (y:Int):=by
 unfold A.aS
 rw [hx,hy];rfl
theorem DO.tail {w wr:World} {bs kd:Int} {vd vf:Value} {S:Int} {k:Nat} (h:DO w wr bs kd vd vf ⟨0,S⟩ k):∃ neg p l c M e,Held4 wr (w.heap.size+2) 0 neg (.slice p l c) e∧Held4 wr (w.heap.size+1) 0 false (.slice none 0 0) 0∧Held4 (put4 wr (w.heap.size+1) 0 neg (.slice p l c) e) (w.heap.size+1) 0 neg (.slice p l c) e∧DN (put4 wr (w.heap.size+1) 0 neg (.slice p l c) e) (.slice p l c) M∧DV 0 neg M e S k∧Below w.heap.size w (put4 wr (w.heap.size+1) 0 neg (.slice p l c) e):=by
 obtain⟨neg,v,M,e,h1,h2,h3,h4⟩:=h.h.ex
 obtain⟨p,l,c,rfl⟩:=h2.shape
 exact⟨neg,p,l,c,M,e,df h1,df h.r,df (jX h.r),js h2 h3 (by omega),h4,bF h.h.bl (by omega)⟩
theorem DO.zero {w wr:World} {bs kd:Int} {vd vf:Value} {a:A.St} {k:Nat} (h:DO w wr bs kd vd vf a k):Held4 wr (w.heap.size+1) 0 false (.slice none 0 0) 0∧Held4 (put4 wr (w.heap.size+1) 0 false (.slice none 0 0) 0) (w.heap.size+1) 0 false (.slice none 0 0) 0∧Below w.heap.size w (put4 wr (w.heap.size+1) 0 false (.slice none 0 0) 0):=
 ⟨df h.r,df (jX h.r),bF h.h.bl (by omega)⟩
set_option maxRecDepth 20000 in
set_option maxHeartbeats 6400000 in
theorem gI (l:List Flw) (cur:Int) (c:Cv) (pl:Option Addr) (bl ol cl N:Nat) (pd pf:Option Addr) (bd od cd b2 o2 cf:Nat) (w:World) (E:Int) (hE:VisR l cur c E) (hl:JSrc aB w pl bl ol l) (hN:l.length=N) (hNb:N≤900) (hf:dV l) (hs:CSrcD w pd pf bd od b2 o2 c.ds c.fs) (hv:c.Fit) :
  Calls Tryz.prog 14 #[.slice pl N cl,.int .i64 cur,.agg #[.int .i64 c.base,.int .i64 c.kind,.slice pd c.ds.length cd,.slice pf c.fs.length cf]] w fun e w'=>DOE w (if E=0 then wsI cur c l else 0) E N e w':=by
 obtain⟨E1,K1,h1⟩:=rj l
 obtain⟨E2,h2⟩:=lv c.base c.kind c.ds c.fs
 have HAs:=hideS fun wx (hb:Below w.heap.size w wx)=>nB l cur c pl bl ol cl N pd pf bd od cd b2 o2 cf wx E1 K1 E2 h1 h2 (hl.below hb) hN (by omega) hf (hs.below hb)
 have HFa:=hideS fun x wx (hb:Below w.heap.size w wx)=>gh c.base c.kind x (c.E x) (c.V x) pd pf bd od cd b2 o2 cf c.ds c.fs wx (hs.below hb) (ib c.base c.kind c.ds c.fs x)
 have H0:=hideS (Jl w c.base c.kind (.slice pd c.ds.length cd) (.slice pf c.fs.length cf))
 have HE:=hideS hE
 have HQ:=hideS hl
 have HN:=hideS hN
 have HF:=hideS hf
 have HV:=hideS hv
 have HP:Hid (0<N→pl=some ⟨bl,ol,none⟩):=fun h=>hl.at_ (by omega)
 have H1:=hideS h1
 have H2:=hideS h2
 clear hE hl hN hf hs h1 h2 hv
 generalize Value.slice pd c.ds.length cd=vd at *
 generalize Value.slice pf c.fs.length cf=vf at *
 obtain⟨bs,hbs⟩:∃ b,c.base=b:=⟨_,rfl⟩
 obtain⟨kd,hkd⟩:∃ b,c.kind=b:=⟨_,rfl⟩
 rw [hbs,hkd] at HAs HFa H0 ⊢
 have HBs:=hideS hbs
 clear hbs hkd
 obtain⟨SS,hSS⟩:∃ S,(if E=0 then wsI cur c l else 0)=S:=⟨_,rfl⟩
 rw [hSS]
 have HSS:=hideS hSS
 clear hSS
 obtain⟨A,hA⟩:∃ A:Int,(if E1=0 then (if 1≤cur∧cur≤8 then E2 else 140) else E1)=A:=⟨_,rfl⟩
 rw [hA] at HAs
 have HA:=hideS hA
 clear hA
 obtain⟨z1,hz1⟩:∃ z1,(w.alloc (.cells #[.int .i64 bs,.int .i64 kd,vd,vf] 33)).alloc (.cells #[.int .i64 0,.bool false,.slice none 0 0,.int .i64 0] 42)=z1:=⟨_,rfl⟩
 go_enter Tryz.func14,Tryz.ntmps14
 clear hz1
 go_wp2_with fail
 refine (HAs.out _ H0.out.h.bl).mono ?_
 rintro e w2 ⟨rfl,hb2⟩
 have H2':=hideS (H0.out.below hb2)
 clear hb2 H0 HAs
 by_cases hz:A=0
 ·subst hz
  have hok:ChkF l 0 0∧(1≤cur∧cur≤8)∧c.Ok:=by
   have hA:=HA.out
   by_cases e1:E1=0
   ·subst e1
    rw [if_pos rfl] at hA
    obtain rfl:=ie H1.out
    by_cases hc:1≤cur∧cur≤8
    ·rw [if_pos hc] at hA
     subst hA
     exact⟨H1.out,hc,hU H2.out⟩
    ·rw [if_neg hc] at hA;cases hA
   ·rw [if_neg e1] at hA;exact absurd hA e1
  have HOk:=hideS hok
  clear hok HA H1 H2
  go_wp2_with fail
  go_loopw [10] (fun i wr=>∃ k:Nat,k≤N∧i=.int .i64 k∧Hid (∀ j<k,tkB cur c.base (l.getD j ar)=true→c.E (l.getD j ar).day=0)∧Hid (DO w wr bs kd vd vf ⟨0,wsI cur c (l.take k)⟩ k)) (fun i _=>N - (intOf i).toNat)
  case atStart=>exact⟨0,Nat.zero_le _,rfl,fun j hj=>by omega,H2'⟩
  case round=>
   clear H2'
   obtain⟨k,hk,rfl,HFn,H3⟩:=hrel
   by_cases hlt:k<N
   ·obtain rfl:=HP.out (by omega)
    obtain⟨c0,c1,c2⟩:=(HQ.out.below H3.out.h.bl).cell k (by rw [HN.out];exact hlt)
    obtain⟨t0,t1,t2,t3⟩:=H3.out.t
    have HWn:=hideS (nj (cur:=cur) (c:=c) (l:=l) (k:=k) (by rw [HN.out];exact hlt))
    have HBd:=hideS ((xg HOk.out.1).2 k (by rw [HN.out];exact hlt))
    have HFt:=hideS (HF.out k)
    obtain⟨q,hq⟩:∃ q,l.getD k ar=q:=⟨_,rfl⟩
    rw [hq] at c0 c1 c2 HWn HBd HFt
    have Hq:=hideS hq
    clear hq
    obtain⟨qd,qa,qc⟩:=q
    dsimp only [aB] at c0 c1 c2 HFt
    by_cases ht:qc=cur∧bs≤qd
    ·obtain⟨rfl,hda⟩:=ht
     have o1:(qc !=qc)=false:=by simp
     have o2:decide (qd<bs)=false:=decide_eq_false (by omega)
     have HTy:Hid (tkB qc c.base ⟨qd,qa,qc⟩=true):=by show _=_;unfold tkB;rw [HBs.out];simp;omega
     have HFc:=hideS (HFa.out qd)
     obtain⟨FE,hFE⟩:∃ x,c.E qd=x:=⟨_,rfl⟩
     obtain⟨FV,hFV⟩:∃ x,c.V qd=x:=⟨_,rfl⟩
     rw [hFE,hFV] at HFc
     obtain⟨yi,hyi⟩:∃ yi:Int,yi=(FV:Int):=⟨_,rfl⟩
     rw [← hyi] at HFc
     have HYI:=hideS hyi
     clear hyi
     have HFE:=hideS hFE
     have HFV:=hideS hFV
     clear hFE hFV hda
     go_wp2_with fail
     go_quiet (fail)
     go_wp2_with fail
     go_region_with ((go_at_call 41;refine (HFc.out _ ((H3.out.drewN _).h.bl)).mono ?_;rintro e w5 ⟨rfl,hb5⟩;have H5:=hideS ((H3.out.drewN _).below hb5);clear hb5))
     all_goals
      clear t0 t1 t2 t3 c0 c1 c2
      by_cases hz:FE=0
      ·subst hz
       have HFn2:Hid (∀ j<k+1,tkB qc c.base (l.getD j ar)=true→c.E (l.getD j ar).day=0):=fun j hj hy=>by
        by_cases d:j<k
        ·exact HFn.out j d hy
        ·obtain rfl:j=k:=by omega
         rw [Hq.out];exact HFE.out
       obtain⟨hV64,_,_⟩:=Cv.num HOk.out.2.2 HV.out HFE.out
       have hsp:=Cv.splV HOk.out.2.2 HV.out HFE.out
       rw [HFV.out] at hV64 hsp
       obtain⟨c0,c1,c2⟩:=(HQ.out.below H5.out.h.bl).cell k (by rw [HN.out];exact hlt)
       rw [Hq.out] at c0 c1 c2
       dsimp only [aB] at c0 c1 c2
       obtain⟨neg,va,M,ee,hb,hd,hfr,hdv⟩:=H5.out.h.ex
       have h4:=df hb
       obtain⟨xi,hxi⟩:∃ xi:Int,xi=(qa:Int):=⟨_,rfl⟩
       have HAd:=hideS (GQ 0 neg va M ee _ k qa FV xi yi w5.drew (hd.drewN 1) hdv (fK (by omega)) (by rw [hxi];exact ah HFt.out) (by rw [HYI.out];exact ah hV64) hxi HYI.out)
       have e3:(⟨0,wsI qc c (l.take k)⟩:A.St).merge (A.aS qa FV)=⟨0,wsI qc c (l.take (k+1))⟩:=by
        rw [HWn.out,yx HTy.out,AZ (Et HBd.out) hsp,uG rfl]
        unfold prI
        rw [HFV.out]
       rw [e3] at HAd
       have HPut:=hideS fun w1 r (hend:bN w5.drew va M ⟨0,wsI qc c (l.take (k+1))⟩ (k+1) r w1)=>DO.put (H5.out.drewN 1) hb hfr hend
       obtain⟨pa,la,ca,rfl⟩:=hd.shape
       have q0:=h4.c0
       have q1:=h4.c1
       have q2:=h4.c2
       have q3:=h4.c3
       rw [← hxi] at c1
       clear hV64 hsp hb hd hfr hdv h4 e3 hxi c0 c2 HTy HWn
       go_wp2_with fail
       go_region_with ((go_at_call 42;refine HAd.out.mono ?_;intro r w1 hend;obtain⟨neg',p4,l4,c4,e4,rfl,K4,hH⟩:=HPut.out w1 r hend;have HH:=hideS hH;have k0:=K4.c0;have k1:=K4.c1;have k2:=K4.c2;have k3:=K4.c3;have l0:=K4.f0;have l1:=K4.f1;have l2:=K4.f2;have l3:=K4.f3;clear hend hH K4))
       all_goals
        go_wp2_with fail
        go_roundw
        case rel=>exact⟨k+1,by omega,by simp,HFn2,HH⟩
        case measure=>simp [intOf];omega
      ·have HX:Hid (E=FE):=bB HE.out (.fac HOk.out.1 HOk.out.2.1 HOk.out.2.2 k (by rw [HN.out];exact hlt) (by rw [Hq.out];exact HTy.out) FE (by rw [Hq.out];exact HFE.out) hz HFn.out)
       have d1:(FE !=0)=true:=bne_iff_ne.2 hz
       have Hz:=hideS hz
       clear hz
       obtain⟨hr,hp,hbl⟩:=H5.out.zero
       have r0:=hr.c0
       have r1:=hr.c1
       have r2:=hr.c2
       have r3:=hr.c3
       have y0:=hr.f0
       have y1:=hr.f1
       have y2:=hr.f2
       have y3:=hr.f3
       have HEnd:=hideS hbl
       obtain⟨w9,hw9⟩:∃ w9,put4 w5 (w.heap.size+1) 0 false (.slice none 0 0) 0=w9:=⟨_,rfl⟩
       rw [hw9] at hp HEnd
       unfold put4 at hw9
       have p0:=hp.c0
       have p1:=hp.c1
       have p2:=hp.c2
       have p3:=hp.c3
       clear hr hp hbl
       go_wp2_with fail
       refine bodyPost_ret (v:=.tuple #[AV 0 false (.slice none 0 0) 0,.int .i64 FE]) (by simp [results,Tryz.results14,go_sem,p0,p1,p2,p3]) rfl ?_
       exact⟨⟨false,_,0,0,by rw [HX.out],Or.inl ⟨rfl,_,_,rfl⟩,by rw [← HSS.out,HX.out,if_neg Hz.out];exact DV.zero (by decide) N⟩,HEnd.out⟩
    ·have HS4:Hid (∀ n,DO w (wr.drewN n) bs kd vd vf ⟨0,wsI cur c (l.take (k+1))⟩ (k+1)):=fun n=>by
      rw [HWn.out,Es (by unfold tkB;rw [HBs.out];simp;omega),Int.add_zero]
      exact (H3.out.mono (by omega)).drewN n
     have HFn2:Hid (∀ j<k+1,tkB cur c.base (l.getD j ar)=true→c.E (l.getD j ar).day=0):=fun j hj hy=>by
      by_cases d:j<k
      ·exact HFn.out j d hy
      ·obtain rfl:j=k:=by omega
       rw [Hq.out] at hy
       unfold tkB at hy
       rw [HBs.out] at hy
       simp at hy;omega
     by_cases hcu:qc=cur
     ·subst hcu
      have o1:(qc !=qc)=false:=by simp
      have o2:decide (qd<bs)=true:=decide_eq_true (by omega)
      clear ht HWn H3
      go_wp2_with fail
      go_quiet (fail)
      clear t0 t1 t2 t3 c0 c1 c2
      go_wp2_with fail
      go_roundw
      case rel=>exact⟨k+1,by omega,by simp,HFn2,HS4.out _⟩
      case measure=>simp [intOf];omega
     ·have o1:(qc !=cur)=true:=bne_iff_ne.2 hcu
      clear ht HWn H3 hcu
      go_wp2_with fail
      go_quiet (fail)
      clear t0 t1 t2 t3 c0 c1 c2
      go_wp2_with fail
      go_roundw
      case rel=>exact⟨k+1,by omega,by simp,HFn2,HS4.out _⟩
      case measure=>simp [intOf];omega
   ·obtain rfl:k=N:=by omega
    have HX:Hid (E=0):=bB HE.out (.ok HOk.out.1 HOk.out.2.1 HOk.out.2.2 (fun i hi=>HFn.out i (by rw [HN.out] at hi;exact hi)))
    have HWl:Hid (wsI cur c (l.take k)=wsI cur c l):=by show _=_;rw [← HN.out,List.take_length]
    obtain⟨neg,p4,l4,c4,M4,e4,ha,hr,hp,hd,hv4,hbl⟩:=H3.out.tail
    have a0:=ha.c0
    have a1:=ha.c1
    have a2:=ha.c2
    have a3:=ha.c3
    have r0:=hr.c0
    have r1:=hr.c1
    have r2:=hr.c2
    have r3:=hr.c3
    have y0:=hr.f0
    have y1:=hr.f1
    have y2:=hr.f2
    have y3:=hr.f3
    have HEnd:=hideS (And.intro hd (And.intro hv4 hbl))
    obtain⟨w9,hw9⟩:∃ w9,put4 wr (w.heap.size+1) 0 neg (.slice p4 l4 c4) e4=w9:=⟨_,rfl⟩
    rw [hw9] at hp HEnd
    unfold put4 at hw9
    have p0:=hp.c0
    have p1:=hp.c1
    have p2:=hp.c2
    have p3:=hp.c3
    clear ha hr hp hd hv4 hbl
    go_wp2_with fail
    refine bodyPost_ret (v:=.tuple #[AV 0 neg (.slice p4 l4 c4) e4,.int .i64 0]) (by simp [results,Tryz.results14,go_sem,p0,p1,p2,p3]) rfl ?_
    exact⟨⟨neg,_,M4,e4,by rw [HX.out],HEnd.out.1,by rw [← HSS.out,HX.out,if_pos rfl,← HWl.out];exact HEnd.out.2.1⟩,HEnd.out.2.2⟩
 ·have HX:Hid (E=A):=by
   show _=_
   have hA:=HA.out
   by_cases e1:E1=0
   ·subst e1
    rw [if_pos rfl] at hA
    have hK:=ie H1.out
    subst hK
    by_cases hc:1≤cur∧cur≤8
    ·rw [if_pos hc] at hA
     subst hA
     exact bB HE.out (.curve H1.out hc E2 H2.out hz)
    ·rw [if_neg hc] at hA
     rw [← hA]
     exact bB HE.out (.cur H1.out hc)
   ·rw [if_neg e1] at hA
    rw [← hA]
    exact bB HE.out (.flow E1 K1 H1.out e1)
  have d1:(A !=0)=true:=bne_iff_ne.2 hz
  have Hz:=hideS hz
  clear hz
  obtain⟨neg,p4,l4,c4,M4,e4,ha,hr,hp,hd,hv4,hbl⟩:=H2'.out.tail
  have a0:=ha.c0
  have a1:=ha.c1
  have a2:=ha.c2
  have a3:=ha.c3
  have r0:=hr.c0
  have r1:=hr.c1
  have r2:=hr.c2
  have r3:=hr.c3
  have y0:=hr.f0
  have y1:=hr.f1
  have y2:=hr.f2
  have y3:=hr.f3
  have HEnd:=hideS (And.intro hd (And.intro hv4 hbl))
  obtain⟨w9,hw9⟩:∃ w9,put4 w2 (w.heap.size+1) 0 neg (.slice p4 l4 c4) e4=w9:=⟨_,rfl⟩
  rw [hw9] at hp HEnd
  unfold put4 at hw9
  have p0:=hp.c0
  have p1:=hp.c1
  have p2:=hp.c2
  have p3:=hp.c3
  clear ha hr hp hd hv4 hbl
  go_wp2_with fail
  refine bodyPost_ret (v:=.tuple #[AV 0 neg (.slice p4 l4 c4) e4,.int .i64 A]) (by simp [results,Tryz.results14,go_sem,p0,p1,p2,p3]) rfl ?_
  exact⟨⟨neg,_,M4,e4,by rw [HX.out],HEnd.out.1,by rw [← HSS.out,HX.out,if_neg Hz.out];exact HEnd.out.2.1.mono (Nat.zero_le _)⟩,HEnd.out.2.2⟩
end Go.Proofs.YtkcnkhdbojdhgaaGreat
namespace Go.Proofs.YtkcnkhdbojdhgaaGreat
open Go.RowKit

theorem xm (args:Array Value) (w:World):(callFunc 45 args).run Tryz.prog w=.ok (.enter 45 args) w:=uE Tryz.func45 (by kernel_rfl) rfl args w
noncomputable def flO (cur:Int) (c:Cv) (l:List Flw):Nat→Option Nat
 | 0=>some 0
 | k+1=>if tkB cur c.base (l.getD k ar)=true then opO .add (flO cur c l k) (opO .mul (some (l.getD k ar).am) (some (c.V (l.getD k ar).day))) else flO cur c l k
def gdO (o:Option Nat):Nat:=o.getD 9221120237041090561
theorem yA {o:Option Nat} {x:Nat} (h:AgU o x):tldV x=tldV (gdO o)∧iN x=iN (gdO o):=by
 cases o with
 | some r=>rw [ch h.1];exact⟨rfl,rfl⟩
 | none=>
  have h1:bf (x:Int)=false:=ls (dp h.1).1
  have h2:bf ((9221120237041090561:Nat):Int)=false:=by decide
  rw [show gdO none=9221120237041090561 from rfl]
  unfold tldV iN
  rw [h1,h2]
  exact⟨rfl,rfl⟩
set_option maxHeartbeats 1600000 in
theorem Ez (s x a f:Nat) (o:Option Nat) (w:World) (hs:w.heap[s]? =some (.cells #[.float .f64 x] 45)) (hx:AgU o x) (ha:a<18446744073709551616) (hf:f<18446744073709551616) :
  Calls Tryz.prog 45 #[.float .f64 a,.float .f64 f,.pointer (some ⟨s,0,none⟩)] w fun e w'=>e=.returned (.tuple #[])∧∃ y q,AgU (opO .add o (opO .mul (some a) (some f))) y∧w'=(w.drewN q).setCell ⟨s,0,none⟩ (.float .f64 y):=by
 have c0:w.cell? ⟨s,0,none⟩=some (.float .f64 x):=by simp [World.cell?,hs]
 obtain⟨r,⟨q,h1⟩,g⟩:=yr .mul (by simp) 45 (eY ha) (eY hf) w
 obtain⟨y,⟨q',h2⟩,g'⟩:=yr .add (by simp) 45 hx g (w.drewN q)
 have HG:=hideS g'
 have z0:w.frozen? ⟨s,0,none⟩=false:=by simp [World.frozen?,hs]
 have hst:=ic
 clear g g' hx ha hf hs
 go_enter Tryz.func45,Tryz.ntmps45
 go_wp2_with fail
 go_end0
 exact⟨rfl,y,q+q',HG.out,rfl⟩
def FlK (w:World) (s:Nat) (cur:Int) (c:Cv) (l:List Flw) (k:Nat) (wx:World):Prop:=∃ x,wx.heap[s]? =some (.cells #[.float .f64 x] 45)∧AgU (flO cur c l k) x∧Below w.heap.size w wx∧w.heap.size≤s
theorem Gz {l:List Flw} {cur:Int} {c:Cv} {w:World} {s:Nat} (hf:dV l) (hv:c.Fit):TkC 45 #[] #[.pointer (some ⟨s,0,none⟩)] l cur c w (FlK w s cur c l) (fun _ x=>x=s) where
 call:=fun k wx hk hb ok ht hE ⟨x,h1,h2,h3,h4⟩=>by
  obtain⟨hV,_,_⟩:=Cv.num ok hv hE
  refine (Ez s x _ _ _ wx h1 h2 (hf k) hV).mono ?_
  rintro e w' ⟨rfl,y,q,g,rfl⟩
  have hd:(wx.drewN q).heap[s]? =some (.cells #[.float .f64 x] 45):=h1
  have hb2:Below s (wx.drewN q) ((wx.drewN q).setCell ⟨s,0,none⟩ (.float .f64 y)):=(Below.refl _ _).setCell (p:=⟨s,0,none⟩) (Nat.le_refl _) _
  have hB:Below w.heap.size w ((wx.drewN q).setCell ⟨s,0,none⟩ (.float .f64 y)):=(⟨h3.os,h3.tape,h3.output,h3.size,h3.block⟩:Below w.heap.size w (wx.drewN q)).trans (hb2.mono h4)
  refine⟨rfl,⟨y,?_,?_,hB,h4⟩,hb2.size,fun z hz hn=>⟨Below.heap_setCell (wx.drewN q) ⟨s,0,none⟩ _ z hn,hn⟩⟩
  ·exact fU _ hd
  ·unfold flO;rw [if_pos ht];exact g
 skip:=fun k wx hk ht ⟨x,h1,h2,h3,h4⟩=>⟨x,h1,by unfold flO;rw [ht];exact h2,h3,h4⟩
 stay:=fun k wx wy ⟨x,h1,h2,h3,h4⟩ hb=>⟨⟨x,(hb.block s (Array.getElem?_eq_some_iff.1 h1).1).trans h1,h2,h3.trans (hb.mono h3.size),h4⟩,fun _ h=>h⟩
 low:=fun k wx ⟨x,h1,h2,h3,h4⟩=>h3
 lt:=fun k wx x ⟨y,h1,h2,h3,h4⟩ h=>by subst h;exact (Array.getElem?_eq_some_iff.1 h1).1
noncomputable def uJ (l:List Flw) (cur:Int) (c:Cv):Nat:=tldV (gdO (flO cur c l l.length))
noncomputable def uK (l:List Flw) (cur:Int) (c:Cv):Int:=iN (gdO (flO cur c l l.length))
structure FlP (l:List Flw) (cur:Int) (c:Cv) (E:Int) (w:World) (e:Ending) (w':World):Prop where
 bad:E≠0→e=.returned (.tuple #[.float .f64 0,.int .i64 E])
 ok:E=0→e=.returned (.tuple #[.float .f64 (uJ l cur c),.int .i64 (uK l cur c)])
 bl:Below w.heap.size w w'
set_option maxRecDepth 20000 in
set_option maxHeartbeats 3200000 in
theorem uL (l:List Flw) (cur:Int) (c:Cv) (pl:Option Addr) (bl ol cl N:Nat) (pd pf:Option Addr) (bd od cd b2 o2 cf:Nat) (w:World) (E:Int) (hE:VisR l cur c E) (hl:JSrc aF w pl bl ol l) (hN:l.length=N) (hNb:N≤30000) (hf:dV l) (hs:TFl w pd pf bd od b2 o2 c.ds c.fs) :
  Calls Tryz.prog 17 #[.slice pl N cl,.int .i64 cur,.agg #[.int .i64 c.base,.int .i64 c.kind,.slice pd c.ds.length cd,.slice pf c.fs.length cf]] w fun e w'=>FlP l cur c E w e w':=by
 have HK:=hideS (bK w c.base c.kind (.slice pd c.ds.length cd) (.slice pf c.fs.length cf))
 have HV:=hideS fun b wx (hi:FlK w b cur c l 0 wx)=>pM 45 #[] #[.pointer (some ⟨b,0,none⟩)] l cur c pl bl ol cl N pd pf bd od cd b2 o2 cf (FlK w b cur c l) (fun _ x=>x=b) w wx E hE hl hN (by omega) hf hs xm (Gz hf hs.f) hi
 have HNl:=hideS hN
 clear hE hl hN hf hs
 generalize Value.slice pd c.ds.length cd=vd at *
 generalize Value.slice pf c.fs.length cf=vf at *
 obtain⟨w2,hw2⟩:∃ w2,w.alloc (.cells #[.int .i64 c.base,.int .i64 c.kind,vd,vf] 26)=w2:=⟨_,rfl⟩
 rw [hw2] at HK
 have HK3:=hideS (HK.out.step ((Below.refl w2.heap.size w2).alloc (Nat.le_refl _) (.cells #[.float .f64 0] 45)))
 have HI:Hid (FlK w w2.heap.size cur c l 0 (w2.alloc (.cells #[.float .f64 0] 45))):=⟨0,heap_alloc_new _ _,eY (by decide),HK3.out.bl,HK.out.bl.size⟩
 have hmk:=uF
 have hst:=ic
 obtain⟨s,hs⟩:∃ s,w2.heap.size=s:=⟨_,rfl⟩
 rw [hs] at HI
 have t0:=HK3.out.t0
 have t1:=HK3.out.t1
 have t2:=HK3.out.t2
 have t3:=HK3.out.t3
 clear HK
 go_enter Tryz.func17,Tryz.ntmps17
 go_wp2_with fail
 clear hw2 hs hst hmk t0 t1 t2 t3
 refine (HV.out s _ HI.out).mono ?_
 rintro e w4 ⟨rfl,k,hk,hz⟩
 obtain⟨x,h1,h2,h3,h4⟩:=hk
 have c0:w4.cell? ⟨s,0,none⟩=some (.float .f64 x):=by simp [World.cell?,h1]
 have HNu:=hideS fun wx=>kU x wx h2.u
 have HTo:=hideS (yA h2)
 have HB:=hideS h3
 have HZ:=hideS hz
 clear h1 h2 h3 h4 hz HV HI
 by_cases h0:E=0
 ·subst h0
  have HT:Hid (tldV x=uJ l cur c∧iN x=uK l cur c):=by
   have e1:=HZ.out rfl
   have:=HTo.out
   rw [e1,← HNl.out] at this
   exact this
  rw [HT.out.1,HT.out.2] at HNu
  go_wp2_with (go_at_call 43;refine (HNu.out _).mono ?_;rintro e w' ⟨rfl,rfl⟩)
  go_ret2
  exact⟨fun h=>absurd rfl h,fun _=>rfl,HB.out⟩
 ·have d1:(E !=0)=true:=bne_iff_ne.2 h0
  have HE:=hideS h0
  clear h0
  go_wp2_with fail
  go_ret2
  exact⟨fun _=>rfl,fun h=>absurd h HE.out,HB.out⟩
theorem Ba (l:List Flw) (cur:Int) (c:Cv) (pl:Option Addr) (bl ol cl N:Nat) (pd pf:Option Addr) (bd od cd b2 o2 cf:Nat) (w:World) (E:Int) (hE:VisR l cur c E) (h0:E≠0) (hl:JSrc aF w pl bl ol l) (hN:l.length=N) (hNb:N≤30000) (hf:dV l) (hs:TFl w pd pf bd od b2 o2 c.ds c.fs) :
  Calls Tryz.prog 17 #[.slice pl N cl,.int .i64 cur,.agg #[.int .i64 c.base,.int .i64 c.kind,.slice pd c.ds.length cd,.slice pf c.fs.length cf]] w fun e w'=>e=.returned (.tuple #[.float .f64 0,.int .i64 E])∧Below w.heap.size w w':=
 (uL l cur c pl bl ol cl N pd pf bd od cd b2 o2 cf w E hE hl hN hNb hf hs).mono fun _ _ h=>⟨h.bad h0,h.bl⟩
theorem uM (l:List Flw) (cur:Int) (c:Cv) (pl:Option Addr) (bl ol cl N:Nat) (pd pf:Option Addr) (bd od cd b2 o2 cf:Nat) (w:World) (h0:FineP l cur c) (hl:JSrc aF w pl bl ol l) (hN:l.length=N) (hf:dV l) (hs:TFl w pd pf bd od b2 o2 c.ds c.fs) :
  Calls Tryz.prog 17 #[.slice pl N cl,.int .i64 cur,.agg #[.int .i64 c.base,.int .i64 c.kind,.slice pd c.ds.length cd,.slice pf c.fs.length cf]] w fun e w'=>e=.returned (.tuple #[.float .f64 (uJ l cur c),.int .i64 (uK l cur c)])∧Below w.heap.size w w':=
 (uL l cur c pl bl ol cl N pd pf bd od cd b2 o2 cf w 0 (ks h0) hl hN (by have:=h0.len;omega) hf hs).mono fun _ _ h=>⟨h.ok rfl,h.bl⟩
end Go.Proofs.YtkcnkhdbojdhgaaGreat
namespace Go.Proofs.YtkcnkhdbojdhgaaGreat
open Go.RowKit

theorem jJ (u:Nat) (w:World) (hu:U64 (u:Int)) :
  Calls Tryz.prog 48 #[.int .u64 (u:Int)] w fun e w'=>e=.returned (.tuple #[.int .u64 (tldV u:Int),.int .i64 (iN u)])∧w'=w:=by
 have HN:=hideS fun w=>fg (u:Int) w hu
 unfold tldV iN
 cases hb:bf (u:Int)
 all_goals
  rw [hb] at HN
  clear hb hu
  simp only [Bool.false_eq_true,if_false,if_true]
  go_enter Tryz.func48,Tryz.ntmps48
  go_wp2_with (go_at_call 61;refine (HN.out _).mono ?_;rintro e w' ⟨rfl,rfl⟩)
  go_ret2
  exact⟨rfl,rfl⟩
set_option maxHeartbeats 1600000 in
theorem oj (neg:Bool) (v:Value) (M:Nat) (e N:Int) (k:Nat) (w:World) (hd:DN w v M) (hv:DV 0 neg M e N k) (hk:fJ k) :
  Calls Tryz.prog 44 #[AV 0 neg v e] w fun r w'=>r=.returned (.tuple #[.int .u64 (tldV (valF N):Int),.int .i64 (iN (valF N))])∧Below w.heap.size w w':=by
 obtain⟨p,l,c,rfl⟩:=hd.shape
 have HB:Hid (Below w.heap.size w (boxA w 0 neg (.slice p l c) e)):=(Below.refl _ _).alloc (Nat.le_refl _) _
 have h3:=iI w 0 neg (.slice p l c) e
 have HO:=hideS (CJ 0 neg (.slice p l c) M e N k _ (hd.below HB.out) hv hk)
 have HF:=hideS fun wx=>jJ (valF N) wx (ah (lz _))
 rw [qH] at HO
 generalize valF N=X at *
 have c0:(boxA w 0 neg (.slice p l c) e).cell? ⟨w.heap.size,0,none⟩=some (.int .i64 0):=by simp
 have c1:=h3.1
 have c2:=h3.2.1
 have c3:=h3.2.2
 clear hd hv h3
 go_enter Tryz.func44,Tryz.ntmps44
 go_wp2_with fail
 refine HO.out.mono ?_
 rintro r w1 ⟨rfl,hb1⟩
 have HB1:=hideS (HB.out.trans (hb1.mono HB.out.size))
 clear hb1 HO c0 c1 c2 c3
 go_wp2_with (go_at_call 48;refine (HF.out _).mono ?_;rintro e w' ⟨rfl,rfl⟩)
 go_ret2
 exact⟨rfl,HB1.out⟩
set_option maxRecDepth 20000 in
set_option maxHeartbeats 1600000 in
theorem ru (l:List Flw) (cur:Int) (c:Cv) (pl:Option Addr) (bl ol cl N:Nat) (pd pf:Option Addr) (bd od cd b2 o2 cf:Nat) (w:World) (V:Nat) (E:Int) (h:PreR l cur c V E) (hl:JSrc aB w pl bl ol l) (hN:l.length=N) (hNb:N≤900) (hf:dV l) (hs:CSrcD w pd pf bd od b2 o2 c.ds c.fs) (hv:c.Fit) :
  Calls Tryz.prog 16 #[.slice pl N cl,.int .i64 cur,.agg #[.int .i64 c.base,.int .i64 c.kind,.slice pd c.ds.length cd,.slice pf c.fs.length cf]] w fun e w'=>e=.returned (.tuple #[.int .u64 (V:Int),.int .i64 E])∧Below w.heap.size w w':=by
 obtain⟨F,hF⟩:=jF l cur c
 have HK:=hideS (dt w c.base c.kind (.slice pd c.ds.length cd) (.slice pf c.fs.length cf))
 have HO:=hideS fun wx (hb:Below w.heap.size w wx)=>gI l cur c pl bl ol cl N pd pf bd od cd b2 o2 cf wx F hF (hl.below hb) hN hNb hf (hs.below hb) hv
 have HH:=hideS h
 have HF:=hideS hF
 clear h hF hl hN hf hs hv
 obtain⟨SS,hSS⟩:∃ S,(if F=0 then wsI cur c l else 0)=S:=⟨_,rfl⟩
 rw [hSS] at HO
 have HSS:=hideS hSS
 clear hSS
 generalize Value.slice pd c.ds.length cd=vd at *
 generalize Value.slice pf c.fs.length cf=vf at *
 go_enter Tryz.func16,Tryz.ntmps16
 go_wp2_with fail
 refine (HO.out _ HK.out.bl).mono ?_
 intro e w2 hD
 obtain⟨⟨neg,v,M,ee,rfl,hd,hdv⟩,hb2⟩:=hD
 obtain⟨p,la,ca,rfl⟩:=hd.shape
 have HK2:=hideS (HK.out.step hb2)
 have HB3:Hid (Below w2.heap.size w2 (boxA w2 0 neg (.slice p la ca) ee)):=(Below.refl _ _).alloc (Nat.le_refl _) _
 have HT:=hideS (oj neg (.slice p la ca) M ee SS N _ (hd.below HB3.out) hdv (fK (by omega)))
 have h3:=iI w2 0 neg (.slice p la ca) ee
 have c0:(boxA w2 0 neg (.slice p la ca) ee).cell? ⟨w2.heap.size,0,none⟩=some (.int .i64 0):=by simp
 have c1:=h3.1
 have c2:=h3.2.1
 have c3:=h3.2.2
 clear hb2 hd hdv h3 HK HO
 by_cases hz:F=0
 ·have e1:=AW HH.out ((dA HF.out).1 hz)
  have e2:SS=wsI cur c l:=by rw [← HSS.out,if_pos hz]
  rw [e2] at HT
  have HV:Hid (tldV (valF (wsI cur c l))=V∧iN (valF (wsI cur c l))=E):=⟨e1.1.symm,e1.2.symm⟩
  rw [HV.out.1,HV.out.2] at HT
  subst hz
  clear e1 e2
  go_wp2_with fail
  refine HT.out.mono ?_
  rintro r w3 ⟨rfl,hb3⟩
  have HB4:=hideS ((HK2.out.step HB3.out).step hb3).bl
  clear hb3
  go_wp2_with fail
  go_ret2
  exact⟨rfl,HB4.out⟩
 ·have e1:V=0∧E=F:=by
   cases HH.out with
   | bad E' h hE=>exact⟨rfl,bB h HF.out⟩
   | ok h=>exact absurd ((dA HF.out).2 h) hz
  have d1:(F !=0)=true:=bne_iff_ne.2 hz
  have HE:=hideS e1
  clear e1 hz
  go_wp2_with fail
  go_ret2
  rw [HE.out.1,HE.out.2]
  exact⟨rfl,(HK2.out.step HB3.out).bl⟩
end Go.Proofs.YtkcnkhdbojdhgaaGreat
