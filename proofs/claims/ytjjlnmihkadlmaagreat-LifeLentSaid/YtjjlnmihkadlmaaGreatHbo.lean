/-  -/
import Derived.Test.YtjjlnmihkadlmaaGreatHbm
import Derived.Test.YtjjlnmihkadlmaaGreatHbn
import Derived.Laws.EntriesVeiled
import Derived.Deep.RegionHeld3
import Derived.Test.YtjjlnmihkadlmaaGreatFnv
import Derived.Test.YtjjlnmihkadlmaaGreatHbc
namespace Go.Proofs.YtjjlnmihkadlmaaGreat
open Go.RowKit

theorem Dn (n:Int) (w:World) :
  Calls Tryz.prog 130 #[.int .i64 n] w fun e w'=>e=.returned (.bool (decide (1≤n∧n≤8)))∧w'=w:=by
 by_cases h1:1≤n<;>by_cases h2:n≤8
 all_goals
  first | rw [decide_eq_true (⟨h1,h2⟩:1≤n∧n≤8)] | rw [decide_eq_false (fun h:1≤n∧n≤8=>by omega)]
  go_enter Tryz.func130,Tryz.ntmps130
  go_wp2
  go_ret
  exact⟨rfl,rfl⟩
structure TkC (fN:Nat) (fst cap:Array Value) (l:List Flw) (cur:Int) (c:Cv) (w0:World) (I:Nat→World→Prop) (Ow:World→Nat→Prop):Prop where
 call:∀ k wx,k<l.length→dl (l.getD k ak)=0→c.Ok→tkB cur c.base (l.getD k ak)=true→c.E (l.getD k ak).day=0→I k wx→Calls Tryz.prog fN (fst++(#[.float .f64 (l.getD k ak).am,.float .f64 (c.V (l.getD k ak).day)]++cap)) wx fun e w'=>e=.returned (.tuple #[])∧I (k+1) w'∧wx.heap.size≤w'.heap.size∧∀ x<wx.heap.size,¬ Ow wx x→w'.heap[x]? =wx.heap[x]? ∧¬ Ow w' x
 skip:∀ k wx,k<l.length→tkB cur c.base (l.getD k ak)=false→I k wx→I (k+1) wx
 stay:∀ k wx wy,I k wx→Below wx.heap.size wx wy→I k wy∧∀ x,Ow wy x→Ow wx x
 low:∀ k wx,I k wx→Below w0.heap.size w0 wx
 lt:∀ k wx x,I k wx→Ow wx x→x<wx.heap.size
structure BxK (w:World) (g:Nat) (base kind:Int) (vd vf:Value):Prop where
 blk:w.heap[g]? =some (.cells #[.int .i64 base,.int .i64 kind,vd,vf] 43)
theorem BxK.lt {w:World} {g:Nat} {base kind:Int} {vd vf:Value} (h:BxK w g base kind vd vf):g<w.heap.size:=(Array.getElem?_eq_some_iff.1 h.blk).1
theorem BxK.t {w:World} {g:Nat} {base kind:Int} {vd vf:Value} (h:BxK w g base kind vd vf):w.cell? ⟨g,0,none⟩=some (.int .i64 base)∧w.cell? ⟨g,1,none⟩=some (.int .i64 kind)∧w.cell? ⟨g,2,none⟩=some vd∧w.cell? ⟨g,3,none⟩=some vf:=by
 have hb:=h.blk
 exact⟨by simp [World.cell?,hb],by simp [World.cell?,hb],by simp [World.cell?,hb],by simp [World.cell?,hb]⟩
theorem BxK.step {w w':World} {g:Nat} {base kind:Int} {vd vf:Value} (h:BxK w g base kind vd vf) (hb:Below w.heap.size w w'):BxK w' g base kind vd vf:=⟨(hb.block g h.lt).trans h.blk⟩
theorem GG (w:World) (base kind:Int) (vd vf:Value):BxK (w.alloc (.cells #[.int .i64 base,.int .i64 kind,vd,vf] 43)) w.heap.size base kind vd vf:=⟨heap_alloc_new _ _⟩
theorem qU {l:List Flw} (h:ChkF l 0 0):l.length≤4096∧∀ i<l.length,dl (l.getD i ak)=0:=by
 generalize hz:(0:Int)=z at h
 cases h with
 | fine hl h=>exact⟨hl,h⟩
 | bad hl k hk e he h0 h=>exact absurd hz.symm h0

set_option maxRecDepth 20000 in
set_option maxHeartbeats 6400000 in
theorem zS (fN:Nat) (fst cap:Array Value) (l:List Flw) (cur:Int) (c:Cv) (pl:Option Addr) (bl ol cl N:Nat) (pd pf:Option Addr) (bd od cd b2 o2 cf:Nat) (I:Nat→World→Prop) (Ow:World→Nat→Prop) (w0 w:World) (E:Int) (hE:VisR l cur c E) (hl:JSrc aF w0 pl bl ol l) (hN:l.length=N) (hNb:N≤9223372036854775807) (hf:dm l) (hs:TFl w0 pd pf bd od b2 o2 c.ds c.fs) (hen:∀ args w,(callFunc fN args).run Tryz.prog w=.ok (.enter fN args) w) (hT:TkC fN fst cap l cur c w0 I Ow) (hI:I 0 w) :
  Calls Tryz.prog 93 #[.slice pl N cl,.int .i64 cur,.agg #[.int .i64 c.base,.int .i64 c.kind,.slice pd c.ds.length cd,.slice pf c.fs.length cf],.func (.func fN) fst cap] w fun e w'=>e=.returned (.int .i64 E)∧∃ k,I k w'∧(E=0→k=N):=by
 obtain⟨E1,K1,h1⟩:=kR l
 obtain⟨E2,h2⟩:=qM c.base c.kind c.ds c.fs
 have HCk:=hideS fun wx (hb:Below w0.heap.size w0 wx)=>ll l pl bl ol cl N E1 K1 wx (hl.below hb) hN hNb hf h1
 have HCu:=hideS fun wx=>Dn cur wx
 have HCc:=hideS fun wx (hb:Below w0.heap.size w0 wx)=>dD c.base c.kind pd pf bd od cd b2 o2 cf c.ds c.fs wx (hs.below hb) h2
 have HFa:=hideS fun x wx (hb:Below w0.heap.size w0 wx)=>il c.base c.kind x (c.E x) (c.V x) pd pf bd od cd b2 o2 cf c.ds c.fs wx (hs.below hb) (eu c.base c.kind c.ds c.fs x)
 have HK:=hideS (GG w c.base c.kind (.slice pd c.ds.length cd) (.slice pf c.fs.length cf))
 have H0:=hideS (hT.stay 0 w _ hI ((Below.refl _ _).alloc (Nat.le_refl _) (.cells #[.int .i64 c.base,.int .i64 c.kind,.slice pd c.ds.length cd,.slice pf c.fs.length cf] 43))).1
 have HO:Hid (¬ Ow (w.alloc (.cells #[.int .i64 c.base,.int .i64 c.kind,.slice pd c.ds.length cd,.slice pf c.fs.length cf] 43)) w.heap.size):=fun h=>Nat.lt_irrefl _ (hT.lt 0 w _ hI ((hT.stay 0 w _ hI ((Below.refl _ _).alloc (Nat.le_refl _) _)).2 _ h))
 have HE:=hideS hE
 have HT:=hideS hT
 have HQ:=hideS hl
 have HN:=hideS hN
 have HP:Hid (0<N→pl=some ⟨bl,ol,none⟩):=fun h=>hl.at_ (by omega)
 have H1:=hideS h1
 have H2:=hideS h2
 clear hE hT hl hN hf hs h1 h2 hI
 generalize hvd:Value.slice pd c.ds.length cd=vd at *
 generalize hvf:Value.slice pf c.fs.length cf=vf at *
 obtain⟨base,hbase⟩:∃ b,c.base=b:=⟨_,rfl⟩
 obtain⟨kind,hkind⟩:∃ b,c.kind=b:=⟨_,rfl⟩
 rw [hbase,hkind] at HCc HFa HK H0 HO ⊢
 have HBs:=hideS hbase
 clear hvd hvf hbase hkind
 obtain⟨w1,hw1⟩:∃ w1,w.alloc (.cells #[.int .i64 base,.int .i64 kind,vd,vf] 43)=w1:=⟨_,rfl⟩
 rw [hw1] at HK H0 HO
 obtain⟨g,hg⟩:∃ g,w.heap.size=g:=⟨_,rfl⟩
 rw [hg] at HK HO
 go_enter Tryz.func93,Tryz.ntmps93
 go_wp2_with fail
 clear hg hw1
 refine (HCk.out _ (HT.out.low _ _ H0.out)).mono ?_
 rintro e w2 ⟨rfl,hb2⟩
 have HK2:=hideS (HK.out.step hb2)
 have HO2:Hid (¬ Ow w2 g):=fun h=>HO.out ((HT.out.stay _ _ _ H0.out hb2).2 _ h)
 have HI2:=hideS (HT.out.stay _ _ _ H0.out hb2).1
 clear hb2 HK HO H0 HCk
 by_cases hE1:E1=0
 ·subst hE1
  have HKz:=hideS (cK H1.out)
  rw [HKz.out] at H1
  by_cases hc:1≤cur∧cur≤8
  ·rw [decide_eq_true hc] at HCu
   have HC8:=hideS hc
   clear hc
   obtain⟨t0,t1,t2,t3⟩:=HK2.out.t
   go_wp2_with (go_at_call 130;refine (HCu.out _).mono ?_;rintro e w' ⟨rfl,rfl⟩)
   refine (HCc.out _ (HT.out.low _ _ HI2.out)).mono ?_
   rintro e w3 ⟨rfl,hb3⟩
   have HK3:=hideS (HK2.out.step hb3)
   have HO3:Hid (¬ Ow w3 g):=fun h=>HO2.out ((HT.out.stay _ _ _ HI2.out hb3).2 _ h)
   have HI3:=hideS (HT.out.stay _ _ _ HI2.out hb3).1
   clear hb3 HK2 HO2 HI2 HCc HCu t0 t1 t2 t3
   by_cases hE2:E2=0
   ·subst hE2
    have HOk:=hideS (jB H2.out)
    have HFi:=hideS fun i (hi:i<N)=>(qU H1.out).2 i (by rw [HN.out];exact hi)
    have HNs:=hideS (qU H1.out).1
    go_wp2_with fail
    go_loopw [34] (fun i wr=>∃ k:Nat,k≤N∧i=.int .i64 k∧Hid (∀ j<k,tkB cur c.base (l.getD j ak)=true→c.E (l.getD j ak).day=0)∧Hid (I k wr∧BxK wr g base kind vd vf∧¬ Ow wr g)) (fun i _=>N - (intOf i).toNat)
    case atStart=>exact⟨0,Nat.zero_le _,rfl,fun j hj=>by omega,HI3.out,HK3.out,HO3.out⟩
    case round=>
     clear HI3 HK3 HO3
     obtain⟨k,hk,rfl,HFn,HR⟩:=hrel
     by_cases hlt:k<N
     ·obtain rfl:=HP.out (by omega)
      have HQr:=hideS (HQ.out.below (HT.out.low _ _ HR.out.1))
      obtain⟨c0,c1,c2⟩:=HQr.out.cell k (by rw [HN.out];exact hlt)
      have HQB:=hideS (fU wr (l.getD k ak))
      have HCl:=hideS (HT.out.call k)
      have HSk:=hideS (HT.out.skip k)
      obtain⟨⟨z0,z1,z2⟩,fz⟩:=cM wr
      have y0:=fz 0
      have y1:=fz 1
      have y2:=fz 2
      clear fz
      obtain⟨q,hq⟩:∃ q,l.getD k ak=q:=⟨_,rfl⟩
      have HBd:=hideS (HFi.out k hlt)
      rw [hq] at HCl HSk HQB c0 c1 c2 HBd
      have Hq:=hideS hq
      clear hq
      obtain⟨qd,qa,qc⟩:=q
      dsimp only [aF] at *
      obtain⟨w4,hw4⟩:∃ w4,wr.alloc aZ=w4:=⟨_,rfl⟩
      rw [hw4] at z0 z1 z2 y0 y1 y2 HQB
      unfold aZ at hw4
      obtain⟨w5,hw5⟩:∃ w5,kN w4 wr.heap.size ⟨qd,qa,qc⟩=w5:=⟨_,rfl⟩
      rw [hw5] at HQB
      unfold kN at hw5
      dsimp only at hw5
      have f0:=HQB.out.t0
      have f1:=HQB.out.t1
      have f2:=HQB.out.t2
      dsimp only at f0 f1 f2
      have hst:=cF
      have HK5:=hideS (HR.out.2.1.step HQB.out.bl)
      have HI5:=hideS (HT.out.stay _ _ _ HR.out.1 HQB.out.bl).1
      have HO5:Hid (¬ Ow w5 g):=fun h=>HR.out.2.2 ((HT.out.stay _ _ _ HR.out.1 HQB.out.bl).2 _ h)
      obtain⟨t0,t1,t2,t3⟩:=HK5.out.t
      have HTk:Hid (tkB cur c.base ⟨qd,qa,qc⟩=(decide (qc=cur)&&decide (base≤qd))):=by show _=_;unfold tkB;rw [HBs.out]
      rw [HTk.out] at HCl HSk
      clear HTk HQB HR HQr
      by_cases hcu:qc=cur
      ·subst hcu
       by_cases hda:qd<base
       ·have HI6:=hideS (HSk.out w5 (by rw [HN.out];exact hlt) (by simp;omega) HI5.out)
        have HFn2:Hid (∀ j<k+1,tkB qc c.base (l.getD j ak)=true→c.E (l.getD j ak).day=0):=fun j hj ht=>by
         by_cases d:j<k
         ·exact HFn.out j d ht
         ·obtain rfl:j=k:=by omega
          rw [Hq.out] at ht
          unfold tkB at ht
          rw [HBs.out] at ht
          simp at ht;omega
        have o1:(qc !=qc)=false:=by simp
        go_wp2_with fail
        clear hst hw4 hw5 z0 z1 z2 y0 y1 y2 f0 f1 f2 t0 t1 t2 t3
        go_roundw
        case rel=>exact⟨k+1,by omega,by simp,HFn2,HI6.out,HK5.out,HO5.out⟩
        case measure=>simp [intOf];omega
       ·have HFc:=hideS (HFa.out qd)
        obtain⟨FE,hFE⟩:∃ x,c.E qd=x:=⟨_,rfl⟩
        obtain⟨FV,hFV⟩:∃ x,c.V qd=x:=⟨_,rfl⟩
        rw [hFE,hFV] at HFc HCl
        have HFE:=hideS hFE
        clear hFE hFV
        have o1:(qc !=qc)=false:=by simp
        have o2:decide (qd<base)=false:=decide_eq_false hda
        have HTy:Hid (tkB qc c.base (l.getD k ak)=true):=by show _=_;rw [Hq.out];unfold tkB;rw [HBs.out];simp;omega
        have hlw:wr.heap.size<w5.heap.size:=World.block_lt_of_cell? _ _ f1
        by_cases hz:FE=0
        ·subst hz
         have HFn2:Hid (∀ j<k+1,tkB qc c.base (l.getD j ak)=true→c.E (l.getD j ak).day=0):=fun j hj ht=>by
          by_cases d:j<k
          ·exact HFn.out j d ht
          ·obtain rfl:j=k:=by omega
           rw [Hq.out];exact HFE.out
         go_wp2_with fail
         clear hst hw4 hw5 z0 z1 z2 y0 y1 y2 t0 t1 t2 t3
         refine (HFc.out _ (HT.out.low _ _ HI5.out)).mono ?_
         rintro e w6 ⟨rfl,hb6⟩
         have HK6:=hideS (HK5.out.step hb6)
         have HI6:=hideS (HT.out.stay _ _ _ HI5.out hb6).1
         have HO6:Hid (¬ Ow w6 g):=fun h=>HO5.out ((HT.out.stay _ _ _ HI5.out hb6).2 _ h)
         have g1:w6.cell? ⟨wr.heap.size,1,none⟩=some (.float .f64 qa):=(hb6.cell (p:=⟨wr.heap.size,1,none⟩) hlw).trans f1
         clear hb6 HK5 HI5 HO5 HFc f0 f1 f2 hlw
         go_wp2_with fail
         refine (HCl.out w6 (by rw [HN.out];exact hlt) HBd.out HOk.out (by simp;omega) trivial HI6.out).mono ?_
         rintro e w7 ⟨rfl,hi7,hs7,hk7⟩
         have HI7:=hideS hi7
         have HK7:Hid (BxK w7 g base kind vd vf):=⟨(hk7 g HK6.out.lt HO6.out).1.trans HK6.out.blk⟩
         have HO7:=hideS (hk7 g HK6.out.lt HO6.out).2
         clear hi7 hs7 hk7 g1 HK6 HI6 HO6
         go_wp2_with fail
         go_roundw
         case rel=>exact⟨k+1,by omega,by simp,HFn2,HI7.out,HK7.out,HO7.out⟩
         case measure=>simp [intOf];omega
        ·have HX:Hid (E=FE):=gB HE.out (.fac H1.out HC8.out HOk.out k (by rw [HN.out];exact hlt) HTy.out FE (by rw [Hq.out];exact HFE.out) hz HFn.out)
         have d1:(FE !=0)=true:=bne_iff_ne.2 hz
         clear hz
         go_wp2_with fail
         clear hst hw4 hw5 z0 z1 z2 y0 y1 y2 t0 t1 t2 t3
         refine (HFc.out _ (HT.out.low _ _ HI5.out)).mono ?_
         rintro e w6 ⟨rfl,hb6⟩
         have HI6:=hideS (HT.out.stay _ _ _ HI5.out hb6).1
         clear hb6 HK5 HI5 HO5 HFc f0 f1 f2 hlw
         go_wp2_with fail
         go_ret
         rw [HX.out]
         exact⟨rfl,k,HI6.out,fun h=>absurd h (bne_iff_ne.1 d1)⟩
      ·have o1:(qc !=cur)=true:=bne_iff_ne.2 hcu
       have HI6:=hideS (HSk.out w5 (by rw [HN.out];exact hlt) (by simp [hcu]) HI5.out)
       have HFn2:Hid (∀ j<k+1,tkB cur c.base (l.getD j ak)=true→c.E (l.getD j ak).day=0):=fun j hj ht=>by
        by_cases d:j<k
        ·exact HFn.out j d ht
        ·obtain rfl:j=k:=by omega
         rw [Hq.out] at ht
         unfold tkB at ht
         simp [hcu] at ht
       clear hcu
       go_wp2_with fail
       clear hst hw4 hw5 z0 z1 z2 y0 y1 y2 f0 f1 f2 t0 t1 t2 t3
       go_roundw
       case rel=>exact⟨k+1,by omega,by simp,HFn2,HI6.out,HK5.out,HO5.out⟩
       case measure=>simp [intOf];omega
     ·obtain rfl:k=N:=by omega
      have HX:Hid (E=0):=gB HE.out (.ok H1.out HC8.out HOk.out (fun i hi=>HFn.out i (by rw [HN.out] at hi;exact hi)))
      go_wp2_with fail
      go_ret
      rw [HX.out]
      exact⟨rfl,k,HR.out.1,fun _=>rfl⟩
   ·have HX:Hid (E=E2):=gB HE.out (.curve H1.out HC8.out E2 H2.out hE2)
    have d1:(E2 !=0)=true:=bne_iff_ne.2 hE2
    clear hE2
    go_wp2_with fail
    go_ret
    rw [HX.out]
    exact⟨rfl,0,HI3.out,fun h=>absurd h (bne_iff_ne.1 d1)⟩
  ·have HX:Hid (E=140):=gB HE.out (.cur H1.out hc)
   rw [decide_eq_false hc] at HCu
   clear hc
   go_wp2_with (go_at_call 130;refine (HCu.out _).mono ?_;rintro e w' ⟨rfl,rfl⟩)
   go_ret
   rw [HX.out]
   exact⟨rfl,0,HI2.out,fun h=>by cases h⟩
 ·have HX:Hid (E=E1):=gB HE.out (.flow E1 K1 H1.out hE1)
  have d1:(E1 !=0)=true:=bne_iff_ne.2 hE1
  clear hE1
  go_wp2_with fail
  go_ret
  rw [HX.out]
  exact⟨rfl,0,HI2.out,fun h=>absurd h (bne_iff_ne.1 d1)⟩
end Go.Proofs.YtjjlnmihkadlmaaGreat
namespace Go.Proofs.YtjjlnmihkadlmaaGreat
open Go.RowKit

theorem wv (args:Array Value) (w:World):(callFunc 94 args).run Tryz.prog w=.ok (.enter 94 args) w:=rq Tryz.func94 (by kernel_rfl) rfl args w
def Fj (w:World) (b:Nat) (cur:Int) (c:Cv) (l:List Flw) (k:Nat) (wx:World):Prop:=∃ v,A.Run w wx b v (70+k) ⟨0,wsI cur c (l.take k)⟩
def GI (b:Nat) (wx:World) (x:Nat):Prop:=x=b∨∃ v:Value,wx.cell? ⟨b,1,none⟩=some v∧v.ownBlock=some x
theorem jF {w:World} {B b L:Nat} {v:Value} {a:A.St} (h:A.AccAt w B b v L a) (x:Nat):GI b w x↔A.Ft b v x:=by
 constructor
 ·rintro (e | ⟨v',h1,h2⟩)
  ·exact Or.inl e
  ·rw [h.cell1] at h1
   injection h1 with h1
   subst h1
   exact Or.inr h2
 ·rintro (e | e)
  ·exact Or.inl e
  ·exact Or.inr ⟨v,h.cell1,e⟩
theorem Fk {cur:Int} {c:Cv} {f:Flw} (h:tkB cur c.base f=true):ctI cur c f=prI c f:=by unfold ctI;rw [if_pos h]
theorem GJ {cur:Int} {c:Cv} {f:Flw} (h:tkB cur c.base f=false):ctI cur c f=0:=by unfold ctI;rw [h];rfl
theorem Do {a:A.St} (h:a.s=0) (N:Int):(⟨0,N⟩:A.St).merge a=⟨0,N+a.N⟩:=by
 obtain⟨s,M⟩:=a
 dsimp only at h
 subst h
 rfl
theorem Cv.splV {c:Cv} {x:Int} (ok:c.Ok) (hf:c.Fit) (h:c.E x=0):aD ((c.V x:Nat):Int)=true:=tP ok hf h
theorem GK {f:Flw} (h:dl f=0):aD (f.am:Int)=true:=GD h
theorem Fl {l:List Flw} {cur:Int} {c:Cv} {w:World} {b:Nat} (hn:l.length≤30000) (hf:dm l) (hv:c.Fit):TkC 94 #[.pointer (some ⟨b,0,none⟩)] #[] l cur c w (Fj w b cur c l) (GI b) where
 call:=fun k wx hk hb ok ht hE ⟨v,hr⟩=>by
  obtain⟨hV,_,_⟩:=Cv.num ok hv hE
  refine (A.sE w.heap.size b v (70+k) _ _ _ _ _ wx hr.acc hr.bl.size rfl (an (hf k)) rfl (an hV) (GK hb) (Cv.splV ok hv hE) (by omega)).mono ?_
  rintro e w' ⟨rfl,v',hd⟩
  refine⟨rfl,⟨v',?_⟩,hd.wrote.size,fun x hx hn=>?_⟩
  ·have:=hr.did hd
   have e1:max (70+k) 70+1=70+(k+1):=by omega
   rw [e1] at this
   have e2:(⟨0,wsI cur c (l.take k)⟩:A.St).merge (A.ju ((l.getD k ak).am:Int) (c.V (l.getD k ak).day:Int))=⟨0,wsI cur c (l.take (k+1))⟩:=by
    rw [tQ hk,Fk ht,Do rfl];unfold prI;rfl
   rw [e2] at this
   exact this
  ·rw [jF hr.acc] at hn
   refine⟨hd.wrote.block x hx hn,fun h=>?_⟩
   rw [jF hd.acc] at h
   rcases h with h | h
   ·exact hn (Or.inl h)
   ·rcases hd.new x h with h2 | h2
    ·exact hn (Or.inr h2)
    ·omega
 skip:=fun k wx hk ht ⟨v,hr⟩=>⟨v,by
  have:=hr.mono (L':=70+(k+1)) (by omega)
  rw [tQ hk,GJ ht,Int.add_zero]
  exact this⟩
 stay:=fun k wx wy ⟨v,hr⟩ hb=>⟨⟨v,hr.acc.below hb,hr.bl.trans (hb.mono hr.bl.size)⟩,fun x h=>by
  rw [jF (hr.acc.below hb)] at h
  rw [jF hr.acc];exact h⟩
 low:=fun k wx ⟨v,hr⟩=>hr.bl
 lt:=fun k wx x ⟨v,hr⟩ h=>by
  rw [jF hr.acc] at h
  exact (hr.acc.base x h).2

structure OfP (l:List Flw) (cur:Int) (c:Cv) (N:Nat) (E:Int) (w:World) (e:Ending) (w':World):Prop where
 bad:E≠0→e=.returned (.tuple #[.pointer none,.int .i64 E])
 ok:E=0→∃ g,e=.returned (.tuple #[.pointer (some ⟨g,0,none⟩),.int .i64 0])∧WAt w' g (wsI cur c l) (70+N)
 bl:Below w.heap.size w w'
set_option maxRecDepth 20000 in
set_option maxHeartbeats 3200000 in
theorem GL (l:List Flw) (cur:Int) (c:Cv) (pl:Option Addr) (bl ol cl N:Nat) (pd pf:Option Addr) (bd od cd b2 o2 cf:Nat) (w:World) (E:Int) (hE:VisR l cur c E) (hl:JSrc aF w pl bl ol l) (hN:l.length=N) (hNb:N≤30000) (hf:dm l) (hs:TFl w pd pf bd od b2 o2 c.ds c.fs) :
  Calls Tryz.prog 54 #[.slice pl N cl,.int .i64 cur,.agg #[.int .i64 c.base,.int .i64 c.kind,.slice pd c.ds.length cd,.slice pf c.fs.length cf]] w fun e w'=>OfP l cur c N E w e w':=by
 have HK:=hideS (du w c.base c.kind (.slice pd c.ds.length cd) (.slice pf c.fs.length cf))
 have HN:=hideS fun wx (hb:Below w.heap.size w wx)=>A.kX wx w.heap.size hb.size
 have HV:=hideS fun b wx (hi:Fj w b cur c l 0 wx)=>zS 94 #[.pointer (some ⟨b,0,none⟩)] #[] l cur c pl bl ol cl N pd pf bd od cd b2 o2 cf (Fj w b cur c l) (GI b) w wx E hE hl hN (by omega) hf hs wv (Fl (by omega) hf hs.f) hi
 have HNl:=hideS hN
 clear hE hl hN hf hs
 generalize Value.slice pd c.ds.length cd=vd at *
 generalize Value.slice pf c.fs.length cf=vf at *
 have hmk:=ru
 go_enter Tryz.func54,Tryz.ntmps54
 go_wp2_with fail
 refine (HN.out _ HK.out.bl).mono ?_
 rintro e w2 ⟨rfl,ha2,hb2⟩
 have HK2:=hideS (HK.out.step hb2)
 have HI:Hid (Fj w (w.alloc (.cells #[.int .i64 c.base,.int .i64 c.kind,vd,vf] 43)).heap.size cur c l 0 w2):=⟨_,ha2.mono (by omega),HK2.out.bl⟩
 clear ha2 hb2 HN HK
 obtain⟨b,hb⟩:∃ b,(w.alloc (.cells #[.int .i64 c.base,.int .i64 c.kind,vd,vf] 43)).heap.size=b:=⟨_,rfl⟩
 rw [hb] at HI ⊢
 clear hb
 have t0:=HK2.out.t0
 have t1:=HK2.out.t1
 have t2:=HK2.out.t2
 have t3:=HK2.out.t3
 go_wp2_with fail
 refine (HV.out b _ HI.out).mono ?_
 rintro e w3 ⟨rfl,k,hk,hz⟩
 obtain⟨v,hr⟩:=hk
 have HR:=hideS hr
 have HZ:=hideS hz
 clear hr hz HV t0 t1 t2 t3 hmk HK2 HI
 by_cases h0:E=0
 ·subst h0
  have HW:=hideS (qV (GH (B':=0) HR.out.acc (fun _ _=>Nat.zero_le _)))
  have HB:=hideS (HR.out.bl.alloc HR.out.bl.size (.cells #[.pointer (some ⟨b,0,none⟩)] 113))
  go_wp2_with fail
  go_ret2
  refine⟨fun h=>absurd rfl h,fun _=>⟨_,rfl,?_⟩,HB.out⟩
  have e1:=HZ.out trivial
  have:=HW.out
  rw [e1,← HNl.out,List.take_length,HNl.out] at this
  exact this
 ·have d1:(E !=0)=true:=bne_iff_ne.2 h0
  have HE:=hideS h0
  clear h0
  go_wp2_with fail
  go_ret2
  exact⟨fun _=>rfl,fun h=>absurd h HE.out,HR.out.bl⟩
theorem GM (l:List Flw) (cur:Int) (c:Cv) (pl:Option Addr) (bl ol cl N:Nat) (pd pf:Option Addr) (bd od cd b2 o2 cf:Nat) (w:World) (h0:FineP l cur c) (hl:JSrc aF w pl bl ol l) (hN:l.length=N) (hf:dm l) (hs:TFl w pd pf bd od b2 o2 c.ds c.fs) :
  Calls Tryz.prog 54 #[.slice pl N cl,.int .i64 cur,.agg #[.int .i64 c.base,.int .i64 c.kind,.slice pd c.ds.length cd,.slice pf c.fs.length cf]] w fun e w'=>∃ g,e=.returned (.tuple #[.pointer (some ⟨g,0,none⟩),.int .i64 0])∧WAt w' g (wsI cur c l) (70+N)∧Below w.heap.size w w':=
 (GL l cur c pl bl ol cl N pd pf bd od cd b2 o2 cf w 0 (zN h0) hl hN (by have:=h0.len;omega) hf hs).mono fun _ _ h=>by
  obtain⟨g,e,h'⟩:=h.ok rfl
  exact⟨g,e,h',h.bl⟩
theorem Fm (N:Int):jR N<18446744073709551616:=by
 unfold jR aG
 have:=gh N.natAbs (-2148)
 split
 ·omega
 ·split<;>omega
end Go.Proofs.YtjjlnmihkadlmaaGreat
namespace Go.Proofs.YtjjlnmihkadlmaaGreat
open Go.RowKit

def parC:Cv:=⟨0,1,[109572],[4607182418800017408]⟩
theorem qY:parC.Ok:=⟨by decide,by decide,by decide,by decide,by decide,by decide,rfl,fun i hi=>by
 obtain rfl:i=0:=by simp [parC] at hi;omega
 decide⟩
theorem mZ:parC.Fit:=fun i hi=>by
 obtain rfl:i=0:=by simp [parC] at hi;omega
 decide
theorem Dp {x:Int} (h0:0≤x) (h1:x≤109572):parC.E x=0:=Dg qY h0 h1
theorem GP {x:Int} (h0:0≤x) (h1:x≤109572):parC.V x=4607182418800017408:=by
 have hE:=Dp h0 h1
 have h:=eu parC.base parC.kind parC.ds parC.fs x
 obtain⟨p1,p2⟩:=pj (x:=x) qY mZ hE
 have hE':kj parC.base parC.kind parC.ds parC.fs x=0:=hE
 rw [hE'] at h
 show facV parC.base parC.kind parC.ds parC.fs x=_
 generalize facV parC.base parC.kind parC.ds parC.fs x=V at *
 generalize hz:(0:Int)=z at h
 cases h with
 | bad E h hE=>exact absurd hz.symm hE
 | ok _ V E hA=>
  subst hz
  obtain⟨k,_,_,hk,a1,a2,a3,a4⟩:=mT hA (Dd mZ)
  have hV:=dK (r:=V) (by omega)
  have r1:ae ((4607182418800017408:Nat):Int)=4607182418800017408:=by decide
  have hc:∀ i,i<2→(ctY parC.fs).getD i 0=4607182418800017408:=fun i hi=>by
   rcases (show i=0∨i=1 by omega) with rfl | rfl<;>rfl
  have hl:(ctX parC.base parC.ds).length=2:=rfl
  rw [hl] at hk a3 a4
  by_cases h2:k+1<2
  ·obtain⟨b1,b2⟩:=a3 h2
   rw [hc k (by omega),hc (k+1) h2] at b1 b2
   rw [r1,hV] at b1 b2
   omega
  ·have:=a4 h2
   rw [hc k (by omega)] at this
   omega
theorem zW {l:List Flw} {cur:Int} (hc:1≤cur∧cur≤8) (hl:l.length≤4096) (hb:∀ f ∈ l,dl f=0):FineP l cur parC:=
 ⟨hl,hb,hc,qY,fun f hf _=>by
  have h:=hb f hf
  unfold dl at h
  split at h
  ·cases h
  ·rename_i hd
   have:=Classical.not_not.1 hd
   exact Dp this.1 this.2⟩
def Oth (w:World) (S:Nat→Prop):Prop:=∀ k cs t fz,S k→w.heap[k]? =some (.cells cs t fz)→t≠113∧t≠134∧t≠57
theorem WAt.ch {w w':World} {g L:Nat} {N:Int} {S:Nat→Prop} (h:WAt w g N L) (hc:Ch S w w') (hS:Oth w S):WAt w' g N L:=by
 obtain⟨b,v,h1,h2⟩:=h.ex
 have n1:¬ S g:=fun c=>(hS g _ _ _ c h1).1 rfl
 refine⟨b,v,(hc.block g (Array.getElem?_eq_some_iff.1 h1).1 n1).trans h1,h2.wrote (F:=S) ⟨hc.os,hc.tape,hc.output,hc.size,hc.block⟩ ?_⟩
 rintro k (rfl | hk) c
 ·exact (hS _ _ _ _ c h2.blk).2.1 rfl
 ·obtain⟨xs,ho,_,_⟩:=h2.own
  rcases ho.own.2 with⟨e,_⟩| ⟨g',cap,cur,e,_,hg,_⟩
  ·rw [e] at hk;cases hk
  ·rw [e] at hk
   have e2:g'=k:=by injection hk
   subst e2
   exact (hS _ _ _ _ c hg).2.2 rfl
theorem bq {w w':World} {B T sz n:Nat} {v:Value} {xs:List Value} {S:Nat→Prop} (h:w.ownsRow B T sz v n xs) (hc:Ch S w w') (hn:∀ k,v.ownBlock=some k→¬ S k):w'.ownsRow B T sz v n xs:=by
 refine⟨h.1,?_⟩
 rcases h.2 with e | ⟨g',cap,cs,e,hb,hg,rest⟩
 ·exact Or.inl e
 ·exact Or.inr ⟨g',cap,cs,e,hb,(hc.block g' (Array.getElem?_eq_some_iff.1 hg).1 (hn g' (by rw [e];rfl))).trans hg,rest⟩
theorem aM {w:World} {B T sz n:Nat} {v:Value} {xs:List Value} (h:w.ownsRow B T sz v n xs) {k:Nat} (hk:v.ownBlock=some k):B≤k∧k<w.heap.size∧∃ cs,w.heap[k]? =some (.cells cs T):=by
 rcases h.2 with⟨e,_⟩| ⟨g',cap,cs,e,hb,hg,_⟩
 ·rw [e] at hk;cases hk
 ·rw [e] at hk
  have e2:g'=k:=by injection hk
  subst e2
  exact⟨hb,(Array.getElem?_eq_some_iff.1 hg).1,cs,hg⟩
structure LdA (w:World) (B b g:Nat) (cur day N:Int) (L:Nat) (v:Value) (l:List Flw):Prop where
 blk:w.heap[b]? =some (.cells #[.pointer (some ⟨g,0,none⟩),.int .i64 cur,.int .i64 day,v] 98)
 lo:B≤b
 own:w.ownsRow B 77 3 v l.length (aw aF l)
 cash:WAt w g N L
def LdS (b:Nat) (v:Value) (k:Nat):Prop:=k=b∨v.ownBlock=some k
theorem LdA.lt {w:World} {B b g L:Nat} {cur day N:Int} {v:Value} {l:List Flw} (h:LdA w B b g cur day N L v l):b<w.heap.size:=(Array.getElem?_eq_some_iff.1 h.blk).1
theorem LdA.row {w:World} {B b g L:Nat} {cur day N:Int} {v:Value} {l:List Flw} (h:LdA w B b g cur day N L v l) {k:Nat} (hk:v.ownBlock=some k):(∃ cs,w.heap[k]? =some (.cells cs 77))∧B≤k:=by
 rcases h.own.2 with⟨e,_⟩| ⟨g',cap,cs,e,hb,hg,_⟩
 ·rw [e] at hk;cases hk
 ·rw [e] at hk
  have e2:g'=k:=by injection hk
  subst e2
  exact⟨⟨cs,hg⟩,hb⟩
theorem LdA.oth {w:World} {B b g L:Nat} {cur day N:Int} {v:Value} {l:List Flw} (h:LdA w B b g cur day N L v l):Oth w (LdS b v):=by
 rintro k cs t fz (rfl | hk) e
 ·rw [h.blk] at e;injection e with e;injection e with _ e _;subst e;decide
 ·obtain⟨cs',e'⟩:=(h.row hk).1
  rw [e'] at e;injection e with e;injection e with _ e _;subst e;decide
theorem LdA.ne {w:World} {B b g L:Nat} {cur day N:Int} {v:Value} {l:List Flw} (h:LdA w B b g cur day N L v l):v.ownBlock≠some b:=fun hk=>by
 obtain⟨cs',e'⟩:=(h.row hk).1
 rw [h.blk] at e';injection e' with e';injection e' with _ e' _;revert e';decide
theorem LdA.low {w:World} {B b g L:Nat} {cur day N:Int} {v:Value} {l:List Flw} (h:LdA w B b g cur day N L v l) {k:Nat} (hk:LdS b v k):B≤k:=by
 rcases hk with rfl | hk
 ·exact h.lo
 ·exact (h.row hk).2
theorem LdA.below {w w':World} {B b g L:Nat} {cur day N:Int} {v:Value} {l:List Flw} (h:LdA w B b g cur day N L v l) (hb:Below w.heap.size w w'):LdA w' B b g cur day N L v l:=
 ⟨(hb.block b h.lt).trans h.blk,h.lo,ap h.own hb,h.cash.below hb⟩
theorem LdA.apart {w w':World} {B b g L:Nat} {cur day N:Int} {v:Value} {l:List Flw} {S:Nat→Prop} (h:LdA w B b g cur day N L v l) (hc:Ch S w w') (hS:Oth w S) (hn:∀ k,LdS b v k→¬ S k):LdA w' B b g cur day N L v l:=by
 refine⟨(hc.block b h.lt (hn b (Or.inl rfl))).trans h.blk,h.lo,⟨h.own.1,?_⟩,h.cash.ch hc hS⟩
 rcases h.own.2 with e | ⟨g',cap,cs,e,hb,hg,rest⟩
 ·exact Or.inl e
 ·exact Or.inr ⟨g',cap,cs,e,hb,(hc.block g' (Array.getElem?_eq_some_iff.1 hg).1 (hn g' (Or.inr (by rw [e];rfl)))).trans hg,rest⟩
theorem LdA.mono {w:World} {B B' b g L L':Nat} {cur day N:Int} {v:Value} {l:List Flw} (h:LdA w B b g cur day N L v l) (hB:B'≤B) (hL:L≤L'):LdA w B' b g cur day N L' v l:=by
 obtain⟨c,u,h1,h2⟩:=h.cash.ex
 exact⟨h.blk,Nat.le_trans hB h.lo,cT h.own hB,⟨c,u,h1,h2.mono hL⟩⟩
theorem LdA.cells {w:World} {B b g L:Nat} {cur day N:Int} {v:Value} {l:List Flw} (h:LdA w B b g cur day N L v l):(w.cell? ⟨b,0,none⟩=some (.pointer (some ⟨g,0,none⟩))∧w.cell? ⟨b,1,none⟩=some (.int .i64 cur)∧w.cell? ⟨b,2,none⟩=some (.int .i64 day)∧w.cell? ⟨b,3,none⟩=some v)∧∀ i,w.frozen? ⟨b,i,none⟩=false:=by
 have hb:=h.blk
 exact⟨⟨by simp [World.cell?,hb],by simp [World.cell?,hb],by simp [World.cell?,hb],by simp [World.cell?,hb]⟩,fun i=>frozen_of_row _ _ i _ _ hb⟩
theorem xH (n lo hi:Int) (w:World) :
  Calls Tryz.prog 38 #[.int .i64 n,.int .i64 lo,.int .i64 hi] w fun e w'=>e=.returned (.bool (decide (lo≤n∧n≤hi)))∧w'=w:=by
 by_cases h1:lo≤n<;>by_cases h2:n≤hi
 all_goals
  first | rw [decide_eq_true (⟨h1,h2⟩:lo≤n∧n≤hi)] | rw [decide_eq_false (fun h:lo≤n∧n≤hi=>by omega)]
  go_enter Tryz.func38,Tryz.ntmps38
  go_wp2
  go_ret
  exact⟨rfl,rfl⟩
theorem nh (n:Int) (w:World) :
  Calls Tryz.prog 39 #[.int .i64 n] w fun e w'=>e=.returned (.bool (decide (0≤n∧n≤109572)))∧w'=w:=by
 have H:=hideS fun w=>xH n 0 109572 w
 generalize decide (0≤n∧n≤109572)=b at *
 go_enter Tryz.func39,Tryz.ntmps39
 go_wp2_with (go_at_call 38;refine (H.out _).mono ?_;rintro e w' ⟨rfl,rfl⟩)
 go_ret
 exact⟨rfl,rfl⟩
set_option maxHeartbeats 800000 in
theorem tY (x:Nat) (w:World) (hx:U64 x) :
  Calls Tryz.prog 52 #[.float .f64 x] w fun e w'=>e=.returned (.tuple #[.float .f64 (Fh x),.int .i64 (Fi x)])∧w'=w:=by
 have H1:=hideS fun w=>aU x w hx
 unfold Fh Fi
 cases hn:ag (x:Int)
 ·rw [hn] at H1
  have H2:=hideS fun w=>ip x _ w hx (pG hn)
  generalize bL x=b at *
  clear hn hx
  cases b
  all_goals
   simp only [Bool.false_eq_true,if_false,if_true]
   go_enter Tryz.func52,Tryz.ntmps52
   go_wp2_with fail
   refine (H1.out _).mono ?_
   rintro e w' ⟨rfl,rfl⟩
   go_wp2_with fail
   refine (H2.out _).mono ?_
   rintro e w' ⟨rfl,rfl⟩
   go_wp2_with fail
   go_ret2
   exact⟨rfl,rfl⟩
 ·rw [hn] at H1
  rw [pH hn]
  clear hn hx
  simp only [Bool.false_eq_true,if_false]
  go_enter Tryz.func52,Tryz.ntmps52
  go_wp2_with fail
  refine (H1.out _).mono ?_
  rintro e w' ⟨rfl,rfl⟩
  go_wp2_with fail
  go_ret2
  exact⟨rfl,rfl⟩
set_option maxHeartbeats 1600000 in
theorem Dq (w:World) :
  Calls Tryz.prog 83 #[] w fun e w'=>∃ gx gy,e=.returned (.agg #[.int .i64 0,.int .i64 1,.slice (some ⟨gx,0,none⟩) 1 1,.slice (some ⟨gy,0,none⟩) 1 1])∧TFl w' (some ⟨gx,0,none⟩) (some ⟨gy,0,none⟩) gx 0 gy 0 parC.ds parC.fs∧Below w.heap.size w w':=by
 obtain⟨w1,hw1⟩:∃ w1,w.alloc (.cells #[.int .i64 0,.int .i64 0,.slice none 0 0,.slice none 0 0] 43)=w1:=⟨_,rfl⟩
 have z1:w1.heap.size=w.heap.size+1:=by rw [← hw1];simp
 have b1:Below w.heap.size w w1:=by rw [← hw1];exact (Below.refl _ _).alloc (Nat.le_refl _) _
 have k1:w1.heap[w.heap.size]? =some (.cells #[.int .i64 0,.int .i64 0,.slice none 0 0,.slice none 0 0] 43):=by rw [← hw1];exact heap_alloc_new _ _
 obtain⟨w2,hw2⟩:∃ w2,w1.alloc (.cells #[.int .i64 109572] 3)=w2:=⟨_,rfl⟩
 have b2:Below w1.heap.size w1 w2:=by rw [← hw2];exact (Below.refl _ _).alloc (Nat.le_refl _) _
 have z2:w2.heap.size=w1.heap.size+1:=by rw [← hw2];simp
 have c2:=gZ w1 109572 3
 rw [hw2] at c2
 obtain⟨w3,hw3⟩:∃ w3,w2.alloc (.cells #[.float .f64 4607182418800017408] 54)=w3:=⟨_,rfl⟩
 have b3:Below w2.heap.size w2 w3:=by rw [← hw3];exact (Below.refl _ _).alloc (Nat.le_refl _) _
 have z3:w3.heap.size=w2.heap.size+1:=by rw [← hw3];simp
 have c3:=jD w2 4607182418800017408 54
 rw [hw3] at c3
 have k3:w3.heap[w.heap.size]? =some (.cells #[.int .i64 0,.int .i64 0,.slice none 0 0,.slice none 0 0] 43):=(b3.block _ (by omega)).trans ((b2.block _ (by omega)).trans k1)
 have d0:w3.cell? ⟨w.heap.size,0,none⟩=some (.int .i64 0):=by simp [World.cell?,k3]
 have d1:w3.cell? ⟨w.heap.size,1,none⟩=some (.int .i64 0):=by simp [World.cell?,k3]
 have d2:w3.cell? ⟨w.heap.size,2,none⟩=some (.slice none 0 0):=by simp [World.cell?,k3]
 have d3:w3.cell? ⟨w.heap.size,3,none⟩=some (.slice none 0 0):=by simp [World.cell?,k3]
 have fz:∀ i,w3.frozen? ⟨w.heap.size,i,none⟩=false:=fun i=>frozen_of_row _ _ i _ _ k3
 have f0:=fz 0
 have f1:=fz 1
 have f2:=fz 2
 have f3:=fz 3
 clear fz k1 k3
 have HT:Hid (TFl w3 (some ⟨w1.heap.size,0,none⟩) (some ⟨w2.heap.size,0,none⟩) w1.heap.size 0 w2.heap.size 0 parC.ds parC.fs):=by
  refine⟨⟨fun _=>rfl,fun _=>by omega,fun j hj=>?_⟩,⟨fun _=>rfl,fun _=>by omega,fun j hj=>?_⟩,mZ⟩
  ·exact (b3.cell (p:=⟨w1.heap.size,0+j,none⟩) (by show w1.heap.size<w2.heap.size;omega)).trans (c2 j hj)
  ·exact c3 j hj
 have HB:Hid (Below w.heap.size w w3∧w.heap.size<w1.heap.size∧w.heap.size<w2.heap.size):=⟨b1.trans ((b2.mono (by omega)).trans (b3.mono (by omega))),by omega,by omega⟩
 clear c2 c3 b1 b2 b3 z1 z2 z3
 go_enter Tryz.func83,Tryz.ntmps83
 go_wp2_with fail
 have hs:∀ j,w.heap.size≤(⟨w.heap.size,j,none⟩:Addr).block:=fun j=>Nat.le_refl _
 refine bodyPost_ret (v:=.agg #[.int .i64 0,.int .i64 1,.slice (some ⟨w1.heap.size,0,none⟩) 1 1,.slice (some ⟨w2.heap.size,0,none⟩) 1 1]) (by simp [results,Tryz.results83,go_sem,d0,d1,d2,d3]) rfl ?_
 obtain⟨hb,h1,h2⟩:=HB.out
 refine⟨_,_,rfl,?_,(((hb.setCell (hs 0) _).setCell (hs 1) _).setCell (hs 2) _).setCell (hs 3) _⟩
 have hT:=HT.out
 have far:∀ (g:Nat) (j:Nat),w.heap.size<g→((((w3.setCell ⟨w.heap.size,0,none⟩ (.int .i64 0)).setCell ⟨w.heap.size,1,none⟩ (.int .i64 1)).setCell ⟨w.heap.size,2,none⟩ (.slice (some ⟨w1.heap.size,0,none⟩) 1 1)).setCell ⟨w.heap.size,3,none⟩ (.slice (some ⟨w2.heap.size,0,none⟩) 1 1)).cell? ⟨g,j,none⟩=w3.cell? ⟨g,j,none⟩:=fun g j hg=>by
  have hn:g≠w.heap.size:=by omega
  rw [World.cell?_of_block (heap_setCell_other _ ⟨w.heap.size,3,none⟩ g _ hn),World.cell?_of_block (heap_setCell_other _ ⟨w.heap.size,2,none⟩ g _ hn),World.cell?_of_block (heap_setCell_other _ ⟨w.heap.size,1,none⟩ g _ hn),World.cell?_of_block (heap_setCell_other _ ⟨w.heap.size,0,none⟩ g _ hn)]
 refine⟨⟨fun _=>rfl,fun h=>?_,fun j hj=>(far _ _ h1).trans (hT.x.cell j hj)⟩,⟨fun _=>rfl,fun h=>?_,fun j hj=>(far _ _ h2).trans (hT.y.cell j hj)⟩,hT.f⟩
 ·have:=hT.x.lt h;simpa using this
 ·have:=hT.y.lt h;simpa using this
set_option maxHeartbeats 1600000 in
theorem ww (w:World) :
  Calls Tryz.prog 40 #[] w fun e w'=>∃ g,e=.returned (.agg #[.pointer (some ⟨g,0,none⟩)])∧WAt w' g 0 70∧Below w.heap.size w w':=by
 have HN:=hideS fun wx=>qX wx
 obtain⟨w1,hw1⟩:∃ w1,w.alloc (.cells #[.pointer none] 95)=w1:=⟨_,rfl⟩
 have z1:w1.heap.size=w.heap.size+1:=by rw [← hw1];simp
 have b1:Below w.heap.size w w1:=by rw [← hw1];exact (Below.refl _ _).alloc (Nat.le_refl _) _
 have k1:w1.heap[w.heap.size]? =some (.cells #[.pointer none] 95):=by rw [← hw1];exact heap_alloc_new _ _
 have HK:=hideS (And.intro k1 (And.intro z1 b1))
 clear z1 b1 k1
 go_enter Tryz.func40,Tryz.ntmps40
 go_wp2_with fail
 refine (HN.out _).mono ?_
 rintro e w2 ⟨g,rfl,hw,hb⟩
 obtain⟨k1,z1,b1⟩:=HK.out
 have k2:w2.heap[w.heap.size]? =some (.cells #[.pointer none] 95):=(hb.block _ (by omega)).trans k1
 have d0:w2.cell? ⟨w.heap.size,0,none⟩=some (.pointer none):=by simp [World.cell?,k2]
 have f0:w2.frozen? ⟨w.heap.size,0,none⟩=false:=frozen_of_row _ _ 0 _ _ k2
 have HB:Hid (Below w.heap.size w w2):=b1.trans (hb.mono (by omega))
 have HW:=hideS hw
 have HK2:=hideS k2
 clear hw hb k1 z1 b1 k2 HK hw1
 go_wp2_with fail
 refine bodyPost_ret (v:=.agg #[.pointer (some ⟨g,0,none⟩)]) (by simp [results,Tryz.results40,go_sem,d0]) rfl ?_
 have hs:∀ j,w.heap.size≤(⟨w.heap.size,j,none⟩:Addr).block:=fun j=>Nat.le_refl _
 exact⟨g,rfl,HW.out.ch ((Ch.refl (fun k=>k=w.heap.size) w2).set rfl _) (by rintro k cs t fz rfl hk;rw [HK2.out] at hk;injection hk with hk;injection hk with _ hk _;subst hk;decide),HB.out.setCell (hs 0) _⟩
set_option maxHeartbeats 1600000 in
theorem Dr (B b g L:Nat) (cur day N:Int) (v:Value) (l paid:List Flw) (pl:Option Addr) (bl ol cl n:Nat) (w:World) (hx:LdA w B b g cur day N L v l) (hl:JSrc aF w pl bl ol paid) (hn:paid.length=n) (hf:dm paid) (fine:FineP paid cur parC) (hL:L≤30000) :
  Calls Tryz.prog 49 #[.pointer (some ⟨b,0,none⟩),.slice pl n cl,.int .i64 cur] w fun e w'=>e=.returned (.tuple #[])∧(∃ g',LdA w' B b g' cur day (N+wsI cur parC paid) (max L (70+n)+1) v l)∧Ch (fun k=>k=b) w w':=by
 have HX:=hideS hx
 have HP:=hideS fun wx=>Dq wx
 have HOf:=hideS fun gx gy wx (hb:Below w.heap.size w wx) (ht:TFl wx (some ⟨gx,0,none⟩) (some ⟨gy,0,none⟩) gx 0 gy 0 parC.ds parC.fs)=>GM paid cur parC pl bl ol cl n (some ⟨gx,0,none⟩) (some ⟨gy,0,none⟩) gx 0 1 gy 0 1 wx fine (hl.below hb) hn hf ht
 have HL:=hideS hL
 have HNp:Hid (n≤4096):=by show _≤_;have:=fine.len;omega
 clear hx hl hn hf fine hL
 go_enter Tryz.func49,Tryz.ntmps49
 go_wp2_with fail
 refine (HP.out _).mono ?_
 rintro e w2 ⟨gx,gy,rfl,ht,hb2⟩
 have HOf2:=hideS (HOf.out gx gy w2 hb2 ht)
 have HB2:=hideS hb2
 clear hb2 ht HOf HP
 unfold parC at HOf2
 dsimp only [List.length_cons,List.length_nil] at HOf2
 go_wp2_with fail
 refine (HOf2.out).mono ?_
 rintro e w3 ⟨g3,rfl,hw3,hb3⟩
 have HB3:Hid (Below w.heap.size w w3):=HB2.out.trans (hb3.mono HB2.out.size)
 have HX3:=hideS (HX.out.below HB3.out)
 have HW3:=hideS hw3
 clear hw3 hb3 HOf2 HB2
 obtain⟨⟨c0,c1,c2,c3⟩,fz⟩:=HX3.out.cells
 have HPl:=hideS (zT g g3 N _ L (70+n) w3 HX3.out.cash HW3.out (by have:=HL.out;omega) (by have:=HNp.out;omega))
 clear c1 c2 c3 fz
 go_wp2_with fail
 refine (HPl.out).mono ?_
 rintro e w4 ⟨g4,rfl,hw4,hb4⟩
 have HX4:=hideS (HX3.out.below hb4)
 have HB4:Hid (Below w.heap.size w w4):=HB3.out.trans (hb4.mono HB3.out.size)
 have HW4:=hideS hw4
 clear hw4 hb4 HPl c0 HX3 HW3
 obtain⟨⟨c0,c1,c2,c3⟩,fz⟩:=HX4.out.cells
 have f0:=fz 0
 clear c1 c2 c3 fz
 go_wp2_with fail
 refine bodyPost_end (v:=.tuple #[]) (by simp [results,Tryz.results49,go_sem]) rfl ?_
 have hch:Ch (fun k=>k=b) w4 (w4.setCell ⟨b,0,none⟩ (.pointer (some ⟨g4,0,none⟩))):=(Ch.refl (fun k=>k=b) w4).set (S:=fun k=>k=b) rfl _
 have hoth:Oth w4 (fun k=>k=b):=fun k cs t fz e h=>HX4.out.oth k cs t fz (Or.inl e) h
 have hblk:(w4.setCell ⟨b,0,none⟩ (.pointer (some ⟨g4,0,none⟩))).heap[b]? =some (.cells #[.pointer (some ⟨g4,0,none⟩),.int .i64 cur,.int .i64 day,v] 98):=aW _ HX4.out.blk
 refine⟨rfl,⟨g4,hblk,HX4.out.lo,⟨HX4.out.own.1,?_⟩,HW4.out.ch hch hoth⟩,(Ch.of_below HB4.out).trans hch⟩
 rcases HX4.out.own.2 with e | ⟨g',cap,cs,e,hb,hg,rest⟩
 ·exact Or.inl e
 ·exact Or.inr ⟨g',cap,cs,e,hb,(hch.block g' (Array.getElem?_eq_some_iff.1 hg).1 (fun c=>HX4.out.ne (by rw [e,← c];rfl))).trans hg,rest⟩
end Go.Proofs.YtjjlnmihkadlmaaGreat
namespace Go.Proofs.YtjjlnmihkadlmaaGreat
open Go.RowKit

theorem iL (B b g L:Nat) (cur day N:Int) (v:Value) (l:List Flw) (w:World) (hx:LdA w B b g cur day N L v l) :
  Calls Tryz.prog 25 #[.pointer (some ⟨b,0,none⟩)] w fun e w'=>e=.returned (.int .i64 day)∧w'=w:=by
 obtain⟨⟨_,_,c2,_⟩,_⟩:=hx.cells
 clear hx
 go_enter Tryz.func25,Tryz.ntmps25
 go_wp2
 go_ret
 exact⟨rfl,rfl⟩
set_option maxHeartbeats 800000 in
theorem zX (B b g L:Nat) (cur day N:Int) (v:Value) (l:List Flw) (w:World) (hx:LdA w B b g cur day N L v l) (hL:L≤40000) :
  Calls Tryz.prog 18 #[.pointer (some ⟨b,0,none⟩)] w fun e w'=>e=.returned (.tuple #[.float .f64 (Fh (jR N)),.int .i64 (Fi (jR N))])∧Below w.heap.size w w':=by
 obtain⟨⟨c0,_,_,_⟩,_⟩:=hx.cells
 obtain⟨d,u,e0,ha⟩:=hx.cash.at_
 have HV:=hideS (WAt.value ha hL)
 have HN:=hideS fun wx=>tY (jR N) wx (an (Fm _))
 clear hx ha
 generalize jR N=V at *
 go_enter Tryz.func18,Tryz.ntmps18
 go_wp2_with fail
 refine (HV.out).mono ?_
 rintro e w2 ⟨rfl,hb2⟩
 have HB2:=hideS hb2
 clear hb2
 go_wp2_with fail
 refine (HN.out _).mono ?_
 rintro e w' ⟨rfl,rfl⟩
 go_wp2_with fail
 go_ret2
 exact⟨rfl,HB2.out⟩
structure PsO (w:World) (B b:Nat) (cur n N:Int) (L:Nat) (v:Value) (l:List Flw) (e:Ending) (w':World):Prop where
 e:∃ u,e=.returned (.tuple #[u,.int .i64 0])∧w'.ownsRow w.heap.size 77 3 u (l.filter (fun f=>decide (f.day<n))).length (aw aF (l.filter (fun f=>decide (f.day<n))))
 x:∃ g' v',v'.ownBlock=v.ownBlock∧LdA w' B b g' cur n (N+wsI cur parC (l.filter (fun f=>decide (f.day<n)))) (L+l.length+71) v' (l.filter (aQ n))
 c:Ch (LdS b v) w w'
theorem tZ {l:List Flw} {day n:Int} (h:∀ f ∈ l,day≤f.day):l.filter (pI day n)=l.filter (fun f=>decide (f.day<n)):=by
 apply List.filter_congr
 intro f hf
 unfold pI
 rw [decide_eq_true (h f hf),Bool.true_and]
theorem ew {l:List Flw} (p:Flw→Bool) (h:dm l):dm (l.filter p):=fun i=>by
 by_cases hi:i<(l.filter p).length
 ·have hm:(l.filter p).getD i ak ∈ l.filter p:=fe hi
  obtain⟨j,hj,e⟩:=kl (List.mem_filter.1 hm).1
  rw [← e];exact h j
 ·have:(l.filter p).getD i ak=ak:=by rw [List.getD_eq_getElem?_getD,List.getElem?_eq_none (by omega)];rfl
  rw [this];decide
set_option maxRecDepth 20000 in
set_option maxHeartbeats 3200000 in
theorem ni (B b g L:Nat) (cur day n N:Int) (v:Value) (l:List Flw) (w:World) (hx:LdA w B b g cur day N L v l) (h0:0≤n) (h1:n≤109572) (hn:day≤n) (hd:∀ f ∈ l,day≤f.day) (hc:1≤cur∧cur≤8) (hl:l.length≤4096) (hb:∀ f ∈ l,dl f=0) (hf:dm l) (hL:L≤30000) :
  Calls Tryz.prog 13 #[.pointer (some ⟨b,0,none⟩),.int .i64 n] w fun e w'=>PsO w B b cur n N L v l e w':=by
 have hfp:=tZ (n:=n) hd
 have HDy:=hideS fun wx=>nh n wx
 rw [decide_eq_true (And.intro h0 h1)] at HDy
 have q1:decide (n<day)=false:=decide_eq_false (by omega)
 obtain⟨w1,hw1⟩:∃ w1,w.alloc (.cells #[.int .i64 n] 3)=w1:=⟨_,rfl⟩
 have hb1:Below w.heap.size w w1:=by rw [← hw1];exact (Below.refl _ _).alloc (Nat.le_refl _) _
 have hz1:w1.heap.size=w.heap.size+1:=by rw [← hw1];simp
 have hk1:w1.heap[w.heap.size]? =some (.cells #[.int .i64 n] 3):=by rw [← hw1];exact heap_alloc_new _ _
 have HX1:=hideS (hx.below hb1)
 have HG:=hideS (And.intro hk1 (And.intro hz1 (And.intro hb1 hx.lt)))
 obtain⟨⟨c0,c1,c2,c3⟩,_⟩:=HX1.out.cells
 have cg:w1.cell? ⟨w.heap.size,0,none⟩=some (.int .i64 n):=by simp [World.cell?,hk1]
 obtain⟨pv,gv,cv,hv,hsv,_,_,_⟩:=av HX1.out.own rfl
 have HWn:=hideS fun (wx:World) (hb:Below w1.heap.size w1 wx)=>rp l pv gv 0 cv l.length day n wx (hsv.below hb) rfl (by omega)
 rw [← hv,hfp] at HWn
 obtain⟨pd,hpd⟩:∃ pd,l.filter (fun f=>decide (f.day<n))=pd:=⟨_,rfl⟩
 have HPf:Hid (dm pd∧FineP pd cur parC):=by
  refine⟨by rw [← hpd];exact ew _ hf,zW hc (by rw [← hpd];exact Nat.le_trans (List.length_filter_le _ _) hl) (fun f hm=>hb f ?_)⟩
  rw [← hpd] at hm
  exact (List.mem_filter.1 hm).1
 have HLp:Hid (pd.length≤l.length):=by show _≤_;rw [← hpd];exact List.length_filter_le _ _
 rw [hpd] at HWn
 have HPd:=hideS hpd
 have HL:=hideS hL
 have HV0:Hid (∀ k,v.ownBlock=some k→k<w.heap.size):=fun k hk=>(aM hx.own hk).2.1
 clear hx h0 h1 hn hd hc hl hb hf hfp hb1 hz1 hk1 hsv hpd hL hv
 go_enter Tryz.func13,Tryz.ntmps13
 go_wp2_with fail
 refine (turned (HDy.out _)).mono ?_
 rintro e w' ⟨rfl,rfl⟩
 go_wp2_with fail
 go_quiet (fail)
 go_wp2_with fail
 obtain⟨wq,hwq⟩:∃ wq,w1.drewN nq=wq:=⟨_,rfl⟩
 have hbq:Below w1.heap.size w1 (wq.drewN 1):=by rw [← hwq];exact cz (cz (Below.refl _ _) _) _
 rw [hwq]
 have HXq:=hideS (HX1.out.below hbq)
 have HWq:=hideS (HWn.out _ hbq)
 have HGq:Hid ((wq.drewN 1).heap[w.heap.size]? =some (.cells #[.int .i64 n] 3)):=(hbq.block _ (by have:=HG.out.2.1;omega)).trans HG.out.1
 have HBq:=hideS hbq
 have HS1:Hid (w1.heap.size≤(wq.drewN 1).heap.size):=hbq.size
 have k2:wq.cell? ⟨b,2,none⟩=some (.int .i64 day):=HXq.out.cells.1.2.2.1
 have k3:wq.cell? ⟨b,3,none⟩=some v:=HXq.out.cells.1.2.2.2
 have kg:wq.cell? ⟨w.heap.size,0,none⟩=some (.int .i64 n):=by rw [← hwq];exact cg
 clear c0 c1 c2 c3 cg HWn HDy hbq hwq q1
 go_region_held3 (fun wx=>wx.cell? ⟨b,2,none⟩=some (.int .i64 day)∧wx.cell? ⟨b,3,none⟩=some v∧wx.cell? ⟨w.heap.size,0,none⟩=some (.int .i64 n)) (first | go_keep | exact⟨HY2.out.1,HY2.out.2.1,HY2.out.2.2⟩)
  ((go_at_call 46;refine (HWq.out).mono ?_;rintro e w2 ⟨⟨u,rfl,ho2⟩,hb2⟩;have HU2:=hideS ho2;have HB2:=hideS hb2;have HX2:=hideS (HXq.out.below hb2);have HY2:Hid (w2.cell? ⟨b,2,none⟩=some (.int .i64 day)∧w2.cell? ⟨b,3,none⟩=some v∧w2.cell? ⟨w.heap.size,0,none⟩=some (.int .i64 n)):=⟨HX2.out.cells.1.2.2.1,HX2.out.cells.1.2.2.2,(hb2.cell (p:=⟨w.heap.size,0,none⟩) (World.block_lt_of_cell? _ _ kg)).trans kg⟩;clear ho2 hb2))
 have hkg2:w2.heap[w.heap.size]? =some (.cells #[.int .i64 n] 3):=(HB2.out.block _ (Array.getElem?_eq_some_iff.1 HGq.out).1).trans HGq.out
 have cg2:w2.cell? ⟨w.heap.size,0,none⟩=some (.int .i64 n):=HY2.out.2.2
 have hnv:v.ownBlock≠some w.heap.size:=fun c=>by
  obtain⟨cs,e⟩:=(HX2.out.row c).1
  rw [hkg2] at e;injection e with e;injection e with _ e _;revert e;decide
 have HDl:=hideS (rC l B w.heap.size v l.length n w2 HX2.out.own rfl cg2 hnv)
 have HK2:=hideS hkg2
 have HC2:Hid (Ch (LdS b v) w w2):=(Ch.of_below HG.out.2.2.1).trans ((Ch.of_below HBq.out).trans (Ch.of_below HB2.out))
 have HU:Hid (∀ k,u.ownBlock=some k→w1.heap.size≤k):=fun k hk=>Nat.le_trans HBq.out.size (aM HU2.out hk).1
 have HLo:Hid (∀ k,v.ownBlock=some k→k<w.heap.size):=HV0.out
 have c3:=HY2.out.2.1
 clear hkg2 hnv cg2 HWq HY2 k2 k3 kg HXq HGq HBq HB2
 have hmk:=ru
 go_wp2_with fail
 refine (HDl.out).mono ?_
 rintro e w3 ⟨⟨VV,rfl,hv3,ho3⟩,hc3⟩
 obtain⟨q3,_,k3,hv3e,_,_,_,_⟩:=av ho3 rfl
 obtain⟨m3,hm3⟩:∃ m,(l.filter (aQ n)).length=m:=⟨_,rfl⟩
 rw [hm3] at hv3e
 subst hv3e
 clear hm3
 have hoth:Oth w2 (fun k=>v.ownBlock=some k):=fun k cs t fz e h=>HX2.out.oth k cs t fz (Or.inr e) h
 have hblk3:=(hc3.block b HX2.out.lt HX2.out.ne).trans HX2.out.blk
 have hK3:w3.heap[w.heap.size]? =some (.cells #[.int .i64 n] 3):=(hc3.block _ (Array.getElem?_eq_some_iff.1 HK2.out).1 (fun c=>by have:=HLo.out _ c;omega)).trans HK2.out
 have hU3:w3.ownsRow w1.heap.size 77 3 u pd.length (aw aF pd):=by
  have h1:=bq HU2.out hc3 (fun k hk c=>by have:=HU.out k hk;have:=HLo.out _ c;have:=HG.out.2.1;omega)
  exact cT h1 HS1.out
 have HC3:Hid (Ch (LdS b v) w w3):=HC2.out.trans (hc3.mono fun k _ hk=>Or.inr hk)
 have d3:w3.cell? ⟨b,3,none⟩=some v:=by simp [World.cell?,hblk3]
 have f3:w3.frozen? ⟨b,3,none⟩=false:=frozen_of_row _ _ 3 _ _ hblk3
 obtain⟨w4,hw4⟩:∃ w4,w3.setCell ⟨b,3,none⟩ (.slice q3 m3 k3)=w4:=⟨_,rfl⟩
 have hc4:Ch (fun k=>k=b) w3 w4:=by rw [← hw4];exact (Ch.refl (fun k=>k=b) w3).set (S:=fun k=>k=b) rfl _
 have HX4:Hid (LdA w4 B b g cur day N L (.slice q3 m3 k3) (l.filter (aQ n))):=by
  have e1:w4.heap[b]? =some (.cells #[.pointer (some ⟨g,0,none⟩),.int .i64 cur,.int .i64 day,(.slice q3 m3 k3)] 98):=by rw [← hw4];exact aW _ hblk3
  have o3:Oth w3 (fun k=>k=b):=fun k cs t fz e h=>by
   subst e;rw [hblk3] at h;injection h with h;injection h with _ h _;subst h;decide
  exact⟨e1,HX2.out.lo,bq ho3 hc4 (fun k hk c=>by subst c;rw [hv3] at hk;exact HX2.out.ne hk),(HX2.out.cash.ch hc3 hoth).ch hc4 o3⟩
 have HV3:=hideS hv3
 have HC4:Hid (Ch (LdS b v) w w4):=HC3.out.trans (hc4.mono fun k _ hk=>Or.inl hk)
 have HK4:Hid (w4.heap[w.heap.size]? =some (.cells #[.int .i64 n] 3)):=(hc4.block _ (Array.getElem?_eq_some_iff.1 hK3).1 (fun c=>by have:=HG.out.2.2.2;omega)).trans hK3
 have HU4:Hid (w4.ownsRow w1.heap.size 77 3 u pd.length (aw aF pd)):=bq hU3 hc4 (fun k hk c=>by have:=HU.out k hk;have:=HG.out.2.1;have:=HG.out.2.2.2;omega)
 clear ho3 hc3 hoth hblk3 hv3 hK3 hU3 hc4 c3 HDl HC3 HC2 HX2 HU2 HK2 hmk
 go_wp2_with fail
 clear hw4 d3 f3
 have hb4:Below w4.heap.size w4 (w4.drewN 1):=cz (Below.refl _ _) _
 have HX5:=hideS (HX4.out.below hb4)
 have hU5:=ap HU4.out hb4
 obtain⟨pu,gu,cu,hu,hsu,_,_,_⟩:=av hU5 rfl
 have HPt:=hideS (Dr B b g L cur day N (.slice q3 m3 k3) (l.filter (aQ n)) pd pu gu 0 cu pd.length (w4.drewN 1) HX5.out hsu rfl HPf.out.1 HPf.out.2 HL.out)
 rw [← hu] at HPt
 clear hu
 have HU5:=hideS hU5
 have HC5:Hid (Ch (LdS b v) w (w4.drewN 1)):=HC4.out.trans (Ch.of_below hb4)
 have HK5:Hid ((w4.drewN 1).heap[w.heap.size]? =some (.cells #[.int .i64 n] 3)):=HK4.out
 have c1:w4.cell? ⟨b,1,none⟩=some (.int .i64 cur):=HX4.out.cells.1.2.1
 clear hb4 hU5 hsu HC4 HX4 HU4 HK4
 go_region_held3 (fun wx=>wx.cell? ⟨b,1,none⟩=some (.int .i64 cur)) (first | exact HY6.out | go_keep)
  ((go_at_call 49;refine (HPt.out).mono ?_;rintro e w6 ⟨rfl,⟨g6,hx6⟩,hc6⟩;have HX6:=hideS hx6;have HC6:=hideS hc6;have HY6:Hid (w6.cell? ⟨b,1,none⟩=some (.int .i64 cur)):=hx6.cells.1.2.1;clear hx6 hc6))
 have hU6:w6.ownsRow w1.heap.size 77 3 u pd.length (aw aF pd):=bq HU5.out HC6.out (fun k hk c=>by have:=HU.out k hk;have:=HG.out.2.1;have:=HG.out.2.2.2;omega)
 have hK6:w6.heap[w.heap.size]? =some (.cells #[.int .i64 n] 3):=(HC6.out.block _ (Array.getElem?_eq_some_iff.1 HK5.out).1 (fun c=>by have:=HG.out.2.2.2;omega)).trans HK5.out
 have cg6:w6.cell? ⟨w.heap.size,0,none⟩=some (.int .i64 n):=by simp [World.cell?,hK6]
 have HU6:=hideS hU6
 have HCC:Hid (Ch (LdS b v) w w6):=HC5.out.trans (HC6.out.mono fun k _ hk=>Or.inl hk)
 obtain⟨⟨_,_,d2,_⟩,fz⟩:=HX6.out.cells
 have f2:=fz 2
 clear fz hU6 hK6 HPt HU5 HC5 HK5 c1 HY6 HX5
 go_wp2_with fail
 go_ret2
 have hc7:Ch (fun k=>k=b) w6 (w6.setCell ⟨b,2,none⟩ (.int .i64 n)):=(Ch.refl (fun k=>k=b) w6).set (S:=fun k=>k=b) rfl _
 have o6:Oth w6 (fun k=>k=b):=fun k cs t fz e h=>HX6.out.oth k cs t fz (Or.inl e) h
 refine⟨⟨u,rfl,?_⟩,⟨g6,(.slice q3 m3 k3),HV3.out,?_⟩,HCC.out.trans (hc7.mono fun k _ hk=>Or.inl hk)⟩
 ·rw [HPd.out]
  exact cT (bq HU6.out hc7 (fun k hk c=>by have:=HU.out k hk;have:=HG.out.2.1;have:=HG.out.2.2.2;omega)) (by have:=HG.out.2.1;omega)
 ·rw [HPd.out]
  have hx7:LdA (w6.setCell ⟨b,2,none⟩ (.int .i64 n)) B b g6 cur n (N+wsI cur parC pd) (max L (70+pd.length)+1) (.slice q3 m3 k3) (l.filter (aQ n)):=
   ⟨aW _ HX6.out.blk,HX6.out.lo,bq HX6.out.own hc7 (fun k hk c=>by subst c;exact HX6.out.ne hk),HX6.out.cash.ch hc7 o6⟩
  exact hx7.mono (Nat.le_refl _) (by have:=HLp.out;omega)
end Go.Proofs.YtjjlnmihkadlmaaGreat
