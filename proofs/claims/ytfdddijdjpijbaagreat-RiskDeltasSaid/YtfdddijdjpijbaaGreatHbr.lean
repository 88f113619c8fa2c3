/-  -/
import Derived.Test.YtfdddijdjpijbaaGreatHbp
import Derived.Test.YtfdddijdjpijbaaGreatHbq
import Derived.Laws.EntriesVeiled
import Derived.Deep.RegionHeld3
import Derived.Test.YtfdddijdjpijbaaGreatFnv
import Derived.Test.YtfdddijdjpijbaaGreatHbl
import Derived.Test.YtfdddijdjpijbaaGreatHaq
import Derived.Test.YtfdddijdjpijbaaGreatHba
import Derived.Test.YtfdddijdjpijbaaGreatHbo
set_option maxHeartbeats 6400000
set_option maxRecDepth 20000
namespace Go.Proofs.YtfdddijdjpijbaaGreat
open Go.RowKit
theorem KM (n:Int) (w:World) :
  Calls Tryz.prog 126 #[.int .i64 n] w fun e a=>e=.returned (.bool (decide (1<=n/\n<=8)))/\a=w:=by
 by_cases c:1<=n<;>by_cases b:n<=8
 all_goals
  first | rw [decide_eq_true (⟨c,b⟩:1<=n/\n<=8)] | rw [decide_eq_false (fun h:1<=n/\n<=8=>by omega)]
  go_enter Tryz.func126,Tryz.ntmps126
  go_wp2
  go_ret
  exact⟨rfl,rfl⟩
theorem KN (x:Nat) (w:World) (f:U64 x) :
  Calls Tryz.prog 90 #[.float .f64 x] w fun e c=>e=.returned (.bool (aE x))/\c=w:=by
 have d:=hideS fun w=>aZ x w f
 cases a:ah (x:Int)
 ·rw [a] at d
  have g:=hideS fun w=>iM x _ w f (qH a)
  generalize aE x=b at *
  clear a f;cases b
  all_goals
   go_enter Tryz.func90,Tryz.ntmps90
   go_wp2_with fail
   refine (d.out _).mono ?_
   rintro e c ⟨rfl,rfl⟩
   go_wp2_with fail
   refine (g.out _).mono ?_
   rintro e c ⟨rfl,rfl⟩
   go_wp2_with fail
   go_ret
   exact⟨rfl,rfl⟩
 ·rw [a] at d
  rw [lP a];clear a f
  go_enter Tryz.func90,Tryz.ntmps90
  go_wp2_with fail
  refine (d.out _).mono ?_
  rintro e c ⟨rfl,rfl⟩
  go_wp2_with fail
  go_ret
  exact⟨rfl,rfl⟩
theorem zF (x:Nat) (w:World) (d:U64 x) :
  Calls Tryz.prog 58 #[.float .f64 x] w fun e a=>e=.returned (.tuple #[.float .f64 (tldV x),.int .i64 (fU x)])/\a=w:=by
 have c:=hideS fun w=>KN x w d
 unfold tldV fU;cases b:aE (x:Int)
 all_goals
  rw [b] at c
  clear b d;simp only [Bool.false_eq_true,if_false,if_true]
  go_enter Tryz.func58,Tryz.ntmps58
  go_wp2_with (go_at_call 90;refine (c.out _).mono ?_;rintro e a ⟨rfl,rfl⟩)
  go_ret2
  exact⟨rfl,rfl⟩
structure TkC (fN:Nat) (fst cap:Array Value) (l:List Flw) (cur:Int) (c:Cv) (w0:World) (I:Nat->World->Prop) (Ow:World->Nat->Prop):Prop where
 call:∀ k wx,k<l.length->fZ (l.getD k aC)=0->c.Ok->tkB cur c.base (l.getD k aC)=true->c.E (l.getD k aC).day=0->I k wx->Calls Tryz.prog fN (fst++(#[.float .f64 (l.getD k aC).am,.float .f64 (c.V (l.getD k aC).day)]++cap)) wx fun e w'=>e=.returned (.tuple #[])/\I (k+1) w'/\wx.heap.size<=w'.heap.size/\∀ x<wx.heap.size,¬ Ow wx x->w'.heap[x]? =wx.heap[x]? /\¬ Ow w' x
 skip:∀ k wx,k<l.length->tkB cur c.base (l.getD k aC)=false->I k wx->I (k+1) wx
 stay:∀ k wx wy,I k wx->Below wx.heap.size wx wy->I k wy/\∀ x,Ow wy x->Ow wx x
 low:∀ k wx,I k wx->Below w0.heap.size w0 wx
 lt:∀ k wx x,I k wx->Ow wx x->x<wx.heap.size
structure BxK (w:World) (g:Nat) (base kind:Int) (vd vf:Value):Prop where
 blk:w.heap[g]? =some (.cells #[.int .i64 base,.int .i64 kind,vd,vf] 26)
theorem BxK.lt {w:World} {g:Nat} {base kind:Int} {a b:Value} (h:BxK w g base kind a b):g<w.heap.size:=(Array.getElem?_eq_some_iff.1 h.blk).1
theorem BxK.t {w:World} {g:Nat} {base kind:Int} {b c:Value} (h:BxK w g base kind b c):w.cell? ⟨g,0,none⟩=some (.int .i64 base)/\w.cell? ⟨g,1,none⟩=some (.int .i64 kind)/\w.cell? ⟨g,2,none⟩=some b/\w.cell? ⟨g,3,none⟩=some c:=by
 have a:=h.blk;exact⟨by simp [World.cell?,a],by simp [World.cell?,a],by simp [World.cell?,a],by simp [World.cell?,a]⟩
theorem BxK.step {w a:World} {g:Nat} {base kind:Int} {b c:Value} (h:BxK w g base kind b c) (d:Below w.heap.size w a):BxK a g base kind b c:=⟨(d.block g h.lt).trans h.blk⟩
theorem rl (w:World) (base kind:Int) (a b:Value):BxK (w.alloc (.cells #[.int .i64 base,.int .i64 kind,a,b] 26)) w.heap.size base kind a b:=⟨heap_alloc_new _ _⟩
theorem Ce {l:List Flw} (h:ChkF l 0 0):l.length<=4096/\∀ i<l.length,fZ (l.getD i aC)=0:=by
 generalize b:(0:Int)=z at h
 cases h with
 | fine a h=>exact⟨a,h⟩
 | bad a k f e d c h=>exact absurd b.symm c
theorem Gn (fN:Nat) (bx cm:Array Value) (l:List Flw) (cur:Int) (c:Cv) (pl:Option Addr) (bl ol cl N:Nat) (pd pf:Option Addr) (bd od cd b2 o2 cf:Nat) (I:Nat->World->Prop) (Ow:World->Nat->Prop) (Q w:World) (E:Int) (hE:VisR l cur c E) (hl:JSrc aF Q pl bl ol l) (hN:l.length=N) (dc:N<=9223372036854775807) (hf:dB l) (hs:TFl Q pd pf bd od b2 o2 c.ds c.fs) (dg:∀ args w,(callFunc fN args).run Tryz.prog w=.ok (.enter fN args) w) (hT:TkC fN bx cm l cur c Q I Ow) (hI:I 0 w) :
  Calls Tryz.prog 88 #[.slice pl N cl,.int .i64 cur,.agg #[.int .i64 c.base,.int .i64 c.kind,.slice pd c.ds.length cd,.slice pf c.fs.length cf],.func (.func fN) bx cm] w fun e w'=>e=.returned (.int .i64 E)/\∃ k,I k w'/\(E=0->k=N):=by
 obtain⟨E1,K1,h1⟩:=wF l;obtain⟨E2,h2⟩:=oX c.base c.kind c.ds c.fs;have bo:=hideS fun L (hb:Below Q.heap.size Q L)=>BZ l pl bl ol cl N E1 K1 L (hl.below hb) hN dc hf h1
 have K:=hideS fun L=>KM cur L
 have ab:=hideS fun L (hb:Below Q.heap.size Q L)=>dG c.base c.kind pd pf bd od cd b2 o2 cf c.ds c.fs L (hs.below hb) h2
 have bz:=hideS fun x L (hb:Below Q.heap.size Q L)=>sP c.base c.kind x (c.E x) (c.V x) pd pf bd od cd b2 o2 cf c.ds c.fs L (hs.below hb) (lZ c.base c.kind c.ds c.fs x)
 have HK:=hideS (rl w c.base c.kind (.slice pd c.ds.length cd) (.slice pf c.fs.length cf));have H0:=hideS (hT.stay 0 w _ hI ((Below.refl _ _).alloc (Nat.le_refl _) (.cells #[.int .i64 c.base,.int .i64 c.kind,.slice pd c.ds.length cd,.slice pf c.fs.length cf] 26))).1;have HO:Hid (¬ Ow (w.alloc (.cells #[.int .i64 c.base,.int .i64 c.kind,.slice pd c.ds.length cd,.slice pf c.fs.length cf] 26)) w.heap.size):=fun h=>Nat.lt_irrefl _ (hT.lt 0 w _ hI ((hT.stay 0 w _ hI ((Below.refl _ _).alloc (Nat.le_refl _) _)).2 _ h))
 have HE:=hideS hE;have r:=hideS hT;have HQ:=hideS hl;have HN:=hideS hN;have HP:Hid (0<N->pl=some ⟨bl,ol,none⟩):=fun h=>hl.at_ (by omega)
 have U:=hideS h1;have H2:=hideS h2;clear hE hT hl hN hf hs h1 h2 hI;generalize db:Value.slice pd c.ds.length cd=vd at *
 generalize cs:Value.slice pf c.fs.length cf=vf at *
 obtain⟨base,s⟩:∃ b,c.base=b:=⟨_,rfl⟩;obtain⟨kind,J⟩:∃ b,c.kind=b:=⟨_,rfl⟩;rw [s,J] at ab bz HK H0 HO ⊢
 have bc:=hideS s;clear db cs s J;obtain⟨w1,ca⟩:∃ w1,w.alloc (.cells #[.int .i64 base,.int .i64 kind,vd,vf] 26)=w1:=⟨_,rfl⟩;rw [ca] at HK H0 HO
 obtain⟨g,hg⟩:∃ g,w.heap.size=g:=⟨_,rfl⟩;rw [hg] at HK HO
 go_enter Tryz.func88,Tryz.ntmps88
 go_wp2_with fail
 clear hg ca;refine (bo.out _ (r.out.low _ _ H0.out)).mono ?_
 rintro e w2 ⟨rfl,R⟩;have HK2:=hideS (HK.out.step R);have ci:Hid (¬ Ow w2 g):=fun h=>HO.out ((r.out.stay _ _ _ H0.out R).2 _ h)
 have A:=hideS (r.out.stay _ _ _ H0.out R).1;clear R HK HO H0 bo
 by_cases X:E1=0
 ·subst X;have cy:=hideS (ke U.out);rw [cy.out] at U
  by_cases hc:1<=cur/\cur<=8
  ·rw [decide_eq_true hc] at K
   have ai:=hideS hc;clear hc;obtain⟨t0,t1,t2,t3⟩:=HK2.out.t
   go_wp2_with (go_at_call 126;refine (K.out _).mono ?_;rintro e w' ⟨rfl,rfl⟩)
   refine (ab.out _ (r.out.low _ _ A.out)).mono ?_
   rintro e w3 ⟨rfl,S⟩;have cp:=hideS (HK2.out.step S);have bk:Hid (¬ Ow w3 g):=fun h=>ci.out ((r.out.stay _ _ _ A.out S).2 _ h)
   have bh:=hideS (r.out.stay _ _ _ A.out S).1;clear S HK2 ci A ab K t0 t1 t2 t3
   by_cases P:E2=0
   ·subst P;have am:=hideS (ka H2.out);have cv:=hideS fun i (hi:i<N)=>(Ce U.out).2 i (by rw [HN.out];exact hi)
    have df:=hideS (Ce U.out).1
    go_wp2_with fail
    go_loopw [34] (fun i wr=>∃ k:Nat,k<=N/\i=.int .i64 k/\Hid (∀ j<k,tkB cur c.base (l.getD j aC)=true->c.E (l.getD j aC).day=0)/\Hid (I k wr/\BxK wr g base kind vd vf/\¬ Ow wr g)) (fun i _=>N - (intOf i).toNat)
    case atStart=>exact⟨0,Nat.zero_le _,rfl,fun j hj=>by omega,bh.out,cp.out,bk.out⟩
    case round=>
     clear bh cp bk;obtain⟨k,hk,rfl,H,HR⟩:=hrel
     by_cases v:k<N
     ·obtain rfl:=HP.out (by omega)
      have bi:=hideS (HQ.out.below (r.out.low _ _ HR.out.1));obtain⟨c0,c1,c2⟩:=bi.out.cell k (by rw [HN.out];exact v)
      have a:=hideS (zr wr (l.getD k aC));have T:=hideS (r.out.call k);have M:=hideS (r.out.skip k);obtain⟨⟨z0,z1,z2⟩,fz⟩:=nX wr;have y0:=fz 0;have y1:=fz 1;have y2:=fz 2;clear fz;obtain⟨q,hq⟩:∃ q,l.getD k aC=q:=⟨_,rfl⟩;have br:=hideS (cv.out k v);rw [hq] at T M a c0 c1 c2 br
      have Hq:=hideS hq;clear hq;obtain⟨Z,qa,B⟩:=q;dsimp only [aF] at *
      obtain⟨w4,z⟩:∃ w4,wr.alloc eI=w4:=⟨_,rfl⟩;rw [z] at z0 z1 z2 y0 y1 y2 a
      unfold eI at z
      obtain⟨w5,u⟩:∃ w5,Ge w4 wr.heap.size ⟨Z,qa,B⟩=w5:=⟨_,rfl⟩;rw [u] at a
      unfold Ge at u
      dsimp only at u
      have f0:=a.out.t0;have f1:=a.out.t1;have f2:=a.out.t2;dsimp only at f0 f1 f2
      have O:=tY;have y:=hideS (HR.out.2.1.step a.out.bl);have f:=hideS (r.out.stay _ _ _ HR.out.1 a.out.bl).1;have G:Hid (¬ Ow w5 g):=fun h=>HR.out.2.2 ((r.out.stay _ _ _ HR.out.1 a.out.bl).2 _ h)
      obtain⟨t0,t1,t2,t3⟩:=y.out.t;have bv:Hid (tkB cur c.base ⟨Z,qa,B⟩=(decide (B=cur)&&decide (base<=Z))):=by show _=_;unfold tkB;rw [bc.out]
      rw [bv.out] at T M
      clear bv a HR bi
      by_cases F:B=cur
      ·subst F
       by_cases dd:Z<base
       ·have n:=hideS (M.out w5 (by rw [HN.out];exact v) (by simp;omega) f.out)
        have m:Hid (∀ j<k+1,tkB B c.base (l.getD j aC)=true->c.E (l.getD j aC).day=0):=fun j hj C=>by
         by_cases d:j<k
         ·exact H.out j d C
         ·obtain rfl:j=k:=by omega
          rw [Hq.out] at C
          unfold tkB at C
          rw [bc.out] at C
          simp at C;omega
        have o1:(B !=B)=false:=by simp
        go_wp2_with fail
        clear O z u z0 z1 z2 y0 y1 y2 f0 f1 f2 t0 t1 t2 t3
        go_roundw
        case rel=>exact⟨k+1,by omega,by simp,m,n.out,y.out,G.out⟩
        case measure=>simp [intOf];omega
       ·have D:=hideS (bz.out Z);obtain⟨FE,bb⟩:∃ x,c.E Z=x:=⟨_,rfl⟩;obtain⟨FV,bs⟩:∃ x,c.V Z=x:=⟨_,rfl⟩;rw [bb,bs] at D T
        have cq:=hideS bb;clear bb bs;have o1:(B !=B)=false:=by simp
        have o2:decide (Z<base)=false:=decide_eq_false dd;have cu:Hid (tkB B c.base (l.getD k aC)=true):=by show _=_;rw [Hq.out];unfold tkB;rw [bc.out];simp;omega
        have ad:wr.heap.size<w5.heap.size:=World.block_lt_of_cell? _ _ f1
        by_cases hz:FE=0
        ·subst hz;have m:Hid (∀ j<k+1,tkB B c.base (l.getD j aC)=true->c.E (l.getD j aC).day=0):=fun j hj C=>by
          by_cases d:j<k
          ·exact H.out j d C
          ·obtain rfl:j=k:=by omega
           rw [Hq.out];exact cq.out
         go_wp2_with fail
         clear O z u z0 z1 z2 y0 y1 y2 t0 t1 t2 t3;refine (D.out _ (r.out.low _ _ f.out)).mono ?_
         rintro e w6 ⟨rfl,o⟩;have W:=hideS (y.out.step o);have n:=hideS (r.out.stay _ _ _ f.out o).1;have ba:Hid (¬ Ow w6 g):=fun h=>G.out ((r.out.stay _ _ _ f.out o).2 _ h)
         have g1:w6.cell? ⟨wr.heap.size,1,none⟩=some (.float .f64 qa):=(o.cell (p:=⟨wr.heap.size,1,none⟩) ad).trans f1;clear o y f G D f0 f1 f2 ad
         go_wp2_with fail
         refine (T.out w6 (by rw [HN.out];exact v) br.out am.out (by simp;omega) trivial n.out).mono ?_
         rintro e w7 ⟨rfl,cc,cr,al⟩;have da:=hideS cc;have cx:Hid (BxK w7 g base kind vd vf):=⟨(al g W.out.lt ba.out).1.trans W.out.blk⟩;have ct:=hideS (al g W.out.lt ba.out).2;clear cc cr al g1 W n ba
         go_wp2_with fail
         go_roundw
         case rel=>exact⟨k+1,by omega,by simp,m,da.out,cx.out,ct.out⟩
         case measure=>simp [intOf];omega
        ·have Y:Hid (E=FE):=bR HE.out (.fac U.out ai.out am.out k (by rw [HN.out];exact v) cu.out FE (by rw [Hq.out];exact cq.out) hz H.out)
         have d1:(FE !=0)=true:=bne_iff_ne.2 hz;clear hz
         go_wp2_with fail
         clear O z u z0 z1 z2 y0 y1 y2 t0 t1 t2 t3;refine (D.out _ (r.out.low _ _ f.out)).mono ?_
         rintro e w6 ⟨rfl,o⟩;have n:=hideS (r.out.stay _ _ _ f.out o).1;clear o y f G D f0 f1 f2 ad
         go_wp2_with fail
         go_ret
         rw [Y.out];exact⟨rfl,k,n.out,fun h=>absurd h (bne_iff_ne.1 d1)⟩
      ·have o1:(B !=cur)=true:=bne_iff_ne.2 F;have n:=hideS (M.out w5 (by rw [HN.out];exact v) (by simp [F]) f.out)
       have m:Hid (∀ j<k+1,tkB cur c.base (l.getD j aC)=true->c.E (l.getD j aC).day=0):=fun j hj C=>by
        by_cases d:j<k
        ·exact H.out j d C
        ·obtain rfl:j=k:=by omega
         rw [Hq.out] at C
         unfold tkB at C
         simp [F] at C
       clear F
       go_wp2_with fail
       clear O z u z0 z1 z2 y0 y1 y2 f0 f1 f2 t0 t1 t2 t3
       go_roundw
       case rel=>exact⟨k+1,by omega,by simp,m,n.out,y.out,G.out⟩
       case measure=>simp [intOf];omega
     ·obtain rfl:k=N:=by omega
      have Y:Hid (E=0):=bR HE.out (.ok U.out ai.out am.out (fun i hi=>H.out i (by rw [HN.out] at hi;exact hi)))
      go_wp2_with fail
      go_ret
      rw [Y.out];exact⟨rfl,k,HR.out.1,fun _=>rfl⟩
   ·have Y:Hid (E=E2):=bR HE.out (.curve U.out ai.out E2 H2.out P);have d1:(E2 !=0)=true:=bne_iff_ne.2 P;clear P
    go_wp2_with fail
    go_ret
    rw [Y.out];exact⟨rfl,0,bh.out,fun h=>absurd h (bne_iff_ne.1 d1)⟩
  ·have Y:Hid (E=140):=bR HE.out (.cur U.out hc);rw [decide_eq_false hc] at K
   clear hc
   go_wp2_with (go_at_call 126;refine (K.out _).mono ?_;rintro e w' ⟨rfl,rfl⟩)
   go_ret
   rw [Y.out];exact⟨rfl,0,A.out,fun h=>by cases h⟩
 ·have Y:Hid (E=E1):=bR HE.out (.flow E1 K1 U.out X);have d1:(E1 !=0)=true:=bne_iff_ne.2 X;clear X
  go_wp2_with fail
  go_ret
  rw [Y.out];exact⟨rfl,0,A.out,fun h=>absurd h (bne_iff_ne.1 d1)⟩
theorem Cf (args:Array Value) (w:World):(callFunc 89 args).run Tryz.prog w=.ok (.enter 89 args) w:=mc Tryz.func89 (by kernel_rfl) rfl args w
def NG (w:World) (b:Nat) (cur:Int) (c:Cv) (l:List Flw) (k:Nat) (a:World):Prop:=∃ v,A.Run w a b v (70+k) ⟨0,wsI cur c (l.take k)⟩
def Qb (b:Nat) (a:World) (x:Nat):Prop:=x=b\/∃ v:Value,a.cell? ⟨b,1,none⟩=some v/\v.ownBlock=some x
theorem mf {w:World} {B b L:Nat} {v:Value} {a:A.St} (h:A.AccAt w B b v L a) (x:Nat):Qb b w x↔A.Ft b v x:=by
 constructor
 ·rintro (e | ⟨f,c,d⟩)
  ·exact Or.inl e
  ·rw [h.cell1] at c
   injection c with c;subst c;exact Or.inr d
 ·rintro (e | e)
  ·exact Or.inl e
  ·exact Or.inr ⟨v,h.cell1,e⟩
theorem DX {cur:Int} {c:Cv} {f:Flw} (h:tkB cur c.base f=true):ctI cur c f=prI c f:=by unfold ctI;rw [if_pos h]
theorem KO {cur:Int} {c:Cv} {f:Flw} (h:tkB cur c.base f=false):ctI cur c f=0:=by unfold ctI;rw [h];rfl
theorem zG {a:A.St} (h:a.s=0) (N:Int):(⟨0,N⟩:A.St).merge a=⟨0,N+a.N⟩:=by
 obtain⟨s,M⟩:=a;dsimp only at h
 subst h
 rfl
theorem Cv.splV {c:Cv} {x:Int} (b:c.Ok) (a:c.Fit) (h:c.E x=0):ay ((c.V x:Nat):Int)=true:=Kw b a h
theorem KP {f:Flw} (h:fZ f=0):ay (f.am:Int)=true:=PX h
theorem NH {l:List Flw} {cur:Int} {c:Cv} {w:World} {b:Nat} (hn:l.length<=30000) (q:dB l) (o:c.Fit):TkC 89 #[.pointer (some ⟨b,0,none⟩)] #[] l cur c w (NG w b cur c l) (Qb b) where
 call:=fun k d i f p j n ⟨v,a⟩=>by
  obtain⟨s,_,_⟩:=Cv.num p o n;refine (A.xU w.heap.size b v (70+k) _ _ _ _ _ d a.acc a.bl.size rfl (af (q k)) rfl (af s) (KP f) (Cv.splV p o n) (by omega)).mono ?_
  rintro e B ⟨rfl,r,g⟩;refine⟨rfl,⟨r,?_⟩,g.wrote.size,fun x t hn=>?_⟩
  ·have:=a.did g;have u:max (70+k) 70+1=70+(k+1):=by omega
   rw [u] at this
   have y:(⟨0,wsI cur c (l.take k)⟩:A.St).merge (A.fR ((l.getD k aC).am:Int) (c.V (l.getD k aC).day:Int))=⟨0,wsI cur c (l.take (k+1))⟩:=by
    rw [qZ i,DX j,zG rfl];unfold prI;rfl
   rw [y] at this
   exact this
  ·rw [mf a.acc] at hn
   refine⟨g.wrote.block x t hn,fun h=>?_⟩
   rw [mf g.acc] at h
   rcases h with h | h
   ·exact hn (Or.inl h)
   ·rcases g.new x h with m | m
    ·exact hn (Or.inr m)
    ·omega
 skip:=fun k d i j ⟨v,a⟩=>⟨v,by
  have:=a.mono (L':=70+(k+1)) (by omega)
  rw [qZ i,KO j,Int.add_zero];exact this⟩
 stay:=fun k d z ⟨v,a⟩ f=>⟨⟨v,a.acc.below f,a.bl.trans (f.mono a.bl.size)⟩,fun x h=>by
  rw [mf (a.acc.below f)] at h
  rw [mf a.acc];exact h⟩
 low:=fun k d ⟨v,a⟩=>a.bl
 lt:=fun k d x ⟨v,a⟩ h=>by
  rw [mf a.acc] at h
  exact (a.acc.base x h).2
structure OfP (l:List Flw) (cur:Int) (c:Cv) (N:Nat) (E:Int) (w:World) (e:Ending) (w':World):Prop where
 bad:E≠0->e=.returned (.tuple #[.pointer none,.int .i64 E])
 ok:E=0->∃ g,e=.returned (.tuple #[.pointer (some ⟨g,0,none⟩),.int .i64 0])/\WAt w' g (wsI cur c l) (70+N)
 bl:Below w.heap.size w w'
theorem KQ (l:List Flw) (cur:Int) (c:Cv) (pl:Option Addr) (bl M H N:Nat) (d g:Option Addr) (bd L q C F n:Nat) (w:World) (E:Int) (D:VisR l cur c E) (I:JSrc aF w pl bl M l) (u:l.length=N) (V:N<=30000) (s:dB l) (x:TFl w d g bd L C F c.ds c.fs) :
  Calls Tryz.prog 57 #[.slice pl N H,.int .i64 cur,.agg #[.int .i64 c.base,.int .i64 c.kind,.slice d c.ds.length q,.slice g c.fs.length n]] w fun e W=>OfP l cur c N E w e W:=by
 have HK:=hideS (bu w c.base c.kind (.slice d c.ds.length q) (.slice g c.fs.length n));have z:=hideS fun j (p:Below w.heap.size w j)=>A.vE j w.heap.size p.size
 have J:=hideS fun b j (hi:NG w b cur c l 0 j)=>Gn 89 #[.pointer (some ⟨b,0,none⟩)] #[] l cur c pl bl M H N d g bd L q C F n (NG w b cur c l) (Qb b) w j E D I u (by omega) s x Cf (NH (by omega) s x.f) hi
 have a:=hideS u;clear D I u s x;generalize Value.slice d c.ds.length q=G at *
 generalize Value.slice g c.fs.length n=O at *
 have y:=me
 go_enter Tryz.func57,Tryz.ntmps57
 go_wp2_with fail
 refine (z.out _ HK.out.bl).mono ?_
 rintro e S ⟨rfl,i,m⟩;have HK2:=hideS (HK.out.step m);have t:Hid (NG w (w.alloc (.cells #[.int .i64 c.base,.int .i64 c.kind,G,O] 26)).heap.size cur c l 0 S):=⟨_,i.mono (by omega),HK2.out.bl⟩
 clear i m z HK;obtain⟨b,p⟩:∃ b,(w.alloc (.cells #[.int .i64 c.base,.int .i64 c.kind,G,O] 26)).heap.size=b:=⟨_,rfl⟩;rw [p] at t ⊢
 clear p;have X:=HK2.out.t0;have P:=HK2.out.t1;have Z:=HK2.out.t2;have t3:=HK2.out.t3
 go_wp2_with fail
 refine (J.out b _ t.out).mono ?_
 rintro e w3 ⟨rfl,k,hk,B⟩;obtain⟨v,K⟩:=hk;have r:=hideS K;have T:=hideS B;clear K B J X P Z t3 y HK2 t
 by_cases o:E=0
 ·subst o;have Q:=hideS (NF (Qa (B':=0) r.out.acc (fun _ _=>Nat.zero_le _)))
  have R:=hideS (r.out.bl.alloc r.out.bl.size (.cells #[.pointer (some ⟨b,0,none⟩)] 106))
  go_wp2_with fail
  go_ret2
  refine⟨fun h=>absurd rfl h,fun _=>⟨_,rfl,?_⟩,R.out⟩
  have U:=T.out trivial;have:=Q.out;rw [U,<- a.out,List.take_length,a.out] at this
  exact this
 ·have d1:(E !=0)=true:=bne_iff_ne.2 o;have Y:=hideS o;clear o
  go_wp2_with fail
  go_ret2
  exact⟨fun _=>rfl,fun h=>absurd h Y.out,r.out.bl⟩
theorem NI (l:List Flw) (cur:Int) (c:Cv) (pl:Option Addr) (bl n j N:Nat) (a b:Option Addr) (bd m k f g i:Nat) (w:World) (E:Int) (q:VisR l cur c E) (s:E≠0) (u:JSrc aF w pl bl n l) (p:l.length=N) (d:N<=30000) (o:dB l) (r:TFl w a b bd m f g c.ds c.fs) :
  Calls Tryz.prog 57 #[.slice pl N j,.int .i64 cur,.agg #[.int .i64 c.base,.int .i64 c.kind,.slice a c.ds.length k,.slice b c.fs.length i]] w fun e t=>e=.returned (.tuple #[.pointer none,.int .i64 E])/\Below w.heap.size w t:=
 (KQ l cur c pl bl n j N a b bd m k f g i w E q u p d o r).mono fun _ _ h=>⟨h.bad s,h.bl⟩
theorem Qc (l:List Flw) (cur:Int) (c:Cv) (pl:Option Addr) (bl p m N:Nat) (a b:Option Addr) (bd o n d f i:Nat) (w:World) (j:FineP l cur c) (u:JSrc aF w pl bl p l) (r:l.length=N) (q:dB l) (t:TFl w a b bd o d f c.ds c.fs) :
  Calls Tryz.prog 57 #[.slice pl N m,.int .i64 cur,.agg #[.int .i64 c.base,.int .i64 c.kind,.slice a c.ds.length n,.slice b c.fs.length i]] w fun e k=>∃ g,e=.returned (.tuple #[.pointer (some ⟨g,0,none⟩),.int .i64 0])/\WAt k g (wsI cur c l) (70+N)/\Below w.heap.size w k:=
 (KQ l cur c pl bl p m N a b bd o n d f i w 0 (ug j) u r (by have:=j.len;omega) q t).mono fun _ _ h=>by
  obtain⟨g,e,s⟩:=h.ok rfl;exact⟨g,e,s,h.bl⟩
noncomputable def zH (l:List Flw) (cur:Int) (c:Cv):Nat:=tldV (valF (wsI cur c l))
noncomputable def Cg (l:List Flw) (cur:Int) (c:Cv):Int:=fU (valF (wsI cur c l))
theorem oZ (N:Int):valF N<18446744073709551616:=by
 unfold valF aI;have:=jh N.natAbs (-2148)
 split
 ·omega
 ·split<;>omega
theorem KR (l:List Flw) (cur:Int) (c:Cv) (pl:Option Addr) (bl v s N:Nat) (a b:Option Addr) (bd u g m o f:Nat) (w:World) (E:Int) (n:VisR l cur c E) (i:E≠0) (t:JSrc aF w pl bl v l) (k:l.length=N) (h:N<=30000) (j:dB l) (p:TFl w a b bd u m o c.ds c.fs) :
  Calls Tryz.prog 40 #[.slice pl N s,.int .i64 cur,.agg #[.int .i64 c.base,.int .i64 c.kind,.slice a c.ds.length g,.slice b c.fs.length f]] w fun e y=>e=.returned (.tuple #[.float .f64 0,.int .i64 E])/\Below w.heap.size w y:=by
 have HK:=hideS (bu w c.base c.kind (.slice a c.ds.length g) (.slice b c.fs.length f));have x:=hideS fun q (r:Below w.heap.size w q)=>NI l cur c pl bl v s N a b bd u g m o f q E n i (t.below r) k h j (p.below r)
 clear n t k j p;generalize Value.slice a c.ds.length g=A at *
 generalize Value.slice b c.fs.length f=C at *
 have B:(E !=0)=true:=bne_iff_ne.2 i;clear i
 go_enter Tryz.func40,Tryz.ntmps40
 go_wp2_with fail
 refine (x.out _ HK.out.bl).mono ?_
 rintro e z ⟨rfl,d⟩;have HK2:=hideS (HK.out.step d);clear d HK x
 go_wp2_with fail
 go_ret2
 exact⟨rfl,HK2.out.bl⟩
theorem NJ (l:List Flw) (cur:Int) (c:Cv) (pl:Option Addr) (bl G B N:Nat) (f h:Option Addr) (bd D n t u k:Nat) (w:World) (p:FineP l cur c) (C:JSrc aF w pl bl G l) (s:l.length=N) (r:dB l) (y:TFl w f h bd D t u c.ds c.fs) :
  Calls Tryz.prog 40 #[.slice pl N B,.int .i64 cur,.agg #[.int .i64 c.base,.int .i64 c.kind,.slice f c.ds.length n,.slice h c.fs.length k]] w fun e z=>e=.returned (.tuple #[.float .f64 (zH l cur c),.int .i64 (Cg l cur c)])/\Below w.heap.size w z:=by
 have HK:=hideS (bu w c.base c.kind (.slice f c.ds.length n) (.slice h c.fs.length k));have H:=hideS fun m (A:Below w.heap.size w m)=>Qc l cur c pl bl G B N f h bd D n t u k m p (C.below A) s r (y.below A)
 have i:=hideS fun m=>zF (valF (wsI cur c l)) m (af (oZ _))
 have I:Hid (N<=4096):=by show _<=_;have:=p.len;omega
 unfold zH Cg;clear p C s r y;generalize wsI cur c l=S at *
 obtain⟨x,o⟩:∃ x,valF S=x:=⟨_,rfl⟩;have J:=hideS o;rw [o] at i ⊢
 clear o;generalize Value.slice f c.ds.length n=M at *
 generalize Value.slice h c.fs.length k=O at *
 go_enter Tryz.func40,Tryz.ntmps40
 go_wp2_with fail
 refine (H.out _ HK.out.bl).mono ?_
 rintro e K ⟨g,rfl,F,j⟩;have HK2:=hideS (HK.out.step j);obtain⟨b,v,c0,E⟩:=F.at_;have a:=hideS (WAt.value E (by have:=I.out;omega))
 rw [J.out] at a
 clear j HK H F E
 go_wp2_with fail
 refine a.out.mono ?_
 rintro e L ⟨rfl,d⟩;have q:=hideS (HK2.out.step d);clear d HK2 a c0
 go_wp2_with (go_at_call 58;refine (i.out _).mono ?_;rintro e z ⟨rfl,rfl⟩)
 go_ret2
 exact⟨rfl,q.out.bl⟩
inductive PreR (l:List Flw) (cur:Int) (c:Cv):Nat->Int->Prop
 | bad (E:Int) (h:VisR l cur c E) (hE:E≠0):PreR l cur c 0 E
 | ok (h:FineP l cur c):PreR l cur c (zH l cur c) (Cg l cur c)
theorem wL (l:List Flw) (cur:Int) (c:Cv):∃ V E,PreR l cur c V E:=by
 obtain⟨E,h⟩:=DW l cur c
 by_cases a:E=0
 ·subst a;exact⟨_,_,.ok (ue h)⟩
 ·exact⟨0,E,.bad E h a⟩
theorem rm (l:List Flw) (cur:Int) (c:Cv) (pl:Option Addr) (bl n j N:Nat) (a b:Option Addr) (bd m k d f g:Nat) (w:World) (V:Nat) (E:Int) (h:PreR l cur c V E) (r:JSrc aF w pl bl n l) (p:l.length=N) (i:N<=30000) (o:dB l) (q:TFl w a b bd m d f c.ds c.fs) :
  Calls Tryz.prog 40 #[.slice pl N j,.int .i64 cur,.agg #[.int .i64 c.base,.int .i64 c.kind,.slice a c.ds.length k,.slice b c.fs.length g]] w fun e t=>e=.returned (.tuple #[.float .f64 V,.int .i64 E])/\Below w.heap.size w t:=by
 cases h with
 | bad E h s=>exact KR l cur c pl bl n j N a b bd m k d f g w E h s r p i o q
 | ok h=>exact NJ l cur c pl bl n j N a b bd m k d f g w h r p o q
theorem Gq {l:List Flw} {cur:Int} {c:Cv} {V:Nat} (h:PreR l cur c V 0):FineP l cur c/\V=valF (wsI cur c l)/\aE (V:Nat)=true:=by
 generalize a:(0:Int)=z at h
 cases h with
 | bad E h d=>exact absurd a.symm d
 | ok h=>
  refine⟨h,?_⟩
  unfold Cg fU at a
  unfold zH tldV;cases b:aE (valF (wsI cur c l):Int)
  ·rw [b] at a;cases a
  ·rw [if_pos rfl];exact⟨rfl,b⟩
theorem ns {l:List Flw} {cur:Int} {c:Cv} {V:Nat} {E:Int} (h:PreR l cur c V E) (a:FineP l cur c):V=zH l cur c/\E=Cg l cur c:=by
 cases h with
 | bad E h b=>exact absurd ((kg h).2 a) b
 | ok h=>exact⟨rfl,rfl⟩
structure TwoB (w:World) (a p:Int) (vd vf:Value) (b q:Int) (ud uf:Value) (wr:World):Prop where
 k1:BxK wr w.heap.size a p vd vf
 k2:BxK wr (w.heap.size+1) b q ud uf
 bl:Below w.heap.size w wr
theorem TwoB.step {w wr d:World} {a p b q:Int} {f e g i:Value} (h:TwoB w a p f e b q g i wr) (c:Below wr.heap.size wr d):TwoB w a p f e b q g i d:=⟨h.k1.step c,h.k2.step c,h.bl.trans (c.mono h.bl.size)⟩
theorem BxK.drewN {w:World} {g:Nat} {base kind:Int} {a b:Value} (h:BxK w g base kind a b) (m:Nat):BxK (w.drewN m) g base kind a b:=⟨h.blk⟩
theorem TwoB.drewN {w wr:World} {a p b q:Int} {d c e f:Value} (h:TwoB w a p d c b q e f wr) (m:Nat):TwoB w a p d c b q e f (wr.drewN m):=⟨h.k1.drewN m,h.k2.drewN m,⟨h.bl.os,h.bl.tape,h.bl.output,h.bl.size,h.bl.block⟩⟩
def rkT (base d:Int):Nat:=yW (d - base) 365
theorem Oj (base d:Int):jG (fun _=>false) 2 base d=d - base:=by
 unfold jG jb
 split<;>simp<;>omega
theorem ph {base d:Int} (c:base<d) (e:d - base<=109572):ag (rkT base d)/\rkT base d<18446744073709551616:=by
 have b:¬ d - base=0:=by omega
 have a:decide (d - base<0)=false:=decide_eq_false (by omega)
 have:=Gu (X:=(d - base).natAbs) (Y:=(365:Int).natAbs) (by omega)
 unfold rkT yW;rw [if_neg b,a];unfold wrd ag;rw [if_neg (by decide)]
 exact⟨by omega,by omega⟩
noncomputable def rkX (base d:Int) (h:Nat):Nat:=(PI (PJ (opO .mul (some h) (some (rkT base d))))).getD 0
theorem Ct {base d:Int} {h:Nat} (hn:ag h) (g:ag (rkT base d)):∃ m,floatBits .mul .f64 h (rkT base d)=some m/\m<18446744073709551616/\lV (flipN m)=some (rkX base d h)/\rkX base d h<=9218868437227405312:=by
 obtain⟨m,c,k⟩:=js hn g;have e:opO .mul (some h) (some (rkT base d))=some m:=c;obtain⟨y,b,a⟩:=(ck (bM k.2.1).1).num (by rw [JW k.2.1];exact k.2.2)
 have f:PI (PJ (opO .mul (some h) (some (rkT base d))))=some y:=by rw [e];exact b
 refine⟨m,c,k.2.1,?_,?_⟩
 ·unfold rkX;rw [f];exact b
 ·unfold rkX;rw [f];exact a
noncomputable def rkF (base d:Int) (f h:Nat):Nat:=(floatBits .mul .f64 f (rkX base d h)).getD 0
theorem rK {f:Nat} (hn:ag f) (d:f<18446744073709551616) (g:0<ae (f:Nat)):sB f=false/\f % 9223372036854775808≠0:=by
 rcases vI_rank d hn with⟨_,_,c⟩| ⟨a,_,_⟩
 ·have b:f<9223372036854775808:=by
   apply Nat.lt_of_not_le;intro e;have:ae (f:Nat)<=0:=by
    unfold ae szI
    split
    ·omega
    ·rw [if_pos (by unfold sgB;rw [decide_eq_true_eq];omega)];omega
   omega
  refine⟨?_,by omega⟩
  unfold sB;rw [Nat.div_eq_of_lt b];rfl
 ·omega
theorem Qm {base d:Int} {f h:Nat} (hn:ag f) (m:f<18446744073709551616) (j:0<ae (f:Nat)) (a:rkX base d h<=9218868437227405312):floatBits .mul .f64 f (rkX base d h)=some (rkF base d f h)/\rkF base d f h<18446744073709551616/\ah (rkF base d f h:Nat)=false/\0<=ae (rkF base d f h:Nat):=by
 have b:∃ r,floatBits .mul .f64 f (rkX base d h)=some r/\r<18446744073709551616/\ah (r:Nat)=false/\0<=ae (r:Nat):=by
  obtain⟨g,l⟩:=rK hn m j;rcases Nat.lt_or_eq_of_le a with a | a
  ·have c:ag (rkX base d h):=by unfold ag;omega
   obtain⟨r,e,k⟩:=js hn c;refine⟨r,e,k.2.1,k.2.2,?_⟩
   rw [k.1];have n:0<=vI f:=by
    rw [kz,g];exact Int.natCast_nonneg _
   have i:0<=vI (rkX base d h):=by
    have:sB (rkX base d h)=false:=by unfold sB;rw [Nat.div_eq_of_lt (by omega)];rfl
    rw [kz,this];exact Int.natCast_nonneg _
   have:=eG (-2148) (Int.mul_nonneg n i);exact this
  ·rw [a];have:=(gk (x:=9218868437227405312) (by decide) hn l).2
   rw [g,show sB 9218868437227405312=false by decide] at this
   exact⟨_,this,by decide,by decide,by decide⟩
 obtain⟨r,e,k⟩:=b;unfold rkF;rw [e];exact⟨rfl,k⟩
def rkB (u:Nat):Bool:=aE (u:Int)&&decide (0<ae (u:Int))
noncomputable def Cv.bm (c:Cv) (k h:Nat):Nat:=rkF c.base (c.ds.getD k 0) (c.fs.getD k 0) h
noncomputable def bmB (c:Cv) (k h:Nat):Bool:=aE (h:Int)&&rkB (c.bm k h)
noncomputable def bmV (c:Cv) (k h:Nat):Nat:=if bmB c k h=true then c.bm k h else 0
noncomputable def bmE (c:Cv) (k h:Nat):Int:=if bmB c k h=true then 0 else 91
theorem Cv.Ok.day {c:Cv} (a:c.Ok) {k:Nat} (e:k<c.ds.length):c.base<c.ds.getD k 0/\c.ds.getD k 0<=109572:=by
 have b:=OkV.pos a k (by omega)
 obtain⟨h,f,_⟩:=co (a.node k e);have:∀ j≤c.ds.length,c.base<=dA c.base c.ds j:=fun j g=>by
  induction j with
  | zero=>exact Int.le_refl _
  | succ j d=>
   have:=(co (a.node j (by omega))).1
   have:=d (by omega)
   show c.base<=c.ds.getD j 0
   omega
 have:=this k (by omega)
 exact⟨by omega,f⟩
theorem Cv.Ok.fac {c:Cv} (b:c.Ok) {k:Nat} (a:k<c.ds.length):ag (c.fs.getD k 0)/\0<ae (c.fs.getD k 0:Nat):=by
 obtain⟨_,_,d,e⟩:=co (b.node k a);refine⟨bt d,?_⟩
 have:=jz b (k+1) a;exact this.1
theorem uv {c:Cv} {k h:Nat} (a:c.Ok) (n:c.Fit) (b:k<c.ds.length) (l:ag h):rkX c.base (c.ds.getD k 0) h<=9218868437227405312/\floatBits .mul .f64 (c.fs.getD k 0) (rkX c.base (c.ds.getD k 0) h)=some (c.bm k h)/\c.bm k h<18446744073709551616/\ah (c.bm k h:Nat)=false/\0<=ae (c.bm k h:Nat):=by
 obtain⟨f,p⟩:=a.day b;have o:=a.b0;obtain⟨i,q⟩:=ph f (by omega)
 obtain⟨m,_,_,_,e⟩:=Ct (base:=c.base) (d:=c.ds.getD k 0) l i;obtain⟨g,j⟩:=a.fac b;exact⟨e,Qm g (n k (by rw [a.len];exact b)) j e⟩
theorem Ly {base kind:Int} {c:List Int} {j e:List Nat} (d:OkV base kind c j) (g:e.length=c.length) (h:∀ i<c.length,rkB (e.getD i 0)=true):OkV base kind c e:=by
 refine⟨d.b0,d.b1,d.k1,d.k4,d.lo,d.hi,g,fun i hi=>?_⟩
 obtain⟨a,b,_,_⟩:=co (d.node i hi);have:=h i hi;unfold rkB at this
 rw [Bool.and_eq_true,decide_eq_true_eq] at this
 have k:=iH (bt this.1);have f:ltB 0 (e.getD i 0:Nat)=true:=by
  rw [aA (by decide) k,decide_eq_true_eq]
  rw [show ae 0=0 by decide];exact this.2
 unfold kR;rw [this.1,f,decide_eq_false (show ¬ c.getD i 0<=dA base c i by omega),decide_eq_false (show ¬ 109572<c.getD i 0 by omega)]
 rfl
theorem Cv.Ok.rkB {c:Cv} (b:c.Ok) {k:Nat} (a:k<c.ds.length):rkB (c.fs.getD k 0)=true:=by
 obtain⟨_,_,d,_⟩:=co (b.node k a);unfold Go.Proofs.YtfdddijdjpijbaaGreat.rkB;rw [d,decide_eq_true (b.fac a).2];rfl
noncomputable def Cv.bump (c:Cv) (k h:Nat):Cv:=⟨c.base,c.kind,c.ds,c.fs.set k (c.bm k h)⟩
noncomputable def Cv.parL (c:Cv) (h:Nat):Nat->List Nat
 | 0=>c.fs
 | k+1=>(c.parL h k).set k (c.bm k h)
noncomputable def Cv.para (c:Cv) (h:Nat):Cv:=⟨c.base,c.kind,c.ds,c.parL h c.ds.length⟩
theorem eJ (c:Cv) (h:Nat):∀ k,(c.parL h k).length=c.fs.length
 | 0=>rfl
 | k+1=>by rw [Cv.parL,List.length_set,eJ c h k]
theorem getD_set {l:List Nat} {k j u:Nat} (a:k<l.length):(l.set k u).getD j 0=if j=k then u else l.getD j 0:=by
 rw [List.getD_eq_getElem?_getD,List.getD_eq_getElem?_getD,List.getElem?_set]
 by_cases h:k=j
 ·subst h;simp [a]
 ·rw [if_neg h,if_neg (fun e=>h e.symm)]
theorem mu (c:Cv) (h:Nat):∀ k,k<=c.fs.length->∀ j,(c.parL h k).getD j 0=if j<k then c.bm j h else c.fs.getD j 0
 | 0,_,j=>by rw [if_neg (by omega)];rfl
 | k+1,hk,j=>by
  rw [Cv.parL,getD_set (by rw [eJ];omega),mu c h k (by omega) j]
  by_cases e:j=k
  ·subst e;rw [if_pos rfl,if_pos (by omega)]
  ·rw [if_neg e]
   by_cases d:j<k
   ·rw [if_pos d,if_pos (by omega)]
   ·rw [if_neg d,if_neg (by omega)]
theorem mw {c:Cv} {k h:Nat} (a:k<c.fs.length) (j:Nat):(c.bump k h).fs.getD j 0=if j=k then c.bm k h else c.fs.getD j 0:=getD_set a
def cv0:Cv:=⟨0,0,[],[]⟩
inductive BmpR (c:Cv) (i:Int) (h:Nat):Cv->Int->Prop
 | chk (E:Int) (hC:c.Chk E) (hE:E≠0):BmpR c i h cv0 E
 | arg (ok:c.Ok) (hi:¬ (0<=i/\i<(c.ds.length:Int))):BmpR c i h cv0 1
 | val (ok:c.Ok) (k:Nat) (hk:k<c.ds.length) (e:i=(k:Int)) (hb:bmB c k h=false):BmpR c i h cv0 91
 | ok (ok:c.Ok) (k:Nat) (hk:k<c.ds.length) (e:i=(k:Int)) (hb:bmB c k h=true):BmpR c i h (c.bump k h) 0
inductive ParR (c:Cv) (h:Nat):Cv->Int->Prop
 | chk (E:Int) (hC:c.Chk E) (hE:E≠0):ParR c h cv0 E
 | val (ok:c.Ok) (k:Nat) (hk:k<c.ds.length) (hb:bmB c k h=false) (fine:∀ j<k,bmB c j h=true):ParR c h cv0 91
 | ok (ok:c.Ok) (hb:∀ k<c.ds.length,bmB c k h=true):ParR c h (c.para h) 0
theorem rL {c:Cv} {k h:Nat} (a:bmB c k h=true):rkB (c.bm k h)=true/\aE (h:Int)=true:=by
 unfold bmB at a
 have:=Bool.and_eq_true_iff.1 a;exact⟨this.2,this.1⟩
theorem DZ {c:Cv} {k h:Nat} (a:c.Ok) (d:k<c.ds.length) (b:bmB c k h=true):(c.bump k h).Ok:=
 Ly a (by show (c.fs.set k _).length=_;rw [List.length_set];exact a.len) fun i hi=>by
  show rkB ((c.bump k h).fs.getD i 0)=true
  rw [mw (by rw [a.len];exact d)]
  split
  ·exact (rL b).1
  ·exact a.rkB hi
theorem Ol {c:Cv} {h:Nat} (a:c.Ok) (b:∀ k<c.ds.length,bmB c k h=true):(c.para h).Ok:=
 Ly a (by show (c.parL h c.ds.length).length=_;rw [eJ];exact a.len) fun i hi=>by
  show rkB ((c.parL h c.ds.length).getD i 0)=true
  rw [mu c h _ (by rw [a.len];exact Nat.le_refl _),if_pos (show i<c.ds.length from hi)]
  exact (rL (b i hi)).1
theorem Lz {c:Cv} {k h:Nat} (d:c.Ok) (b:c.Fit) (a:k<c.ds.length) (e:bmB c k h=true):(c.bump k h).Fit:=fun i hi=>by
 rw [mw (by rw [d.len];exact a)]
 split
 ·exact (uv d b a (bt (rL e).2)).2.2.1
 ·exact b i (by have:(c.fs.set k (c.bm k h)).length=c.fs.length:=List.length_set;rw [<- this];exact hi)
theorem Ac {c:Cv} {h:Nat} (b:c.Ok) (f:c.Fit) (e:∀ k<c.ds.length,bmB c k h=true):(c.para h).Fit:=fun i hi=>by
 have a:i<c.ds.length:=by
  have:(c.parL h c.ds.length).length=c.fs.length:=eJ _ _ _;have d:i<(c.parL h c.ds.length).length:=hi;rw [this,b.len] at d;exact d
 show (c.parL h c.ds.length).getD i 0<_
 rw [mu c h _ (by rw [b.len];exact Nat.le_refl _),if_pos a]
 exact (uv b f a (bt (rL (e i a)).2)).2.2.1
theorem Ad (w:World) (x:Nat):(Op.unary .neg (.float .f64 x)).run Tryz.prog w=.ok (.float .f64 (Op.negFloat .f64 x)) w:=rfl
theorem rM (x:Nat) (w:World) (f:U64 x) :
  Calls Tryz.prog 48 #[.float .f64 x] w fun e c=>e=.returned (.bool (aE x))/\c=w:=by
 have d:=hideS fun w=>aZ x w f
 cases a:ah (x:Int)
 ·rw [a] at d
  have g:=hideS fun w=>iM x _ w f (qH a)
  generalize aE x=b at *
  clear a f;cases b
  all_goals
   go_enter Tryz.func48,Tryz.ntmps48
   go_wp2_with fail
   refine (d.out _).mono ?_
   rintro e c ⟨rfl,rfl⟩
   go_wp2_with fail
   refine (g.out _).mono ?_
   rintro e c ⟨rfl,rfl⟩
   go_wp2_with fail
   go_ret
   exact⟨rfl,rfl⟩
 ·rw [a] at d
  rw [lP a];clear a f
  go_enter Tryz.func48,Tryz.ntmps48
  go_wp2_with fail
  refine (d.out _).mono ?_
  rintro e c ⟨rfl,rfl⟩
  go_wp2_with fail
  go_ret
  exact⟨rfl,rfl⟩
theorem jH (x:Nat) (w:World) (d:U64 x) :
  Calls Tryz.prog 33 #[.float .f64 x] w fun e a=>e=.returned (.tuple #[.float .f64 (tldV x),.int .i64 (fU x)])/\a=w:=by
 have c:=hideS fun w=>rM x w d
 unfold tldV fU;cases b:aE (x:Int)
 all_goals
  rw [b] at c
  clear b d;simp only [Bool.false_eq_true,if_false,if_true]
  go_enter Tryz.func33,Tryz.ntmps33
  go_wp2_with (go_at_call 48;refine (c.out _).mono ?_;rintro e a ⟨rfl,rfl⟩)
  go_ret2
  exact⟨rfl,rfl⟩
theorem Qn {x y:Nat} (f:x<18446744073709551616) (h:lV x=some y) (w:World):Calls Tryz.prog 54 #[.float .f64 x] w fun e d=>e=.returned (.float .f64 y)/\Below w.heap.size w d:=
 ((ck f).prog w).mono fun e d ⟨z,a,b,c⟩=>by
  have:=b.1;rw [h] at this
  rw [a,cz this];exact⟨rfl,c⟩
theorem Om {base d:Int} (f:0<=base) (j:base<d) (h:d<=109572) (c:World):Calls Tryz.prog 53 #[.int .i64 2,.agg #[.int .i64 0,.slice none 0 0],.int .i64 base,.int .i64 d] c fun e i=>e=.returned (.tuple #[.float .f64 (rkT base d),.int .i64 0])/\Below c.heap.size c i:=by
 have g:=zN (fun _=>false) (kind:=2) (a:=base) (b:=d) ⟨f,by omega⟩ ⟨by omega,h⟩
 have:=Ab 2 0 base d (jG (fun _=>false) 2 base d) (eS 2) (.slice none 0 0) c g.1 g.2 (by decide) (by decide) (Aa (fun _=>false) 2 0 base d (.slice none 0 0) c (by decide) (by decide) ⟨f,by omega⟩ ⟨by omega,h⟩)
 rw [Oj,show eS 2=365 by decide] at this
 exact this
theorem Cu (c:Cv) (k h:Nat) (d g:Value) (w:World) (f:h<18446744073709551616) (hn:aE (h:Int)=false) :
  Calls Tryz.prog 38 #[.agg #[.int .i64 c.base,.int .i64 c.kind,d,g],.int .i64 k,.float .f64 h] w fun e b=>e=.returned (.tuple #[.float .f64 0,.int .i64 91])/\Below w.heap.size w b:=by
 have a:=hideS fun i=>rM h i (af f)
 rw [hn] at a
 have HK:=hideS (bu w c.base c.kind d g);clear f hn
 go_enter Tryz.func38,Tryz.ntmps38
 go_wp2_with fail
 refine (turned (a.out _)).mono ?_
 rintro e b ⟨rfl,rfl⟩
 go_wp2_with fail
 go_ret2
 exact⟨rfl,HK.out.bl⟩
theorem Cw (base kind D:Int) (n m k h F t p x u V:Nat) (E:Int) (bd j B f i A:Nat) (w:World) (hk:k<n) (Y:k<m) (P:w.cell? ⟨bd,j+k,none⟩=some (.int .i64 D)) (hF:w.cell? ⟨f,i+k,none⟩=some (.float .f64 F)) (l:bd<w.heap.size) (a:f<w.heap.size)
  (K:Hid (∀ d,Calls Tryz.prog 48 #[.float .f64 h] d fun e b=>e=.returned (.bool true)/\b=d))
  (Z:Hid (∀ d,Calls Tryz.prog 53 #[.int .i64 2,.agg #[.int .i64 0,.slice none 0 0],.int .i64 base,.int .i64 D] d fun e b=>e=.returned (.tuple #[.float .f64 t,.int .i64 0])/\Below d.heap.size d b))
  (r1:∀ w,(binOp .mul 27 (.float .f64 h) (.float .f64 t)).run Tryz.prog w=.ok (.float .f64 p) w)
  (X:Hid (∀ d,Calls Tryz.prog 54 #[.float .f64 (Op.negFloat .f64 p)] d fun e b=>e=.returned (.float .f64 x)/\Below d.heap.size d b))
  (r2:∀ w,(binOp .mul 27 (.float .f64 F) (.float .f64 x)).run Tryz.prog w=.ok (.float .f64 u) w)
  (C G:Bool) (o1:(FloatKind.f64.format.order u 0==some .lt)=C) (ab:(FloatKind.f64.format.order u 0==some .eq)=G)
  (S:Hid (∀ d,Calls Tryz.prog 33 #[.float .f64 u] d fun e b=>e=.returned (.tuple #[.float .f64 V,.int .i64 E])/\b=d)) :
  Calls Tryz.prog 38 #[.agg #[.int .i64 base,.int .i64 kind,.slice (some ⟨bd,j,none⟩) n B,.slice (some ⟨f,i,none⟩) m A],.int .i64 k,.float .f64 h] w fun e b=>e=.returned (.tuple #[.float .f64 (if (C||G)=true then 0 else V),.int .i64 (if (C||G)=true then 91 else E)])/\Below w.heap.size w b:=by
 have HK:=hideS (bu w base kind (.slice (some ⟨bd,j,none⟩) n B) (.slice (some ⟨f,i,none⟩) m A));obtain⟨o,y⟩:∃ o,w.alloc (.cells #[.int .i64 base,.int .i64 kind,.slice (some ⟨bd,j,none⟩) n B,.slice (some ⟨f,i,none⟩) m A] 26)=o:=⟨_,rfl⟩;rw [y] at HK
 have Q:=hideS ((HK.out.bl.cell (p:=⟨bd,j+k,none⟩) l).trans P);have R:=hideS ((HK.out.bl.cell (p:=⟨f,i+k,none⟩) a).trans hF);have N:Hid (bd<o.heap.size):=Nat.lt_of_lt_of_le l HK.out.bl.size;have r:Hid (f<o.heap.size):=Nat.lt_of_lt_of_le a HK.out.bl.size;have O:=Ad;have g1:(0:Int)<=(k:Int):=by omega
 have g2:(k:Int)<(n:Int):=by omega
 have g3:(k:Int)<(m:Int):=by omega
 clear P hF l a
 go_enter Tryz.func38,Tryz.ntmps38
 go_wp2_with fail
 clear y;refine (turned (K.out _)).mono ?_
 rintro e b ⟨rfl,rfl⟩;have W:=HK.out.t0;have t2:=HK.out.t2;have M:=HK.out.t3;have T:=Q.out;have L:=R.out
 go_wp2_with fail
 go_region_held3 (fun b=>b.cell? ⟨w.heap.size,0,none⟩=some (.int .i64 base)/\b.cell? ⟨w.heap.size,2,none⟩=some (.slice (some ⟨bd,j,none⟩) n B)/\b.cell? ⟨bd,j+k,none⟩=some (.int .i64 D)) (first | go_keep | exact⟨HK2.out.t0,HK2.out.t2,I.out⟩) ((go_at_call 53;refine (Z.out _).mono ?_;rintro e z ⟨rfl,a⟩;have g:Hid (Below o.heap.size o z):=⟨a.os,a.tape,a.output,a.size,a.block⟩;have HK2:=hideS (HK.out.step g.out);have I:=hideS ((g.out.cell (p:=⟨bd,j+k,none⟩) N.out).trans Q.out);clear a))
 all_goals
  have q:=hideS ((g.out.cell (p:=⟨f,i+k,none⟩) r.out).trans R.out);have H:Hid (f<z.heap.size):=Nat.lt_of_lt_of_le r.out g.out.size;clear W t2 M T L;have M:=HK2.out.t3;have L:=q.out
  go_wp2_with fail
  go_region_held3 (fun b=>b.cell? ⟨w.heap.size,3,none⟩=some (.slice (some ⟨f,i,none⟩) m A)/\b.cell? ⟨f,i+k,none⟩=some (.float .f64 F)) (first | go_keep | exact⟨v.out.t3,J.out⟩) ((go_at_call 54;refine (X.out _).mono ?_;rintro e U ⟨rfl,c⟩;have s:Hid (Below z.heap.size z U):=⟨c.os,c.tape,c.output,c.size,c.block⟩;have v:=hideS (HK2.out.step s.out);have J:=hideS ((s.out.cell (p:=⟨f,i+k,none⟩) H.out).trans q.out);clear c))
  all_goals
   clear M L;cases C<;>cases G
   all_goals
    go_wp2_with (go_at_call 33;refine (turned (S.out _)).mono ?_;rintro e b ⟨rfl,rfl⟩)
    go_ret2
    exact⟨rfl,v.out.bl⟩
theorem kY (c:Cv) (k h:Nat) (z A:Option Addr) (bd E D u v B:Nat) (w:World) (n:c.Ok) (o:k<c.ds.length) (F:h<18446744073709551616) (d:TFl w z A bd E u v c.ds c.fs) :
  Calls Tryz.prog 38 #[.agg #[.int .i64 c.base,.int .i64 c.kind,.slice z c.ds.length D,.slice A c.fs.length B],.int .i64 (k:Nat),.float .f64 h] w fun e i=>e=.returned (.tuple #[.float .f64 (bmV c k h),.int .i64 (bmE c k h)])/\Below w.heap.size w i:=by
 cases g:aE (h:Int) with
 | false=>
  have e:bmB c k h=false:=by unfold bmB;rw [g];rfl
  unfold bmV bmE;rw [e];exact Cu c k h _ _ w F g
 | true=>
  have G:=n.len;have N:=d.x.at_ (by omega)
  have H:=d.y.at_ (by omega)
  subst N H;obtain⟨t,M⟩:=n.day o;have J:=n.b0;obtain⟨K,Q⟩:=ph t (by omega)
  obtain⟨m,I,j,p,_⟩:=Ct (bt g) K;obtain⟨_,q,l,r,O⟩:=uv n d.f o (bt g);have s:Hid (∀ b,Calls Tryz.prog 48 #[.float .f64 h] b fun e i=>e=.returned (.bool true)/\i=b):=fun b=>by
   have:=rM h b (af F);rw [g] at this;exact this
  have L:Hid (∀ b,Calls Tryz.prog 54 #[.float .f64 (Op.negFloat .f64 m)] b fun e i=>e=.returned (.float .f64 (rkX c.base (c.ds.getD k 0) h))/\Below b.heap.size b i):=fun b=>by
   rw [yG j];exact Qn (bM j).1 p b
  have a:=Cw c.base c.kind (c.ds.getD k 0) c.ds.length c.fs.length k h (c.fs.getD k 0) (rkT c.base (c.ds.getD k 0)) m (rkX c.base (c.ds.getD k 0) h) (c.bm k h) (tldV (c.bm k h)) (fU (c.bm k h)) bd E D u v B w o (by omega) (d.x.cell k o) (d.y.cell k (by omega)) (d.x.lt (by omega)) (d.y.lt (by omega)) s (fun b=>Om J t M b) (fun w=>run_float_arith (P:=Tryz.prog) w .mul 27 .f64 _ _ _ I) L (fun w=>run_float_arith (P:=Tryz.prog) w .mul 27 .f64 _ _ _ q) _ _ rfl rfl (fun b=>jH (c.bm k h) b (af l))
  rw [Kq l (by decide) r (by decide),show ae ((0:Nat):Int)=0 by decide] at a
  have e:bmB c k h=(aE (c.bm k h:Nat)&&decide (0<ae (c.bm k h:Nat))):=by unfold bmB rkB;rw [g,Bool.true_and]
  unfold bmV bmE;rw [e];unfold tldV fU at a
  by_cases C:ae (c.bm k h:Nat)<=0
  ·rw [decide_eq_true C] at a
   rw [decide_eq_false (show ¬ 0<ae (c.bm k h:Nat) by omega),Bool.and_false]
   simp only [Bool.false_eq_true,if_false,if_true] at a ⊢
   exact a
  ·rw [decide_eq_false C] at a
   rw [decide_eq_true (show 0<ae (c.bm k h:Nat) by omega),Bool.and_true]
   simp only [Bool.false_eq_true,if_false] at a
   exact a
def ar:Obj:=.cells #[.int .i64 0,.int .i64 0,.slice none 0 0,.slice none 0 0] 26
theorem bD (g:Nat) (base:Int) (kind:Int) (b:Value) (c:Value) (wr:World) (h:wr.heap[g]? =some ar):∃ u1 u2 u3 a:World,(wr.setCell ⟨g,0,none⟩ (.int .i64 base)=u1/\wr.cell? ⟨g,0,none⟩=some (.int .i64 0)/\wr.frozen? ⟨g,0,none⟩=false)/\(u1.setCell ⟨g,1,none⟩ (.int .i64 kind)=u2/\u1.cell? ⟨g,1,none⟩=some (.int .i64 0)/\u1.frozen? ⟨g,1,none⟩=false)/\(u2.setCell ⟨g,2,none⟩ (b)=u3/\u2.cell? ⟨g,2,none⟩=some (.slice none 0 0)/\u2.frozen? ⟨g,2,none⟩=false)/\(u3.setCell ⟨g,3,none⟩ (c)=a/\u3.cell? ⟨g,3,none⟩=some (.slice none 0 0)/\u3.frozen? ⟨g,3,none⟩=false)/\BxK a g base kind b c/\Below g wr a:=by
 unfold ar at h
 have q:=Below.refl g wr;obtain⟨u1,j⟩:∃ u1,wr.setCell ⟨g,0,none⟩ (.int .i64 base)=u1:=⟨_,rfl⟩;have f:u1.heap[g]? =some (.cells #[.int .i64 base,.int .i64 0,.slice none 0 0,.slice none 0 0] 26):=by rw [<- j];exact au _ h
 have r:Below g wr u1:=by rw [<- j];exact q.setCell (p:=⟨g,0,none⟩) (Nat.le_refl _) _
 obtain⟨u2,k⟩:∃ u2,u1.setCell ⟨g,1,none⟩ (.int .i64 kind)=u2:=⟨_,rfl⟩;have e:u2.heap[g]? =some (.cells #[.int .i64 base,.int .i64 kind,.slice none 0 0,.slice none 0 0] 26):=by rw [<- k];exact au _ f
 have m:Below g wr u2:=by rw [<- k];exact r.setCell (p:=⟨g,1,none⟩) (Nat.le_refl _) _
 obtain⟨u3,l⟩:∃ u3,u2.setCell ⟨g,2,none⟩ (b)=u3:=⟨_,rfl⟩;have d:u3.heap[g]? =some (.cells #[.int .i64 base,.int .i64 kind,b,.slice none 0 0] 26):=by rw [<- l];exact au _ e
 have s:Below g wr u3:=by rw [<- l];exact m.setCell (p:=⟨g,2,none⟩) (Nat.le_refl _) _
 obtain⟨a,i⟩:∃ a,u3.setCell ⟨g,3,none⟩ (c)=a:=⟨_,rfl⟩;have n:a.heap[g]? =some (.cells #[.int .i64 base,.int .i64 kind,b,c] 26):=by rw [<- i];exact au _ d
 have o:Below g wr a:=by rw [<- i];exact s.setCell (p:=⟨g,3,none⟩) (Nat.le_refl _) _
 exact⟨u1,u2,u3,a,⟨j,by simp only [World.cell?,h,Option.isSome_none,Bool.false_eq_true,if_false];rfl,frozen_of_row _ _ 0 _ _ h⟩,⟨k,by simp only [World.cell?,f,Option.isSome_none,Bool.false_eq_true,if_false];rfl,frozen_of_row _ _ 1 _ _ f⟩,⟨l,by simp only [World.cell?,e,Option.isSome_none,Bool.false_eq_true,if_false];rfl,frozen_of_row _ _ 2 _ _ e⟩,⟨i,by simp only [World.cell?,d,Option.isSome_none,Bool.false_eq_true,if_false];rfl,frozen_of_row _ _ 3 _ _ d⟩,⟨n⟩,o⟩
structure DxK (w:World) (g:Nat) (base kind:Int) (vd vf:Value):Prop where
 blk:w.heap[g]? =some (.cells #[.int .i64 base,.int .i64 kind,vd,vf] 39)
theorem DxK.lt {w:World} {g:Nat} {base kind:Int} {a b:Value} (h:DxK w g base kind a b):g<w.heap.size:=(Array.getElem?_eq_some_iff.1 h.blk).1
theorem DxK.t {w:World} {g:Nat} {base kind:Int} {b c:Value} (h:DxK w g base kind b c):w.cell? ⟨g,0,none⟩=some (.int .i64 base)/\w.cell? ⟨g,1,none⟩=some (.int .i64 kind)/\w.cell? ⟨g,2,none⟩=some b/\w.cell? ⟨g,3,none⟩=some c:=by
 have a:=h.blk;exact⟨by simp [World.cell?,a],by simp [World.cell?,a],by simp [World.cell?,a],by simp [World.cell?,a]⟩
theorem DxK.step {w a:World} {g:Nat} {base kind:Int} {b c:Value} (h:DxK w g base kind b c) (d:Below w.heap.size w a):DxK a g base kind b c:=⟨(d.block g h.lt).trans h.blk⟩
def bG:Obj:=.cells #[.int .i64 0,.int .i64 0,.slice none 0 0,.slice none 0 0] 39
theorem dH (g:Nat) (base:Int) (kind:Int) (b:Value) (c:Value) (wr:World) (h:wr.heap[g]? =some bG):∃ u1 u2 u3 a:World,(wr.setCell ⟨g,0,none⟩ (.int .i64 base)=u1/\wr.cell? ⟨g,0,none⟩=some (.int .i64 0)/\wr.frozen? ⟨g,0,none⟩=false)/\(u1.setCell ⟨g,1,none⟩ (.int .i64 kind)=u2/\u1.cell? ⟨g,1,none⟩=some (.int .i64 0)/\u1.frozen? ⟨g,1,none⟩=false)/\(u2.setCell ⟨g,2,none⟩ (b)=u3/\u2.cell? ⟨g,2,none⟩=some (.slice none 0 0)/\u2.frozen? ⟨g,2,none⟩=false)/\(u3.setCell ⟨g,3,none⟩ (c)=a/\u3.cell? ⟨g,3,none⟩=some (.slice none 0 0)/\u3.frozen? ⟨g,3,none⟩=false)/\DxK a g base kind b c/\Below g wr a:=by
 unfold bG at h
 have q:=Below.refl g wr;obtain⟨u1,j⟩:∃ u1,wr.setCell ⟨g,0,none⟩ (.int .i64 base)=u1:=⟨_,rfl⟩;have f:u1.heap[g]? =some (.cells #[.int .i64 base,.int .i64 0,.slice none 0 0,.slice none 0 0] 39):=by rw [<- j];exact au _ h
 have r:Below g wr u1:=by rw [<- j];exact q.setCell (p:=⟨g,0,none⟩) (Nat.le_refl _) _
 obtain⟨u2,k⟩:∃ u2,u1.setCell ⟨g,1,none⟩ (.int .i64 kind)=u2:=⟨_,rfl⟩;have e:u2.heap[g]? =some (.cells #[.int .i64 base,.int .i64 kind,.slice none 0 0,.slice none 0 0] 39):=by rw [<- k];exact au _ f
 have m:Below g wr u2:=by rw [<- k];exact r.setCell (p:=⟨g,1,none⟩) (Nat.le_refl _) _
 obtain⟨u3,l⟩:∃ u3,u2.setCell ⟨g,2,none⟩ (b)=u3:=⟨_,rfl⟩;have d:u3.heap[g]? =some (.cells #[.int .i64 base,.int .i64 kind,b,.slice none 0 0] 39):=by rw [<- l];exact au _ e
 have s:Below g wr u3:=by rw [<- l];exact m.setCell (p:=⟨g,2,none⟩) (Nat.le_refl _) _
 obtain⟨a,i⟩:∃ a,u3.setCell ⟨g,3,none⟩ (c)=a:=⟨_,rfl⟩;have n:a.heap[g]? =some (.cells #[.int .i64 base,.int .i64 kind,b,c] 39):=by rw [<- i];exact au _ d
 have o:Below g wr a:=by rw [<- i];exact s.setCell (p:=⟨g,3,none⟩) (Nat.le_refl _) _
 exact⟨u1,u2,u3,a,⟨j,by simp only [World.cell?,h,Option.isSome_none,Bool.false_eq_true,if_false];rfl,frozen_of_row _ _ 0 _ _ h⟩,⟨k,by simp only [World.cell?,f,Option.isSome_none,Bool.false_eq_true,if_false];rfl,frozen_of_row _ _ 1 _ _ f⟩,⟨l,by simp only [World.cell?,e,Option.isSome_none,Bool.false_eq_true,if_false];rfl,frozen_of_row _ _ 2 _ _ e⟩,⟨i,by simp only [World.cell?,d,Option.isSome_none,Bool.false_eq_true,if_false];rfl,frozen_of_row _ _ 3 _ _ d⟩,⟨n⟩,o⟩
structure PsB (w:World) (g:Nat) (v0:Value) (cur base kind:Int) (vd vf:Value) (V:Nat):Prop where
 blk:w.heap[g]? =some (.cells #[v0,.int .i64 cur,.int .i64 base,.int .i64 kind,vd,vf,.float .f64 V] 56)
theorem PsB.lt {w:World} {g:Nat} {v0 a b:Value} {cur base kind:Int} {V:Nat} (h:PsB w g v0 cur base kind a b V):g<w.heap.size:=(Array.getElem?_eq_some_iff.1 h.blk).1
theorem PsB.t {w:World} {g:Nat} {v0 b c:Value} {cur base kind:Int} {V:Nat} (h:PsB w g v0 cur base kind b c V):w.cell? ⟨g,0,none⟩=some v0/\w.cell? ⟨g,1,none⟩=some (.int .i64 cur)/\w.cell? ⟨g,2,none⟩=some (.int .i64 base)/\w.cell? ⟨g,3,none⟩=some (.int .i64 kind)/\w.cell? ⟨g,4,none⟩=some b/\w.cell? ⟨g,5,none⟩=some c/\w.cell? ⟨g,6,none⟩=some (.float .f64 V):=by
 have a:=h.blk;exact⟨by simp [World.cell?,a],by simp [World.cell?,a],by simp [World.cell?,a],by simp [World.cell?,a],by simp [World.cell?,a],by simp [World.cell?,a],by simp [World.cell?,a]⟩
theorem PsB.step {w a:World} {g:Nat} {v0 b c:Value} {cur base kind:Int} {V:Nat} (h:PsB w g v0 cur base kind b c V) (d:Below w.heap.size w a):PsB a g v0 cur base kind b c V:=⟨(d.block g h.lt).trans h.blk⟩
theorem PsB.stay {w a:World} {g B:Nat} {v0 b c:Value} {cur base kind:Int} {V:Nat} (h:PsB w g v0 cur base kind b c V) (d:Below B w a) (e:g<B):PsB a g v0 cur base kind b c V:=⟨(d.block g e).trans h.blk⟩
theorem rN (w:World) (v0 a b:Value) (cur base kind:Int) (V:Nat):PsB (w.alloc (.cells #[v0,.int .i64 cur,.int .i64 base,.int .i64 kind,a,b,.float .f64 V] 56)) w.heap.size v0 cur base kind a b V:=⟨heap_alloc_new _ _⟩
def aR:Obj:=.cells #[.slice none 0 0,.int .i64 0,.int .i64 0,.int .i64 0,.slice none 0 0,.slice none 0 0,.float .f64 0] 56
theorem gv (g:Nat) (v0:Value) (cur:Int) (base:Int) (kind:Int) (e:Value) (f:Value) (V:Nat) (wr:World) (h:wr.heap[g]? =some aR):∃ u1 u2 u3 c b a d:World,(wr.setCell ⟨g,0,none⟩ (v0)=u1/\wr.cell? ⟨g,0,none⟩=some (.slice none 0 0)/\wr.frozen? ⟨g,0,none⟩=false)/\(u1.setCell ⟨g,1,none⟩ (.int .i64 cur)=u2/\u1.cell? ⟨g,1,none⟩=some (.int .i64 0)/\u1.frozen? ⟨g,1,none⟩=false)/\(u2.setCell ⟨g,2,none⟩ (.int .i64 base)=u3/\u2.cell? ⟨g,2,none⟩=some (.int .i64 0)/\u2.frozen? ⟨g,2,none⟩=false)/\(u3.setCell ⟨g,3,none⟩ (.int .i64 kind)=c/\u3.cell? ⟨g,3,none⟩=some (.int .i64 0)/\u3.frozen? ⟨g,3,none⟩=false)/\(c.setCell ⟨g,4,none⟩ (e)=b/\c.cell? ⟨g,4,none⟩=some (.slice none 0 0)/\c.frozen? ⟨g,4,none⟩=false)/\(b.setCell ⟨g,5,none⟩ (f)=a/\b.cell? ⟨g,5,none⟩=some (.slice none 0 0)/\b.frozen? ⟨g,5,none⟩=false)/\(a.setCell ⟨g,6,none⟩ (.float .f64 V)=d/\a.cell? ⟨g,6,none⟩=some (.float .f64 0)/\a.frozen? ⟨g,6,none⟩=false)/\PsB d g v0 cur base kind e f V/\Below g wr d:=by
 unfold aR at h
 have C:=Below.refl g wr;obtain⟨u1,q⟩:∃ u1,wr.setCell ⟨g,0,none⟩ (v0)=u1:=⟨_,rfl⟩;have k:u1.heap[g]? =some (.cells #[v0,.int .i64 0,.int .i64 0,.int .i64 0,.slice none 0 0,.slice none 0 0,.float .f64 0] 56):=by rw [<- q];exact au _ h
 have D:Below g wr u1:=by rw [<- q];exact C.setCell (p:=⟨g,0,none⟩) (Nat.le_refl _) _
 obtain⟨u2,u⟩:∃ u2,u1.setCell ⟨g,1,none⟩ (.int .i64 cur)=u2:=⟨_,rfl⟩;have j:u2.heap[g]? =some (.cells #[v0,.int .i64 cur,.int .i64 0,.int .i64 0,.slice none 0 0,.slice none 0 0,.float .f64 0] 56):=by rw [<- u];exact au _ k
 have x:Below g wr u2:=by rw [<- u];exact D.setCell (p:=⟨g,1,none⟩) (Nat.le_refl _) _
 obtain⟨u3,v⟩:∃ u3,u2.setCell ⟨g,2,none⟩ (.int .i64 base)=u3:=⟨_,rfl⟩;have i:u3.heap[g]? =some (.cells #[v0,.int .i64 cur,.int .i64 base,.int .i64 0,.slice none 0 0,.slice none 0 0,.float .f64 0] 56):=by rw [<- v];exact au _ j
 have E:Below g wr u3:=by rw [<- v];exact x.setCell (p:=⟨g,2,none⟩) (Nat.le_refl _) _
 obtain⟨c,m⟩:∃ c,u3.setCell ⟨g,3,none⟩ (.int .i64 kind)=c:=⟨_,rfl⟩;have r:c.heap[g]? =some (.cells #[v0,.int .i64 cur,.int .i64 base,.int .i64 kind,.slice none 0 0,.slice none 0 0,.float .f64 0] 56):=by rw [<- m];exact au _ i
 have A:Below g wr c:=by rw [<- m];exact E.setCell (p:=⟨g,3,none⟩) (Nat.le_refl _) _
 obtain⟨b,s⟩:∃ b,c.setCell ⟨g,4,none⟩ (e)=b:=⟨_,rfl⟩;have t:b.heap[g]? =some (.cells #[v0,.int .i64 cur,.int .i64 base,.int .i64 kind,e,.slice none 0 0,.float .f64 0] 56):=by rw [<- s];exact au _ r
 have B:Below g wr b:=by rw [<- s];exact A.setCell (p:=⟨g,4,none⟩) (Nat.le_refl _) _
 obtain⟨a,o⟩:∃ a,b.setCell ⟨g,5,none⟩ (f)=a:=⟨_,rfl⟩;have n:a.heap[g]? =some (.cells #[v0,.int .i64 cur,.int .i64 base,.int .i64 kind,e,f,.float .f64 0] 56):=by rw [<- o];exact au _ t
 have w:Below g wr a:=by rw [<- o];exact B.setCell (p:=⟨g,5,none⟩) (Nat.le_refl _) _
 obtain⟨d,l⟩:∃ d,a.setCell ⟨g,6,none⟩ (.float .f64 V)=d:=⟨_,rfl⟩;have y:d.heap[g]? =some (.cells #[v0,.int .i64 cur,.int .i64 base,.int .i64 kind,e,f,.float .f64 V] 56):=by rw [<- l];exact au _ n
 have z:Below g wr d:=by rw [<- l];exact w.setCell (p:=⟨g,6,none⟩) (Nat.le_refl _) _
 exact⟨u1,u2,u3,c,b,a,d,⟨q,by simp only [World.cell?,h,Option.isSome_none,Bool.false_eq_true,if_false];rfl,frozen_of_row _ _ 0 _ _ h⟩,⟨u,by simp only [World.cell?,k,Option.isSome_none,Bool.false_eq_true,if_false];rfl,frozen_of_row _ _ 1 _ _ k⟩,⟨v,by simp only [World.cell?,j,Option.isSome_none,Bool.false_eq_true,if_false];rfl,frozen_of_row _ _ 2 _ _ j⟩,⟨m,by simp only [World.cell?,i,Option.isSome_none,Bool.false_eq_true,if_false];rfl,frozen_of_row _ _ 3 _ _ i⟩,⟨s,by simp only [World.cell?,r,Option.isSome_none,Bool.false_eq_true,if_false];rfl,frozen_of_row _ _ 4 _ _ r⟩,⟨o,by simp only [World.cell?,t,Option.isSome_none,Bool.false_eq_true,if_false];rfl,frozen_of_row _ _ 5 _ _ t⟩,⟨l,by simp only [World.cell?,n,Option.isSome_none,Bool.false_eq_true,if_false];rfl,frozen_of_row _ _ 6 _ _ n⟩,⟨y⟩,z⟩
end Go.Proofs.YtfdddijdjpijbaaGreat
