/-  -/
import Derived.Test.YtfdddijdjpijbaaGreatHbp
import Derived.Test.YtfdddijdjpijbaaGreatHbq
import Derived.Laws.EntriesVeiled
import Derived.Deep.RegionHeld3
import Derived.Test.YtfdddijdjpijbaaGreatFnv
import Derived.Test.YtfdddijdjpijbaaGreatHbl
import Derived.Test.YtfdddijdjpijbaaGreatHaq
import Derived.Test.YtfdddijdjpijbaaGreatHba
import Derived.Test.YtfdddijdjpijbaaGreatHbo
set_option maxHeartbeats 6400000
set_option maxRecDepth 20000
namespace Go.Proofs.YtfdddijdjpijbaaGreat
open Go.RowKit
theorem Kg (n:Int) (w:World) :
  Calls Tryz.prog 126 #[.int .i64 n] w fun e a=>e=.returned (.bool (decide (1<=n/\n<=8)))/\a=w:=by
 by_cases c:1<=n<;>by_cases b:n<=8
 all_goals
  first | rw [decide_eq_true (⟨c,b⟩:1<=n/\n<=8)] | rw [decide_eq_false (fun h:1<=n/\n<=8=>by omega)]
  go_enter Tryz.func126,Tryz.ntmps126
  go_wp2
  go_ret
  exact⟨rfl,rfl⟩
theorem Kh (x:Nat) (w:World) (d:U64 x) :
  Calls Tryz.prog 90 #[.float .f64 x] w fun e c=>e=.returned (.bool (aM x))/\c=w:=by
 have f:=hideS fun w=>be x w d
 cases a:ah (x:Int)
 ·rw [a] at f
  have g:=hideS fun w=>iF x _ w d (qs a)
  generalize aM x=b at *
  clear a d;cases b
  all_goals
   go_enter Tryz.func90,Tryz.ntmps90
   go_wp2_with fail
   refine (f.out _).mono ?_
   rintro e c ⟨rfl,rfl⟩
   go_wp2_with fail
   refine (g.out _).mono ?_
   rintro e c ⟨rfl,rfl⟩
   go_wp2_with fail
   go_ret
   exact⟨rfl,rfl⟩
 ·rw [a] at f
  rw [oH a];clear a d
  go_enter Tryz.func90,Tryz.ntmps90
  go_wp2_with fail
  refine (f.out _).mono ?_
  rintro e c ⟨rfl,rfl⟩
  go_wp2_with fail
  go_ret
  exact⟨rfl,rfl⟩
theorem zb (x:Nat) (w:World) (b:U64 x) :
  Calls Tryz.prog 58 #[.float .f64 x] w fun e a=>e=.returned (.tuple #[.float .f64 (tldV x),.int .i64 (gM x)])/\a=w:=by
 have c:=hideS fun w=>Kh x w b
 unfold tldV gM;cases d:aM (x:Int)
 all_goals
  rw [d] at c
  clear d b;simp only [Bool.false_eq_true,if_false,if_true]
  go_enter Tryz.func58,Tryz.ntmps58
  go_wp2_with (go_at_call 90;refine (c.out _).mono ?_;rintro e a ⟨rfl,rfl⟩)
  go_ret2
  exact⟨rfl,rfl⟩
structure TkC (fN:Nat) (fst cap:Array Value) (l:List Flw) (cur:Int) (c:Cv) (w0:World) (I:Nat->World->Prop) (Ow:World->Nat->Prop):Prop where
 call:∀ k wx,k<l.length->fL (l.getD k aD)=0->c.Ok->tkB cur c.base (l.getD k aD)=true->c.E (l.getD k aD).day=0->I k wx->Calls Tryz.prog fN (fst++(#[.float .f64 (l.getD k aD).am,.float .f64 (c.V (l.getD k aD).day)]++cap)) wx fun e w'=>e=.returned (.tuple #[])/\I (k+1) w'/\wx.heap.size<=w'.heap.size/\∀ x<wx.heap.size,¬ Ow wx x->w'.heap[x]? =wx.heap[x]? /\¬ Ow w' x
 skip:∀ k wx,k<l.length->tkB cur c.base (l.getD k aD)=false->I k wx->I (k+1) wx
 stay:∀ k wx wy,I k wx->Below wx.heap.size wx wy->I k wy/\∀ x,Ow wy x->Ow wx x
 low:∀ k wx,I k wx->Below w0.heap.size w0 wx
 lt:∀ k wx x,I k wx->Ow wx x->x<wx.heap.size
structure BxK (w:World) (g:Nat) (base kind:Int) (vd vf:Value):Prop where
 blk:w.heap[g]? =some (.cells #[.int .i64 base,.int .i64 kind,vd,vf] 26)
theorem BxK.lt {w:World} {g:Nat} {base kind:Int} {b a:Value} (h:BxK w g base kind b a):g<w.heap.size:=(Array.getElem?_eq_some_iff.1 h.blk).1
theorem BxK.t {w:World} {g:Nat} {base kind:Int} {c b:Value} (h:BxK w g base kind c b):w.cell? ⟨g,0,none⟩=some (.int .i64 base)/\w.cell? ⟨g,1,none⟩=some (.int .i64 kind)/\w.cell? ⟨g,2,none⟩=some c/\w.cell? ⟨g,3,none⟩=some b:=by
 have a:=h.blk;exact⟨by simp [World.cell?,a],by simp [World.cell?,a],by simp [World.cell?,a],by simp [World.cell?,a]⟩
theorem BxK.step {w a:World} {g:Nat} {base kind:Int} {c b:Value} (h:BxK w g base kind c b) (d:Below w.heap.size w a):BxK a g base kind c b:=⟨(d.block g h.lt).trans h.blk⟩
theorem qU (w:World) (base kind:Int) (b a:Value):BxK (w.alloc (.cells #[.int .i64 base,.int .i64 kind,b,a] 26)) w.heap.size base kind b a:=⟨heap_alloc_new _ _⟩
theorem BG {l:List Flw} (h:ChkF l 0 0):l.length<=4096/\∀ i<l.length,fL (l.getD i aD)=0:=by
 generalize c:(0:Int)=z at h
 cases h with
 | fine a h=>exact⟨a,h⟩
 | bad a k d e f b h=>exact absurd c.symm b
theorem FI (fN:Nat) (bi ci:Array Value) (l:List Flw) (cur:Int) (c:Cv) (pl:Option Addr) (bl ol cl N:Nat) (pd pf:Option Addr) (bd od cd b2 o2 cf:Nat) (I:Nat->World->Prop) (Ow:World->Nat->Prop) (O w:World) (E:Int) (hE:VisR l cur c E) (hl:JSrc aF O pl bl ol l) (hN:l.length=N) (cu:N<=9223372036854775807) (hf:eu l) (hs:TFl O pd pf bd od b2 o2 c.ds c.fs) (dd:∀ args w,(callFunc fN args).run Tryz.prog w=.ok (.enter fN args) w) (hT:TkC fN bi ci l cur c O I Ow) (hI:I 0 w) :
  Calls Tryz.prog 88 #[.slice pl N cl,.int .i64 cur,.agg #[.int .i64 c.base,.int .i64 c.kind,.slice pd c.ds.length cd,.slice pf c.fs.length cf],.func (.func fN) bi ci] w fun e w'=>e=.returned (.int .i64 E)/\∃ k,I k w'/\(E=0->k=N):=by
 obtain⟨E1,K1,h1⟩:=vG l;obtain⟨E2,h2⟩:=oJ c.base c.kind c.ds c.fs;have ca:=hideS fun L (hb:Below O.heap.size O L)=>BB l pl bl ol cl N E1 K1 L (hl.below hb) hN cu hf h1
 have D:=hideS fun L=>Kg cur L
 have ai:=hideS fun L (hb:Below O.heap.size O L)=>dA c.base c.kind pd pf bd od cd b2 o2 cf c.ds c.fs L (hs.below hb) h2
 have bo:=hideS fun x L (hb:Below O.heap.size O L)=>sv c.base c.kind x (c.E x) (c.V x) pd pf bd od cd b2 o2 cf c.ds c.fs L (hs.below hb) (lU c.base c.kind c.ds c.fs x)
 have HK:=hideS (qU w c.base c.kind (.slice pd c.ds.length cd) (.slice pf c.fs.length cf));have H0:=hideS (hT.stay 0 w _ hI ((Below.refl _ _).alloc (Nat.le_refl _) (.cells #[.int .i64 c.base,.int .i64 c.kind,.slice pd c.ds.length cd,.slice pf c.fs.length cf] 26))).1;have HO:Hid (¬ Ow (w.alloc (.cells #[.int .i64 c.base,.int .i64 c.kind,.slice pd c.ds.length cd,.slice pf c.fs.length cf] 26)) w.heap.size):=fun h=>Nat.lt_irrefl _ (hT.lt 0 w _ hI ((hT.stay 0 w _ hI ((Below.refl _ _).alloc (Nat.le_refl _) _)).2 _ h))
 have HE:=hideS hE;have r:=hideS hT;have HQ:=hideS hl;have HN:=hideS hN;have HP:Hid (0<N->pl=some ⟨bl,ol,none⟩):=fun h=>hl.at_ (by omega)
 have Y:=hideS h1;have H2:=hideS h2;clear hE hT hl hN hf hs h1 h2 hI;generalize cr:Value.slice pd c.ds.length cd=vd at *
 generalize dc:Value.slice pf c.fs.length cf=vf at *
 obtain⟨base,u⟩:∃ b,c.base=b:=⟨_,rfl⟩;obtain⟨kind,H⟩:∃ b,c.kind=b:=⟨_,rfl⟩;rw [u,H] at ai bo HK H0 HO ⊢
 have ba:=hideS u;clear cr dc u H;obtain⟨w1,bv⟩:∃ w1,w.alloc (.cells #[.int .i64 base,.int .i64 kind,vd,vf] 26)=w1:=⟨_,rfl⟩;rw [bv] at HK H0 HO
 obtain⟨g,hg⟩:∃ g,w.heap.size=g:=⟨_,rfl⟩;rw [hg] at HK HO
 go_enter Tryz.func88,Tryz.ntmps88
 go_wp2_with fail
 clear hg bv;refine (ca.out _ (r.out.low _ _ H0.out)).mono ?_
 rintro e w2 ⟨rfl,R⟩;have HK2:=hideS (HK.out.step R);have cp:Hid (¬ Ow w2 g):=fun h=>HO.out ((r.out.stay _ _ _ H0.out R).2 _ h)
 have y:=hideS (r.out.stay _ _ _ H0.out R).1;clear R HK HO H0 ca
 by_cases Q:E1=0
 ·subst Q;have da:=hideS (jT Y.out);rw [da.out] at Y
  by_cases hc:1<=cur/\cur<=8
  ·rw [decide_eq_true hc] at D
   have am:=hideS hc;clear hc;obtain⟨t0,t1,t2,t3⟩:=HK2.out.t
   go_wp2_with (go_at_call 126;refine (D.out _).mono ?_;rintro e w' ⟨rfl,rfl⟩)
   refine (ai.out _ (r.out.low _ _ y.out)).mono ?_
   rintro e w3 ⟨rfl,W⟩;have cc:=hideS (HK2.out.step W);have bx:Hid (¬ Ow w3 g):=fun h=>cp.out ((r.out.stay _ _ _ y.out W).2 _ h)
   have al:=hideS (r.out.stay _ _ _ y.out W).1;clear W HK2 cp y ai D t0 t1 t2 t3
   by_cases M:E2=0
   ·subst M;have bc:=hideS (jR H2.out);have ct:=hideS fun i (hi:i<N)=>(BG Y.out).2 i (by rw [HN.out];exact hi)
    have df:=hideS (BG Y.out).1
    go_wp2_with fail
    go_loopw [34] (fun i wr=>∃ k:Nat,k<=N/\i=.int .i64 k/\Hid (∀ j<k,tkB cur c.base (l.getD j aD)=true->c.E (l.getD j aD).day=0)/\Hid (I k wr/\BxK wr g base kind vd vf/\¬ Ow wr g)) (fun i _=>N - (intOf i).toNat)
    case atStart=>exact⟨0,Nat.zero_le _,rfl,fun j hj=>by omega,al.out,cc.out,bx.out⟩
    case round=>
     clear al cc bx;obtain⟨k,hk,rfl,J,HR⟩:=hrel
     by_cases z:k<N
     ·obtain rfl:=HP.out (by omega)
      have bh:=hideS (HQ.out.below (r.out.low _ _ HR.out.1));obtain⟨c0,c1,c2⟩:=bh.out.cell k (by rw [HN.out];exact z)
      have a:=hideS (yR wr (l.getD k aD));have X:=hideS (r.out.call k);have T:=hideS (r.out.skip k);obtain⟨⟨z0,z1,z2⟩,fz⟩:=nO wr;have y0:=fz 0;have y1:=fz 1;have y2:=fz 2;clear fz;obtain⟨q,hq⟩:∃ q,l.getD k aD=q:=⟨_,rfl⟩;have br:=hideS (ct.out k z);rw [hq] at X T a c0 c1 c2 br
      have Hq:=hideS hq;clear hq;obtain⟨Z,qa,C⟩:=q;dsimp only [aF] at *
      obtain⟨w4,A⟩:∃ w4,wr.alloc ew=w4:=⟨_,rfl⟩;rw [A] at z0 z1 z2 y0 y1 y2 a
      unfold ew at A
      obtain⟨w5,s⟩:∃ w5,Fy w4 wr.heap.size ⟨Z,qa,C⟩=w5:=⟨_,rfl⟩;rw [s] at a
      unfold Fy at s
      dsimp only at s
      have f0:=a.out.t0;have f1:=a.out.t1;have f2:=a.out.t2;dsimp only at f0 f1 f2
      have S:=tG;have v:=hideS (HR.out.2.1.step a.out.bl);have f:=hideS (r.out.stay _ _ _ HR.out.1 a.out.bl).1;have F:Hid (¬ Ow w5 g):=fun h=>HR.out.2.2 ((r.out.stay _ _ _ HR.out.1 a.out.bl).2 _ h)
      obtain⟨t0,t1,t2,t3⟩:=v.out.t;have bs:Hid (tkB cur c.base ⟨Z,qa,C⟩=(decide (C=cur)&&decide (base<=Z))):=by show _=_;unfold tkB;rw [ba.out]
      rw [bs.out] at X T
      clear bs a HR bh
      by_cases G:C=cur
      ·subst G
       by_cases cv:Z<base
       ·have o:=hideS (T.out w5 (by rw [HN.out];exact z) (by simp;omega) f.out)
        have n:Hid (∀ j<k+1,tkB C c.base (l.getD j aD)=true->c.E (l.getD j aD).day=0):=fun j hj B=>by
         by_cases d:j<k
         ·exact J.out j d B
         ·obtain rfl:j=k:=by omega
          rw [Hq.out] at B
          unfold tkB at B
          rw [ba.out] at B
          simp at B;omega
        have o1:(C !=C)=false:=by simp
        go_wp2_with fail
        clear S A s z0 z1 z2 y0 y1 y2 f0 f1 f2 t0 t1 t2 t3
        go_roundw
        case rel=>exact⟨k+1,by omega,by simp,n,o.out,v.out,F.out⟩
        case measure=>simp [intOf];omega
       ·have K:=hideS (bo.out Z);obtain⟨FE,ak⟩:∃ x,c.E Z=x:=⟨_,rfl⟩;obtain⟨FV,cm⟩:∃ x,c.V Z=x:=⟨_,rfl⟩;rw [ak,cm] at K X
        have bk:=hideS ak;clear ak cm;have o1:(C !=C)=false:=by simp
        have o2:decide (Z<base)=false:=decide_eq_false cv;have cx:Hid (tkB C c.base (l.getD k aD)=true):=by show _=_;rw [Hq.out];unfold tkB;rw [ba.out];simp;omega
        have ab:wr.heap.size<w5.heap.size:=World.block_lt_of_cell? _ _ f1
        by_cases hz:FE=0
        ·subst hz;have n:Hid (∀ j<k+1,tkB C c.base (l.getD j aD)=true->c.E (l.getD j aD).day=0):=fun j hj B=>by
          by_cases d:j<k
          ·exact J.out j d B
          ·obtain rfl:j=k:=by omega
           rw [Hq.out];exact bk.out
         go_wp2_with fail
         clear S A s z0 z1 z2 y0 y1 y2 t0 t1 t2 t3;refine (K.out _ (r.out.low _ _ f.out)).mono ?_
         rintro e w6 ⟨rfl,m⟩;have P:=hideS (v.out.step m);have o:=hideS (r.out.stay _ _ _ f.out m).1;have ad:Hid (¬ Ow w6 g):=fun h=>F.out ((r.out.stay _ _ _ f.out m).2 _ h)
         have g1:w6.cell? ⟨wr.heap.size,1,none⟩=some (.float .f64 qa):=(m.cell (p:=⟨wr.heap.size,1,none⟩) ab).trans f1;clear m v f F K f0 f1 f2 ab
         go_wp2_with fail
         refine (X.out w6 (by rw [HN.out];exact z) br.out bc.out (by simp;omega) trivial o.out).mono ?_
         rintro e w7 ⟨rfl,bz,cq,bb⟩;have db:=hideS bz;have cs:Hid (BxK w7 g base kind vd vf):=⟨(bb g P.out.lt ad.out).1.trans P.out.blk⟩;have cy:=hideS (bb g P.out.lt ad.out).2;clear bz cq bb g1 P o ad
         go_wp2_with fail
         go_roundw
         case rel=>exact⟨k+1,by omega,by simp,n,db.out,cs.out,cy.out⟩
         case measure=>simp [intOf];omega
        ·have U:Hid (E=FE):=bN HE.out (.fac Y.out am.out bc.out k (by rw [HN.out];exact z) cx.out FE (by rw [Hq.out];exact bk.out) hz J.out)
         have d1:(FE !=0)=true:=bne_iff_ne.2 hz;clear hz
         go_wp2_with fail
         clear S A s z0 z1 z2 y0 y1 y2 t0 t1 t2 t3;refine (K.out _ (r.out.low _ _ f.out)).mono ?_
         rintro e w6 ⟨rfl,m⟩;have o:=hideS (r.out.stay _ _ _ f.out m).1;clear m v f F K f0 f1 f2 ab
         go_wp2_with fail
         go_ret
         rw [U.out];exact⟨rfl,k,o.out,fun h=>absurd h (bne_iff_ne.1 d1)⟩
      ·have o1:(C !=cur)=true:=bne_iff_ne.2 G;have o:=hideS (T.out w5 (by rw [HN.out];exact z) (by simp [G]) f.out)
       have n:Hid (∀ j<k+1,tkB cur c.base (l.getD j aD)=true->c.E (l.getD j aD).day=0):=fun j hj B=>by
        by_cases d:j<k
        ·exact J.out j d B
        ·obtain rfl:j=k:=by omega
         rw [Hq.out] at B
         unfold tkB at B
         simp [G] at B
       clear G
       go_wp2_with fail
       clear S A s z0 z1 z2 y0 y1 y2 f0 f1 f2 t0 t1 t2 t3
       go_roundw
       case rel=>exact⟨k+1,by omega,by simp,n,o.out,v.out,F.out⟩
       case measure=>simp [intOf];omega
     ·obtain rfl:k=N:=by omega
      have U:Hid (E=0):=bN HE.out (.ok Y.out am.out bc.out (fun i hi=>J.out i (by rw [HN.out] at hi;exact hi)))
      go_wp2_with fail
      go_ret
      rw [U.out];exact⟨rfl,k,HR.out.1,fun _=>rfl⟩
   ·have U:Hid (E=E2):=bN HE.out (.curve Y.out am.out E2 H2.out M);have d1:(E2 !=0)=true:=bne_iff_ne.2 M;clear M
    go_wp2_with fail
    go_ret
    rw [U.out];exact⟨rfl,0,al.out,fun h=>absurd h (bne_iff_ne.1 d1)⟩
  ·have U:Hid (E=140):=bN HE.out (.cur Y.out hc);rw [decide_eq_false hc] at D
   clear hc
   go_wp2_with (go_at_call 126;refine (D.out _).mono ?_;rintro e w' ⟨rfl,rfl⟩)
   go_ret
   rw [U.out];exact⟨rfl,0,y.out,fun h=>by cases h⟩
 ·have U:Hid (E=E1):=bN HE.out (.flow E1 K1 Y.out Q);have d1:(E1 !=0)=true:=bne_iff_ne.2 Q;clear Q
  go_wp2_with fail
  go_ret
  rw [U.out];exact⟨rfl,0,y.out,fun h=>absurd h (bne_iff_ne.1 d1)⟩
theorem BH (args:Array Value) (w:World):(callFunc 89 args).run Tryz.prog w=.ok (.enter 89 args) w:=lV Tryz.func89 (by kernel_rfl) rfl args w
def Nb (w:World) (b:Nat) (cur:Int) (c:Cv) (l:List Flw) (k:Nat) (a:World):Prop:=∃ v,A.Run w a b v (70+k) ⟨0,wsI cur c (l.take k)⟩
def Px (b:Nat) (a:World) (x:Nat):Prop:=x=b\/∃ v:Value,a.cell? ⟨b,1,none⟩=some v/\v.ownBlock=some x
theorem lX {w:World} {B b L:Nat} {v:Value} {a:A.St} (h:A.AccAt w B b v L a) (x:Nat):Px b w x↔A.Ft b v x:=by
 constructor
 ·rintro (e | ⟨f,c,d⟩)
  ·exact Or.inl e
  ·rw [h.cell1] at c
   injection c with c;subst c;exact Or.inr d
 ·rintro (e | e)
  ·exact Or.inl e
  ·exact Or.inr ⟨v,h.cell1,e⟩
theorem Dt {cur:Int} {c:Cv} {f:Flw} (h:tkB cur c.base f=true):ctI cur c f=prI c f:=by unfold ctI;rw [if_pos h]
theorem Ki {cur:Int} {c:Cv} {f:Flw} (h:tkB cur c.base f=false):ctI cur c f=0:=by unfold ctI;rw [h];rfl
theorem zc {a:A.St} (h:a.s=0) (N:Int):(⟨0,N⟩:A.St).merge a=⟨0,N+a.N⟩:=by
 obtain⟨s,M⟩:=a;dsimp only at h
 subst h
 rfl
theorem Cv.splV {c:Cv} {x:Int} (a:c.Ok) (b:c.Fit) (h:c.E x=0):az ((c.V x:Nat):Int)=true:=JR a b h
theorem Kj {f:Flw} (h:fL f=0):az (f.am:Int)=true:=Pt h
theorem Nc {l:List Flw} {cur:Int} {c:Cv} {w:World} {b:Nat} (hn:l.length<=30000) (t:eu l) (p:c.Fit):TkC 89 #[.pointer (some ⟨b,0,none⟩)] #[] l cur c w (Nb w b cur c l) (Px b) where
 call:=fun k d i f n j o ⟨v,a⟩=>by
  obtain⟨y,_,_⟩:=Cv.num n p o;refine (A.xA w.heap.size b v (70+k) _ _ _ _ _ d a.acc a.bl.size rfl (ag (t k)) rfl (ag y) (Kj f) (Cv.splV n p o) (by omega)).mono ?_
  rintro e z ⟨rfl,r,g⟩;refine⟨rfl,⟨r,?_⟩,g.wrote.size,fun x q hn=>?_⟩
  ·have:=a.did g;have u:max (70+k) 70+1=70+(k+1):=by omega
   rw [u] at this
   have s:(⟨0,wsI cur c (l.take k)⟩:A.St).merge (A.fF ((l.getD k aD).am:Int) (c.V (l.getD k aD).day:Int))=⟨0,wsI cur c (l.take (k+1))⟩:=by
    rw [qM i,Dt j,zc rfl];unfold prI;rfl
   rw [s] at this
   exact this
  ·rw [lX a.acc] at hn
   refine⟨g.wrote.block x q hn,fun h=>?_⟩
   rw [lX g.acc] at h
   rcases h with h | h
   ·exact hn (Or.inl h)
   ·rcases g.new x h with m | m
    ·exact hn (Or.inr m)
    ·omega
 skip:=fun k d i j ⟨v,a⟩=>⟨v,by
  have:=a.mono (L':=70+(k+1)) (by omega)
  rw [qM i,Ki j,Int.add_zero];exact this⟩
 stay:=fun k d B ⟨v,a⟩ f=>⟨⟨v,a.acc.below f,a.bl.trans (f.mono a.bl.size)⟩,fun x h=>by
  rw [lX (a.acc.below f)] at h
  rw [lX a.acc];exact h⟩
 low:=fun k d ⟨v,a⟩=>a.bl
 lt:=fun k d x ⟨v,a⟩ h=>by
  rw [lX a.acc] at h
  exact (a.acc.base x h).2
structure OfP (l:List Flw) (cur:Int) (c:Cv) (N:Nat) (E:Int) (w:World) (e:Ending) (w':World):Prop where
 bad:E≠0->e=.returned (.tuple #[.pointer none,.int .i64 E])
 ok:E=0->∃ g,e=.returned (.tuple #[.pointer (some ⟨g,0,none⟩),.int .i64 0])/\WAt w' g (wsI cur c l) (70+N)
 bl:Below w.heap.size w w'
theorem Kk (l:List Flw) (cur:Int) (c:Cv) (pl:Option Addr) (bl O H N:Nat) (g d:Option Addr) (bd z o J C p:Nat) (w:World) (E:Int) (K:VisR l cur c E) (L:JSrc aF w pl bl O l) (x:l.length=N) (Q:N<=30000) (t:eu l) (u:TFl w g d bd z J C c.ds c.fs) :
  Calls Tryz.prog 57 #[.slice pl N H,.int .i64 cur,.agg #[.int .i64 c.base,.int .i64 c.kind,.slice g c.ds.length o,.slice d c.fs.length p]] w fun e Z=>OfP l cur c N E w e Z:=by
 have HK:=hideS (bH w c.base c.kind (.slice g c.ds.length o) (.slice d c.fs.length p));have F:=hideS fun i (q:Below w.heap.size w i)=>A.uT i w.heap.size q.size
 have I:=hideS fun b i (hi:Nb w b cur c l 0 i)=>FI 89 #[.pointer (some ⟨b,0,none⟩)] #[] l cur c pl bl O H N g d bd z o J C p (Nb w b cur c l) (Px b) w i E K L x (by omega) t u BH (Nc (by omega) t u.f) hi
 have j:=hideS x;clear K L x t u;generalize Value.slice g c.ds.length o=D at *
 generalize Value.slice d c.fs.length p=M at *
 have y:=lW
 go_enter Tryz.func57,Tryz.ntmps57
 go_wp2_with fail
 refine (F.out _ HK.out.bl).mono ?_
 rintro e W ⟨rfl,a,m⟩;have HK2:=hideS (HK.out.step m);have s:Hid (Nb w (w.alloc (.cells #[.int .i64 c.base,.int .i64 c.kind,D,M] 26)).heap.size cur c l 0 W):=⟨_,a.mono (by omega),HK2.out.bl⟩
 clear a m F HK;obtain⟨b,q⟩:∃ b,(w.alloc (.cells #[.int .i64 c.base,.int .i64 c.kind,D,M] 26)).heap.size=b:=⟨_,rfl⟩;rw [q] at s ⊢
 clear q;have Y:=HK2.out.t0;have P:=HK2.out.t1;have t2:=HK2.out.t2;have S:=HK2.out.t3
 go_wp2_with fail
 refine (I.out b _ s.out).mono ?_
 rintro e w3 ⟨rfl,k,R,B⟩;obtain⟨v,G⟩:=R;have r:=hideS G;have V:=hideS B;clear G B I Y P t2 S y HK2 s
 by_cases n:E=0
 ·subst n;have HW:=hideS (Na (Pw (B':=0) r.out.acc (fun _ _=>Nat.zero_le _)))
  have U:=hideS (r.out.bl.alloc r.out.bl.size (.cells #[.pointer (some ⟨b,0,none⟩)] 106))
  go_wp2_with fail
  go_ret2
  refine⟨fun h=>absurd rfl h,fun _=>⟨_,rfl,?_⟩,U.out⟩
  have X:=V.out trivial;have:=HW.out;rw [X,<- j.out,List.take_length,j.out] at this
  exact this
 ·have d1:(E !=0)=true:=bne_iff_ne.2 n;have T:=hideS n;clear n
  go_wp2_with fail
  go_ret2
  exact⟨fun _=>rfl,fun h=>absurd h T.out,r.out.bl⟩
theorem Nd (l:List Flw) (cur:Int) (c:Cv) (pl:Option Addr) (bl n k N:Nat) (d b:Option Addr) (bd f i m g j:Nat) (w:World) (E:Int) (t:VisR l cur c E) (o:E≠0) (u:JSrc aF w pl bl n l) (s:l.length=N) (a:N<=30000) (p:eu l) (q:TFl w d b bd f m g c.ds c.fs) :
  Calls Tryz.prog 57 #[.slice pl N k,.int .i64 cur,.agg #[.int .i64 c.base,.int .i64 c.kind,.slice d c.ds.length i,.slice b c.fs.length j]] w fun e r=>e=.returned (.tuple #[.pointer none,.int .i64 E])/\Below w.heap.size w r:=
 (Kk l cur c pl bl n k N d b bd f i m g j w E t u s a p q).mono fun _ _ h=>⟨h.bad o,h.bl⟩
theorem Py (l:List Flw) (cur:Int) (c:Cv) (pl:Option Addr) (bl p m N:Nat) (b a:Option Addr) (bd f j n i k:Nat) (w:World) (d:FineP l cur c) (t:JSrc aF w pl bl p l) (s:l.length=N) (q:eu l) (r:TFl w b a bd f n i c.ds c.fs) :
  Calls Tryz.prog 57 #[.slice pl N m,.int .i64 cur,.agg #[.int .i64 c.base,.int .i64 c.kind,.slice b c.ds.length j,.slice a c.fs.length k]] w fun e o=>∃ g,e=.returned (.tuple #[.pointer (some ⟨g,0,none⟩),.int .i64 0])/\WAt o g (wsI cur c l) (70+N)/\Below w.heap.size w o:=
 (Kk l cur c pl bl p m N b a bd f j n i k w 0 (tK d) t s (by have:=d.len;omega) q r).mono fun _ _ h=>by
  obtain⟨g,e,u⟩:=h.ok rfl;exact⟨g,e,u,h.bl⟩
noncomputable def BI (l:List Flw) (cur:Int) (c:Cv):Nat:=tldV (valF (wsI cur c l))
noncomputable def BJ (l:List Flw) (cur:Int) (c:Cv):Int:=gM (valF (wsI cur c l))
theorem vN (N:Int):valF N<18446744073709551616:=by
 unfold valF aJ;have:=iZ N.natAbs (-2148)
 split
 ·omega
 ·split<;>omega
theorem Kl (l:List Flw) (cur:Int) (c:Cv) (pl:Option Addr) (bl x q N:Nat) (b a:Option Addr) (bd j f r k g:Nat) (w:World) (E:Int) (u:VisR l cur c E) (h:E≠0) (v:JSrc aF w pl bl x l) (t:l.length=N) (i:N<=30000) (m:eu l) (p:TFl w b a bd j r k c.ds c.fs) :
  Calls Tryz.prog 40 #[.slice pl N q,.int .i64 cur,.agg #[.int .i64 c.base,.int .i64 c.kind,.slice b c.ds.length f,.slice a c.fs.length g]] w fun e y=>e=.returned (.tuple #[.float .f64 0,.int .i64 E])/\Below w.heap.size w y:=by
 have HK:=hideS (bH w c.base c.kind (.slice b c.ds.length f) (.slice a c.fs.length g));have o:=hideS fun n (s:Below w.heap.size w n)=>Nd l cur c pl bl x q N b a bd j f r k g n E u h (v.below s) t i m (p.below s)
 clear u v t m p;generalize Value.slice b c.ds.length f=A at *
 generalize Value.slice a c.fs.length g=C at *
 have z:(E !=0)=true:=bne_iff_ne.2 h;clear h
 go_enter Tryz.func40,Tryz.ntmps40
 go_wp2_with fail
 refine (o.out _ HK.out.bl).mono ?_
 rintro e B ⟨rfl,d⟩;have HK2:=hideS (HK.out.step d);clear d HK o
 go_wp2_with fail
 go_ret2
 exact⟨rfl,HK2.out.bl⟩
theorem Nf (l:List Flw) (cur:Int) (c:Cv) (pl:Option Addr) (bl H A N:Nat) (f d:Option Addr) (bd s k C t n:Nat) (w:World) (o:FineP l cur c) (G:JSrc aF w pl bl H l) (F:l.length=N) (u:eu l) (z:TFl w f d bd s C t c.ds c.fs) :
  Calls Tryz.prog 40 #[.slice pl N A,.int .i64 cur,.agg #[.int .i64 c.base,.int .i64 c.kind,.slice f c.ds.length k,.slice d c.fs.length n]] w fun e E=>e=.returned (.tuple #[.float .f64 (BI l cur c),.int .i64 (BJ l cur c)])/\Below w.heap.size w E:=by
 have HK:=hideS (bH w c.base c.kind (.slice f c.ds.length k) (.slice d c.fs.length n));have y:=hideS fun m (D:Below w.heap.size w m)=>Py l cur c pl bl H A N f d bd s k C t n m o (G.below D) F u (z.below D)
 have h:=hideS fun m=>zb (valF (wsI cur c l)) m (ag (vN _))
 have I:Hid (N<=4096):=by show _<=_;have:=o.len;omega
 unfold BI BJ;clear o G F u z;generalize wsI cur c l=S at *
 obtain⟨x,p⟩:∃ x,valF S=x:=⟨_,rfl⟩;have J:=hideS p;rw [p] at h ⊢
 clear p;generalize Value.slice f c.ds.length k=K at *
 generalize Value.slice d c.fs.length n=O at *
 go_enter Tryz.func40,Tryz.ntmps40
 go_wp2_with fail
 refine (y.out _ HK.out.bl).mono ?_
 rintro e L ⟨g,rfl,r,j⟩;have HK2:=hideS (HK.out.step j);obtain⟨b,v,c0,B⟩:=r.at_;have a:=hideS (WAt.value B (by have:=I.out;omega))
 rw [J.out] at a
 clear j HK y r B
 go_wp2_with fail
 refine a.out.mono ?_
 rintro e M ⟨rfl,i⟩;have q:=hideS (HK2.out.step i);clear i HK2 a c0
 go_wp2_with (go_at_call 58;refine (h.out _).mono ?_;rintro e E ⟨rfl,rfl⟩)
 go_ret2
 exact⟨rfl,q.out.bl⟩
inductive PreR (l:List Flw) (cur:Int) (c:Cv):Nat->Int->Prop
 | bad (E:Int) (h:VisR l cur c E) (hE:E≠0):PreR l cur c 0 E
 | ok (h:FineP l cur c):PreR l cur c (BI l cur c) (BJ l cur c)
theorem vO (l:List Flw) (cur:Int) (c:Cv):∃ V E,PreR l cur c V E:=by
 obtain⟨E,h⟩:=Ds l cur c
 by_cases a:E=0
 ·subst a;exact⟨_,_,.ok (tJ h)⟩
 ·exact⟨0,E,.bad E h a⟩
theorem qV (l:List Flw) (cur:Int) (c:Cv) (pl:Option Addr) (bl n k N:Nat) (b a:Option Addr) (bd f i m g j:Nat) (w:World) (V:Nat) (E:Int) (h:PreR l cur c V E) (r:JSrc aF w pl bl n l) (q:l.length=N) (d:N<=30000) (o:eu l) (p:TFl w b a bd f m g c.ds c.fs) :
  Calls Tryz.prog 40 #[.slice pl N k,.int .i64 cur,.agg #[.int .i64 c.base,.int .i64 c.kind,.slice b c.ds.length i,.slice a c.fs.length j]] w fun e s=>e=.returned (.tuple #[.float .f64 V,.int .i64 E])/\Below w.heap.size w s:=by
 cases h with
 | bad E h t=>exact Kl l cur c pl bl n k N b a bd f i m g j w E h t r q d o p
 | ok h=>exact Nf l cur c pl bl n k N b a bd f i m g j w h r q o p
theorem FK {l:List Flw} {cur:Int} {c:Cv} {V:Nat} (h:PreR l cur c V 0):FineP l cur c/\V=valF (wsI cur c l)/\aM (V:Nat)=true:=by
 generalize a:(0:Int)=z at h
 cases h with
 | bad E h d=>exact absurd a.symm d
 | ok h=>
  refine⟨h,?_⟩
  unfold BJ gM at a
  unfold BI tldV;cases b:aM (valF (wsI cur c l):Int)
  ·rw [b] at a;cases a
  ·rw [if_pos rfl];exact⟨rfl,b⟩
theorem mX {l:List Flw} {cur:Int} {c:Cv} {V:Nat} {E:Int} (h:PreR l cur c V E) (a:FineP l cur c):V=BI l cur c/\E=BJ l cur c:=by
 cases h with
 | bad E h b=>exact absurd ((jU h).2 a) b
 | ok h=>exact⟨rfl,rfl⟩
structure TwoB (w:World) (a p:Int) (vd vf:Value) (b q:Int) (ud uf:Value) (wr:World):Prop where
 k1:BxK wr w.heap.size a p vd vf
 k2:BxK wr (w.heap.size+1) b q ud uf
 bl:Below w.heap.size w wr
theorem TwoB.step {w wr d:World} {a p b q:Int} {i g f e:Value} (h:TwoB w a p i g b q f e wr) (c:Below wr.heap.size wr d):TwoB w a p i g b q f e d:=⟨h.k1.step c,h.k2.step c,h.bl.trans (c.mono h.bl.size)⟩
theorem BxK.drewN {w:World} {g:Nat} {base kind:Int} {b a:Value} (h:BxK w g base kind b a) (m:Nat):BxK (w.drewN m) g base kind b a:=⟨h.blk⟩
theorem TwoB.drewN {w wr:World} {a p b q:Int} {f e d c:Value} (h:TwoB w a p f e b q d c wr) (m:Nat):TwoB w a p f e b q d c (wr.drewN m):=⟨h.k1.drewN m,h.k2.drewN m,⟨h.bl.os,h.bl.tape,h.bl.output,h.bl.size,h.bl.block⟩⟩
def rkT (base d:Int):Nat:=yW (d - base) 365
theorem NE (base d:Int):jx (fun _=>false) 2 base d=d - base:=by
 unfold jx iT
 split<;>simp<;>omega
theorem oP {base d:Int} (c:base<d) (e:d - base<=109572):af (rkT base d)/\rkT base d<18446744073709551616:=by
 have b:¬ d - base=0:=by omega
 have a:decide (d - base<0)=false:=decide_eq_false (by omega)
 have:=FP (X:=(d - base).natAbs) (Y:=(365:Int).natAbs) (by omega)
 unfold rkT yW;rw [if_neg b,a];unfold wrd af;rw [if_neg (by decide)]
 exact⟨by omega,by omega⟩
noncomputable def rkX (base d:Int) (h:Nat):Nat:=(Pe (Pf (opO .mul (some h) (some (rkT base d))))).getD 0
theorem BW {base d:Int} {h:Nat} (hn:af h) (g:af (rkT base d)):∃ m,floatBits .mul .f64 h (rkT base d)=some m/\m<18446744073709551616/\lQ (flipN m)=some (rkX base d h)/\rkX base d h<=9218868437227405312:=by
 obtain⟨m,c,k⟩:=ji hn g;have e:opO .mul (some h) (some (rkT base d))=some m:=c;obtain⟨y,b,a⟩:=(ce (cz k.2.1).1).num (by rw [Jr k.2.1];exact k.2.2)
 have f:Pe (Pf (opO .mul (some h) (some (rkT base d))))=some y:=by rw [e];exact b
 refine⟨m,c,k.2.1,?_,?_⟩
 ·unfold rkX;rw [f];exact b
 ·unfold rkX;rw [f];exact a
noncomputable def rkF (base d:Int) (f h:Nat):Nat:=(floatBits .mul .f64 f (rkX base d h)).getD 0
theorem ru {f:Nat} (hn:af f) (b:f<18446744073709551616) (g:0<ae (f:Nat)):sB f=false/\f % 9223372036854775808≠0:=by
 rcases vI_rank b hn with⟨_,_,c⟩| ⟨a,_,_⟩
 ·have d:f<9223372036854775808:=by
   apply Nat.lt_of_not_le;intro e;have:ae (f:Nat)<=0:=by
    unfold ae szI
    split
    ·omega
    ·rw [if_pos (by unfold sgB;rw [decide_eq_true_eq];omega)];omega
   omega
  refine⟨?_,by omega⟩
  unfold sB;rw [Nat.div_eq_of_lt d];rfl
 ·omega
theorem PI {base d:Int} {f h:Nat} (hn:af f) (l:f<18446744073709551616) (i:0<ae (f:Nat)) (a:rkX base d h<=9218868437227405312):floatBits .mul .f64 f (rkX base d h)=some (rkF base d f h)/\rkF base d f h<18446744073709551616/\ah (rkF base d f h:Nat)=false/\0<=ae (rkF base d f h:Nat):=by
 have b:∃ r,floatBits .mul .f64 f (rkX base d h)=some r/\r<18446744073709551616/\ah (r:Nat)=false/\0<=ae (r:Nat):=by
  obtain⟨g,j⟩:=ru hn l i;rcases Nat.lt_or_eq_of_le a with a | a
  ·have c:af (rkX base d h):=by unfold af;omega
   obtain⟨r,e,k⟩:=ji hn c;refine⟨r,e,k.2.1,k.2.2,?_⟩
   rw [k.1];have m:0<=vI f:=by
    rw [ko,g];exact Int.natCast_nonneg _
   have n:0<=vI (rkX base d h):=by
    have:sB (rkX base d h)=false:=by unfold sB;rw [Nat.div_eq_of_lt (by omega)];rfl
    rw [ko,this];exact Int.natCast_nonneg _
   have:=dZ (-2148) (Int.mul_nonneg m n);exact this
  ·rw [a];have:=(fS (x:=9218868437227405312) (by decide) hn j).2
   rw [g,show sB 9218868437227405312=false by decide] at this
   exact⟨_,this,by decide,by decide,by decide⟩
 obtain⟨r,e,k⟩:=b;unfold rkF;rw [e];exact⟨rfl,k⟩
def rkB (u:Nat):Bool:=aM (u:Int)&&decide (0<ae (u:Int))
noncomputable def Cv.bm (c:Cv) (k h:Nat):Nat:=rkF c.base (c.ds.getD k 0) (c.fs.getD k 0) h
noncomputable def bmB (c:Cv) (k h:Nat):Bool:=aM (h:Int)&&rkB (c.bm k h)
noncomputable def bmV (c:Cv) (k h:Nat):Nat:=if bmB c k h=true then c.bm k h else 0
noncomputable def bmE (c:Cv) (k h:Nat):Int:=if bmB c k h=true then 0 else 91
theorem Cv.Ok.day {c:Cv} (a:c.Ok) {k:Nat} (f:k<c.ds.length):c.base<c.ds.getD k 0/\c.ds.getD k 0<=109572:=by
 have b:=OkV.pos a k (by omega)
 obtain⟨g,d,_⟩:=ch (a.node k f);have:∀ j≤c.ds.length,c.base<=du c.base c.ds j:=fun j h=>by
  induction j with
  | zero=>exact Int.le_refl _
  | succ j e=>
   have:=(ch (a.node j (by omega))).1
   have:=e (by omega)
   show c.base<=c.ds.getD j 0
   omega
 have:=this k (by omega)
 exact⟨by omega,d⟩
theorem Cv.Ok.fac {c:Cv} (a:c.Ok) {k:Nat} (b:k<c.ds.length):af (c.fs.getD k 0)/\0<ae (c.fs.getD k 0:Nat):=by
 obtain⟨_,_,d,e⟩:=ch (a.node k b);refine⟨cC d,?_⟩
 have:=jq a (k+1) b;exact this.1
theorem zF {c:Cv} {k h:Nat} (a:c.Ok) (l:c.Fit) (b:k<c.ds.length) (f:af h):rkX c.base (c.ds.getD k 0) h<=9218868437227405312/\floatBits .mul .f64 (c.fs.getD k 0) (rkX c.base (c.ds.getD k 0) h)=some (c.bm k h)/\c.bm k h<18446744073709551616/\ah (c.bm k h:Nat)=false/\0<=ae (c.bm k h:Nat):=by
 obtain⟨n,o⟩:=a.day b;have q:=a.b0;obtain⟨i,p⟩:=oP n (by omega)
 obtain⟨m,_,_,_,e⟩:=BW (base:=c.base) (d:=c.ds.getD k 0) f i;obtain⟨g,j⟩:=a.fac b;exact⟨e,PI g (l k (by rw [a.len];exact b)) j e⟩
theorem KU {base kind:Int} {d:List Int} {k e:List Nat} (c:OkV base kind d k) (j:e.length=d.length) (h:∀ i<d.length,rkB (e.getD i 0)=true):OkV base kind d e:=by
 refine⟨c.b0,c.b1,c.k1,c.k4,c.lo,c.hi,j,fun i hi=>?_⟩
 obtain⟨a,b,_,_⟩:=ch (c.node i hi);have:=h i hi;unfold rkB at this
 rw [Bool.and_eq_true,decide_eq_true_eq] at this
 have g:=iA (cC this.1);have f:ltB 0 (e.getD i 0:Nat)=true:=by
  rw [aC (by decide) g,decide_eq_true_eq]
  rw [show ae 0=0 by decide];exact this.2
 unfold kM;rw [this.1,f,decide_eq_false (show ¬ d.getD i 0<=du base d i by omega),decide_eq_false (show ¬ 109572<d.getD i 0 by omega)]
 rfl
theorem Cv.Ok.rkB {c:Cv} (a:c.Ok) {k:Nat} (b:k<c.ds.length):rkB (c.fs.getD k 0)=true:=by
 obtain⟨_,_,d,_⟩:=ch (a.node k b);unfold Go.Proofs.YtfdddijdjpijbaaGreat.rkB;rw [d,decide_eq_true (a.fac b).2];rfl
noncomputable def Cv.bump (c:Cv) (k h:Nat):Cv:=⟨c.base,c.kind,c.ds,c.fs.set k (c.bm k h)⟩
noncomputable def Cv.parL (c:Cv) (h:Nat):Nat->List Nat
 | 0=>c.fs
 | k+1=>(c.parL h k).set k (c.bm k h)
noncomputable def Cv.para (c:Cv) (h:Nat):Cv:=⟨c.base,c.kind,c.ds,c.parL h c.ds.length⟩
theorem gT (c:Cv) (h:Nat):∀ k,(c.parL h k).length=c.fs.length
 | 0=>rfl
 | k+1=>by rw [Cv.parL,List.length_set,gT c h k]
theorem getD_set {l:List Nat} {k j u:Nat} (a:k<l.length):(l.set k u).getD j 0=if j=k then u else l.getD j 0:=by
 rw [List.getD_eq_getElem?_getD,List.getD_eq_getElem?_getD,List.getElem?_set]
 by_cases h:k=j
 ·subst h;simp [a]
 ·rw [if_neg h,if_neg (fun e=>h e.symm)]
theorem vT (c:Cv) (h:Nat):∀ k,k<=c.fs.length->∀ j,(c.parL h k).getD j 0=if j<k then c.bm j h else c.fs.getD j 0
 | 0,_,j=>by rw [if_neg (by omega)];rfl
 | k+1,hk,j=>by
  rw [Cv.parL,getD_set (by rw [gT];omega),vT c h k (by omega) j]
  by_cases e:j=k
  ·subst e;rw [if_pos rfl,if_pos (by omega)]
  ·rw [if_neg e]
   by_cases d:j<k
   ·rw [if_pos d,if_pos (by omega)]
   ·rw [if_neg d,if_neg (by omega)]
theorem mn {c:Cv} {k h:Nat} (a:k<c.fs.length) (j:Nat):(c.bump k h).fs.getD j 0=if j=k then c.bm k h else c.fs.getD j 0:=getD_set a
def cv0:Cv:=⟨0,0,[],[]⟩
inductive BmpR (c:Cv) (i:Int) (h:Nat):Cv->Int->Prop
 | chk (E:Int) (hC:c.Chk E) (hE:E≠0):BmpR c i h cv0 E
 | arg (ok:c.Ok) (hi:¬ (0<=i/\i<(c.ds.length:Int))):BmpR c i h cv0 1
 | val (ok:c.Ok) (k:Nat) (hk:k<c.ds.length) (e:i=(k:Int)) (hb:bmB c k h=false):BmpR c i h cv0 91
 | ok (ok:c.Ok) (k:Nat) (hk:k<c.ds.length) (e:i=(k:Int)) (hb:bmB c k h=true):BmpR c i h (c.bump k h) 0
inductive ParR (c:Cv) (h:Nat):Cv->Int->Prop
 | chk (E:Int) (hC:c.Chk E) (hE:E≠0):ParR c h cv0 E
 | val (ok:c.Ok) (k:Nat) (hk:k<c.ds.length) (hb:bmB c k h=false) (fine:∀ j<k,bmB c j h=true):ParR c h cv0 91
 | ok (ok:c.Ok) (hb:∀ k<c.ds.length,bmB c k h=true):ParR c h (c.para h) 0
theorem zG {c:Cv} {k h:Nat} (a:bmB c k h=true):rkB (c.bm k h)=true/\aM (h:Int)=true:=by
 unfold bmB at a
 have:=Bool.and_eq_true_iff.1 a;exact⟨this.2,this.1⟩
theorem Dv {c:Cv} {k h:Nat} (a:c.Ok) (b:k<c.ds.length) (d:bmB c k h=true):(c.bump k h).Ok:=
 KU a (by show (c.fs.set k _).length=_;rw [List.length_set];exact a.len) fun i hi=>by
  show rkB ((c.bump k h).fs.getD i 0)=true
  rw [mn (by rw [a.len];exact b)]
  split
  ·exact (zG d).1
  ·exact a.rkB hi
theorem NF {c:Cv} {h:Nat} (a:c.Ok) (b:∀ k<c.ds.length,bmB c k h=true):(c.para h).Ok:=
 KU a (by show (c.parL h c.ds.length).length=_;rw [gT];exact a.len) fun i hi=>by
  show rkB ((c.parL h c.ds.length).getD i 0)=true
  rw [vT c h _ (by rw [a.len];exact Nat.le_refl _),if_pos (show i<c.ds.length from hi)]
  exact (zG (b i hi)).1
theorem zH {c:Cv} {k h:Nat} (a:c.Ok) (d:c.Fit) (b:k<c.ds.length) (e:bmB c k h=true):(c.bump k h).Fit:=fun i hi=>by
 rw [mn (by rw [a.len];exact b)]
 split
 ·exact (zF a d b (cC (zG e).2)).2.2.1
 ·exact d i (by have:(c.fs.set k (c.bm k h)).length=c.fs.length:=List.length_set;rw [<- this];exact hi)
theorem KV (w:World) (x:Nat):(Op.unary .neg (.float .f64 x)).run Tryz.prog w=.ok (.float .f64 (Op.negFloat .f64 x)) w:=rfl
theorem rv (x:Nat) (w:World) (d:U64 x) :
  Calls Tryz.prog 48 #[.float .f64 x] w fun e c=>e=.returned (.bool (aM x))/\c=w:=by
 have f:=hideS fun w=>be x w d
 cases a:ah (x:Int)
 ·rw [a] at f
  have g:=hideS fun w=>iF x _ w d (qs a)
  generalize aM x=b at *
  clear a d;cases b
  all_goals
   go_enter Tryz.func48,Tryz.ntmps48
   go_wp2_with fail
   refine (f.out _).mono ?_
   rintro e c ⟨rfl,rfl⟩
   go_wp2_with fail
   refine (g.out _).mono ?_
   rintro e c ⟨rfl,rfl⟩
   go_wp2_with fail
   go_ret
   exact⟨rfl,rfl⟩
 ·rw [a] at f
  rw [oH a];clear a d
  go_enter Tryz.func48,Tryz.ntmps48
  go_wp2_with fail
  refine (f.out _).mono ?_
  rintro e c ⟨rfl,rfl⟩
  go_wp2_with fail
  go_ret
  exact⟨rfl,rfl⟩
theorem nX (x:Nat) (w:World) (b:U64 x) :
  Calls Tryz.prog 33 #[.float .f64 x] w fun e a=>e=.returned (.tuple #[.float .f64 (tldV x),.int .i64 (gM x)])/\a=w:=by
 have c:=hideS fun w=>rv x w b
 unfold tldV gM;cases d:aM (x:Int)
 all_goals
  rw [d] at c
  clear d b;simp only [Bool.false_eq_true,if_false,if_true]
  go_enter Tryz.func33,Tryz.ntmps33
  go_wp2_with (go_at_call 48;refine (c.out _).mono ?_;rintro e a ⟨rfl,rfl⟩)
  go_ret2
  exact⟨rfl,rfl⟩
theorem PJ {x y:Nat} (f:x<18446744073709551616) (h:lQ x=some y) (w:World):Calls Tryz.prog 54 #[.float .f64 x] w fun e d=>e=.returned (.float .f64 y)/\Below w.heap.size w d:=
 ((ce f).prog w).mono fun e d ⟨z,a,b,c⟩=>by
  have:=b.1;rw [h] at this
  rw [a,cR this];exact⟨rfl,c⟩
theorem NG {base d:Int} (f:0<=base) (j:base<d) (g:d<=109572) (c:World):Calls Tryz.prog 53 #[.int .i64 2,.agg #[.int .i64 0,.slice none 0 0],.int .i64 base,.int .i64 d] c fun e i=>e=.returned (.tuple #[.float .f64 (rkT base d),.int .i64 0])/\Below c.heap.size c i:=by
 have h:=zj (fun _=>false) (kind:=2) (a:=base) (b:=d) ⟨f,by omega⟩ ⟨by omega,g⟩
 have:=zE 2 0 base d (jx (fun _=>false) 2 base d) (eH 2) (.slice none 0 0) c h.1 h.2 (by decide) (by decide) (zD (fun _=>false) 2 0 base d (.slice none 0 0) c (by decide) (by decide) ⟨f,by omega⟩ ⟨by omega,g⟩)
 rw [NE,show eH 2=365 by decide] at this
 exact this
theorem BX (c:Cv) (k h:Nat) (g f:Value) (w:World) (d:h<18446744073709551616) (hn:aM (h:Int)=false) :
  Calls Tryz.prog 38 #[.agg #[.int .i64 c.base,.int .i64 c.kind,g,f],.int .i64 k,.float .f64 h] w fun e b=>e=.returned (.tuple #[.float .f64 0,.int .i64 91])/\Below w.heap.size w b:=by
 have a:=hideS fun i=>rv h i (ag d)
 rw [hn] at a
 have HK:=hideS (bH w c.base c.kind g f);clear d hn
 go_enter Tryz.func38,Tryz.ntmps38
 go_wp2_with fail
 refine (turned (a.out _)).mono ?_
 rintro e b ⟨rfl,rfl⟩
 go_wp2_with fail
 go_ret2
 exact⟨rfl,HK.out.bl⟩
theorem BY (base kind D:Int) (n m k h F t p x u V:Nat) (E:Int) (bd j z f g C:Nat) (w:World) (hk:k<n) (S:k<m) (R:w.cell? ⟨bd,j+k,none⟩=some (.int .i64 D)) (hF:w.cell? ⟨f,g+k,none⟩=some (.float .f64 F)) (l:bd<w.heap.size) (a:f<w.heap.size)
  (M:Hid (∀ c,Calls Tryz.prog 48 #[.float .f64 h] c fun e b=>e=.returned (.bool true)/\b=c))
  (U:Hid (∀ c,Calls Tryz.prog 53 #[.int .i64 2,.agg #[.int .i64 0,.slice none 0 0],.int .i64 base,.int .i64 D] c fun e b=>e=.returned (.tuple #[.float .f64 t,.int .i64 0])/\Below c.heap.size c b))
  (r1:∀ w,(binOp .mul 27 (.float .f64 h) (.float .f64 t)).run Tryz.prog w=.ok (.float .f64 p) w)
  (T:Hid (∀ c,Calls Tryz.prog 54 #[.float .f64 (Op.negFloat .f64 p)] c fun e b=>e=.returned (.float .f64 x)/\Below c.heap.size c b))
  (r2:∀ w,(binOp .mul 27 (.float .f64 F) (.float .f64 x)).run Tryz.prog w=.ok (.float .f64 u) w)
  (G B:Bool) (o1:(FloatKind.f64.format.order u 0==some .lt)=G) (X:(FloatKind.f64.format.order u 0==some .eq)=B)
  (W:Hid (∀ c,Calls Tryz.prog 33 #[.float .f64 u] c fun e b=>e=.returned (.tuple #[.float .f64 V,.int .i64 E])/\b=c)) :
  Calls Tryz.prog 38 #[.agg #[.int .i64 base,.int .i64 kind,.slice (some ⟨bd,j,none⟩) n z,.slice (some ⟨f,g,none⟩) m C],.int .i64 k,.float .f64 h] w fun e b=>e=.returned (.tuple #[.float .f64 (if (G||B)=true then 0 else V),.int .i64 (if (G||B)=true then 91 else E)])/\Below w.heap.size w b:=by
 have HK:=hideS (bH w base kind (.slice (some ⟨bd,j,none⟩) n z) (.slice (some ⟨f,g,none⟩) m C));obtain⟨o,y⟩:∃ o,w.alloc (.cells #[.int .i64 base,.int .i64 kind,.slice (some ⟨bd,j,none⟩) n z,.slice (some ⟨f,g,none⟩) m C] 26)=o:=⟨_,rfl⟩;rw [y] at HK
 have O:=hideS ((HK.out.bl.cell (p:=⟨bd,j+k,none⟩) l).trans R);have P:=hideS ((HK.out.bl.cell (p:=⟨f,g+k,none⟩) a).trans hF);have I:Hid (bd<o.heap.size):=Nat.lt_of_lt_of_le l HK.out.bl.size;have r:Hid (f<o.heap.size):=Nat.lt_of_lt_of_le a HK.out.bl.size;have Q:=KV;have g1:(0:Int)<=(k:Int):=by omega
 have g2:(k:Int)<(n:Int):=by omega
 have g3:(k:Int)<(m:Int):=by omega
 clear R hF l a
 go_enter Tryz.func38,Tryz.ntmps38
 go_wp2_with fail
 clear y;refine (turned (M.out _)).mono ?_
 rintro e b ⟨rfl,rfl⟩;have Y:=HK.out.t0;have t2:=HK.out.t2;have J:=HK.out.t3;have Z:=O.out;have K:=P.out
 go_wp2_with fail
 go_region_held3 (fun b=>b.cell? ⟨w.heap.size,0,none⟩=some (.int .i64 base)/\b.cell? ⟨w.heap.size,2,none⟩=some (.slice (some ⟨bd,j,none⟩) n z)/\b.cell? ⟨bd,j+k,none⟩=some (.int .i64 D)) (first | go_keep | exact⟨HK2.out.t0,HK2.out.t2,H.out⟩) ((go_at_call 53;refine (U.out _).mono ?_;rintro e A ⟨rfl,a⟩;have i:Hid (Below o.heap.size o A):=⟨a.os,a.tape,a.output,a.size,a.block⟩;have HK2:=hideS (HK.out.step i.out);have H:=hideS ((i.out.cell (p:=⟨bd,j+k,none⟩) I.out).trans O.out);clear a))
 all_goals
  have q:=hideS ((i.out.cell (p:=⟨f,g+k,none⟩) r.out).trans P.out);have L:Hid (f<A.heap.size):=Nat.lt_of_lt_of_le r.out i.out.size;clear Y t2 J Z K;have J:=HK2.out.t3;have K:=q.out
  go_wp2_with fail
  go_region_held3 (fun b=>b.cell? ⟨w.heap.size,3,none⟩=some (.slice (some ⟨f,g,none⟩) m C)/\b.cell? ⟨f,g+k,none⟩=some (.float .f64 F)) (first | go_keep | exact⟨v.out.t3,N.out⟩) ((go_at_call 54;refine (T.out _).mono ?_;rintro e w3 ⟨rfl,d⟩;have s:Hid (Below A.heap.size A w3):=⟨d.os,d.tape,d.output,d.size,d.block⟩;have v:=hideS (HK2.out.step s.out);have N:=hideS ((s.out.cell (p:=⟨f,g+k,none⟩) L.out).trans q.out);clear d))
  all_goals
   clear J K;cases G<;>cases B
   all_goals
    go_wp2_with (go_at_call 33;refine (turned (W.out _)).mono ?_;rintro e b ⟨rfl,rfl⟩)
    go_ret2
    exact⟨rfl,v.out.bl⟩
theorem kS (c:Cv) (k h:Nat) (z v:Option Addr) (bd t A F u C:Nat) (w:World) (o:c.Ok) (n:k<c.ds.length) (B:h<18446744073709551616) (d:TFl w z v bd t F u c.ds c.fs) :
  Calls Tryz.prog 38 #[.agg #[.int .i64 c.base,.int .i64 c.kind,.slice z c.ds.length A,.slice v c.fs.length C],.int .i64 (k:Nat),.float .f64 h] w fun e j=>e=.returned (.tuple #[.float .f64 (bmV c k h),.int .i64 (bmE c k h)])/\Below w.heap.size w j:=by
 cases g:aM (h:Int) with
 | false=>
  have e:bmB c k h=false:=by unfold bmB;rw [g];rfl
  unfold bmV bmE;rw [e];exact BX c k h _ _ w B g
 | true=>
  have J:=o.len;have M:=d.x.at_ (by omega)
  have H:=d.y.at_ (by omega)
  subst M H;obtain⟨E,G⟩:=o.day n;have O:=o.b0;obtain⟨L,Q⟩:=oP E (by omega)
  obtain⟨m,N,l,r,_⟩:=BW (cC g) L;obtain⟨_,q,i,p,I⟩:=zF o d.f n (cC g);have s:Hid (∀ b,Calls Tryz.prog 48 #[.float .f64 h] b fun e j=>e=.returned (.bool true)/\j=b):=fun b=>by
   have:=rv h b (ag B);rw [g] at this;exact this
  have K:Hid (∀ b,Calls Tryz.prog 54 #[.float .f64 (Op.negFloat .f64 m)] b fun e j=>e=.returned (.float .f64 (rkX c.base (c.ds.getD k 0) h))/\Below b.heap.size b j):=fun b=>by
   rw [Js l];exact PJ (cz l).1 r b
  have a:=BY c.base c.kind (c.ds.getD k 0) c.ds.length c.fs.length k h (c.fs.getD k 0) (rkT c.base (c.ds.getD k 0)) m (rkX c.base (c.ds.getD k 0) h) (c.bm k h) (tldV (c.bm k h)) (gM (c.bm k h)) bd t A F u C w n (by omega) (d.x.cell k n) (d.y.cell k (by omega)) (d.x.lt (by omega)) (d.y.lt (by omega)) s (fun b=>NG O E G b) (fun w=>run_float_arith (P:=Tryz.prog) w .mul 27 .f64 _ _ _ N) K (fun w=>run_float_arith (P:=Tryz.prog) w .mul 27 .f64 _ _ _ q) _ _ rfl rfl (fun b=>nX (c.bm k h) b (ag i))
  rw [JL i (by decide) p (by decide),show ae ((0:Nat):Int)=0 by decide] at a
  have e:bmB c k h=(aM (c.bm k h:Nat)&&decide (0<ae (c.bm k h:Nat))):=by unfold bmB rkB;rw [g,Bool.true_and]
  unfold bmV bmE;rw [e];unfold tldV gM at a
  by_cases D:ae (c.bm k h:Nat)<=0
  ·rw [decide_eq_true D] at a
   rw [decide_eq_false (show ¬ 0<ae (c.bm k h:Nat) by omega),Bool.and_false]
   simp only [Bool.false_eq_true,if_false,if_true] at a ⊢
   exact a
  ·rw [decide_eq_false D] at a
   rw [decide_eq_true (show 0<ae (c.bm k h:Nat) by omega),Bool.and_true]
   simp only [Bool.false_eq_true,if_false] at a
   exact a
def au:Obj:=.cells #[.int .i64 0,.int .i64 0,.slice none 0 0,.slice none 0 0] 26
theorem bB (g:Nat) (base:Int) (kind:Int) (b:Value) (c:Value) (wr:World) (h:wr.heap[g]? =some au):∃ u1 u2 u3 a:World,(wr.setCell ⟨g,0,none⟩ (.int .i64 base)=u1/\wr.cell? ⟨g,0,none⟩=some (.int .i64 0)/\wr.frozen? ⟨g,0,none⟩=false)/\(u1.setCell ⟨g,1,none⟩ (.int .i64 kind)=u2/\u1.cell? ⟨g,1,none⟩=some (.int .i64 0)/\u1.frozen? ⟨g,1,none⟩=false)/\(u2.setCell ⟨g,2,none⟩ (b)=u3/\u2.cell? ⟨g,2,none⟩=some (.slice none 0 0)/\u2.frozen? ⟨g,2,none⟩=false)/\(u3.setCell ⟨g,3,none⟩ (c)=a/\u3.cell? ⟨g,3,none⟩=some (.slice none 0 0)/\u3.frozen? ⟨g,3,none⟩=false)/\BxK a g base kind b c/\Below g wr a:=by
 unfold au at h
 have s:=Below.refl g wr;obtain⟨u1,k⟩:∃ u1,wr.setCell ⟨g,0,none⟩ (.int .i64 base)=u1:=⟨_,rfl⟩;have j:u1.heap[g]? =some (.cells #[.int .i64 base,.int .i64 0,.slice none 0 0,.slice none 0 0] 26):=by rw [<- k];exact av _ h
 have n:Below g wr u1:=by rw [<- k];exact s.setCell (p:=⟨g,0,none⟩) (Nat.le_refl _) _
 obtain⟨u2,f⟩:∃ u2,u1.setCell ⟨g,1,none⟩ (.int .i64 kind)=u2:=⟨_,rfl⟩;have d:u2.heap[g]? =some (.cells #[.int .i64 base,.int .i64 kind,.slice none 0 0,.slice none 0 0] 26):=by rw [<- f];exact av _ j
 have r:Below g wr u2:=by rw [<- f];exact n.setCell (p:=⟨g,1,none⟩) (Nat.le_refl _) _
 obtain⟨u3,i⟩:∃ u3,u2.setCell ⟨g,2,none⟩ (b)=u3:=⟨_,rfl⟩;have l:u3.heap[g]? =some (.cells #[.int .i64 base,.int .i64 kind,b,.slice none 0 0] 26):=by rw [<- i];exact av _ d
 have o:Below g wr u3:=by rw [<- i];exact r.setCell (p:=⟨g,2,none⟩) (Nat.le_refl _) _
 obtain⟨a,e⟩:∃ a,u3.setCell ⟨g,3,none⟩ (c)=a:=⟨_,rfl⟩;have q:a.heap[g]? =some (.cells #[.int .i64 base,.int .i64 kind,b,c] 26):=by rw [<- e];exact av _ l
 have m:Below g wr a:=by rw [<- e];exact o.setCell (p:=⟨g,3,none⟩) (Nat.le_refl _) _
 exact⟨u1,u2,u3,a,⟨k,by simp only [World.cell?,h,Option.isSome_none,Bool.false_eq_true,if_false];rfl,frozen_of_row _ _ 0 _ _ h⟩,⟨f,by simp only [World.cell?,j,Option.isSome_none,Bool.false_eq_true,if_false];rfl,frozen_of_row _ _ 1 _ _ j⟩,⟨i,by simp only [World.cell?,d,Option.isSome_none,Bool.false_eq_true,if_false];rfl,frozen_of_row _ _ 2 _ _ d⟩,⟨e,by simp only [World.cell?,l,Option.isSome_none,Bool.false_eq_true,if_false];rfl,frozen_of_row _ _ 3 _ _ l⟩,⟨q⟩,m⟩
structure DxK (w:World) (g:Nat) (base kind:Int) (vd vf:Value):Prop where
 blk:w.heap[g]? =some (.cells #[.int .i64 base,.int .i64 kind,vd,vf] 39)
theorem DxK.lt {w:World} {g:Nat} {base kind:Int} {b a:Value} (h:DxK w g base kind b a):g<w.heap.size:=(Array.getElem?_eq_some_iff.1 h.blk).1
theorem DxK.t {w:World} {g:Nat} {base kind:Int} {c b:Value} (h:DxK w g base kind c b):w.cell? ⟨g,0,none⟩=some (.int .i64 base)/\w.cell? ⟨g,1,none⟩=some (.int .i64 kind)/\w.cell? ⟨g,2,none⟩=some c/\w.cell? ⟨g,3,none⟩=some b:=by
 have a:=h.blk;exact⟨by simp [World.cell?,a],by simp [World.cell?,a],by simp [World.cell?,a],by simp [World.cell?,a]⟩
theorem DxK.step {w a:World} {g:Nat} {base kind:Int} {c b:Value} (h:DxK w g base kind c b) (d:Below w.heap.size w a):DxK a g base kind c b:=⟨(d.block g h.lt).trans h.blk⟩
def cY:Obj:=.cells #[.int .i64 0,.int .i64 0,.slice none 0 0,.slice none 0 0] 39
theorem jX (g:Nat) (base:Int) (kind:Int) (b:Value) (c:Value) (wr:World) (h:wr.heap[g]? =some cY):∃ u1 u2 u3 a:World,(wr.setCell ⟨g,0,none⟩ (.int .i64 base)=u1/\wr.cell? ⟨g,0,none⟩=some (.int .i64 0)/\wr.frozen? ⟨g,0,none⟩=false)/\(u1.setCell ⟨g,1,none⟩ (.int .i64 kind)=u2/\u1.cell? ⟨g,1,none⟩=some (.int .i64 0)/\u1.frozen? ⟨g,1,none⟩=false)/\(u2.setCell ⟨g,2,none⟩ (b)=u3/\u2.cell? ⟨g,2,none⟩=some (.slice none 0 0)/\u2.frozen? ⟨g,2,none⟩=false)/\(u3.setCell ⟨g,3,none⟩ (c)=a/\u3.cell? ⟨g,3,none⟩=some (.slice none 0 0)/\u3.frozen? ⟨g,3,none⟩=false)/\DxK a g base kind b c/\Below g wr a:=by
 unfold cY at h
 have s:=Below.refl g wr;obtain⟨u1,k⟩:∃ u1,wr.setCell ⟨g,0,none⟩ (.int .i64 base)=u1:=⟨_,rfl⟩;have j:u1.heap[g]? =some (.cells #[.int .i64 base,.int .i64 0,.slice none 0 0,.slice none 0 0] 39):=by rw [<- k];exact av _ h
 have n:Below g wr u1:=by rw [<- k];exact s.setCell (p:=⟨g,0,none⟩) (Nat.le_refl _) _
 obtain⟨u2,f⟩:∃ u2,u1.setCell ⟨g,1,none⟩ (.int .i64 kind)=u2:=⟨_,rfl⟩;have d:u2.heap[g]? =some (.cells #[.int .i64 base,.int .i64 kind,.slice none 0 0,.slice none 0 0] 39):=by rw [<- f];exact av _ j
 have r:Below g wr u2:=by rw [<- f];exact n.setCell (p:=⟨g,1,none⟩) (Nat.le_refl _) _
 obtain⟨u3,i⟩:∃ u3,u2.setCell ⟨g,2,none⟩ (b)=u3:=⟨_,rfl⟩;have l:u3.heap[g]? =some (.cells #[.int .i64 base,.int .i64 kind,b,.slice none 0 0] 39):=by rw [<- i];exact av _ d
 have o:Below g wr u3:=by rw [<- i];exact r.setCell (p:=⟨g,2,none⟩) (Nat.le_refl _) _
 obtain⟨a,e⟩:∃ a,u3.setCell ⟨g,3,none⟩ (c)=a:=⟨_,rfl⟩;have q:a.heap[g]? =some (.cells #[.int .i64 base,.int .i64 kind,b,c] 39):=by rw [<- e];exact av _ l
 have m:Below g wr a:=by rw [<- e];exact o.setCell (p:=⟨g,3,none⟩) (Nat.le_refl _) _
 exact⟨u1,u2,u3,a,⟨k,by simp only [World.cell?,h,Option.isSome_none,Bool.false_eq_true,if_false];rfl,frozen_of_row _ _ 0 _ _ h⟩,⟨f,by simp only [World.cell?,j,Option.isSome_none,Bool.false_eq_true,if_false];rfl,frozen_of_row _ _ 1 _ _ j⟩,⟨i,by simp only [World.cell?,d,Option.isSome_none,Bool.false_eq_true,if_false];rfl,frozen_of_row _ _ 2 _ _ d⟩,⟨e,by simp only [World.cell?,l,Option.isSome_none,Bool.false_eq_true,if_false];rfl,frozen_of_row _ _ 3 _ _ l⟩,⟨q⟩,m⟩
structure PsB (w:World) (g:Nat) (v0:Value) (cur base kind:Int) (vd vf:Value) (V:Nat):Prop where
 blk:w.heap[g]? =some (.cells #[v0,.int .i64 cur,.int .i64 base,.int .i64 kind,vd,vf,.float .f64 V] 56)
theorem PsB.lt {w:World} {g:Nat} {v0 b a:Value} {cur base kind:Int} {V:Nat} (h:PsB w g v0 cur base kind b a V):g<w.heap.size:=(Array.getElem?_eq_some_iff.1 h.blk).1
theorem PsB.t {w:World} {g:Nat} {v0 c b:Value} {cur base kind:Int} {V:Nat} (h:PsB w g v0 cur base kind c b V):w.cell? ⟨g,0,none⟩=some v0/\w.cell? ⟨g,1,none⟩=some (.int .i64 cur)/\w.cell? ⟨g,2,none⟩=some (.int .i64 base)/\w.cell? ⟨g,3,none⟩=some (.int .i64 kind)/\w.cell? ⟨g,4,none⟩=some c/\w.cell? ⟨g,5,none⟩=some b/\w.cell? ⟨g,6,none⟩=some (.float .f64 V):=by
 have a:=h.blk;exact⟨by simp [World.cell?,a],by simp [World.cell?,a],by simp [World.cell?,a],by simp [World.cell?,a],by simp [World.cell?,a],by simp [World.cell?,a],by simp [World.cell?,a]⟩
theorem PsB.step {w a:World} {g:Nat} {v0 c b:Value} {cur base kind:Int} {V:Nat} (h:PsB w g v0 cur base kind c b V) (d:Below w.heap.size w a):PsB a g v0 cur base kind c b V:=⟨(d.block g h.lt).trans h.blk⟩
theorem PsB.stay {w a:World} {g B:Nat} {v0 c b:Value} {cur base kind:Int} {V:Nat} (h:PsB w g v0 cur base kind c b V) (e:Below B w a) (d:g<B):PsB a g v0 cur base kind c b V:=⟨(e.block g d).trans h.blk⟩
theorem rx (w:World) (v0 b a:Value) (cur base kind:Int) (V:Nat):PsB (w.alloc (.cells #[v0,.int .i64 cur,.int .i64 base,.int .i64 kind,b,a,.float .f64 V] 56)) w.heap.size v0 cur base kind b a V:=⟨heap_alloc_new _ _⟩
def bC:Obj:=.cells #[.slice none 0 0,.int .i64 0,.int .i64 0,.int .i64 0,.slice none 0 0,.slice none 0 0,.float .f64 0] 56
theorem jY (g:Nat) (v0:Value) (cur:Int) (base:Int) (kind:Int) (e:Value) (f:Value) (V:Nat) (wr:World) (h:wr.heap[g]? =some bC):∃ u1 u2 u3 a b c d:World,(wr.setCell ⟨g,0,none⟩ (v0)=u1/\wr.cell? ⟨g,0,none⟩=some (.slice none 0 0)/\wr.frozen? ⟨g,0,none⟩=false)/\(u1.setCell ⟨g,1,none⟩ (.int .i64 cur)=u2/\u1.cell? ⟨g,1,none⟩=some (.int .i64 0)/\u1.frozen? ⟨g,1,none⟩=false)/\(u2.setCell ⟨g,2,none⟩ (.int .i64 base)=u3/\u2.cell? ⟨g,2,none⟩=some (.int .i64 0)/\u2.frozen? ⟨g,2,none⟩=false)/\(u3.setCell ⟨g,3,none⟩ (.int .i64 kind)=a/\u3.cell? ⟨g,3,none⟩=some (.int .i64 0)/\u3.frozen? ⟨g,3,none⟩=false)/\(a.setCell ⟨g,4,none⟩ (e)=b/\a.cell? ⟨g,4,none⟩=some (.slice none 0 0)/\a.frozen? ⟨g,4,none⟩=false)/\(b.setCell ⟨g,5,none⟩ (f)=c/\b.cell? ⟨g,5,none⟩=some (.slice none 0 0)/\b.frozen? ⟨g,5,none⟩=false)/\(c.setCell ⟨g,6,none⟩ (.float .f64 V)=d/\c.cell? ⟨g,6,none⟩=some (.float .f64 0)/\c.frozen? ⟨g,6,none⟩=false)/\PsB d g v0 cur base kind e f V/\Below g wr d:=by
 unfold bC at h
 have E:=Below.refl g wr;obtain⟨u1,s⟩:∃ u1,wr.setCell ⟨g,0,none⟩ (v0)=u1:=⟨_,rfl⟩;have r:u1.heap[g]? =some (.cells #[v0,.int .i64 0,.int .i64 0,.int .i64 0,.slice none 0 0,.slice none 0 0,.float .f64 0] 56):=by rw [<- s];exact av _ h
 have y:Below g wr u1:=by rw [<- s];exact E.setCell (p:=⟨g,0,none⟩) (Nat.le_refl _) _
 obtain⟨u2,n⟩:∃ u2,u1.setCell ⟨g,1,none⟩ (.int .i64 cur)=u2:=⟨_,rfl⟩;have i:u2.heap[g]? =some (.cells #[v0,.int .i64 cur,.int .i64 0,.int .i64 0,.slice none 0 0,.slice none 0 0,.float .f64 0] 56):=by rw [<- n];exact av _ r
 have B:Below g wr u2:=by rw [<- n];exact y.setCell (p:=⟨g,1,none⟩) (Nat.le_refl _) _
 obtain⟨u3,q⟩:∃ u3,u2.setCell ⟨g,2,none⟩ (.int .i64 base)=u3:=⟨_,rfl⟩;have u:u3.heap[g]? =some (.cells #[v0,.int .i64 cur,.int .i64 base,.int .i64 0,.slice none 0 0,.slice none 0 0,.float .f64 0] 56):=by rw [<- q];exact av _ i
 have z:Below g wr u3:=by rw [<- q];exact B.setCell (p:=⟨g,2,none⟩) (Nat.le_refl _) _
 obtain⟨a,k⟩:∃ a,u3.setCell ⟨g,3,none⟩ (.int .i64 kind)=a:=⟨_,rfl⟩;have o:a.heap[g]? =some (.cells #[v0,.int .i64 cur,.int .i64 base,.int .i64 kind,.slice none 0 0,.slice none 0 0,.float .f64 0] 56):=by rw [<- k];exact av _ u
 have w:Below g wr a:=by rw [<- k];exact z.setCell (p:=⟨g,3,none⟩) (Nat.le_refl _) _
 obtain⟨b,l⟩:∃ b,a.setCell ⟨g,4,none⟩ (e)=b:=⟨_,rfl⟩;have j:b.heap[g]? =some (.cells #[v0,.int .i64 cur,.int .i64 base,.int .i64 kind,e,.slice none 0 0,.float .f64 0] 56):=by rw [<- l];exact av _ o
 have C:Below g wr b:=by rw [<- l];exact w.setCell (p:=⟨g,4,none⟩) (Nat.le_refl _) _
 obtain⟨c,m⟩:∃ c,b.setCell ⟨g,5,none⟩ (f)=c:=⟨_,rfl⟩;have t:c.heap[g]? =some (.cells #[v0,.int .i64 cur,.int .i64 base,.int .i64 kind,e,f,.float .f64 0] 56):=by rw [<- m];exact av _ j
 have A:Below g wr c:=by rw [<- m];exact C.setCell (p:=⟨g,5,none⟩) (Nat.le_refl _) _
 obtain⟨d,v⟩:∃ d,c.setCell ⟨g,6,none⟩ (.float .f64 V)=d:=⟨_,rfl⟩;have D:d.heap[g]? =some (.cells #[v0,.int .i64 cur,.int .i64 base,.int .i64 kind,e,f,.float .f64 V] 56):=by rw [<- v];exact av _ t
 have x:Below g wr d:=by rw [<- v];exact A.setCell (p:=⟨g,6,none⟩) (Nat.le_refl _) _
 exact⟨u1,u2,u3,a,b,c,d,⟨s,by simp only [World.cell?,h,Option.isSome_none,Bool.false_eq_true,if_false];rfl,frozen_of_row _ _ 0 _ _ h⟩,⟨n,by simp only [World.cell?,r,Option.isSome_none,Bool.false_eq_true,if_false];rfl,frozen_of_row _ _ 1 _ _ r⟩,⟨q,by simp only [World.cell?,i,Option.isSome_none,Bool.false_eq_true,if_false];rfl,frozen_of_row _ _ 2 _ _ i⟩,⟨k,by simp only [World.cell?,u,Option.isSome_none,Bool.false_eq_true,if_false];rfl,frozen_of_row _ _ 3 _ _ u⟩,⟨l,by simp only [World.cell?,o,Option.isSome_none,Bool.false_eq_true,if_false];rfl,frozen_of_row _ _ 4 _ _ o⟩,⟨m,by simp only [World.cell?,j,Option.isSome_none,Bool.false_eq_true,if_false];rfl,frozen_of_row _ _ 5 _ _ j⟩,⟨v,by simp only [World.cell?,t,Option.isSome_none,Bool.false_eq_true,if_false];rfl,frozen_of_row _ _ 6 _ _ t⟩,⟨D⟩,x⟩
end Go.Proofs.YtfdddijdjpijbaaGreat
