/-  -/
import Derived.Test.YtkcnkhdbojdhgaaGreatHbo
import Derived.Test.YtkcnkhdbojdhgaaGreatHbn
import Derived.Deep.QuietTactic
namespace Go.Proofs.YtkcnkhdbojdhgaaGreat
open Go.RowKit

inductive FlaR (l:List Flw) (cur:Int) (c:Cv):Nat→Int→Prop
 | bad (E:Int) (h:VisR l cur c E) (hE:E≠0):FlaR l cur c 0 E
 | ok (h:FineP l cur c):FlaR l cur c (uJ l cur c) (uK l cur c)
theorem GA (l:List Flw) (cur:Int) (c:Cv):∃ V E,FlaR l cur c V E:=by
 obtain⟨E,h⟩:=jF l cur c
 by_cases h0:E=0
 ·subst h0;exact⟨_,_,.ok (kq h)⟩
 ·exact⟨0,E,.bad E h h0⟩
theorem Bb (l:List Flw) (cur:Int) (c:Cv) (pl:Option Addr) (bl ol cl N:Nat) (pd pf:Option Addr) (bd od cd b2 o2 cf:Nat) (w:World) (V:Nat) (E:Int) (h:FlaR l cur c V E) (hl:JSrc aF w pl bl ol l) (hN:l.length=N) (hNb:N≤30000) (hf:dV l) (hs:TFl w pd pf bd od b2 o2 c.ds c.fs) :
  Calls Tryz.prog 17 #[.slice pl N cl,.int .i64 cur,.agg #[.int .i64 c.base,.int .i64 c.kind,.slice pd c.ds.length cd,.slice pf c.fs.length cf]] w fun e w'=>e=.returned (.tuple #[.float .f64 V,.int .i64 E])∧Below w.heap.size w w':=by
 cases h with
 | bad E h hE=>exact Ba l cur c pl bl ol cl N pd pf bd od cd b2 o2 cf w E h hE hl hN hNb hf hs
 | ok h=>exact uM l cur c pl bl ol cl N pd pf bd od cd b2 o2 cf w h hl hN hf hs
set_option maxRecDepth 20000 in
set_option maxHeartbeats 6400000 in
theorem om (l:List Flw) (cur:Int) (c:Cv) (pl:Option Addr) (bl ol cl N:Nat) (pd pf:Option Addr) (bd od cd b2 o2 cf:Nat) (w:World) (V:Nat) (E:Int) (h:FlaR l cur c V E) (hl:JSrc aB w pl bl ol l) (hN:l.length=N) (hNb:N≤900) (hf:dV l) (hs:CSrcD w pd pf bd od b2 o2 c.ds c.fs) (hv:c.Fit) :
  Calls Tryz.prog 18 #[.slice pl N cl,.int .i64 cur,.agg #[.int .i64 c.base,.int .i64 c.kind,.slice pd c.ds.length cd,.slice pf c.fs.length cf]] w fun e w'=>e=.returned (.tuple #[.int .u64 (V:Int),.int .i64 E])∧Below w.heap.size w w':=by
 obtain⟨F,hF⟩:=jF l cur c
 have HK:=hideS (dt w c.base c.kind (.slice pd c.ds.length cd) (.slice pf c.fs.length cf))
 have HO:=hideS fun wx (hb:Below w.heap.size w wx)=>gI l cur c pl bl ol cl N pd pf bd od cd b2 o2 cf wx F hF (hl.below hb) hN hNb hf (hs.below hb) hv
 have HFa:=hideS fun x wx (hb:Below w.heap.size w wx)=>gh c.base c.kind x (c.E x) (c.V x) pd pf bd od cd b2 o2 cf c.ds c.fs wx (hs.below hb) (ib c.base c.kind c.ds c.fs x)
 have HQ:=hideS hl
 have HN:=hideS hN
 have HFi:=hideS hf
 have HVi:=hideS hv
 have HP:Hid (0<N→pl=some ⟨bl,ol,none⟩):=fun h=>hl.at_ (by omega)
 have HH:=hideS h
 have HF:=hideS hF
 clear h hF hl hN hf hs hv
 obtain⟨SS,hSS⟩:∃ S,(if F=0 then wsI cur c l else 0)=S:=⟨_,rfl⟩
 rw [hSS] at HO
 clear hSS
 generalize Value.slice pd c.ds.length cd=vd at *
 generalize Value.slice pf c.fs.length cf=vf at *
 obtain⟨bs,hbs⟩:∃ b,c.base=b:=⟨_,rfl⟩
 obtain⟨kd,hkd⟩:∃ b,c.kind=b:=⟨_,rfl⟩
 rw [hbs,hkd] at HK HO HFa ⊢
 have HBs:=hideS hbs
 clear hbs hkd
 go_enter Tryz.func18,Tryz.ntmps18
 go_wp2_with fail
 refine (HO.out _ HK.out.bl).mono ?_
 intro e w2 hD
 obtain⟨⟨neg,v,M,ee,rfl,hd,hdv⟩,hb2⟩:=hD
 obtain⟨p,la,ca,rfl⟩:=hd.shape
 have HK2:=hideS ((HK.out.step hb2).step ((Below.refl _ _).alloc (Nat.le_refl _) (.cells #[.int .i64 0,.bool neg,.slice p la ca,.int .i64 ee] 42)))
 clear hb2 hd hdv HK HO
 by_cases hz:F=0
 ·have HFP:=hideS ((dA HF.out).1 hz)
  have hve:V=uJ l cur c∧E=uK l cur c:=by
   cases HH.out with
   | bad E' h hE=>exact absurd ((dA h).2 HFP.out) hE
   | ok h=>exact⟨rfl,rfl⟩
  have HVE:=hideS hve
  subst hz
  clear hve
  obtain⟨w3,hw3⟩:∃ w3,w2.alloc (.cells #[.int .i64 0,.bool neg,.slice p la ca,.int .i64 ee] 42)=w3:=⟨_,rfl⟩
  rw [hw3] at HK2
  go_wp2_with fail
  go_loopw [10,11] (fun s i wr=>∃ (k z:Nat),k≤N∧s=.int .u64 (z:Int)∧i=.int .i64 k∧Hid (AgU (flO cur c l k) z)∧Hid (VBox w bs kd vd vf wr)) (fun _ i _=>N - (intOf i).toNat)
  case atStart=>exact⟨0,0,Nat.zero_le _,rfl,rfl,eY (by decide),by first | exact HK2 | (rw [hw3];exact HK2)⟩
  case round=>
   clear HK2 hw3
   obtain⟨k,z,hk,rfl,rfl,HG,H3⟩:=hrel
   obtain⟨zi,hzi⟩:∃ zi:Int,(z:Int)=zi:=⟨_,rfl⟩
   have HZI:=hideS hzi
   rw [hzi]
   clear hzi
   by_cases hlt:k<N
   ·obtain rfl:=HP.out (by omega)
    obtain⟨c0,c1,c2⟩:=(HQ.out.below H3.out.bl).cell k (by rw [HN.out];exact hlt)
    have t0:=H3.out.t0
    have t1:=H3.out.t1
    have t2:=H3.out.t2
    have t3:=H3.out.t3
    have HMm:Hid (l.getD k ar ∈ l):=kp (by rw [HN.out];exact hlt)
    have HFt:=hideS (HFi.out k)
    have HSt:Hid (flO cur c l (k+1)=if tkB cur c.base (l.getD k ar)=true then opO .add (flO cur c l k) (opO .mul (some (l.getD k ar).am) (some (c.V (l.getD k ar).day))) else flO cur c l k):=rfl
    obtain⟨q,hq⟩:∃ q,l.getD k ar=q:=⟨_,rfl⟩
    rw [hq] at c0 c1 c2 HMm HFt HSt
    have Hq:=hideS hq
    clear hq
    obtain⟨qd,qa,qc⟩:=q
    dsimp only [aB] at c0 c1 c2 HFt HSt
    by_cases ht:qc=cur∧bs≤qd
    ·obtain⟨rfl,hda⟩:=ht
     have HTy:Hid (tkB qc c.base ⟨qd,qa,qc⟩=true):=by show _=_;unfold tkB;rw [HBs.out];simp;omega
     have HE0:=hideS (HFP.out.fac _ HMm.out HTy.out)
     obtain⟨hV64,_,_⟩:=Cv.num HFP.out.ok HVi.out HE0.out
     have o1:(qc==qc)=true:=by simp
     have o2:decide (bs≤qd)=true:=decide_eq_true hda
     have HFc:=hideS (HFa.out qd)
     dsimp only at HE0 hV64
     rw [HE0.out] at HFc
     obtain⟨m1,hm1,gm⟩:=Ge (eY HFt.out) (eY hV64)
     obtain⟨s1,hs1,gs⟩:=Gf HG.out gm
     have HGn:Hid (AgU (flO qc c l (k+1)) s1):=by rw [HSt.out,if_pos HTy.out];exact gs
     have HM1:=hideS hm1
     have HS1:=hideS hs1
     obtain⟨FV,hFV⟩:∃ x,c.V qd=x:=⟨_,rfl⟩
     rw [hFV] at HFc HM1
     obtain⟨yi,hyi⟩:∃ yi:Int,(FV:Int)=yi:=⟨_,rfl⟩
     obtain⟨xi,hxi⟩:∃ xi:Int,(qa:Int)=xi:=⟨_,rfl⟩
     obtain⟨mi,hmi⟩:∃ mi:Int,(m1:Int)=mi:=⟨_,rfl⟩
     obtain⟨si,hsi⟩:∃ si:Int,(s1:Int)=si:=⟨_,rfl⟩
     rw [hyi] at HFc HM1
     rw [hxi] at c1 HM1
     rw [hmi] at HM1 HS1
     rw [hsi,HZI.out] at HS1
     have HSI:=hideS hsi
     have HXI:=hideS hxi
     clear hm1 hs1 gm gs hV64 hFV hyi hxi hmi hsi hda HG HSt HTy
     go_wp2_with fail
     go_quiet (fail)
     go_wp2_with fail
     go_region_with ((go_at_call 41;refine (HFc.out _ (H3.out.drewN _).bl).mono ?_;rintro e w5 ⟨rfl,hb5⟩;have H5:=hideS ((H3.out.drewN _).step hb5);clear hb5))
     all_goals
      clear t0 t1 t2 t3 c0 c1 c2
      obtain⟨c0,c1,c2⟩:=(HQ.out.below H5.out.bl).cell k (by rw [HN.out];exact hlt)
      rw [Hq.out] at c0 c1 c2
      dsimp only [aB] at c0 c1 c2
      rw [HXI.out] at c1
      clear c0 c2
      go_wp2_with fail
      refine (HM1.out _).mono ?_
      rintro e w6 ⟨rfl,hb6⟩
      have H6:=hideS (H5.out.step hb6)
      clear hb6 c1
      go_wp2_with fail
      refine (HS1.out _).mono ?_
      rintro e w7 ⟨rfl,hb7⟩
      have H7:=hideS (H6.out.step hb7)
      clear hb7
      go_wp2_with fail
      go_roundw
      case rel=>exact⟨k+1,s1,by omega,by rw [HSI.out],by simp,HGn,H7⟩
      case measure=>simp [intOf];omega
    ·have HSk:Hid (AgU (flO cur c l (k+1)) z):=by rw [HSt.out,if_neg (by unfold tkB;rw [HBs.out];simp;omega)];exact HG.out
     have HB6:=hideS fun n=>H3.out.drewN n
     by_cases hcu:qc=cur
     ·subst hcu
      have o1:(qc==qc)=true:=by simp
      have o2:decide (bs≤qd)=false:=decide_eq_false (fun h=>ht ⟨rfl,h⟩)
      clear ht HSt HG H3
      go_wp2_with fail
      go_quiet (fail)
      clear t0 t1 t2 t3 c0 c1 c2
      go_wp2_with fail
      go_roundw
      case rel=>exact⟨k+1,z,by omega,by rw [HZI.out],by simp,HSk,HB6.out _⟩
      case measure=>simp [intOf];omega
     ·have o1:(qc==cur)=false:=beq_eq_false_iff_ne.2 hcu
      clear ht hcu HSt HG H3
      go_wp2_with fail
      go_quiet (fail)
      clear t0 t1 t2 t3 c0 c1 c2
      go_wp2_with fail
      go_roundw
      case rel=>exact⟨k+1,z,by omega,by rw [HZI.out],by simp,HSk,HB6.out _⟩
      case measure=>simp [intOf];omega
   ·obtain rfl:k=N:=by omega
    have HFt:=hideS fun wx=>jJ z wx HG.out.u
    have e1:=yA HG.out
    have HT:Hid (tldV z=V∧iN z=E):=by
     rw [HVE.out.1,HVE.out.2]
     unfold uJ uK
     rw [HN.out];exact e1
    rw [HT.out.1,HT.out.2,HZI.out] at HFt
    clear e1
    go_wp2_with (go_at_call 48;refine (HFt.out _).mono ?_;rintro e w' ⟨rfl,rfl⟩)
    go_ret2
    exact⟨rfl,H3.out.bl⟩
 ·have e1:V=0∧E=F:=by
   cases HH.out with
   | bad E' h hE=>exact⟨rfl,bB h HF.out⟩
   | ok h=>exact absurd ((dA HF.out).2 h) hz
  have d1:(F !=0)=true:=bne_iff_ne.2 hz
  have HE:=hideS e1
  clear e1 hz
  go_wp2_with fail
  go_ret2
  rw [HE.out.1,HE.out.2]
  exact⟨rfl,HK2.out.bl⟩
end Go.Proofs.YtkcnkhdbojdhgaaGreat
namespace Go.Proofs.YtkcnkhdbojdhgaaGreat
open Go.RowKit

theorem nC (base kind:Int) (pl pd pf:Option Addr) (N cl D cd F cf:Nat) (w:World) :
  Calls Tryz.prog 9 #[.slice pl N cl,.agg #[.int .i64 base,.int .i64 kind,.slice pd D cd,.slice pf F cf]] w fun e w'=>e=.returned (.bool (decide (N≤60∧D≤12∧F≤12)))∧Below w.heap.size w w':=by
 have HB:=hideS (bK w base kind (.slice pd D cd) (.slice pf F cf))
 have t2:=HB.out.t2
 have t3:=HB.out.t3
 by_cases h1:N≤60<;>by_cases h2:D≤12<;>by_cases h3:F≤12
 all_goals
  first | rw [decide_eq_true (⟨h1,h2,h3⟩:N≤60∧D≤12∧F≤12)] | rw [decide_eq_false (fun h:N≤60∧D≤12∧F≤12=>by omega)]
  have f3:decide ((F:Int)≤12)=decide (F≤12):=decide_eq_decide.2 (by omega)
  first | rw [decide_eq_true h3] at f3 | rw [decide_eq_false h3] at f3
  go_enter Tryz.func9,Tryz.ntmps9
  go_wp2_with fail
  go_ret
  exact⟨rfl,HB.out.bl⟩
def xL:List Flw:=[⟨50,4616189618054758400,1⟩,⟨200,4620693217682128896,1⟩,⟨10,4607182418800017408,2⟩]
def xC:Cv:=⟨0,2,avD,avF⟩
def xn:Obj:=.cells #[.int .i64 50,.float .f64 4616189618054758400,.int .i64 1,.int .i64 200,.float .f64 4620693217682128896,.int .i64 1,.int .i64 10,.float .f64 4607182418800017408,.int .i64 2] 81
theorem II (w:World):JSrc aF (w.alloc xn) (some ⟨w.heap.size,0,none⟩) w.heap.size 0 xL:=by
 have h:=heap_alloc_new w xn
 refine⟨fun _=>rfl,fun _=>(Array.getElem?_eq_some_iff.1 h).1,fun i hi=>?_⟩
 have hi3:i<3:=hi
 unfold xn at h
 rcases (show i=0∨i=1∨i=2 by omega) with rfl | rfl | rfl
 all_goals
  refine⟨?_,?_,?_⟩
  all_goals
   simp only [World.cell?,h,xn,Option.isSome_none,Bool.false_eq_true,if_false]
   rfl
theorem xo:dV xL:=fun i=>by
 rcases (show i=0∨i=1∨i=2∨3≤i by omega) with rfl | rfl | rfl | h
 ·decide
 ·decide
 ·decide
 ·rw [List.getD_eq_getElem?_getD,List.getElem?_eq_none (by exact h)];decide
theorem EA:linV (ctY avF) 0 100 10=4606732058837280358:=by decide+kernel
theorem GB:FacO 0 2 avD avF 10 4606732058837280358 0:=by
 have hI:Inside (ctX 0 avD) 10 0 100 10:=⟨by decide,by decide,by decide,by decide,by decide⟩
 have hk:FindR (ctX 0 avD) 10 0:=⟨by decide,by decide,fun _=>by decide⟩
 have:=AtO.piece (kind:=2) (xs:=ctX 0 avD) (ys:=ctY avF) (x:=10) 0 100 10 av_ok.table (.at_ av_ok.table (by decide) (by decide) 0 hk (fun j hj=>by omega)) hk (by decide) hI
 unfold wX at this
 rw [if_neg (by decide),if_pos rfl,EA] at this
 exact .ok av_ok _ _ this
theorem xC_50:xC.V 50=4604930618986332160∧xC.E 50=0:=rg av_ok Jm
theorem xC_200:xC.V 200=4598175219545276416∧xC.E 200=0:=rg av_ok (.ok av_ok _ _ (DX av_ok (i:=2) (by decide)))
theorem xC_10:xC.V 10=4606732058837280358∧xC.E 10=0:=rg av_ok GB
theorem EB:∀ f ∈ xL,dU f=0:=by decide
theorem uO:FineP xL 1 xC:=⟨by decide,EB,by decide,av_ok,fun f hf ht=>by
 simp only [xL,List.mem_cons,List.not_mem_nil,or_false] at hf
 rcases hf with rfl | rfl | rfl
 ·exact xC_50.2
 ·exact xC_200.2
 ·exact absurd ht (by decide)⟩
theorem EC:FineP xL 2 xC:=⟨by decide,EB,by decide,av_ok,fun f hf ht=>by
 simp only [xL,List.mem_cons,List.not_mem_nil,or_false] at hf
 rcases hf with rfl | rfl | rfl
 ·exact absurd ht (by decide)
 ·exact absurd ht (by decide)
 ·exact xC_10.2⟩
def kW (u v:Int):Int:=aw u*aw v*((2^(aL u+aL v+2148).toNat:Nat):Int)
theorem nD (u v:Int):(A.dQ u v).N=kW u v:=by unfold A.dQ kW;rw [Int.natCast_pow];rfl
theorem GC:wsI 1 xC xL=kW 4616189618054758400 4604930618986332160+(kW 4620693217682128896 4598175219545276416+(0+0)):=by
 have e1:ctI 1 xC ⟨50,4616189618054758400,1⟩=kW 4616189618054758400 4604930618986332160:=by
  unfold ctI;rw [if_pos (by decide)];unfold prI;dsimp only;rw [xC_50.1,nD];rfl
 have e2:ctI 1 xC ⟨200,4620693217682128896,1⟩=kW 4620693217682128896 4598175219545276416:=by
  unfold ctI;rw [if_pos (by decide)];unfold prI;dsimp only;rw [xC_200.1,nD];rfl
 have e3:ctI 1 xC ⟨10,4607182418800017408,2⟩=0:=by
  unfold ctI;rw [if_neg (by decide)]
 simp only [wsI,xL]
 rw [e1,e2,e3]
theorem GD:wsI 2 xC xL=0+(0+(kW 4607182418800017408 4606732058837280358+0)):=by
 have e1:ctI 2 xC ⟨50,4616189618054758400,1⟩=0:=by unfold ctI;rw [if_neg (by decide)]
 have e2:ctI 2 xC ⟨200,4620693217682128896,1⟩=0:=by unfold ctI;rw [if_neg (by decide)]
 have e3:ctI 2 xC ⟨10,4607182418800017408,2⟩=kW 4607182418800017408 4606732058837280358:=by
  unfold ctI;rw [if_pos (by decide)];unfold prI;dsimp only;rw [xC_10.1,nD];rfl
 simp only [wsI,xL]
 rw [e1,e2,e3]
theorem GF:valF (wsI 1 xC xL)=4617315517961601024:=by rw [GC];decide+kernel
theorem xL_val2:valF (wsI 2 xC xL)=4606732058837280358∧A.dq (wsI 2 xC xL)=1:=by rw [GD];exact⟨by decide+kernel,by decide+kernel⟩
theorem GG:flO 1 xC xL 3=some 4617315517961601024:=by
 have h3:flO 1 xC xL 3=flO 1 xC xL 2:=by
  show (if tkB 1 xC.base (xL.getD 2 ar)=true then _ else _)=_
  rw [if_neg (by decide)]
 have h2:flO 1 xC xL 2=opO .add (flO 1 xC xL 1) (opO .mul (some 4620693217682128896) (some 4598175219545276416)):=by
  show (if tkB 1 xC.base (xL.getD 1 ar)=true then _ else _)=_
  rw [if_pos (by decide),show (xL.getD 1 ar).day=200 from rfl,xC_200.1];rfl
 have h1:flO 1 xC xL 1=opO .add (some 0) (opO .mul (some 4616189618054758400) (some 4604930618986332160)):=by
  show (if tkB 1 xC.base (xL.getD 0 ar)=true then _ else _)=_
  rw [if_pos (by decide),show (xL.getD 0 ar).day=50 from rfl,xC_50.1];rfl
 rw [h3,h2,h1]
 decide+kernel
theorem jK:bf ((4617315517961601024:Nat):Int)=true:=by decide
theorem xL_pre:AT xL 1 xC=4617315517961601024∧AU xL 1 xC=0:=by
 unfold AT AU;rw [GF];unfold tldV iN;rw [if_pos jK,if_pos jK];exact⟨rfl,rfl⟩
theorem xL_fla:uJ xL 1 xC=4617315517961601024∧uK xL 1 xC=0:=by
 unfold uJ uK;rw [show xL.length=3 from rfl,GG];unfold gdO tldV iN;rw [Option.getD_some,if_pos jK,if_pos jK];exact⟨rfl,rfl⟩

set_option maxRecDepth 40000 in
set_option maxHeartbeats 6400000 in
theorem yB (w:World):Calls Tryz.prog 10 #[] w fun e w'=>e=.returned (.bool true)∧Below w.heap.size w w':=by
 obtain⟨⟨c0,c1,c2,c3⟩,fz⟩:=Be w
 have z0:=fz 0
 have z1:=fz 1
 have z2:=fz 2
 have z3:=fz 3
 have HS:=hideS (kx w).1.1
 have HB:=hideS (IH w)
 clear fz
 obtain⟨w3,hw3⟩:∃ w3,av3 w=w3:=⟨_,rfl⟩
 rw [hw3] at c0 c1 c2 c3 z0 z1 z2 z3 HB HS
 obtain⟨w4,hw4⟩:∃ w4,av4 w w3=w4:=⟨_,rfl⟩
 rw [hw4] at HB
 unfold av3 rv uN Bc at hw3
 unfold av4 at hw4
 have q1:(FloatKind.f64.format.order 4617315517961601024 4617315517961601024==some .eq)=true:=by kernel_rfl
 have q2:(FloatKind.f64.format.order 4606732058837280358 4606732058837280358==some .eq)=true:=by kernel_rfl
 have HSr:=hideS (II w4)
 have HB5:=hideS (HB.out.step ((Below.refl _ w4).alloc (Nat.le_refl _) xn))
 obtain⟨w5,hw5⟩:∃ w5,w4.alloc xn=w5:=⟨_,rfl⟩
 rw [hw5] at HSr HB5
 unfold xn at hw5
 obtain⟨g,hg⟩:∃ g,w4.heap.size=g:=⟨_,rfl⟩
 rw [hg] at HSr
 have HPr:Hid (∀ wx,Below w5.heap.size w5 wx→Calls Tryz.prog 15 #[.slice (some ⟨g,0,none⟩) 3 3,.int .i64 1,.agg #[.int .i64 0,.int .i64 2,.slice (some ⟨w.heap.size,0,none⟩) 2 2,.slice (some ⟨w.heap.size+1,0,none⟩) 2 2]] wx fun e w'=>e=.returned (.tuple #[.float .f64 4617315517961601024,.int .i64 0])∧Below wx.heap.size wx w'):=fun wx hb=>by
  have:=yz xL 1 xC (some ⟨g,0,none⟩) g 0 3 3 (some ⟨w.heap.size,0,none⟩) (some ⟨w.heap.size+1,0,none⟩) w.heap.size 0 2 (w.heap.size+1) 0 2 wx uO (HSr.out.below hb) rfl xo (HB5.out.src.below hb)
  rw [xL_pre.1,xL_pre.2] at this
  exact this
 have HFl:Hid (∀ wx,Below w5.heap.size w5 wx→Calls Tryz.prog 17 #[.slice (some ⟨g,0,none⟩) 3 3,.int .i64 1,.agg #[.int .i64 0,.int .i64 2,.slice (some ⟨w.heap.size,0,none⟩) 2 2,.slice (some ⟨w.heap.size+1,0,none⟩) 2 2]] wx fun e w'=>e=.returned (.tuple #[.float .f64 4617315517961601024,.int .i64 0])∧Below wx.heap.size wx w'):=fun wx hb=>by
  have:=uM xL 1 xC (some ⟨g,0,none⟩) g 0 3 3 (some ⟨w.heap.size,0,none⟩) (some ⟨w.heap.size+1,0,none⟩) w.heap.size 0 2 (w.heap.size+1) 0 2 wx uO (HSr.out.below hb) rfl xo (HB5.out.src.below hb)
  rw [xL_fla.1,xL_fla.2] at this
  exact this
 have HOf:Hid (∀ wx,Below w5.heap.size w5 wx→Calls Tryz.prog 13 #[.slice (some ⟨g,0,none⟩) 3 3,.int .i64 2,.agg #[.int .i64 0,.int .i64 2,.slice (some ⟨w.heap.size,0,none⟩) 2 2,.slice (some ⟨w.heap.size+1,0,none⟩) 2 2]] wx fun e w'=>∃ g,e=.returned (.tuple #[.pointer (some ⟨g,0,none⟩),.int .i64 0])∧WAt w' g (wsI 2 xC xL) 73∧Below wx.heap.size wx w'):=fun wx hb=>
  Eu xL 2 xC (some ⟨g,0,none⟩) g 0 3 3 (some ⟨w.heap.size,0,none⟩) (some ⟨w.heap.size+1,0,none⟩) w.heap.size 0 2 (w.heap.size+1) 0 2 wx EC (HSr.out.below hb) rfl xo (HB5.out.src.below hb)
 have HNo:=hideS rq
 have t0:=HB5.out.t0
 have t1:=HB5.out.t1
 have t2:=HB5.out.t2
 have t3:=HB5.out.t3
 clear HB
 go_enter Tryz.func10,Tryz.ntmps10
 go_wp2_with fail
 clear hw3 hw4 hw5 hg c0 c1 c2 c3 z0 z1 z2 z3 t0 t1 t2 t3 HS
 refine (HPr.out _ (Below.refl _ _)).mono ?_
 rintro e w6 ⟨rfl,hb6⟩
 have HB6:=hideS (HB5.out.step hb6)
 have HL6:=hideS hb6
 clear hb6 HPr
 have t0:=HB6.out.t0
 have t1:=HB6.out.t1
 have t2:=HB6.out.t2
 have t3:=HB6.out.t3
 go_wp2_with fail
 clear t0 t1 t2 t3
 refine (HFl.out _ HL6.out).mono ?_
 rintro e w7 ⟨rfl,hb7⟩
 have HB7:=hideS (HB6.out.step hb7)
 have HL7:=hideS (HL6.out.trans (hb7.mono HL6.out.size))
 clear hb7 HFl HB6 HL6
 have t0:=HB7.out.t0
 have t1:=HB7.out.t1
 have t2:=HB7.out.t2
 have t3:=HB7.out.t3
 go_wp2_with fail
 clear t0 t1 t2 t3
 refine (HOf.out _ HL7.out).mono ?_
 rintro e w8 ⟨r,rfl,hr,hb8⟩
 have HB8:=hideS (HB7.out.step hb8).bl
 have HW8:=hideS hr
 clear hb8 hr HOf HB7 HL7
 go_wp2_with fail
 refine (HNo.out w8).mono ?_
 rintro e w9 ⟨n,rfl,hn,hb9⟩
 have HB9:=hideS (HB8.out.trans (hb9.mono HB8.out.size))
 obtain⟨b,v,d0,ha⟩:=(HW8.out.below hb9).at_
 obtain⟨b',v',d1,ha'⟩:=hn.at_
 have HVa:=hideS (WAt.value ha (by decide))
 rw [xL_val2.1] at HVa
 have hlt:=(HW8.out.below hb9).lt
 have hlt':=hn.lt
 have HSg:=hideS fun wx (hb:Below w9.heap.size w9 wx)=>WAt.sign (ha.below hb) (by decide)
 have HSn:=hideS fun wx (hb:Below w9.heap.size w9 wx)=>WAt.sign (ha'.below hb) (by decide)
 rw [xL_val2.2] at HSg
 rw [show A.dq 0=0 from by decide] at HSn
 clear hb9 hn ha ha' HW8 HB8 HNo
 go_wp2_with fail
 refine HVa.out.mono ?_
 rintro e w10 ⟨rfl,hb10⟩
 have g0:w10.cell? ⟨r,0,none⟩=some (.pointer (some ⟨b,0,none⟩)):=(hb10.cell (p:=⟨r,0,none⟩) hlt).trans d0
 have g1:w10.cell? ⟨n,0,none⟩=some (.pointer (some ⟨b',0,none⟩)):=(hb10.cell (p:=⟨n,0,none⟩) hlt').trans d1
 have HBx:=hideS (HB9.out.trans (hb10.mono HB9.out.size))
 have HSg':=hideS (HSg.out _ hb10)
 have HSn':=hideS (HSn.out _ hb10)
 clear hb10 d0 d1 HVa HSg HSn hlt hlt'
 go_wp2_with fail
 refine HSg'.out.mono ?_
 rintro e w' ⟨rfl,rfl⟩
 go_wp2_with fail
 refine HSn'.out.mono ?_
 rintro e w' ⟨rfl,rfl⟩
 go_wp2_with fail
 go_ret
 exact⟨rfl,HBx.out⟩
end Go.Proofs.YtkcnkhdbojdhgaaGreat
