/-  -/
import Derived.Test.YtfdddijdjpijbaaGreatHbu
import Derived.Test.YtfdddijdjpijbaaGreatHbq
set_option maxHeartbeats 6400000
set_option maxRecDepth 40000
namespace Go.Proofs.YtfdddijdjpijbaaGreat
open Go.RowKit
structure DOE (w:World) (S:Int) (E:Int) (N:Nat) (e:Ending) (w':World):Prop where
 ex:∃ neg v M ee,e=.returned (.tuple #[AV 0 neg v ee,.int .i64 E])/\DN w' v M/\DV 0 neg M ee S N
 bl:Below w.heap.size w w'
theorem GY {x y:Nat} (b:ay (x:Int)=true) (a:ay (y:Int)=true):A.bn x y=A.fR (x:Int) (y:Int):=by
 unfold A.bn;rw [b,a];rfl
theorem DO.tail {w wr:World} {i m:Int} {f j:Value} {S:Int} {k:Nat} (h:DO w wr i m f j ⟨0,S⟩ k):∃ neg p l c M e,Held4 wr (w.heap.size+2) 0 neg (.slice p l c) e/\Held4 wr (w.heap.size+1) 0 false (.slice none 0 0) 0/\Held4 (put4 wr (w.heap.size+1) 0 neg (.slice p l c) e) (w.heap.size+1) 0 neg (.slice p l c) e/\DN (put4 wr (w.heap.size+1) 0 neg (.slice p l c) e) (.slice p l c) M/\DV 0 neg M e S k/\Below w.heap.size w (put4 wr (w.heap.size+1) 0 neg (.slice p l c) e):=by
 obtain⟨neg,v,M,e,d,a,b,g⟩:=h.h.ex;obtain⟨p,l,c,rfl⟩:=a.shape;exact⟨neg,p,l,c,M,e,eF d,eF h.r,eF (mQ h.r),lJ a b (by omega),g,bX h.h.bl (by omega)⟩
theorem DO.zero {w wr:World} {b e:Int} {c d:Value} {a:A.St} {k:Nat} (h:DO w wr b e c d a k):Held4 wr (w.heap.size+1) 0 false (.slice none 0 0) 0/\Held4 (put4 wr (w.heap.size+1) 0 false (.slice none 0 0) 0) (w.heap.size+1) 0 false (.slice none 0 0) 0/\Below w.heap.size w (put4 wr (w.heap.size+1) 0 false (.slice none 0 0) 0):=
 ⟨eF h.r,eF (mQ h.r),bX h.h.bl (by omega)⟩
theorem Ar (l:List Flw) (cur:Int) (c:Cv) (pl:Option Addr) (bl ol cl N:Nat) (pd pf:Option Addr) (bd od cd b2 o2 cf:Nat) (w:World) (E:Int) (hE:VisR l cur c E) (hl:JSrc aB w pl bl ol l) (hN:l.length=N) (da:N<=900) (hf:dB l) (hs:CSrcD w pd pf bd od b2 o2 c.ds c.fs) (hv:c.Fit) :
  Calls Tryz.prog 44 #[.slice pl N cl,.int .i64 cur,.agg #[.int .i64 c.base,.int .i64 c.kind,.slice pd c.ds.length cd,.slice pf c.fs.length cf]] w fun e w'=>DOE w (if E=0 then wsI cur c l else 0) E N e w':=by
 obtain⟨E1,K1,h1⟩:=wF l;obtain⟨E2,h2⟩:=oX c.base c.kind c.ds c.fs;have O:=hideS fun wx (W:Below w.heap.size w wx)=>sb l cur c pl bl ol cl N pd pf bd od cd b2 o2 cf wx E1 K1 E2 h1 h2 (hl.below W) hN (by omega) hf (hs.below W)
 have cm:=hideS fun x wx (W:Below w.heap.size w wx)=>oG c.base c.kind x (c.E x) (c.V x) pd pf bd od cd b2 o2 cf c.ds c.fs wx (hs.below W) (lZ c.base c.kind c.ds c.fs x)
 have H0:=hideS (Rj w c.base c.kind (.slice pd c.ds.length cd) (.slice pf c.fs.length cf));have HE:=hideS hE;have HQ:=hideS hl;have HN:=hideS hN;have HF:=hideS hf;have HV:=hideS hv;have HP:Hid (0<N->pl=some ⟨bl,ol,none⟩):=fun h=>hl.at_ (by omega)
 have H1:=hideS h1;have H2:=hideS h2;clear hE hl hN hf hs h1 h2 hv;generalize Value.slice pd c.ds.length cd=vd at *
 generalize Value.slice pf c.fs.length cf=vf at *
 obtain⟨bs,bh⟩:∃ b,c.base=b:=⟨_,rfl⟩;obtain⟨kd,cr⟩:∃ b,c.kind=b:=⟨_,rfl⟩;rw [bh,cr] at O cm H0 ⊢
 have bk:=hideS bh;clear bh cr;obtain⟨SS,bi⟩:∃ S,(if E=0 then wsI cur c l else 0)=S:=⟨_,rfl⟩
 rw [bi];have ba:=hideS bi;clear bi;obtain⟨A,m⟩:∃ A:Int,(if E1=0 then (if 1<=cur/\cur<=8 then E2 else 140) else E1)=A:=⟨_,rfl⟩
 rw [m] at O
 have HA:=hideS m;clear m;obtain⟨z1,cv⟩:∃ z1,(w.alloc (.cells #[.int .i64 bs,.int .i64 kd,vd,vf] 39)).alloc (.cells #[.int .i64 0,.bool false,.slice none 0 0,.int .i64 0] 85)=z1:=⟨_,rfl⟩
 go_enter Tryz.func44,Tryz.ntmps44
 clear cv
 go_wp2_with fail
 refine (O.out _ H0.out.h.bl).mono ?_
 rintro e w2 ⟨rfl,cp⟩;have bb:=hideS (H0.out.below cp);clear cp H0 O
 by_cases F:A=0
 ·subst F;have bo:ChkF l 0 0/\(1<=cur/\cur<=8)/\c.Ok:=by
   have m:=HA.out
   by_cases e1:E1=0
   ·subst e1;rw [if_pos rfl] at m
    obtain rfl:=ke H1.out
    by_cases R:1<=cur/\cur<=8
    ·rw [if_pos R] at m
     subst m;exact⟨H1.out,R,ka H2.out⟩
    ·rw [if_neg R] at m;cases m
   ·rw [if_neg e1] at m;exact absurd m e1
  have o:=hideS bo;clear bo HA H1 H2
  go_wp2_with fail
  go_loopw [10] (fun i wr=>∃ k:Nat,k<=N/\i=.int .i64 k/\Hid (∀ j<k,tkB cur c.base (l.getD j aC)=true->c.E (l.getD j aC).day=0)/\Hid (DO w wr bs kd vd vf ⟨0,wsI cur c (l.take k)⟩ k)) (fun i _=>N - (intOf i).toNat)
  case atStart=>exact⟨0,Nat.zero_le _,rfl,fun j hj=>by omega,bb⟩
  case round=>
   clear bb;obtain⟨k,hk,rfl,K,T⟩:=hrel
   by_cases C:k<N
   ·obtain rfl:=HP.out (by omega)
    obtain⟨c0,c1,c2⟩:=(HQ.out.below T.out.h.bl).cell k (by rw [HN.out];exact C)
    obtain⟨t0,t1,t2,t3⟩:=T.out.t;have z:=hideS (qZ (cur:=cur) (c:=c) (l:=l) (k:=k) (by rw [HN.out];exact C))
    have cc:=hideS ((Ce o.out.1).2 k (by rw [HN.out];exact C))
    have ai:=hideS (HF.out k);obtain⟨q,hq⟩:∃ q,l.getD k aC=q:=⟨_,rfl⟩;rw [hq] at c0 c1 c2 z cc ai
    have Hq:=hideS hq;clear hq;obtain⟨qd,qa,B⟩:=q;dsimp only [aB] at c0 c1 c2 ai
    by_cases ht:B=cur/\bs<=qd
    ·obtain⟨rfl,cx⟩:=ht;have o1:(B !=B)=false:=by simp
     have o2:decide (qd<bs)=false:=decide_eq_false (by omega)
     have al:Hid (tkB B c.base ⟨qd,qa,B⟩=true):=by show _=_;unfold tkB;rw [bk.out];simp;omega
     have Z:=hideS (cm.out qd);obtain⟨FE,bc⟩:∃ x,c.E qd=x:=⟨_,rfl⟩;obtain⟨FV,ad⟩:∃ x,c.V qd=x:=⟨_,rfl⟩;rw [bc,ad] at Z
     obtain⟨yi,am⟩:∃ yi:Int,yi=(FV:Int):=⟨_,rfl⟩;rw [<- am] at Z
     have bx:=hideS am;clear am;have L:=hideS bc;have ci:=hideS ad;clear bc ad cx
     go_wp2_with fail
     go_quiet (fail)
     go_wp2_with fail
     go_region_with ((go_at_call 66;refine (Z.out _ ((T.out.drewN _).h.bl)).mono ?_;rintro e w5 ⟨rfl,cq⟩;have H5:=hideS ((T.out.drewN _).below cq);clear cq))
     all_goals
      clear t0 t1 t2 t3 c0 c1 c2
      by_cases F:FE=0
      ·subst F;have u:Hid (∀ j<k+1,tkB B c.base (l.getD j aC)=true->c.E (l.getD j aC).day=0):=fun j hj hy=>by
        by_cases d:j<k
        ·exact K.out j d hy
        ·obtain rfl:j=k:=by omega
         rw [Hq.out];exact L.out
       obtain⟨D,_,_⟩:=Cv.num o.out.2.2 HV.out L.out;have Y:=Cv.splV o.out.2.2 HV.out L.out;rw [ci.out] at D Y
       obtain⟨c0,c1,c2⟩:=(HQ.out.below H5.out.h.bl).cell k (by rw [HN.out];exact C)
       rw [Hq.out] at c0 c1 c2
       dsimp only [aB] at c0 c1 c2
       obtain⟨neg,va,M,ee,W,P,bv,cs⟩:=H5.out.h.ex;have h4:=eF W;obtain⟨xi,I⟩:∃ xi:Int,xi=(qa:Int):=⟨_,rfl⟩;have br:=hideS (OG 0 neg va M ee _ k qa FV xi yi w5.drew (P.drewN 1) cs (oS (by omega)) (by rw [I];exact af ai.out) (by rw [bx.out];exact af D) I bx.out)
       have e3:(⟨0,wsI B c (l.take k)⟩:A.St).merge (A.bn qa FV)=⟨0,wsI B c (l.take (k+1))⟩:=by
        rw [z.out,DX al.out,GY (KP cc.out) Y,zG rfl];unfold prI;rw [ci.out]
       rw [e3] at br
       have ct:=hideS fun w1 r (y:cw w5.drew va M ⟨0,wsI B c (l.take (k+1))⟩ (k+1) r w1)=>DO.put (H5.out.drewN 1) W bv y
       obtain⟨pa,la,ca,rfl⟩:=P.shape;have q0:=h4.c0;have q1:=h4.c1;have q2:=h4.c2;have q3:=h4.c3;rw [<- I] at c1
       clear D Y W P bv cs h4 e3 I c0 c2 al z
       go_wp2_with fail
       go_region_with ((go_at_call 67;refine br.out.mono ?_;intro r w1 y;obtain⟨cy,p4,l4,c4,U,rfl,J,hH⟩:=ct.out w1 r y;have HH:=hideS hH;have k0:=J.c0;have k1:=J.c1;have k2:=J.c2;have k3:=J.c3;have l0:=J.f0;have l1:=J.f1;have l2:=J.f2;have l3:=J.f3;clear y hH J))
       all_goals
        go_wp2_with fail
        go_roundw
        case rel=>exact⟨k+1,by omega,by simp,u,HH⟩
        case measure=>simp [intOf];omega
      ·have X:Hid (E=FE):=bR HE.out (.fac o.out.1 o.out.2.1 o.out.2.2 k (by rw [HN.out];exact C) (by rw [Hq.out];exact al.out) FE (by rw [Hq.out];exact L.out) F K.out)
       have d1:(FE !=0)=true:=bne_iff_ne.2 F;have Hz:=hideS F;clear F;obtain⟨f,g,p⟩:=H5.out.zero;have r0:=f.c0;have r1:=f.c1;have r2:=f.c2;have r3:=f.c3;have y0:=f.f0;have y1:=f.f1;have y2:=f.f2;have y3:=f.f3;have a:=hideS p;obtain⟨Q,s⟩:∃ Q,put4 w5 (w.heap.size+1) 0 false (.slice none 0 0) 0=Q:=⟨_,rfl⟩;rw [s] at g a
       unfold put4 at s
       have p0:=g.c0;have p1:=g.c1;have p2:=g.c2;have p3:=g.c3;clear f g p
       go_wp2_with fail
       refine bodyPost_ret (v:=.tuple #[AV 0 false (.slice none 0 0) 0,.int .i64 FE]) (by simp [results,Tryz.results44,go_sem,p0,p1,p2,p3]) rfl ?_
       exact⟨⟨false,_,0,0,by rw [X.out],Or.inl ⟨rfl,_,_,rfl⟩,by rw [<- ba.out,X.out,if_neg Hz.out];exact DV.zero (by decide) N⟩,a.out⟩
    ·have bz:Hid (∀ n,DO w (wr.drewN n) bs kd vd vf ⟨0,wsI cur c (l.take (k+1))⟩ (k+1)):=fun n=>by
      rw [z.out,KO (by unfold tkB;rw [bk.out];simp;omega),Int.add_zero]
      exact (T.out.mono (by omega)).drewN n
     have u:Hid (∀ j<k+1,tkB cur c.base (l.getD j aC)=true->c.E (l.getD j aC).day=0):=fun j hj hy=>by
      by_cases d:j<k
      ·exact K.out j d hy
      ·obtain rfl:j=k:=by omega
       rw [Hq.out] at hy
       unfold tkB at hy
       rw [bk.out] at hy
       simp at hy;omega
     by_cases ab:B=cur
     ·subst ab;have o1:(B !=B)=false:=by simp
      have o2:decide (qd<bs)=true:=decide_eq_true (by omega)
      clear ht z T
      go_wp2_with fail
      go_quiet (fail)
      clear t0 t1 t2 t3 c0 c1 c2
      go_wp2_with fail
      go_roundw
      case rel=>exact⟨k+1,by omega,by simp,u,bz.out _⟩
      case measure=>simp [intOf];omega
     ·have o1:(B !=cur)=true:=bne_iff_ne.2 ab;clear ht z T ab
      go_wp2_with fail
      go_quiet (fail)
      clear t0 t1 t2 t3 c0 c1 c2
      go_wp2_with fail
      go_roundw
      case rel=>exact⟨k+1,by omega,by simp,u,bz.out _⟩
      case measure=>simp [intOf];omega
   ·obtain rfl:k=N:=by omega
    have X:Hid (E=0):=bR HE.out (.ok o.out.1 o.out.2.1 o.out.2.2 (fun i hi=>K.out i (by rw [HN.out] at hi;exact hi)))
    have cu:Hid (wsI cur c (l.take k)=wsI cur c l):=by show _=_;rw [<- HN.out,List.take_length]
    obtain⟨neg,p4,l4,c4,M4,U,G,f,g,P,H,p⟩:=T.out.tail;have a0:=G.c0;have a1:=G.c1;have a2:=G.c2;have a3:=G.c3;have r0:=f.c0;have r1:=f.c1;have r2:=f.c2;have r3:=f.c3;have y0:=f.f0;have y1:=f.f1;have y2:=f.f2;have y3:=f.f3;have a:=hideS (And.intro P (And.intro H p));obtain⟨Q,s⟩:∃ Q,put4 wr (w.heap.size+1) 0 neg (.slice p4 l4 c4) U=Q:=⟨_,rfl⟩;rw [s] at g a
    unfold put4 at s
    have p0:=g.c0;have p1:=g.c1;have p2:=g.c2;have p3:=g.c3;clear G f g P H p
    go_wp2_with fail
    refine bodyPost_ret (v:=.tuple #[AV 0 neg (.slice p4 l4 c4) U,.int .i64 0]) (by simp [results,Tryz.results44,go_sem,p0,p1,p2,p3]) rfl ?_
    exact⟨⟨neg,_,M4,U,by rw [X.out],a.out.1,by rw [<- ba.out,X.out,if_pos rfl,<- cu.out];exact a.out.2.1⟩,a.out.2.2⟩
 ·have X:Hid (E=A):=by
   show _=_
   have m:=HA.out
   by_cases e1:E1=0
   ·subst e1;rw [if_pos rfl] at m
    have hK:=ke H1.out;subst hK
    by_cases R:1<=cur/\cur<=8
    ·rw [if_pos R] at m
     subst m;exact bR HE.out (.curve H1.out R E2 H2.out F)
    ·rw [if_neg R] at m
     rw [<- m];exact bR HE.out (.cur H1.out R)
   ·rw [if_neg e1] at m
    rw [<- m];exact bR HE.out (.flow E1 K1 H1.out e1)
  have d1:(A !=0)=true:=bne_iff_ne.2 F;have Hz:=hideS F;clear F;obtain⟨neg,p4,l4,c4,M4,U,G,f,g,P,H,p⟩:=bb.out.tail;have a0:=G.c0;have a1:=G.c1;have a2:=G.c2;have a3:=G.c3;have r0:=f.c0;have r1:=f.c1;have r2:=f.c2;have r3:=f.c3;have y0:=f.f0;have y1:=f.f1;have y2:=f.f2;have y3:=f.f3;have a:=hideS (And.intro P (And.intro H p));obtain⟨Q,s⟩:∃ Q,put4 w2 (w.heap.size+1) 0 neg (.slice p4 l4 c4) U=Q:=⟨_,rfl⟩;rw [s] at g a
  unfold put4 at s
  have p0:=g.c0;have p1:=g.c1;have p2:=g.c2;have p3:=g.c3;clear G f g P H p
  go_wp2_with fail
  refine bodyPost_ret (v:=.tuple #[AV 0 neg (.slice p4 l4 c4) U,.int .i64 A]) (by simp [results,Tryz.results44,go_sem,p0,p1,p2,p3]) rfl ?_
  exact⟨⟨neg,_,M4,U,by rw [X.out],a.out.1,by rw [<- ba.out,X.out,if_neg Hz.out];exact a.out.2.1.mono (Nat.zero_le _)⟩,a.out.2.2⟩
theorem wS (u:Nat) (w:World) (a:U64 (u:Int)) :
  Calls Tryz.prog 68 #[.int .u64 (u:Int)] w fun e b=>e=.returned (.tuple #[.int .u64 (tldV u:Int),.int .i64 (fU u)])/\b=w:=by
 have d:=hideS fun w=>bK (u:Int) w a
 unfold tldV fU;cases c:aE (u:Int)
 all_goals
  rw [c] at d
  clear c a;simp only [Bool.false_eq_true,if_false,if_true]
  go_enter Tryz.func68,Tryz.ntmps68
  go_wp2_with (go_at_call 41;refine (d.out _).mono ?_;rintro e b ⟨rfl,rfl⟩)
  go_ret2
  exact⟨rfl,rfl⟩
theorem sS (neg:Bool) (v:Value) (M:Nat) (e N:Int) (k:Nat) (w:World) (g:DN w v M) (i:DV 0 neg M e N k) (o:oB k) :
  Calls Tryz.prog 45 #[AV 0 neg v e] w fun r j=>r=.returned (.tuple #[.int .u64 (tldV (valF N):Int),.int .i64 (fU (valF N))])/\Below w.heap.size w j:=by
 obtain⟨p,l,c,rfl⟩:=g.shape;have f:Hid (Below w.heap.size w (boxA w 0 neg (.slice p l c) e)):=(Below.refl _ _).alloc (Nat.le_refl _) _;have b:=kO w 0 neg (.slice p l c) e;have h:=hideS (Pn 0 neg (.slice p l c) M e N k _ (g.below f.out) i o);have n:=hideS fun m=>wS (valF N) m (af (oZ _))
 rw [vG] at h
 generalize valF N=X at *
 have c0:(boxA w 0 neg (.slice p l c) e).cell? ⟨w.heap.size,0,none⟩=some (.int .i64 0):=by simp
 have c1:=b.1;have c2:=b.2.1;have c3:=b.2.2;clear g i b
 go_enter Tryz.func45,Tryz.ntmps45
 go_wp2_with fail
 refine h.out.mono ?_
 rintro r q ⟨rfl,a⟩;have d:=hideS (f.out.trans (a.mono f.out.size));clear a h c0 c1 c2 c3
 go_wp2_with (go_at_call 68;refine (n.out _).mono ?_;rintro e j ⟨rfl,rfl⟩)
 go_ret2
 exact⟨rfl,d.out⟩
theorem iV (l:List Flw) (cur:Int) (c:Cv) (pl:Option Addr) (bl ol T N:Nat) (j k:Option Addr) (bd Z x K L t:Nat) (w:World) (V:Nat) (E:Int) (h:PreR l cur c V E) (W:JSrc aB w pl bl ol l) (J:l.length=N) (B:N<=900) (H:dB l) (P:CSrcD w j k bd Z K L c.ds c.fs) (O:c.Fit) :
  Calls Tryz.prog 26 #[.slice pl N T,.int .i64 cur,.agg #[.int .i64 c.base,.int .i64 c.kind,.slice j c.ds.length x,.slice k c.fs.length t]] w fun e w'=>e=.returned (.tuple #[.int .u64 (V:Int),.int .i64 E])/\Below w.heap.size w w':=by
 obtain⟨F,hF⟩:=DW l cur c;have HK:=hideS (gq w c.base c.kind (.slice j c.ds.length x) (.slice k c.fs.length t));have G:=hideS fun Q (R:Below w.heap.size w Q)=>Ar l cur c pl bl ol T N j k bd Z x K L t Q F hF (W.below R) J B H (P.below R) O
 have U:=hideS h;have C:=hideS hF;clear h hF W J H P O;obtain⟨I,a⟩:∃ S,(if F=0 then wsI cur c l else 0)=S:=⟨_,rfl⟩
 rw [a] at G
 have A:=hideS a;clear a;generalize Value.slice j c.ds.length x=vd at *
 generalize Value.slice k c.fs.length t=vf at *
 go_enter Tryz.func26,Tryz.ntmps26
 go_wp2_with fail
 refine (G.out _ HK.out.bl).mono ?_
 intro e d hD;obtain⟨⟨neg,v,M,q,rfl,D,n⟩,m⟩:=hD;obtain⟨p,s,u,rfl⟩:=D.shape;have HK2:=hideS (HK.out.step m);have b:Hid (Below d.heap.size d (boxA d 0 neg (.slice p s u) q)):=(Below.refl _ _).alloc (Nat.le_refl _) _;have y:=hideS (sS neg (.slice p s u) M q I N _ (D.below b.out) n (oS (by omega)))
 have o:=kO d 0 neg (.slice p s u) q;have c0:(boxA d 0 neg (.slice p s u) q).cell? ⟨d.heap.size,0,none⟩=some (.int .i64 0):=by simp
 have c1:=o.1;have c2:=o.2.1;have c3:=o.2.2;clear m D n o HK G
 by_cases f:F=0
 ·have g:=ns U.out ((kg C.out).1 f);have e2:I=wsI cur c l:=by rw [<- A.out,if_pos f]
  rw [e2] at y
  have X:Hid (tldV (valF (wsI cur c l))=V/\fU (valF (wsI cur c l))=E):=⟨g.1.symm,g.2.symm⟩;rw [X.out.1,X.out.2] at y
  subst f;clear g e2
  go_wp2_with fail
  refine y.out.mono ?_
  rintro r w3 ⟨rfl,i⟩;have z:=hideS ((HK2.out.step b.out).step i).bl;clear i
  go_wp2_with fail
  go_ret2
  exact⟨rfl,z.out⟩
 ·have g:V=0/\E=F:=by
   cases U.out with
   | bad E' h hE=>exact⟨rfl,bR h C.out⟩
   | ok h=>exact absurd ((kg C.out).2 h) f
  have d1:(F !=0)=true:=bne_iff_ne.2 f;have Y:=hideS g;clear g f
  go_wp2_with fail
  go_ret2
  rw [Y.out.1,Y.out.2];exact⟨rfl,(HK2.out.step b.out).bl⟩
theorem LW (cur base kind a E2:Int) (h n V:Nat) (d:Cv) (pl:Option Addr) (N Q:Nat) (l q:Option Addr) (bd Y j o:Nat) (w:World)
  (B:Hid (∀ c,Below w.heap.size w c->Calls Tryz.prog 47 #[.agg #[.int .i64 base,.int .i64 kind,.slice l n j,.slice q n o],.int .u64 (h:Int)] c fun e r=>DvO c d a l bd Y j e r))
  (G:Hid (a=0->∀ c b kk U T nx kx P ky gy,DvS c d a b kk U T bd Y nx P gy->Below w.heap.size w c->Calls Tryz.prog 26 #[.slice pl N Q,.int .i64 cur,.agg #[.int .i64 b,.int .i64 kk,.slice U nx kx,.slice T P ky]] c fun e r=>e=.returned (.tuple #[.int .u64 (V:Int),.int .i64 E2])/\Below c.heap.size c r)) :
  Calls Tryz.prog 31 #[.slice pl N Q,.int .i64 cur,.agg #[.int .i64 base,.int .i64 kind,.slice l n j,.slice q n o],.int .u64 (h:Int)] w fun e r=>((a≠0/\e=.returned (.tuple #[.int .u64 0,.int .i64 a]))\/(a=0/\e=.returned (.tuple #[.int .u64 (V:Int),.int .i64 E2])))/\Below w.heap.size w r:=by
 have v:=(Below.refl w.heap.size w).alloc (Nat.le_refl _) (.cells #[.int .i64 base,.int .i64 kind,.slice l n j,.slice q n o] 39);have u:Hid (LdB w base kind (.slice l n j) (.slice q n o) (w.alloc (.cells #[.int .i64 base,.int .i64 kind,.slice l n j,.slice q n o] 39))):=⟨rW w _ _ _ _,v,by simp⟩
 obtain⟨D,z⟩:∃ D,w.alloc (.cells #[.int .i64 base,.int .i64 kind,.slice l n j,.slice q n o] 39)=D:=⟨_,rfl⟩;rw [z] at u
 obtain⟨t0,t1,t2,t3⟩:=u.out.k.t;clear v
 go_enter Tryz.func31,Tryz.ntmps31
 go_wp2_with fail
 clear z t0 t1 t2 t3;refine (B.out _ u.out.bl).mono ?_
 intro e p E;obtain⟨bb,bk,J,O,L,I,K,M,ab,he,x,_⟩:=E.shp;subst he;obtain⟨x1,x2,x3,S,⟨W,R,y0⟩,⟨e1,z1,y1⟩,⟨e2,z2,y2⟩,⟨e3,z3,y3⟩,X,s⟩:=dH p.heap.size bb bk (.slice J L I) (.slice O K M) (p.alloc bG) (heap_alloc_new _ _);have f:Below p.heap.size p S:=((Below.refl _ p).alloc (Nat.le_refl _) bG).trans s;have y:Below D.heap.size D S:=E.bl.trans (f.mono E.bl.size);have i:=hideS (u.out.step y);have H:=hideS (x.step f);obtain⟨s0,s1,s2,s3⟩:=X.t;obtain⟨Z,g⟩:∃ Z,p.alloc bG=Z:=⟨_,rfl⟩;rw [g] at W R y0
 unfold bG at g
 clear x E X s f y u B
 by_cases m:a=0
 ·have d1:(a !=0)=false:=by rw [m];rfl
  have C:=hideS m;clear m
  go_wp2_with fail
  clear g W R y0 e1 z1 y1 e2 z2 y2 e3 z3 y3;refine (G.out C.out _ _ _ _ _ _ _ _ _ _ H.out i.out.bl).mono ?_
  rintro e w5 ⟨rfl,A⟩;have F:=hideS (i.out.step A);clear A s0 s1 s2 s3
  go_wp2_with fail
  go_ret2
  exact⟨Or.inr ⟨C.out,rfl⟩,F.out.bl⟩
 ·have d1:(a !=0)=true:=bne_iff_ne.2 m;have C:=hideS m;clear m
  go_wp2_with fail
  go_ret2
  exact⟨Or.inl ⟨C.out,rfl⟩,i.out.bl⟩
theorem As (l:List Flw) (cur:Int) (c:Cv) (h:Nat) (pl:Option Addr) (bl C t N:Nat) (j k:Option Addr) (bd m u x y q:Nat) (w:World) (p:c.Ok) (P:h<18446744073709551616) (J:JSrc aB w pl bl C l) (G:l.length=N) (r:N<=900) (D:dB l) (I:CSrcD w j k bd m x y c.ds c.fs) (z:c.Fit) :
  Calls Tryz.prog 31 #[.slice pl N t,.int .i64 cur,.agg #[.int .i64 c.base,.int .i64 c.kind,.slice j c.ds.length u,.slice k c.fs.length q],.int .u64 (h:Int)] w fun e B=>e=.returned (.tuple #[.int .u64 (upV l cur c h:Nat),.int .i64 (upE l cur c h)])/\Below w.heap.size w B:=by
 obtain⟨d,K,v⟩:=CN (h:=h) p;have g:=p.len;have n:=LW cur c.base c.kind (paE c h) (prE l cur d) h c.ds.length (prV l cur d) d pl N t j k bd m u q w
  (fun s i=>by
   have:=CE c d (paE c h) h j k bd m u x y q s P (I.below i) z K;rw [g] at this
   exact this)
  (fun A s b R H E T Q S F M O i=>by
   obtain⟨rfl,rfl,rfl,rfl,L⟩:=O.ok A;obtain⟨rfl,o⟩:=v A;exact iV l cur (c.para h) pl bl C t N H E bd m Q M 0 F s _ _ (prR l cur (c.para h)) (J.below i) G r D L (Ac p z o))
 rw [g];refine n.mono ?_
 rintro e B ⟨a,i⟩;refine⟨?_,i⟩
 unfold upV upE rU nD;rcases a with⟨f,rfl⟩| ⟨f,rfl⟩
 ·rw [if_neg f,if_neg f];rfl
 ·rw [if_pos f,if_pos f,(v f).1]
theorem mD (cur base kind E h:Int) (pl:Option Addr) (N n:Nat) (b c:Value) (w:World) (l:E≠0) (o:Hid (∀ f,Below w.heap.size w f->Calls Tryz.prog 24 #[.slice pl N n,.int .i64 cur,.agg #[.int .i64 base,.int .i64 kind,b,c],.int .u64 h] f fun e g=>e=.returned (.tuple #[.int .u64 0,.int .i64 E])/\Below f.heap.size f g)) :
  Calls Tryz.prog 14 #[.slice pl N n,.int .i64 cur,.agg #[.int .i64 base,.int .i64 kind,b,c],.int .u64 h] w fun e g=>e=.returned (.tuple #[.int .u64 0,.int .i64 E])/\Below w.heap.size w g:=by
 have p:(E !=0)=true:=bne_iff_ne.2 l;have k:=hideS (rW w base kind b c);have d:Hid (Below w.heap.size w (w.alloc (.cells #[.int .i64 base,.int .i64 kind,b,c] 39))):=(Below.refl _ _).alloc (Nat.le_refl _) _;clear l;obtain⟨m,j⟩:∃ m,w.alloc (.cells #[.int .i64 base,.int .i64 kind,b,c] 39)=m:=⟨_,rfl⟩;rw [j] at k d
 obtain⟨s,q,u,v⟩:=k.out.t
 go_enter Tryz.func14,Tryz.ntmps14
 go_wp2_with fail
 refine (o.out _ d.out).mono ?_
 rintro e r ⟨rfl,a⟩;have i:=hideS (d.out.trans (a.mono d.out.size));clear a
 go_wp2_with fail
 go_ret2
 exact⟨rfl,i.out⟩
theorem Au (cur base kind c E h:Int) (V0 B X:Nat) (pl:Option Addr) (N x:Nat) (d g:Value) (w:World)
  (D:Hid (∀ a,Below w.heap.size w a->Calls Tryz.prog 24 #[.slice pl N x,.int .i64 cur,.agg #[.int .i64 base,.int .i64 kind,d,g],.int .u64 h] a fun e f=>e=.returned (.tuple #[.int .u64 (V0:Int),.int .i64 0])/\Below a.heap.size a f))
  (C:Hid (∀ a,Below w.heap.size w a->Calls Tryz.prog 31 #[.slice pl N x,.int .i64 cur,.agg #[.int .i64 base,.int .i64 kind,d,g],.int .u64 h] a fun e f=>e=.returned (.tuple #[.int .u64 (B:Int),.int .i64 c])/\Below a.heap.size a f))
  (G:Hid (c=0->∀ a,Calls Tryz.prog 27 #[.int .u64 (B:Int),.int .u64 (V0:Int)] a fun e f=>e=.returned (.tuple #[.int .u64 (X:Int),.int .i64 E])/\Below a.heap.size a f)) :
  Calls Tryz.prog 14 #[.slice pl N x,.int .i64 cur,.agg #[.int .i64 base,.int .i64 kind,d,g],.int .u64 h] w fun e f=>((c≠0/\e=.returned (.tuple #[.int .u64 0,.int .i64 c]))\/(c=0/\e=.returned (.tuple #[.int .u64 (X:Int),.int .i64 E])))/\Below w.heap.size w f:=by
 have m:=(Below.refl w.heap.size w).alloc (Nat.le_refl _) (.cells #[.int .i64 base,.int .i64 kind,d,g] 39);have l:Hid (LdB w base kind d g (w.alloc (.cells #[.int .i64 base,.int .i64 kind,d,g] 39))):=⟨rW w _ _ _ _,m,by simp⟩
 obtain⟨A,o⟩:∃ A,w.alloc (.cells #[.int .i64 base,.int .i64 kind,d,g] 39)=A:=⟨_,rfl⟩;rw [o] at l
 obtain⟨v,s,y,z⟩:=l.out.k.t;clear m
 go_enter Tryz.func14,Tryz.ntmps14
 go_wp2_with fail
 clear o v s y z;refine (D.out _ l.out.bl).mono ?_
 rintro e H ⟨rfl,p⟩;have b:=hideS (l.out.step p);clear p l D;obtain⟨v,s,y,z⟩:=b.out.k.t
 go_wp2_with fail
 clear v s y z;refine (C.out _ b.out.bl).mono ?_
 rintro e I ⟨rfl,n⟩;have q:=hideS (b.out.step n);clear n b C
 by_cases i:c=0
 ·have F:(c !=0)=false:=by rw [i];rfl
  have r:=hideS i;clear i
  go_wp2_with fail
  refine (G.out r.out _).mono ?_
  rintro e J ⟨rfl,j⟩;have u:=hideS (q.out.step j);clear j
  go_wp2_with fail
  go_ret2
  exact⟨Or.inr ⟨r.out,rfl⟩,u.out.bl⟩
 ·have F:(c !=0)=true:=bne_iff_ne.2 i;have r:=hideS i;clear i
  go_wp2_with fail
  go_ret2
  exact⟨Or.inl ⟨r.out,rfl⟩,q.out.bl⟩
theorem mE (cur base kind E h:Int) (pl:Option Addr) (N n:Nat) (b c:Value) (w:World) (l:E≠0) (o:Hid (∀ f,Below w.heap.size w f->Calls Tryz.prog 24 #[.slice pl N n,.int .i64 cur,.agg #[.int .i64 base,.int .i64 kind,b,c],.int .u64 h] f fun e g=>e=.returned (.tuple #[.int .u64 0,.int .i64 E])/\Below f.heap.size f g)) :
  Calls Tryz.prog 16 #[.slice pl N n,.int .i64 cur,.agg #[.int .i64 base,.int .i64 kind,b,c],.int .u64 h] w fun e g=>e=.returned (.tuple #[.int .u64 0,.int .i64 E])/\Below w.heap.size w g:=by
 have p:(E !=0)=true:=bne_iff_ne.2 l;have k:=hideS (rW w base kind b c);have d:Hid (Below w.heap.size w (w.alloc (.cells #[.int .i64 base,.int .i64 kind,b,c] 39))):=(Below.refl _ _).alloc (Nat.le_refl _) _;clear l;obtain⟨m,j⟩:∃ m,w.alloc (.cells #[.int .i64 base,.int .i64 kind,b,c] 39)=m:=⟨_,rfl⟩;rw [j] at k d
 obtain⟨s,q,u,v⟩:=k.out.t
 go_enter Tryz.func16,Tryz.ntmps16
 go_wp2_with fail
 refine (o.out _ d.out).mono ?_
 rintro e r ⟨rfl,a⟩;have i:=hideS (d.out.trans (a.mono d.out.size));clear a
 go_wp2_with fail
 go_ret2
 exact⟨rfl,i.out⟩
theorem Av (cur base kind g i E3 h fh:Int) (V0 Y DV a b X:Nat) (pl:Option Addr) (N K:Nat) (l m:Option Addr) (n p o:Nat) (w:World)
  (HG:Hid (∀ c,Below w.heap.size w c->Calls Tryz.prog 24 #[.slice pl N K,.int .i64 cur,.agg #[.int .i64 base,.int .i64 kind,.slice l n p,.slice m n o],.int .u64 h] c fun e d=>e=.returned (.tuple #[.int .u64 (V0:Int),.int .i64 0])/\Below c.heap.size c d))
  (HU:Hid (∀ c,Below w.heap.size w c->Calls Tryz.prog 31 #[.slice pl N K,.int .i64 cur,.agg #[.int .i64 base,.int .i64 kind,.slice l n p,.slice m n o],.int .u64 h] c fun e d=>e=.returned (.tuple #[.int .u64 (Y:Int),.int .i64 g])/\Below c.heap.size c d))
  (HF:Hid (∀ c,Calls Tryz.prog 34 #[.int .u64 h] c fun e d=>e=.returned (.int .u64 fh)/\c=d))
  (Z:Hid (∀ c,Below w.heap.size w c->Calls Tryz.prog 31 #[.slice pl N K,.int .i64 cur,.agg #[.int .i64 base,.int .i64 kind,.slice l n p,.slice m n o],.int .u64 fh] c fun e d=>e=.returned (.tuple #[.int .u64 (DV:Int),.int .i64 i])/\Below c.heap.size c d))
  (S:Hid (g=0->i=0->∀ c,Calls Tryz.prog 35 #[.int .u64 (Y:Int),.int .u64 (V0:Int)] c fun e d=>e=.returned (.int .u64 (a:Int))/\Below c.heap.size c d))
  (P:Hid (g=0->i=0->∀ c,Calls Tryz.prog 35 #[.int .u64 (V0:Int),.int .u64 (DV:Int)] c fun e d=>e=.returned (.int .u64 (b:Int))/\Below c.heap.size c d))
  (HS:Hid (g=0->i=0->∀ c,Calls Tryz.prog 27 #[.int .u64 (a:Int),.int .u64 (b:Int)] c fun e d=>e=.returned (.tuple #[.int .u64 (X:Int),.int .i64 E3])/\Below c.heap.size c d)) :
  Calls Tryz.prog 16 #[.slice pl N K,.int .i64 cur,.agg #[.int .i64 base,.int .i64 kind,.slice l n p,.slice m n o],.int .u64 h] w fun e d=>((g≠0/\e=.returned (.tuple #[.int .u64 0,.int .i64 g]))\/(g=0/\i≠0/\e=.returned (.tuple #[.int .u64 0,.int .i64 i]))\/(g=0/\i=0/\e=.returned (.tuple #[.int .u64 (X:Int),.int .i64 E3])))/\Below w.heap.size w d:=by
 have E:=(Below.refl w.heap.size w).alloc (Nat.le_refl _) (.cells #[.int .i64 base,.int .i64 kind,.slice l n p,.slice m n o] 39);have B:Hid (LdB w base kind (.slice l n p) (.slice m n o) (w.alloc (.cells #[.int .i64 base,.int .i64 kind,.slice l n p,.slice m n o] 39))):=⟨rW w _ _ _ _,E,by simp⟩
 obtain⟨W,G⟩:∃ W,w.alloc (.cells #[.int .i64 base,.int .i64 kind,.slice l n p,.slice m n o] 39)=W:=⟨_,rfl⟩;rw [G] at B
 obtain⟨T,L,U,V⟩:=B.out.k.t;clear E
 go_enter Tryz.func16,Tryz.ntmps16
 go_wp2_with fail
 clear G T L U V;refine (HG.out _ B.out.bl).mono ?_
 rintro e w2 ⟨rfl,I⟩;have j:=hideS (B.out.step I);clear I B HG;obtain⟨T,L,U,V⟩:=j.out.k.t
 go_wp2_with fail
 clear T L U V;refine (HU.out _ j.out.bl).mono ?_
 rintro e Q ⟨rfl,F⟩;have f:=hideS (j.out.step F);clear F j HU
 by_cases u:g=0
 ·have d1:(g !=0)=false:=by rw [u];rfl
  have r:=hideS u;clear u
  go_wp2_with fail
  have y:=hideS f.out.k.t;have A:Hid (Below w.heap.size w (Q.drewN 1)):=⟨f.out.bl.os,f.out.bl.tape,f.out.bl.output,f.out.bl.size,f.out.bl.block⟩
  go_region_held3 (fun d=>d.cell? ⟨w.heap.size,0,none⟩=some (.int .i64 base)/\d.cell? ⟨w.heap.size,1,none⟩=some (.int .i64 kind)/\d.cell? ⟨w.heap.size,2,none⟩=some (.slice l n p)/\d.cell? ⟨w.heap.size,3,none⟩=some (.slice m n o)) (first | exact y.out | exact D.out | go_keep) (first | (go_at_call 34;refine (HF.out _).mono ?_;rintro e wb ⟨rfl,rfl⟩) | (go_at_call 31;refine (Z.out _ A.out).mono ?_;rintro e w4 ⟨rfl,x⟩;have z:Below Q.heap.size Q w4:=⟨x.os,x.tape,x.output,x.size,x.block⟩;have q:=hideS (f.out.step z);have D:=hideS q.out.k.t;clear x z))
  all_goals
   clear y D A f Z HF
   by_cases s:i=0
   ·have d2:(i !=0)=false:=by rw [s];rfl
    have v:=hideS s;clear s
    go_wp2_with fail
    refine (S.out r.out v.out _).mono ?_
    rintro e w5 ⟨rfl,C⟩;have M:=hideS (q.out.step C);clear C
    go_wp2_with fail
    refine (P.out r.out v.out _).mono ?_
    rintro e w6 ⟨rfl,H⟩;have R:=hideS (M.out.step H);clear H
    go_wp2_with fail
    refine (HS.out r.out v.out _).mono ?_
    rintro e w7 ⟨rfl,J⟩;have O:=hideS (R.out.step J);clear J
    go_wp2_with fail
    go_ret2
    exact⟨Or.inr (Or.inr ⟨r.out,v.out,rfl⟩),O.out.bl⟩
   ·have d2:(i !=0)=true:=bne_iff_ne.2 s;have v:=hideS s;clear s
    go_wp2_with fail
    go_ret2
    exact⟨Or.inr (Or.inl ⟨r.out,v.out,rfl⟩),q.out.bl⟩
 ·have d1:(g !=0)=true:=bne_iff_ne.2 u;have r:=hideS u;clear u
  go_wp2_with fail
  go_ret2
  exact⟨Or.inl ⟨r.out,rfl⟩,f.out.bl⟩
theorem Eh {c:Cv} {h:Nat} (d:c.Ok) (b:aE (h:Int)=false):paE c h=91:=by
 unfold paE;rw [if_neg];intro a;have:=a 0 d.lo;unfold bmB at this
 rw [b] at this
 cases this
theorem CU {l:List Flw} {cur:Int} {c:Cv} {h:Nat} (e:upE l cur c h≠0):deV l cur c h=0/\deE l cur c h=upE l cur c h:=by
 unfold upE nD at e
 unfold deV deE oJ oK upE nD
 by_cases a:paE c h=0
 ·rw [if_pos a] at e ⊢
  rw [if_pos a,if_pos a];unfold chV chE;rw [if_neg e,if_neg e];exact⟨rfl,rfl⟩
 ·rw [if_neg a,if_neg a,if_neg a];exact⟨rfl,rfl⟩
theorem Aw {l:List Flw} {cur:Int} {c:Cv} {h:Nat} (e:upE l cur c h=0):paE c h=0/\prE l cur (c.para h)=0/\upV l cur c h=prV l cur (c.para h):=by
 unfold upE nD at e
 unfold upV rU
 by_cases a:paE c h=0
 ·rw [if_pos a] at e ⊢
  exact⟨a,e,rfl⟩
 ·rw [if_neg a] at e;exact absurd e a
theorem OO {l:List Flw} {cur:Int} {c:Cv} {h:Nat} (e:upE l cur c h=0):deV l cur c h=tldV (chO l cur (c.para h) (prV l cur c))/\deE l cur c h=fU (chO l cur (c.para h) (prV l cur c)):=by
 obtain⟨a,b,_⟩:=Aw e;unfold deV deE oJ oK chV chE;rw [if_pos a,if_pos a,if_pos b,if_pos b];exact⟨rfl,rfl⟩
theorem Ax (l:List Flw) (cur:Int) (c:Cv) (h:Nat) (pl:Option Addr) (bl F i N:Nat) (m n:Option Addr) (bd E x A C p:Nat) (w:World) (O:h<18446744073709551616) (M:JSrc aB w pl bl F l) (I:l.length=N) (s:N<=900) (H:dB l) (L:CSrcD w m n bd E A C c.ds c.fs) (J:c.Fit) :
  Calls Tryz.prog 14 #[.slice pl N i,.int .i64 cur,.agg #[.int .i64 c.base,.int .i64 c.kind,.slice m c.ds.length x,.slice n c.fs.length p],.int .u64 (h:Int)] w fun e y=>((prE l cur c≠0/\e=.returned (.tuple #[.int .u64 0,.int .i64 (prE l cur c)]))\/(prE l cur c=0/\e=.returned (.tuple #[.int .u64 (deV l cur c h:Nat),.int .i64 (deE l cur c h)])))/\Below w.heap.size w y:=by
 have j:Oo w pl N i cur c.base c.kind (.slice m c.ds.length x) (.slice n c.fs.length p) (prV l cur c) (prE l cur c):=fun g d=>iV l cur c pl bl F i N m n bd E x A C p g _ _ (prR l cur c) (M.below d) I s H (L.below d) J
 by_cases k:prE l cur c=0
 ·obtain⟨Q,_,P,R⟩:=cL k;have K:=Q.ok;rw [k] at j
  have z:∀ g,Below w.heap.size w g->_:=fun g d=>ow pl N i cur c.base c.kind h (.slice m c.ds.length x) (.slice n c.fs.length p) (prV l cur c) g O (fun D B=>j D (d.trans (B.mono d.size)))
  cases f:aE (h:Int) with
  | false=>
   rw [f] at z
   have o:upE l cur c h=91:=by unfold upE nD;rw [Eh K f];rfl
   obtain⟨v,t⟩:=CU (l:=l) (cur:=cur) (c:=c) (h:=h) (by rw [o];decide)
   refine (mD cur c.base c.kind 91 h pl N i _ _ w (by decide) z).mono ?_
   rintro e y ⟨rfl,d⟩;exact⟨Or.inr ⟨k,by rw [v,t,o];rfl⟩,d⟩
  | true=>
   rw [f] at z
   refine (Au cur c.base c.kind (upE l cur c h) (fU (chO l cur (c.para h) (prV l cur c))) h (prV l cur c) (upV l cur c h) (tldV (chO l cur (c.para h) (prV l cur c))) pl N i _ _ w z (fun g d=>As l cur c h pl bl F i N m n bd E x A C p g K O (M.below d) I s H (L.below d) J) (fun e g=>?_)).mono ?_
   ·obtain⟨_,b,u⟩:=Aw e;obtain⟨r,q⟩:=CH (V0:=prV l cur c) b P;rw [u];exact ov _ _ _ g (cL b).2.2.2 R r q.2.1
   ·rintro e y ⟨a,d⟩;refine⟨Or.inr ⟨k,?_⟩,d⟩
    rcases a with⟨G,rfl⟩| ⟨G,rfl⟩
    ·obtain⟨v,t⟩:=CU G;rw [v,t];rfl
    ·obtain⟨v,t⟩:=OO G;rw [v,t]
 ·refine (mD cur c.base c.kind (prE l cur c) h pl N i _ _ w k (fun g d=>mA pl N i cur c.base c.kind (prE l cur c) h _ _ (prV l cur c) g k (fun D B=>j D (d.trans (B.mono d.size))))).mono ?_
  rintro e y ⟨a,b⟩;exact⟨Or.inl ⟨k,a⟩,b⟩
theorem Ay (a b:Nat) (o:Option Nat) (w:World) (k:a<18446744073709551616) (g:b<18446744073709551616) (j:floatBits .sub .f64 a b=o) (m:∀ r,o=some r->r<18446744073709551616) :
  Calls Tryz.prog 27 #[.int .u64 (a:Int),.int .u64 (b:Int)] w fun e d=>e=.returned (.tuple #[.int .u64 (tlO o:Nat),.int .i64 (teO o)])/\Below w.heap.size w d:=by
 cases o with
 | some r=>exact ov a b r w k g j (m r rfl)
 | none=>
  have l:=hideS fun c=>dR a b _ _ c rfl rfl (af k) (af g)
  rw [j] at l
  have i:Hid (∀ c,Calls Tryz.prog 41 #[.int .u64 (cn none:Nat)] c fun e d=>e=.returned (.bool false)/\d=c):=fun c=>by
   have:=bK (cn none:Nat) c (by unfold cn;exact af (by decide))
   rw [show aE ((cn none:Nat):Int)=false by decide] at this
   exact this
  show Calls _ _ _ _ fun e d=>e=.returned (.tuple #[.int .u64 ((0:Nat):Int),.int .i64 91])/\Below w.heap.size w d
  clear k g j m;generalize cn none=r at *
  go_enter Tryz.func27,Tryz.ntmps27
  go_wp2_with fail
  refine (l.out _).mono ?_
  rintro e p ⟨rfl,f⟩;have h:=hideS f;clear f
  go_wp2_with fail
  refine (turned (i.out _)).mono ?_
  rintro e n ⟨rfl,rfl⟩
  go_wp2_with fail
  go_ret2
  exact⟨rfl,h.out⟩
theorem Az (l:List Flw) (cur:Int) (c:Cv) (h:Nat) (pl:Option Addr) (bl O m N:Nat) (o p:Option Addr) (bd L v F H u:Nat) (w:World) (E:h<18446744073709551616) (W:JSrc aB w pl bl O l) (T:l.length=N) (z:N<=900) (R:dB l) (V:CSrcD w o p bd L F H c.ds c.fs) (U:c.Fit) :
  Calls Tryz.prog 16 #[.slice pl N m,.int .i64 cur,.agg #[.int .i64 c.base,.int .i64 c.kind,.slice o c.ds.length v,.slice p c.fs.length u],.int .u64 (h:Int)] w fun e D=>((prE l cur c≠0/\e=.returned (.tuple #[.int .u64 0,.int .i64 (prE l cur c)]))\/(prE l cur c=0/\((upE l cur c h≠0/\e=.returned (.tuple #[.int .u64 0,.int .i64 (upE l cur c h)]))\/(upE l cur c h=0/\upE l cur c (flipN h)≠0/\e=.returned (.tuple #[.int .u64 0,.int .i64 (upE l cur c (flipN h))]))\/(upE l cur c h=0/\upE l cur c (flipN h)=0/\e=.returned (.tuple #[.int .u64 (tlO (gaO (upV l cur c h) (prV l cur c) (upV l cur c (flipN h))):Nat),.int .i64 (teO (gaO (upV l cur c h) (prV l cur c) (upV l cur c (flipN h))))])))))/\Below w.heap.size w D:=by
 have n:Oo w pl N m cur c.base c.kind (.slice o c.ds.length v) (.slice p c.fs.length u) (prV l cur c) (prE l cur c):=fun d f=>iV l cur c pl bl O m N o p bd L v F H u d _ _ (prR l cur c) (W.below f) T z R (V.below f) U
 by_cases s:prE l cur c=0
 ·obtain⟨fp,_,S,Y⟩:=cL s;have J:=fp.ok;rw [s] at n
  have B:∀ d,Below w.heap.size w d->_:=fun d f=>ow pl N m cur c.base c.kind h (.slice o c.ds.length v) (.slice p c.fs.length u) (prV l cur c) d E (fun I G=>n I (f.trans (G.mono f.size)))
  cases g:aE (h:Int) with
  | false=>
   rw [g] at B
   have y:upE l cur c h=91:=by unfold upE nD;rw [Eh J g];rfl
   refine (mE cur c.base c.kind 91 h pl N m _ _ w (by decide) B).mono ?_
   rintro e D ⟨rfl,f⟩;exact⟨Or.inr ⟨s,Or.inl ⟨by rw [y];decide,by rw [y]⟩⟩,f⟩
  | true=>
   rw [g] at B
   have K:=J.len;have P:flipN h<18446744073709551616:=(bM E).1;have M:∀ x:Nat,x<18446744073709551616->∀ d,Below w.heap.size w d->_:=fun x hx d f=>As l cur c x pl bl O m N o p bd L v F H u d J hx (W.below f) T z R (V.below f) U
   have i:upE l cur c h=0->upE l cur c (flipN h)=0->∃ k j,(upV l cur c h<18446744073709551616/\upV l cur c (flipN h)<18446744073709551616)/\floatBits .sub .f64 (upV l cur c h) (prV l cur c)=some k/\floatBits .sub .f64 (prV l cur c) (upV l cur c (flipN h))=some j/\k<18446744073709551616/\j<18446744073709551616:=fun q t=>by
    obtain⟨_,a1,a2⟩:=Aw q;obtain⟨_,Q,a4⟩:=Aw t;rw [a2,a4];obtain⟨k,A,_⟩:=jr (bt (cL a1).2.2.1) (bt S);obtain⟨j,C,_⟩:=jr (bt S) (bt (cL Q).2.2.1);exact⟨k,j,⟨(cL a1).2.2.2,(cL Q).2.2.2⟩,A,C,cR (by simp) A,cR (by simp) C⟩
   rw [K] at B M ⊢
   refine (Av cur c.base c.kind (upE l cur c h) (upE l cur c (flipN h)) (teO (gaO (upV l cur c h) (prV l cur c) (upV l cur c (flipN h)))) h (flipN h:Nat) (prV l cur c) (upV l cur c h) (upV l cur c (flipN h)) (cn (floatBits .sub .f64 (upV l cur c h) (prV l cur c))) (cn (floatBits .sub .f64 (prV l cur c) (upV l cur c (flipN h)))) (tlO (gaO (upV l cur c h) (prV l cur c) (upV l cur c (flipN h)))) pl N m o p c.ds.length v u w B (M h E) (fun d=>dQ h h _ d rfl (af E) rfl) (M (flipN h) P) (fun q t d=>?_) (fun q t d=>?_) (fun q t d=>?_)).mono ?_
   ·obtain⟨k,j,⟨X,Z⟩,_⟩:=i q t;exact dR _ _ _ _ d rfl rfl (af X) (af Y)
   ·obtain⟨k,j,⟨X,Z⟩,_⟩:=i q t;exact dR _ _ _ _ d rfl rfl (af Y) (af Z)
   ·obtain⟨k,j,_,A,C,k1,k2⟩:=i q t;have hg:gaO (upV l cur c h) (prV l cur c) (upV l cur c (flipN h))=floatBits .sub .f64 k j:=by
     unfold gaO;rw [show opO .sub (some (upV l cur c h)) (some (prV l cur c))=some k from A,show opO .sub (some (prV l cur c)) (some (upV l cur c (flipN h)))=some j from C]
     rfl
    rw [hg,A,C,ao,ao];exact Ay k j _ d k1 k2 rfl (fun r e=>cR (by simp) e)
   ·rintro e D ⟨a,f⟩;exact⟨Or.inr ⟨s,a⟩,f⟩
 ·refine (mE cur c.base c.kind (prE l cur c) h pl N m _ _ w s (fun d f=>mA pl N m cur c.base c.kind (prE l cur c) h _ _ (prV l cur c) d s (fun I G=>n I (f.trans (G.mono f.size))))).mono ?_
  rintro e D ⟨a,b⟩;exact⟨Or.inl ⟨s,a⟩,b⟩
end Go.Proofs.YtfdddijdjpijbaaGreat
