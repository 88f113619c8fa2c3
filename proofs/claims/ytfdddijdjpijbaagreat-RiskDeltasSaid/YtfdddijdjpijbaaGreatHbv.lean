/-  -/
import Derived.Test.YtfdddijdjpijbaaGreatHbu
import Derived.Test.YtfdddijdjpijbaaGreatHbq
set_option maxHeartbeats 6400000
set_option maxRecDepth 40000
namespace Go.Proofs.YtfdddijdjpijbaaGreat
open Go.RowKit
structure DOE (w:World) (S:Int) (E:Int) (N:Nat) (e:Ending) (w':World):Prop where
 ex:∃ neg v M ee,e=.returned (.tuple #[AV 0 neg v ee,.int .i64 E])/\DN w' v M/\DV 0 neg M ee S N
 bl:Below w.heap.size w w'
theorem GY {x y:Nat} (a:ay (x:Int)=true) (b:ay (y:Int)=true):A.bn x y=A.fR (x:Int) (y:Int):=by
 unfold A.bn;rw [a,b];rfl
theorem DO.tail {w wr:World} {m f:Int} {b i:Value} {S:Int} {k:Nat} (h:DO w wr m f b i ⟨0,S⟩ k):∃ neg p l c M e,Held4 wr (w.heap.size+2) 0 neg (.slice p l c) e/\Held4 wr (w.heap.size+1) 0 false (.slice none 0 0) 0/\Held4 (put4 wr (w.heap.size+1) 0 neg (.slice p l c) e) (w.heap.size+1) 0 neg (.slice p l c) e/\DN (put4 wr (w.heap.size+1) 0 neg (.slice p l c) e) (.slice p l c) M/\DV 0 neg M e S k/\Below w.heap.size w (put4 wr (w.heap.size+1) 0 neg (.slice p l c) e):=by
 obtain⟨neg,v,M,e,g,a,j,d⟩:=h.h.ex;obtain⟨p,l,c,rfl⟩:=a.shape;exact⟨neg,p,l,c,M,e,eF g,eF h.r,eF (mQ h.r),lJ a j (by omega),d,bX h.h.bl (by omega)⟩
theorem DO.zero {w wr:World} {d c:Int} {b e:Value} {a:A.St} {k:Nat} (h:DO w wr d c b e a k):Held4 wr (w.heap.size+1) 0 false (.slice none 0 0) 0/\Held4 (put4 wr (w.heap.size+1) 0 false (.slice none 0 0) 0) (w.heap.size+1) 0 false (.slice none 0 0) 0/\Below w.heap.size w (put4 wr (w.heap.size+1) 0 false (.slice none 0 0) 0):=
 ⟨eF h.r,eF (mQ h.r),bX h.h.bl (by omega)⟩
theorem Ar (l:List Flw) (cur:Int) (c:Cv) (pl:Option Addr) (bl ol cl N:Nat) (pd pf:Option Addr) (bd od cd b2 o2 cf:Nat) (w:World) (E:Int) (hE:VisR l cur c E) (hl:JSrc aB w pl bl ol l) (hN:l.length=N) (cx:N<=900) (hf:dB l) (hs:CSrcD w pd pf bd od b2 o2 c.ds c.fs) (hv:c.Fit) :
  Calls Tryz.prog 44 #[.slice pl N cl,.int .i64 cur,.agg #[.int .i64 c.base,.int .i64 c.kind,.slice pd c.ds.length cd,.slice pf c.fs.length cf]] w fun e w'=>DOE w (if E=0 then wsI cur c l else 0) E N e w':=by
 obtain⟨E1,K1,h1⟩:=wF l;obtain⟨E2,h2⟩:=oX c.base c.kind c.ds c.fs;have J:=hideS fun wx (U:Below w.heap.size w wx)=>sb l cur c pl bl ol cl N pd pf bd od cd b2 o2 cf wx E1 K1 E2 h1 h2 (hl.below U) hN (by omega) hf (hs.below U)
 have cp:=hideS fun x wx (U:Below w.heap.size w wx)=>oG c.base c.kind x (c.E x) (c.V x) pd pf bd od cd b2 o2 cf c.ds c.fs wx (hs.below U) (lZ c.base c.kind c.ds c.fs x)
 have H0:=hideS (Rj w c.base c.kind (.slice pd c.ds.length cd) (.slice pf c.fs.length cf));have HE:=hideS hE;have HQ:=hideS hl;have HN:=hideS hN;have HF:=hideS hf;have HV:=hideS hv;have HP:Hid (0<N->pl=some ⟨bl,ol,none⟩):=fun h=>hl.at_ (by omega)
 have H1:=hideS h1;have H2:=hideS h2;clear hE hl hN hf hs h1 h2 hv;generalize Value.slice pd c.ds.length cd=vd at *
 generalize Value.slice pf c.fs.length cf=vf at *
 obtain⟨bs,Y⟩:∃ b,c.base=b:=⟨_,rfl⟩;obtain⟨kd,bz⟩:∃ b,c.kind=b:=⟨_,rfl⟩;rw [Y,bz] at J cp H0 ⊢
 have bb:=hideS Y;clear Y bz;obtain⟨SS,Z⟩:∃ S,(if E=0 then wsI cur c l else 0)=S:=⟨_,rfl⟩
 rw [Z];have ab:=hideS Z;clear Z;obtain⟨A,m⟩:∃ A:Int,(if E1=0 then (if 1<=cur/\cur<=8 then E2 else 140) else E1)=A:=⟨_,rfl⟩
 rw [m] at J
 have HA:=hideS m;clear m;obtain⟨z1,cs⟩:∃ z1,(w.alloc (.cells #[.int .i64 bs,.int .i64 kd,vd,vf] 39)).alloc (.cells #[.int .i64 0,.bool false,.slice none 0 0,.int .i64 0] 85)=z1:=⟨_,rfl⟩
 go_enter Tryz.func44,Tryz.ntmps44
 clear cs
 go_wp2_with fail
 refine (J.out _ H0.out.h.bl).mono ?_
 rintro e w2 ⟨rfl,cm⟩;have as:=hideS (H0.out.below cm);clear cm H0 J
 by_cases F:A=0
 ·subst F;have br:ChkF l 0 0/\(1<=cur/\cur<=8)/\c.Ok:=by
   have m:=HA.out
   by_cases e1:E1=0
   ·subst e1;rw [if_pos rfl] at m
    obtain rfl:=ke H1.out
    by_cases X:1<=cur/\cur<=8
    ·rw [if_pos X] at m
     subst m;exact⟨H1.out,X,ka H2.out⟩
    ·rw [if_neg X] at m;cases m
   ·rw [if_neg e1] at m;exact absurd m e1
  have o:=hideS br;clear br HA H1 H2
  go_wp2_with fail
  go_loopw [10] (fun i wr=>∃ k:Nat,k<=N/\i=.int .i64 k/\Hid (∀ j<k,tkB cur c.base (l.getD j aC)=true->c.E (l.getD j aC).day=0)/\Hid (DO w wr bs kd vd vf ⟨0,wsI cur c (l.take k)⟩ k)) (fun i _=>N - (intOf i).toNat)
  case atStart=>exact⟨0,Nat.zero_le _,rfl,fun j hj=>by omega,as⟩
  case round=>
   clear as;obtain⟨k,hk,rfl,I,R⟩:=hrel
   by_cases G:k<N
   ·obtain rfl:=HP.out (by omega)
    obtain⟨c0,c1,c2⟩:=(HQ.out.below R.out.h.bl).cell k (by rw [HN.out];exact G)
    obtain⟨t0,t1,t2,t3⟩:=R.out.t;have B:=hideS (qZ (cur:=cur) (c:=c) (l:=l) (k:=k) (by rw [HN.out];exact G))
    have bi:=hideS ((Ce o.out.1).2 k (by rw [HN.out];exact G))
    have ba:=hideS (HF.out k);obtain⟨q,hq⟩:∃ q,l.getD k aC=q:=⟨_,rfl⟩;rw [hq] at c0 c1 c2 B bi ba
    have Hq:=hideS hq;clear hq;obtain⟨qd,qa,z⟩:=q;dsimp only [aB] at c0 c1 c2 ba
    by_cases ht:z=cur/\bs<=qd
    ·obtain⟨rfl,ct⟩:=ht;have o1:(z !=z)=false:=by simp
     have o2:decide (qd<bs)=false:=decide_eq_false (by omega)
     have bc:Hid (tkB z c.base ⟨qd,qa,z⟩=true):=by show _=_;unfold tkB;rw [bb.out];simp;omega
     have al:=hideS (cp.out qd);obtain⟨FE,bh⟩:∃ x,c.E qd=x:=⟨_,rfl⟩;obtain⟨FV,ad⟩:∃ x,c.V qd=x:=⟨_,rfl⟩;rw [bh,ad] at al
     obtain⟨yi,ai⟩:∃ yi:Int,yi=(FV:Int):=⟨_,rfl⟩;rw [<- ai] at al
     have cc:=hideS ai;clear ai;have K:=hideS bh;have cq:=hideS ad;clear bh ad ct
     go_wp2_with fail
     go_quiet (fail)
     go_wp2_with fail
     go_region_with ((go_at_call 66;refine (al.out _ ((R.out.drewN _).h.bl)).mono ?_;rintro e w5 ⟨rfl,bv⟩;have H5:=hideS ((R.out.drewN _).below bv);clear bv))
     all_goals
      clear t0 t1 t2 t3 c0 c1 c2
      by_cases F:FE=0
      ·subst F;have y:Hid (∀ j<k+1,tkB z c.base (l.getD j aC)=true->c.E (l.getD j aC).day=0):=fun j hj hy=>by
        by_cases d:j<k
        ·exact I.out j d hy
        ·obtain rfl:j=k:=by omega
         rw [Hq.out];exact K.out
       obtain⟨C,_,_⟩:=Cv.num o.out.2.2 HV.out K.out;have am:=Cv.splV o.out.2.2 HV.out K.out;rw [cq.out] at C am
       obtain⟨c0,c1,c2⟩:=(HQ.out.below H5.out.h.bl).cell k (by rw [HN.out];exact G)
       rw [Hq.out] at c0 c1 c2
       dsimp only [aB] at c0 c1 c2
       obtain⟨neg,va,M,ee,U,P,bo,bx⟩:=H5.out.h.ex;have h4:=eF U;obtain⟨xi,L⟩:∃ xi:Int,xi=(qa:Int):=⟨_,rfl⟩;have ci:=hideS (OG 0 neg va M ee _ k qa FV xi yi w5.drew (P.drewN 1) bx (oS (by omega)) (by rw [L];exact af ba.out) (by rw [cc.out];exact af C) L cc.out)
       have e3:(⟨0,wsI z c (l.take k)⟩:A.St).merge (A.bn qa FV)=⟨0,wsI z c (l.take (k+1))⟩:=by
        rw [B.out,DX bc.out,GY (KP bi.out) am,zG rfl];unfold prI;rw [cq.out]
       rw [e3] at ci
       have bk:=hideS fun w1 r (u:cw w5.drew va M ⟨0,wsI z c (l.take (k+1))⟩ (k+1) r w1)=>DO.put (H5.out.drewN 1) U bo u
       obtain⟨pa,la,ca,rfl⟩:=P.shape;have q0:=h4.c0;have q1:=h4.c1;have q2:=h4.c2;have q3:=h4.c3;rw [<- L] at c1
       clear C am U P bo bx h4 e3 L c0 c2 bc B
       go_wp2_with fail
       go_region_with ((go_at_call 67;refine ci.out.mono ?_;intro r w1 u;obtain⟨cv,p4,l4,c4,T,rfl,O,hH⟩:=bk.out w1 r u;have HH:=hideS hH;have k0:=O.c0;have k1:=O.c1;have k2:=O.c2;have k3:=O.c3;have l0:=O.f0;have l1:=O.f1;have l2:=O.f2;have l3:=O.f3;clear u hH O))
       all_goals
        go_wp2_with fail
        go_roundw
        case rel=>exact⟨k+1,by omega,by simp,y,HH⟩
        case measure=>simp [intOf];omega
      ·have W:Hid (E=FE):=bR HE.out (.fac o.out.1 o.out.2.1 o.out.2.2 k (by rw [HN.out];exact G) (by rw [Hq.out];exact bc.out) FE (by rw [Hq.out];exact K.out) F I.out)
       have d1:(FE !=0)=true:=bne_iff_ne.2 F;have Hz:=hideS F;clear F;obtain⟨f,g,s⟩:=H5.out.zero;have r0:=f.c0;have r1:=f.c1;have r2:=f.c2;have r3:=f.c3;have y0:=f.f0;have y1:=f.f1;have y2:=f.f2;have y3:=f.f3;have a:=hideS s;obtain⟨Q,p⟩:∃ Q,put4 w5 (w.heap.size+1) 0 false (.slice none 0 0) 0=Q:=⟨_,rfl⟩;rw [p] at g a
       unfold put4 at p
       have p0:=g.c0;have p1:=g.c1;have p2:=g.c2;have p3:=g.c3;clear f g s
       go_wp2_with fail
       refine bodyPost_ret (v:=.tuple #[AV 0 false (.slice none 0 0) 0,.int .i64 FE]) (by simp [results,Tryz.results44,go_sem,p0,p1,p2,p3]) rfl ?_
       exact⟨⟨false,_,0,0,by rw [W.out],Or.inl ⟨rfl,_,_,rfl⟩,by rw [<- ab.out,W.out,if_neg Hz.out];exact DV.zero (by decide) N⟩,a.out⟩
    ·have cr:Hid (∀ n,DO w (wr.drewN n) bs kd vd vf ⟨0,wsI cur c (l.take (k+1))⟩ (k+1)):=fun n=>by
      rw [B.out,KO (by unfold tkB;rw [bb.out];simp;omega),Int.add_zero]
      exact (R.out.mono (by omega)).drewN n
     have y:Hid (∀ j<k+1,tkB cur c.base (l.getD j aC)=true->c.E (l.getD j aC).day=0):=fun j hj hy=>by
      by_cases d:j<k
      ·exact I.out j d hy
      ·obtain rfl:j=k:=by omega
       rw [Hq.out] at hy
       unfold tkB at hy
       rw [bb.out] at hy
       simp at hy;omega
     by_cases ac:z=cur
     ·subst ac;have o1:(z !=z)=false:=by simp
      have o2:decide (qd<bs)=true:=decide_eq_true (by omega)
      clear ht B R
      go_wp2_with fail
      go_quiet (fail)
      clear t0 t1 t2 t3 c0 c1 c2
      go_wp2_with fail
      go_roundw
      case rel=>exact⟨k+1,by omega,by simp,y,cr.out _⟩
      case measure=>simp [intOf];omega
     ·have o1:(z !=cur)=true:=bne_iff_ne.2 ac;clear ht B R ac
      go_wp2_with fail
      go_quiet (fail)
      clear t0 t1 t2 t3 c0 c1 c2
      go_wp2_with fail
      go_roundw
      case rel=>exact⟨k+1,by omega,by simp,y,cr.out _⟩
      case measure=>simp [intOf];omega
   ·obtain rfl:k=N:=by omega
    have W:Hid (E=0):=bR HE.out (.ok o.out.1 o.out.2.1 o.out.2.2 (fun i hi=>I.out i (by rw [HN.out] at hi;exact hi)))
    have cu:Hid (wsI cur c (l.take k)=wsI cur c l):=by show _=_;rw [<- HN.out,List.take_length]
    obtain⟨neg,p4,l4,c4,M4,T,D,f,g,P,H,s⟩:=R.out.tail;have a0:=D.c0;have a1:=D.c1;have a2:=D.c2;have a3:=D.c3;have r0:=f.c0;have r1:=f.c1;have r2:=f.c2;have r3:=f.c3;have y0:=f.f0;have y1:=f.f1;have y2:=f.f2;have y3:=f.f3;have a:=hideS (And.intro P (And.intro H s));obtain⟨Q,p⟩:∃ Q,put4 wr (w.heap.size+1) 0 neg (.slice p4 l4 c4) T=Q:=⟨_,rfl⟩;rw [p] at g a
    unfold put4 at p
    have p0:=g.c0;have p1:=g.c1;have p2:=g.c2;have p3:=g.c3;clear D f g P H s
    go_wp2_with fail
    refine bodyPost_ret (v:=.tuple #[AV 0 neg (.slice p4 l4 c4) T,.int .i64 0]) (by simp [results,Tryz.results44,go_sem,p0,p1,p2,p3]) rfl ?_
    exact⟨⟨neg,_,M4,T,by rw [W.out],a.out.1,by rw [<- ab.out,W.out,if_pos rfl,<- cu.out];exact a.out.2.1⟩,a.out.2.2⟩
 ·have W:Hid (E=A):=by
   show _=_
   have m:=HA.out
   by_cases e1:E1=0
   ·subst e1;rw [if_pos rfl] at m
    have hK:=ke H1.out;subst hK
    by_cases X:1<=cur/\cur<=8
    ·rw [if_pos X] at m
     subst m;exact bR HE.out (.curve H1.out X E2 H2.out F)
    ·rw [if_neg X] at m
     rw [<- m];exact bR HE.out (.cur H1.out X)
   ·rw [if_neg e1] at m
    rw [<- m];exact bR HE.out (.flow E1 K1 H1.out e1)
  have d1:(A !=0)=true:=bne_iff_ne.2 F;have Hz:=hideS F;clear F;obtain⟨neg,p4,l4,c4,M4,T,D,f,g,P,H,s⟩:=as.out.tail;have a0:=D.c0;have a1:=D.c1;have a2:=D.c2;have a3:=D.c3;have r0:=f.c0;have r1:=f.c1;have r2:=f.c2;have r3:=f.c3;have y0:=f.f0;have y1:=f.f1;have y2:=f.f2;have y3:=f.f3;have a:=hideS (And.intro P (And.intro H s));obtain⟨Q,p⟩:∃ Q,put4 w2 (w.heap.size+1) 0 neg (.slice p4 l4 c4) T=Q:=⟨_,rfl⟩;rw [p] at g a
  unfold put4 at p
  have p0:=g.c0;have p1:=g.c1;have p2:=g.c2;have p3:=g.c3;clear D f g P H s
  go_wp2_with fail
  refine bodyPost_ret (v:=.tuple #[AV 0 neg (.slice p4 l4 c4) T,.int .i64 A]) (by simp [results,Tryz.results44,go_sem,p0,p1,p2,p3]) rfl ?_
  exact⟨⟨neg,_,M4,T,by rw [W.out],a.out.1,by rw [<- ab.out,W.out,if_neg Hz.out];exact a.out.2.1.mono (Nat.zero_le _)⟩,a.out.2.2⟩
theorem wS (u:Nat) (w:World) (b:U64 (u:Int)) :
  Calls Tryz.prog 68 #[.int .u64 (u:Int)] w fun e d=>e=.returned (.tuple #[.int .u64 (tldV u:Int),.int .i64 (fU u)])/\d=w:=by
 have c:=hideS fun w=>bK (u:Int) w b
 unfold tldV fU;cases a:aE (u:Int)
 all_goals
  rw [a] at c
  clear a b;simp only [Bool.false_eq_true,if_false,if_true]
  go_enter Tryz.func68,Tryz.ntmps68
  go_wp2_with (go_at_call 41;refine (c.out _).mono ?_;rintro e d ⟨rfl,rfl⟩)
  go_ret2
  exact⟨rfl,rfl⟩
theorem sS (neg:Bool) (v:Value) (M:Nat) (e N:Int) (k:Nat) (w:World) (h:DN w v M) (i:DV 0 neg M e N k) (o:oB k) :
  Calls Tryz.prog 45 #[AV 0 neg v e] w fun r j=>r=.returned (.tuple #[.int .u64 (tldV (valF N):Int),.int .i64 (fU (valF N))])/\Below w.heap.size w j:=by
 obtain⟨p,l,c,rfl⟩:=h.shape;have g:Hid (Below w.heap.size w (boxA w 0 neg (.slice p l c) e)):=(Below.refl _ _).alloc (Nat.le_refl _) _;have b:=kO w 0 neg (.slice p l c) e;have f:=hideS (Pn 0 neg (.slice p l c) M e N k _ (h.below g.out) i o);have n:=hideS fun m=>wS (valF N) m (af (oZ _))
 rw [vG] at f
 generalize valF N=X at *
 have c0:(boxA w 0 neg (.slice p l c) e).cell? ⟨w.heap.size,0,none⟩=some (.int .i64 0):=by simp
 have c1:=b.1;have c2:=b.2.1;have c3:=b.2.2;clear h i b
 go_enter Tryz.func45,Tryz.ntmps45
 go_wp2_with fail
 refine f.out.mono ?_
 rintro r q ⟨rfl,a⟩;have d:=hideS (g.out.trans (a.mono g.out.size));clear a f c0 c1 c2 c3
 go_wp2_with (go_at_call 68;refine (n.out _).mono ?_;rintro e j ⟨rfl,rfl⟩)
 go_ret2
 exact⟨rfl,d.out⟩
theorem iV (l:List Flw) (cur:Int) (c:Cv) (pl:Option Addr) (bl X Z N:Nat) (m j:Option Addr) (bd K q b2 L t:Nat) (w:World) (V:Nat) (E:Int) (h:PreR l cur c V E) (W:JSrc aB w pl bl X l) (hN:l.length=N) (H:N<=900) (Y:dB l) (hs:CSrcD w m j bd K b2 L c.ds c.fs) (J:c.Fit) :
  Calls Tryz.prog 26 #[.slice pl N Z,.int .i64 cur,.agg #[.int .i64 c.base,.int .i64 c.kind,.slice m c.ds.length q,.slice j c.fs.length t]] w fun e w'=>e=.returned (.tuple #[.int .u64 (V:Int),.int .i64 E])/\Below w.heap.size w w':=by
 obtain⟨F,A⟩:=DW l cur c;have HK:=hideS (gq w c.base c.kind (.slice m c.ds.length q) (.slice j c.fs.length t));have C:=hideS fun O (U:Below w.heap.size w O)=>Ar l cur c pl bl X Z N m j bd K q b2 L t O F A (W.below U) hN H Y (hs.below U) J
 have T:=hideS h;have B:=hideS A;clear h A W hN Y hs J;obtain⟨I,b⟩:∃ S,(if F=0 then wsI cur c l else 0)=S:=⟨_,rfl⟩
 rw [b] at C
 have y:=hideS b;clear b;generalize Value.slice m c.ds.length q=vd at *
 generalize Value.slice j c.fs.length t=vf at *
 go_enter Tryz.func26,Tryz.ntmps26
 go_wp2_with fail
 refine (C.out _ HK.out.bl).mono ?_
 intro e g hD;obtain⟨⟨neg,v,M,o,rfl,D,i⟩,k⟩:=hD;obtain⟨p,s,x,rfl⟩:=D.shape;have HK2:=hideS (HK.out.step k);have a:Hid (Below g.heap.size g (boxA g 0 neg (.slice p s x) o)):=(Below.refl _ _).alloc (Nat.le_refl _) _;have z:=hideS (sS neg (.slice p s x) M o I N _ (D.below a.out) i (oS (by omega)))
 have u:=kO g 0 neg (.slice p s x) o;have c0:(boxA g 0 neg (.slice p s x) o).cell? ⟨g.heap.size,0,none⟩=some (.int .i64 0):=by simp
 have c1:=u.1;have c2:=u.2.1;have c3:=u.2.2;clear k D i u HK C
 by_cases d:F=0
 ·have f:=ns T.out ((kg B.out).1 d);have R:I=wsI cur c l:=by rw [<- y.out,if_pos d]
  rw [R] at z
  have P:Hid (tldV (valF (wsI cur c l))=V/\fU (valF (wsI cur c l))=E):=⟨f.1.symm,f.2.symm⟩;rw [P.out.1,P.out.2] at z
  subst d;clear f R
  go_wp2_with fail
  refine z.out.mono ?_
  rintro r w3 ⟨rfl,n⟩;have G:=hideS ((HK2.out.step a.out).step n).bl;clear n
  go_wp2_with fail
  go_ret2
  exact⟨rfl,G.out⟩
 ·have f:V=0/\E=F:=by
   cases T.out with
   | bad E' h hE=>exact⟨rfl,bR h B.out⟩
   | ok h=>exact absurd ((kg B.out).2 h) d
  have d1:(F !=0)=true:=bne_iff_ne.2 d;have Q:=hideS f;clear f d
  go_wp2_with fail
  go_ret2
  rw [Q.out.1,Q.out.2];exact⟨rfl,(HK2.out.step a.out).bl⟩
theorem LW (cur base kind c W:Int) (h n Z:Nat) (d:Cv) (pl:Option Addr) (N X:Nat) (g p:Option Addr) (bd P j o:Nat) (w:World)
  (z:Hid (∀ a,Below w.heap.size w a->Calls Tryz.prog 47 #[.agg #[.int .i64 base,.int .i64 kind,.slice g n j,.slice p n o],.int .u64 (h:Int)] a fun e u=>DvO a d c g bd P j e u))
  (I:Hid (c=0->∀ a b kk S qy nx kx T ky gy,DvS a d c b kk S qy bd P nx T gy->Below w.heap.size w a->Calls Tryz.prog 26 #[.slice pl N X,.int .i64 cur,.agg #[.int .i64 b,.int .i64 kk,.slice S nx kx,.slice qy T ky]] a fun e u=>e=.returned (.tuple #[.int .u64 (Z:Int),.int .i64 W])/\Below a.heap.size a u)) :
  Calls Tryz.prog 31 #[.slice pl N X,.int .i64 cur,.agg #[.int .i64 base,.int .i64 kind,.slice g n j,.slice p n o],.int .u64 (h:Int)] w fun e u=>((c≠0/\e=.returned (.tuple #[.int .u64 0,.int .i64 c]))\/(c=0/\e=.returned (.tuple #[.int .u64 (Z:Int),.int .i64 W])))/\Below w.heap.size w u:=by
 have B:=(Below.refl w.heap.size w).alloc (Nat.le_refl _) (.cells #[.int .i64 base,.int .i64 kind,.slice g n j,.slice p n o] 39);have y:Hid (LdB w base kind (.slice g n j) (.slice p n o) (w.alloc (.cells #[.int .i64 base,.int .i64 kind,.slice g n j,.slice p n o] 39))):=⟨rW w _ _ _ _,B,by simp⟩
 obtain⟨D,s⟩:∃ D,w.alloc (.cells #[.int .i64 base,.int .i64 kind,.slice g n j,.slice p n o] 39)=D:=⟨_,rfl⟩;rw [s] at y
 obtain⟨t0,t1,t2,t3⟩:=y.out.k.t;clear B
 go_enter Tryz.func31,Tryz.ntmps31
 go_wp2_with fail
 clear s t0 t1 t2 t3;refine (z.out _ y.out.bl).mono ?_
 intro e m C;obtain⟨bb,bk,L,H,J,F,G,M,ab,he,A,_⟩:=C.shp;subst he;obtain⟨x1,x2,x3,R,⟨Q,Y,V⟩,⟨e1,z1,y1⟩,⟨e2,z2,y2⟩,⟨e3,z3,y3⟩,U,x⟩:=dH m.heap.size bb bk (.slice L J F) (.slice H G M) (m.alloc bG) (heap_alloc_new _ _);have i:Below m.heap.size m R:=((Below.refl _ m).alloc (Nat.le_refl _) bG).trans x;have v:Below D.heap.size D R:=C.bl.trans (i.mono C.bl.size);have f:=hideS (y.out.step v);have O:=hideS (A.step i);obtain⟨s0,s1,s2,s3⟩:=U.t;obtain⟨w4,l⟩:∃ w4,m.alloc bG=w4:=⟨_,rfl⟩;rw [l] at Q Y V
 unfold bG at l
 clear A C U x i v y z
 by_cases q:c=0
 ·have d1:(c !=0)=false:=by rw [q];rfl
  have E:=hideS q;clear q
  go_wp2_with fail
  clear l Q Y V e1 z1 y1 e2 z2 y2 e3 z3 y3;refine (I.out E.out _ _ _ _ _ _ _ _ _ _ O.out f.out.bl).mono ?_
  rintro e w5 ⟨rfl,r⟩;have K:=hideS (f.out.step r);clear r s0 s1 s2 s3
  go_wp2_with fail
  go_ret2
  exact⟨Or.inr ⟨E.out,rfl⟩,K.out.bl⟩
 ·have d1:(c !=0)=true:=bne_iff_ne.2 q;have E:=hideS q;clear q
  go_wp2_with fail
  go_ret2
  exact⟨Or.inl ⟨E.out,rfl⟩,f.out.bl⟩
theorem As (l:List Flw) (cur:Int) (c:Cv) (h:Nat) (pl:Option Addr) (bl y t N:Nat) (m k:Option Addr) (bd j q A x s:Nat) (w:World) (r:c.Ok) (E:h<18446744073709551616) (G:JSrc aB w pl bl y l) (O:l.length=N) (u:N<=900) (L:dB l) (Q:CSrcD w m k bd j A x c.ds c.fs) (v:c.Fit) :
  Calls Tryz.prog 31 #[.slice pl N t,.int .i64 cur,.agg #[.int .i64 c.base,.int .i64 c.kind,.slice m c.ds.length q,.slice k c.fs.length s],.int .u64 (h:Int)] w fun e z=>e=.returned (.tuple #[.int .u64 (upV l cur c h:Nat),.int .i64 (upE l cur c h)])/\Below w.heap.size w z:=by
 obtain⟨d,J,C⟩:=CN (h:=h) r;have g:=r.len;have n:=LW cur c.base c.kind (paE c h) (prE l cur d) h c.ds.length (prV l cur d) d pl N t m k bd j q s w
  (fun o i=>by
   have:=CE c d (paE c h) h m k bd j q A x s o E (Q.below i) v J;rw [g] at this
   exact this)
  (fun B o b T M K S P R F I D i=>by
   obtain⟨rfl,rfl,rfl,rfl,H⟩:=D.ok B;obtain⟨rfl,p⟩:=C B;exact iV l cur (c.para h) pl bl y t N M K bd j P I 0 F o _ _ (prR l cur (c.para h)) (G.below i) O u L H (Ac r v p))
 rw [g];refine n.mono ?_
 rintro e z ⟨a,i⟩;refine⟨?_,i⟩
 unfold upV upE rU nD;rcases a with⟨f,rfl⟩| ⟨f,rfl⟩
 ·rw [if_neg f,if_neg f];rfl
 ·rw [if_pos f,if_pos f,(C f).1]
theorem mD (cur base kind E h:Int) (pl:Option Addr) (N l:Nat) (a b:Value) (w:World) (n:E≠0) (o:Hid (∀ d,Below w.heap.size w d->Calls Tryz.prog 24 #[.slice pl N l,.int .i64 cur,.agg #[.int .i64 base,.int .i64 kind,a,b],.int .u64 h] d fun e j=>e=.returned (.tuple #[.int .u64 0,.int .i64 E])/\Below d.heap.size d j)) :
  Calls Tryz.prog 14 #[.slice pl N l,.int .i64 cur,.agg #[.int .i64 base,.int .i64 kind,a,b],.int .u64 h] w fun e j=>e=.returned (.tuple #[.int .u64 0,.int .i64 E])/\Below w.heap.size w j:=by
 have p:(E !=0)=true:=bne_iff_ne.2 n;have k:=hideS (rW w base kind a b);have f:Hid (Below w.heap.size w (w.alloc (.cells #[.int .i64 base,.int .i64 kind,a,b] 39))):=(Below.refl _ _).alloc (Nat.le_refl _) _;clear n;obtain⟨m,i⟩:∃ m,w.alloc (.cells #[.int .i64 base,.int .i64 kind,a,b] 39)=m:=⟨_,rfl⟩;rw [i] at k f
 obtain⟨r,u,s,q⟩:=k.out.t
 go_enter Tryz.func14,Tryz.ntmps14
 go_wp2_with fail
 refine (o.out _ f.out).mono ?_
 rintro e v ⟨rfl,c⟩;have g:=hideS (f.out.trans (c.mono f.out.size));clear c
 go_wp2_with fail
 go_ret2
 exact⟨rfl,g.out⟩
theorem Au (cur base kind c A h:Int) (V0 E X:Nat) (pl:Option Addr) (N s:Nat) (d f:Value) (w:World)
  (C:Hid (∀ a,Below w.heap.size w a->Calls Tryz.prog 24 #[.slice pl N s,.int .i64 cur,.agg #[.int .i64 base,.int .i64 kind,d,f],.int .u64 h] a fun e g=>e=.returned (.tuple #[.int .u64 (V0:Int),.int .i64 0])/\Below a.heap.size a g))
  (B:Hid (∀ a,Below w.heap.size w a->Calls Tryz.prog 31 #[.slice pl N s,.int .i64 cur,.agg #[.int .i64 base,.int .i64 kind,d,f],.int .u64 h] a fun e g=>e=.returned (.tuple #[.int .u64 (E:Int),.int .i64 c])/\Below a.heap.size a g))
  (G:Hid (c=0->∀ a,Calls Tryz.prog 27 #[.int .u64 (E:Int),.int .u64 (V0:Int)] a fun e g=>e=.returned (.tuple #[.int .u64 (X:Int),.int .i64 A])/\Below a.heap.size a g)) :
  Calls Tryz.prog 14 #[.slice pl N s,.int .i64 cur,.agg #[.int .i64 base,.int .i64 kind,d,f],.int .u64 h] w fun e g=>((c≠0/\e=.returned (.tuple #[.int .u64 0,.int .i64 c]))\/(c=0/\e=.returned (.tuple #[.int .u64 (X:Int),.int .i64 A])))/\Below w.heap.size w g:=by
 have l:=(Below.refl w.heap.size w).alloc (Nat.le_refl _) (.cells #[.int .i64 base,.int .i64 kind,d,f] 39);have o:Hid (LdB w base kind d f (w.alloc (.cells #[.int .i64 base,.int .i64 kind,d,f] 39))):=⟨rW w _ _ _ _,l,by simp⟩
 obtain⟨D,p⟩:∃ D,w.alloc (.cells #[.int .i64 base,.int .i64 kind,d,f] 39)=D:=⟨_,rfl⟩;rw [p] at o
 obtain⟨x,z,y,v⟩:=o.out.k.t;clear l
 go_enter Tryz.func14,Tryz.ntmps14
 go_wp2_with fail
 clear p x z y v;refine (C.out _ o.out.bl).mono ?_
 rintro e I ⟨rfl,n⟩;have b:=hideS (o.out.step n);clear n o C;obtain⟨x,z,y,v⟩:=b.out.k.t
 go_wp2_with fail
 clear x z y v;refine (B.out _ b.out.bl).mono ?_
 rintro e J ⟨rfl,q⟩;have j:=hideS (b.out.step q);clear q b B
 by_cases i:c=0
 ·have F:(c !=0)=false:=by rw [i];rfl
  have r:=hideS i;clear i
  go_wp2_with fail
  refine (G.out r.out _).mono ?_
  rintro e H ⟨rfl,m⟩;have u:=hideS (j.out.step m);clear m
  go_wp2_with fail
  go_ret2
  exact⟨Or.inr ⟨r.out,rfl⟩,u.out.bl⟩
 ·have F:(c !=0)=true:=bne_iff_ne.2 i;have r:=hideS i;clear i
  go_wp2_with fail
  go_ret2
  exact⟨Or.inl ⟨r.out,rfl⟩,j.out.bl⟩
theorem mE (cur base kind E h:Int) (pl:Option Addr) (N l:Nat) (a b:Value) (w:World) (n:E≠0) (o:Hid (∀ d,Below w.heap.size w d->Calls Tryz.prog 24 #[.slice pl N l,.int .i64 cur,.agg #[.int .i64 base,.int .i64 kind,a,b],.int .u64 h] d fun e j=>e=.returned (.tuple #[.int .u64 0,.int .i64 E])/\Below d.heap.size d j)) :
  Calls Tryz.prog 16 #[.slice pl N l,.int .i64 cur,.agg #[.int .i64 base,.int .i64 kind,a,b],.int .u64 h] w fun e j=>e=.returned (.tuple #[.int .u64 0,.int .i64 E])/\Below w.heap.size w j:=by
 have p:(E !=0)=true:=bne_iff_ne.2 n;have k:=hideS (rW w base kind a b);have f:Hid (Below w.heap.size w (w.alloc (.cells #[.int .i64 base,.int .i64 kind,a,b] 39))):=(Below.refl _ _).alloc (Nat.le_refl _) _;clear n;obtain⟨m,i⟩:∃ m,w.alloc (.cells #[.int .i64 base,.int .i64 kind,a,b] 39)=m:=⟨_,rfl⟩;rw [i] at k f
 obtain⟨r,u,s,q⟩:=k.out.t
 go_enter Tryz.func16,Tryz.ntmps16
 go_wp2_with fail
 refine (o.out _ f.out).mono ?_
 rintro e v ⟨rfl,c⟩;have g:=hideS (f.out.trans (c.mono f.out.size));clear c
 go_wp2_with fail
 go_ret2
 exact⟨rfl,g.out⟩
theorem Av (cur base kind g i Z h Y:Int) (V0 UV DV a b X:Nat) (pl:Option Addr) (N K:Nat) (o j:Option Addr) (n m p:Nat) (w:World)
  (HG:Hid (∀ c,Below w.heap.size w c->Calls Tryz.prog 24 #[.slice pl N K,.int .i64 cur,.agg #[.int .i64 base,.int .i64 kind,.slice o n m,.slice j n p],.int .u64 h] c fun e d=>e=.returned (.tuple #[.int .u64 (V0:Int),.int .i64 0])/\Below c.heap.size c d))
  (HU:Hid (∀ c,Below w.heap.size w c->Calls Tryz.prog 31 #[.slice pl N K,.int .i64 cur,.agg #[.int .i64 base,.int .i64 kind,.slice o n m,.slice j n p],.int .u64 h] c fun e d=>e=.returned (.tuple #[.int .u64 (UV:Int),.int .i64 g])/\Below c.heap.size c d))
  (W:Hid (∀ c,Calls Tryz.prog 34 #[.int .u64 h] c fun e d=>e=.returned (.int .u64 Y)/\c=d))
  (HD:Hid (∀ c,Below w.heap.size w c->Calls Tryz.prog 31 #[.slice pl N K,.int .i64 cur,.agg #[.int .i64 base,.int .i64 kind,.slice o n m,.slice j n p],.int .u64 Y] c fun e d=>e=.returned (.tuple #[.int .u64 (DV:Int),.int .i64 i])/\Below c.heap.size c d))
  (L:Hid (g=0->i=0->∀ c,Calls Tryz.prog 35 #[.int .u64 (UV:Int),.int .u64 (V0:Int)] c fun e d=>e=.returned (.int .u64 (a:Int))/\Below c.heap.size c d))
  (M:Hid (g=0->i=0->∀ c,Calls Tryz.prog 35 #[.int .u64 (V0:Int),.int .u64 (DV:Int)] c fun e d=>e=.returned (.int .u64 (b:Int))/\Below c.heap.size c d))
  (HS:Hid (g=0->i=0->∀ c,Calls Tryz.prog 27 #[.int .u64 (a:Int),.int .u64 (b:Int)] c fun e d=>e=.returned (.tuple #[.int .u64 (X:Int),.int .i64 Z])/\Below c.heap.size c d)) :
  Calls Tryz.prog 16 #[.slice pl N K,.int .i64 cur,.agg #[.int .i64 base,.int .i64 kind,.slice o n m,.slice j n p],.int .u64 h] w fun e d=>((g≠0/\e=.returned (.tuple #[.int .u64 0,.int .i64 g]))\/(g=0/\i≠0/\e=.returned (.tuple #[.int .u64 0,.int .i64 i]))\/(g=0/\i=0/\e=.returned (.tuple #[.int .u64 (X:Int),.int .i64 Z])))/\Below w.heap.size w d:=by
 have z:=(Below.refl w.heap.size w).alloc (Nat.le_refl _) (.cells #[.int .i64 base,.int .i64 kind,.slice o n m,.slice j n p] 39);have F:Hid (LdB w base kind (.slice o n m) (.slice j n p) (w.alloc (.cells #[.int .i64 base,.int .i64 kind,.slice o n m,.slice j n p] 39))):=⟨rW w _ _ _ _,z,by simp⟩
 obtain⟨w1,H⟩:∃ w1,w.alloc (.cells #[.int .i64 base,.int .i64 kind,.slice o n m,.slice j n p] 39)=w1:=⟨_,rfl⟩;rw [H] at F
 obtain⟨S,T,U,R⟩:=F.out.k.t;clear z
 go_enter Tryz.func16,Tryz.ntmps16
 go_wp2_with fail
 clear H S T U R;refine (HG.out _ F.out.bl).mono ?_
 rintro e w2 ⟨rfl,C⟩;have l:=hideS (F.out.step C);clear C F HG;obtain⟨S,T,U,R⟩:=l.out.k.t
 go_wp2_with fail
 clear S T U R;refine (HU.out _ l.out.bl).mono ?_
 rintro e V ⟨rfl,I⟩;have f:=hideS (l.out.step I);clear I l HU
 by_cases u:g=0
 ·have d1:(g !=0)=false:=by rw [u];rfl
  have r:=hideS u;clear u
  go_wp2_with fail
  have E:=hideS f.out.k.t;have y:Hid (Below w.heap.size w (V.drewN 1)):=⟨f.out.bl.os,f.out.bl.tape,f.out.bl.output,f.out.bl.size,f.out.bl.block⟩
  go_region_held3 (fun d=>d.cell? ⟨w.heap.size,0,none⟩=some (.int .i64 base)/\d.cell? ⟨w.heap.size,1,none⟩=some (.int .i64 kind)/\d.cell? ⟨w.heap.size,2,none⟩=some (.slice o n m)/\d.cell? ⟨w.heap.size,3,none⟩=some (.slice j n p)) (first | exact E.out | exact A.out | go_keep) (first | (go_at_call 34;refine (W.out _).mono ?_;rintro e wb ⟨rfl,rfl⟩) | (go_at_call 31;refine (HD.out _ y.out).mono ?_;rintro e w4 ⟨rfl,v⟩;have B:Below V.heap.size V w4:=⟨v.os,v.tape,v.output,v.size,v.block⟩;have q:=hideS (f.out.step B);have A:=hideS q.out.k.t;clear v B))
  all_goals
   clear E A y f HD W
   by_cases s:i=0
   ·have d2:(i !=0)=false:=by rw [s];rfl
    have x:=hideS s;clear s
    go_wp2_with fail
    refine (L.out r.out x.out _).mono ?_
    rintro e w5 ⟨rfl,G⟩;have P:=hideS (q.out.step G);clear G
    go_wp2_with fail
    refine (M.out r.out x.out _).mono ?_
    rintro e w6 ⟨rfl,D⟩;have O:=hideS (P.out.step D);clear D
    go_wp2_with fail
    refine (HS.out r.out x.out _).mono ?_
    rintro e w7 ⟨rfl,J⟩;have Q:=hideS (O.out.step J);clear J
    go_wp2_with fail
    go_ret2
    exact⟨Or.inr (Or.inr ⟨r.out,x.out,rfl⟩),Q.out.bl⟩
   ·have d2:(i !=0)=true:=bne_iff_ne.2 s;have x:=hideS s;clear s
    go_wp2_with fail
    go_ret2
    exact⟨Or.inr (Or.inl ⟨r.out,x.out,rfl⟩),q.out.bl⟩
 ·have d1:(g !=0)=true:=bne_iff_ne.2 u;have r:=hideS u;clear u
  go_wp2_with fail
  go_ret2
  exact⟨Or.inl ⟨r.out,rfl⟩,f.out.bl⟩
theorem Eh {c:Cv} {h:Nat} (d:c.Ok) (b:aE (h:Int)=false):paE c h=91:=by
 unfold paE;rw [if_neg];intro a;have:=a 0 d.lo;unfold bmB at this
 rw [b] at this
 cases this
theorem CU {l:List Flw} {cur:Int} {c:Cv} {h:Nat} (e:upE l cur c h≠0):deV l cur c h=0/\deE l cur c h=upE l cur c h:=by
 unfold upE nD at e
 unfold deV deE oJ oK upE nD
 by_cases a:paE c h=0
 ·rw [if_pos a] at e ⊢
  rw [if_pos a,if_pos a];unfold chV chE;rw [if_neg e,if_neg e];exact⟨rfl,rfl⟩
 ·rw [if_neg a,if_neg a,if_neg a];exact⟨rfl,rfl⟩
theorem Aw {l:List Flw} {cur:Int} {c:Cv} {h:Nat} (e:upE l cur c h=0):paE c h=0/\prE l cur (c.para h)=0/\upV l cur c h=prV l cur (c.para h):=by
 unfold upE nD at e
 unfold upV rU
 by_cases a:paE c h=0
 ·rw [if_pos a] at e ⊢
  exact⟨a,e,rfl⟩
 ·rw [if_neg a] at e;exact absurd e a
theorem OO {l:List Flw} {cur:Int} {c:Cv} {h:Nat} (e:upE l cur c h=0):deV l cur c h=tldV (chO l cur (c.para h) (prV l cur c))/\deE l cur c h=fU (chO l cur (c.para h) (prV l cur c)):=by
 obtain⟨a,b,_⟩:=Aw e;unfold deV deE oJ oK chV chE;rw [if_pos a,if_pos a,if_pos b,if_pos b];exact⟨rfl,rfl⟩
theorem Ax (l:List Flw) (cur:Int) (c:Cv) (h:Nat) (pl:Option Addr) (bl F i N:Nat) (n m:Option Addr) (bd A p G B t:Nat) (w:World) (I:h<18446744073709551616) (K:JSrc aB w pl bl F l) (M:l.length=N) (x:N<=900) (L:dB l) (O:CSrcD w n m bd A G B c.ds c.fs) (H:c.Fit) :
  Calls Tryz.prog 14 #[.slice pl N i,.int .i64 cur,.agg #[.int .i64 c.base,.int .i64 c.kind,.slice n c.ds.length p,.slice m c.fs.length t],.int .u64 (h:Int)] w fun e z=>((prE l cur c≠0/\e=.returned (.tuple #[.int .u64 0,.int .i64 (prE l cur c)]))\/(prE l cur c=0/\e=.returned (.tuple #[.int .u64 (deV l cur c h:Nat),.int .i64 (deE l cur c h)])))/\Below w.heap.size w z:=by
 have k:Oo w pl N i cur c.base c.kind (.slice n c.ds.length p) (.slice m c.fs.length t) (prV l cur c) (prE l cur c):=fun f d=>iV l cur c pl bl F i N n m bd A p G B t f _ _ (prR l cur c) (K.below d) M x L (O.below d) H
 by_cases j:prE l cur c=0
 ·obtain⟨P,_,R,Q⟩:=cL j;have J:=P.ok;rw [j] at k
  have y:∀ f,Below w.heap.size w f->_:=fun f d=>ow pl N i cur c.base c.kind h (.slice n c.ds.length p) (.slice m c.fs.length t) (prV l cur c) f I (fun E D=>k E (d.trans (D.mono d.size)))
  cases g:aE (h:Int) with
  | false=>
   rw [g] at y
   have s:upE l cur c h=91:=by unfold upE nD;rw [Eh J g];rfl
   obtain⟨o,v⟩:=CU (l:=l) (cur:=cur) (c:=c) (h:=h) (by rw [s];decide)
   refine (mD cur c.base c.kind 91 h pl N i _ _ w (by decide) y).mono ?_
   rintro e z ⟨rfl,d⟩;exact⟨Or.inr ⟨j,by rw [o,v,s];rfl⟩,d⟩
  | true=>
   rw [g] at y
   refine (Au cur c.base c.kind (upE l cur c h) (fU (chO l cur (c.para h) (prV l cur c))) h (prV l cur c) (upV l cur c h) (tldV (chO l cur (c.para h) (prV l cur c))) pl N i _ _ w y (fun f d=>As l cur c h pl bl F i N n m bd A p G B t f J I (K.below d) M x L (O.below d) H) (fun e f=>?_)).mono ?_
   ·obtain⟨_,b,u⟩:=Aw e;obtain⟨r,q⟩:=CH (V0:=prV l cur c) b R;rw [u];exact ov _ _ _ f (cL b).2.2.2 Q r q.2.1
   ·rintro e z ⟨a,d⟩;refine⟨Or.inr ⟨j,?_⟩,d⟩
    rcases a with⟨C,rfl⟩| ⟨C,rfl⟩
    ·obtain⟨o,v⟩:=CU C;rw [o,v];rfl
    ·obtain⟨o,v⟩:=OO C;rw [o,v]
 ·refine (mD cur c.base c.kind (prE l cur c) h pl N i _ _ w j (fun f d=>mA pl N i cur c.base c.kind (prE l cur c) h _ _ (prV l cur c) f j (fun E D=>k E (d.trans (D.mono d.size))))).mono ?_
  rintro e z ⟨a,b⟩;exact⟨Or.inl ⟨j,a⟩,b⟩
theorem Ay (a b:Nat) (o:Option Nat) (w:World) (k:a<18446744073709551616) (g:b<18446744073709551616) (j:floatBits .sub .f64 a b=o) (l:∀ r,o=some r->r<18446744073709551616) :
  Calls Tryz.prog 27 #[.int .u64 (a:Int),.int .u64 (b:Int)] w fun e d=>e=.returned (.tuple #[.int .u64 (tlO o:Nat),.int .i64 (teO o)])/\Below w.heap.size w d:=by
 cases o with
 | some r=>exact ov a b r w k g j (l r rfl)
 | none=>
  have m:=hideS fun c=>dR a b _ _ c rfl rfl (af k) (af g)
  rw [j] at m
  have i:Hid (∀ c,Calls Tryz.prog 41 #[.int .u64 (cn none:Nat)] c fun e d=>e=.returned (.bool false)/\d=c):=fun c=>by
   have:=bK (cn none:Nat) c (by unfold cn;exact af (by decide))
   rw [show aE ((cn none:Nat):Int)=false by decide] at this
   exact this
  show Calls _ _ _ _ fun e d=>e=.returned (.tuple #[.int .u64 ((0:Nat):Int),.int .i64 91])/\Below w.heap.size w d
  clear k g j l;generalize cn none=r at *
  go_enter Tryz.func27,Tryz.ntmps27
  go_wp2_with fail
  refine (m.out _).mono ?_
  rintro e n ⟨rfl,f⟩;have h:=hideS f;clear f
  go_wp2_with fail
  refine (turned (i.out _)).mono ?_
  rintro e p ⟨rfl,rfl⟩
  go_wp2_with fail
  go_ret2
  exact⟨rfl,h.out⟩
theorem Az (l:List Flw) (cur:Int) (c:Cv) (h:Nat) (pl:Option Addr) (bl O m N:Nat) (q o:Option Addr) (bd F u P G v:Nat) (w:World) (D:h<18446744073709551616) (T:JSrc aB w pl bl O l) (Y:l.length=N) (C:N<=900) (V:dB l) (hs:CSrcD w q o bd F P G c.ds c.fs) (Q:c.Fit) :
  Calls Tryz.prog 16 #[.slice pl N m,.int .i64 cur,.agg #[.int .i64 c.base,.int .i64 c.kind,.slice q c.ds.length u,.slice o c.fs.length v],.int .u64 (h:Int)] w fun e E=>((prE l cur c≠0/\e=.returned (.tuple #[.int .u64 0,.int .i64 (prE l cur c)]))\/(prE l cur c=0/\((upE l cur c h≠0/\e=.returned (.tuple #[.int .u64 0,.int .i64 (upE l cur c h)]))\/(upE l cur c h=0/\upE l cur c (flipN h)≠0/\e=.returned (.tuple #[.int .u64 0,.int .i64 (upE l cur c (flipN h))]))\/(upE l cur c h=0/\upE l cur c (flipN h)=0/\e=.returned (.tuple #[.int .u64 (tlO (gaO (upV l cur c h) (prV l cur c) (upV l cur c (flipN h))):Nat),.int .i64 (teO (gaO (upV l cur c h) (prV l cur c) (upV l cur c (flipN h))))])))))/\Below w.heap.size w E:=by
 have t:Oo w pl N m cur c.base c.kind (.slice q c.ds.length u) (.slice o c.fs.length v) (prV l cur c) (prE l cur c):=fun d f=>iV l cur c pl bl O m N q o bd F u P G v d _ _ (prR l cur c) (T.below f) Y C V (hs.below f) Q
 by_cases n:prE l cur c=0
 ·obtain⟨fp,_,X,W⟩:=cL n;have J:=fp.ok;rw [n] at t
  have A:∀ d,Below w.heap.size w d->_:=fun d f=>ow pl N m cur c.base c.kind h (.slice q c.ds.length u) (.slice o c.fs.length v) (prV l cur c) d D (fun M I=>t M (f.trans (I.mono f.size)))
  cases g:aE (h:Int) with
  | false=>
   rw [g] at A
   have z:upE l cur c h=91:=by unfold upE nD;rw [Eh J g];rfl
   refine (mE cur c.base c.kind 91 h pl N m _ _ w (by decide) A).mono ?_
   rintro e E ⟨rfl,f⟩;exact⟨Or.inr ⟨n,Or.inl ⟨by rw [z];decide,by rw [z]⟩⟩,f⟩
  | true=>
   rw [g] at A
   have K:=J.len;have H:flipN h<18446744073709551616:=(bM D).1;have L:∀ x:Nat,x<18446744073709551616->∀ d,Below w.heap.size w d->_:=fun x hx d f=>As l cur c x pl bl O m N q o bd F u P G v d J hx (T.below f) Y C V (hs.below f) Q
   have i:upE l cur c h=0->upE l cur c (flipN h)=0->∃ k j,(upV l cur c h<18446744073709551616/\upV l cur c (flipN h)<18446744073709551616)/\floatBits .sub .f64 (upV l cur c h) (prV l cur c)=some k/\floatBits .sub .f64 (prV l cur c) (upV l cur c (flipN h))=some j/\k<18446744073709551616/\j<18446744073709551616:=fun s p=>by
    obtain⟨_,R,a2⟩:=Aw s;obtain⟨_,S,a4⟩:=Aw p;rw [a2,a4];obtain⟨k,y,_⟩:=jr (bt (cL R).2.2.1) (bt X);obtain⟨j,B,_⟩:=jr (bt X) (bt (cL S).2.2.1);exact⟨k,j,⟨(cL R).2.2.2,(cL S).2.2.2⟩,y,B,cR (by simp) y,cR (by simp) B⟩
   rw [K] at A L ⊢
   refine (Av cur c.base c.kind (upE l cur c h) (upE l cur c (flipN h)) (teO (gaO (upV l cur c h) (prV l cur c) (upV l cur c (flipN h)))) h (flipN h:Nat) (prV l cur c) (upV l cur c h) (upV l cur c (flipN h)) (cn (floatBits .sub .f64 (upV l cur c h) (prV l cur c))) (cn (floatBits .sub .f64 (prV l cur c) (upV l cur c (flipN h)))) (tlO (gaO (upV l cur c h) (prV l cur c) (upV l cur c (flipN h)))) pl N m q o c.ds.length u v w A (L h D) (fun d=>dQ h h _ d rfl (af D) rfl) (L (flipN h) H) (fun s p d=>?_) (fun s p d=>?_) (fun s p d=>?_)).mono ?_
   ·obtain⟨k,j,⟨U,Z⟩,_⟩:=i s p;exact dR _ _ _ _ d rfl rfl (af U) (af W)
   ·obtain⟨k,j,⟨U,Z⟩,_⟩:=i s p;exact dR _ _ _ _ d rfl rfl (af W) (af Z)
   ·obtain⟨k,j,_,y,B,k1,k2⟩:=i s p;have hg:gaO (upV l cur c h) (prV l cur c) (upV l cur c (flipN h))=floatBits .sub .f64 k j:=by
     unfold gaO;rw [show opO .sub (some (upV l cur c h)) (some (prV l cur c))=some k from y,show opO .sub (some (prV l cur c)) (some (upV l cur c (flipN h)))=some j from B]
     rfl
    rw [hg,y,B,ao,ao];exact Ay k j _ d k1 k2 rfl (fun r e=>cR (by simp) e)
   ·rintro e E ⟨a,f⟩;exact⟨Or.inr ⟨n,a⟩,f⟩
 ·refine (mE cur c.base c.kind (prE l cur c) h pl N m _ _ w n (fun d f=>mA pl N m cur c.base c.kind (prE l cur c) h _ _ (prV l cur c) d n (fun M I=>t M (f.trans (I.mono f.size))))).mono ?_
  rintro e E ⟨a,b⟩;exact⟨Or.inl ⟨n,a⟩,b⟩
end Go.Proofs.YtfdddijdjpijbaaGreat
