/-  -/
import Derived.Test.YtfdddijdjpijbaaGreatHbv
import Derived.Test.YtfdddijdjpijbaaGreatHax
import Derived.Test.YtfdddijdjpijbaaGreatHbu
import Derived.Test.YtfdddijdjpijbaaGreatFFlw
set_option maxHeartbeats 25600000
set_option maxRecDepth 40000
namespace Go.Proofs.YtfdddijdjpijbaaGreat
open Go.RowKit
noncomputable def dlV (l:List Flw) (cur:Int) (c:Cv) (h:Nat):Nat:=if prE l cur c=0 then deV l cur c h else 0
noncomputable def dlE (l:List Flw) (cur:Int) (c:Cv) (h:Nat):Int:=if prE l cur c=0 then deE l cur c h else prE l cur c
noncomputable def gmV (l:List Flw) (cur:Int) (c:Cv) (h:Nat):Nat:=if erK (prE l cur c) (upE l cur c h) (upE l cur c (flipN h))=0 then tlO (gaO (upV l cur c h) (prV l cur c) (upV l cur c (flipN h))) else 0
noncomputable def gmE (l:List Flw) (cur:Int) (c:Cv) (h:Nat):Int:=if erK (prE l cur c) (upE l cur c h) (upE l cur c (flipN h))=0 then teO (gaO (upV l cur c h) (prV l cur c) (upV l cur c (flipN h))) else erK (prE l cur c) (upE l cur c h) (upE l cur c (flipN h))
theorem OP {l:List Flw} {cur:Int} {c:Cv} {h:Nat} (f:Nat->Value) {e:Ending} (a:(prE l cur c≠0/\e=.returned (.tuple #[f 0,.int .i64 (prE l cur c)]))\/(prE l cur c=0/\e=.returned (.tuple #[f (deV l cur c h),.int .i64 (deE l cur c h)]))):e=.returned (.tuple #[f (dlV l cur c h),.int .i64 (dlE l cur c h)]):=by
 unfold dlV dlE;rcases a with⟨a,b⟩| ⟨a,b⟩
 ·rw [if_neg a,if_neg a];exact b
 ·rw [if_pos a,if_pos a];exact b
theorem OQ {l:List Flw} {cur:Int} {c:Cv} {h:Nat} (f:Nat->Value) {e:Ending} (a:(prE l cur c≠0/\e=.returned (.tuple #[f 0,.int .i64 (prE l cur c)]))\/(prE l cur c=0/\((upE l cur c h≠0/\e=.returned (.tuple #[f 0,.int .i64 (upE l cur c h)]))\/(upE l cur c h=0/\upE l cur c (flipN h)≠0/\e=.returned (.tuple #[f 0,.int .i64 (upE l cur c (flipN h))]))\/(upE l cur c h=0/\upE l cur c (flipN h)=0/\e=.returned (.tuple #[f (tlO (gaO (upV l cur c h) (prV l cur c) (upV l cur c (flipN h)))),.int .i64 (teO (gaO (upV l cur c h) (prV l cur c) (upV l cur c (flipN h))))]))))):e=.returned (.tuple #[f (gmV l cur c h),.int .i64 (gmE l cur c h)]):=by
 unfold gmV gmE;rcases a with⟨a,b⟩| ⟨a,⟨d,b⟩| ⟨d,g,b⟩| ⟨d,g,b⟩⟩
 ·have k:erK (prE l cur c) (upE l cur c h) (upE l cur c (flipN h))=prE l cur c:=by unfold erK;rw [if_neg a]
  rw [k,if_neg a,if_neg a];exact b
 ·have k:erK (prE l cur c) (upE l cur c h) (upE l cur c (flipN h))=upE l cur c h:=by unfold erK;rw [if_pos a,if_neg d]
  rw [k,if_neg d,if_neg d];exact b
 ·have k:erK (prE l cur c) (upE l cur c h) (upE l cur c (flipN h))=upE l cur c (flipN h):=by unfold erK;rw [if_pos a,if_pos d]
  rw [k,if_neg g,if_neg g];exact b
 ·have k:erK (prE l cur c) (upE l cur c h) (upE l cur c (flipN h))=upE l cur c (flipN h):=by unfold erK;rw [if_pos a,if_pos d]
  rw [k,if_pos g,if_pos g];exact b
theorem LZ (x:Nat) (h:x<18446744073709551616):tldV x<18446744073709551616:=by
 unfold tldV
 split
 ·exact h
 ·decide
theorem Rk (l:List Flw) (cur:Int) (c:Cv) (h:Nat):dlV l cur c h<18446744073709551616:=by
 unfold dlV
 split
 ·rename_i a
  by_cases e:upE l cur c h=0
  ·rw [(OO e).1];exact LZ _ (CH (V0:=prV l cur c) (Aw e).2.1 (cL a).2.2.1).2.2.1
  ·rw [(CU e).1];decide
 ·decide
theorem Rl (l:List Flw) (cur:Int) (c:Cv) (h:Nat):gmV l cur c h<18446744073709551616:=by
 unfold gmV
 split
 ·cases k:gaO (upV l cur c h) (prV l cur c) (upV l cur c (flipN h)) with
  | none=>decide
  | some r=>exact LZ r (yE (by simp) k)
 ·decide
theorem oM (cur base kind:Int) (h:Nat) (pl g i:Option Addr) (N n D l F j:Nat) (w:World) (hn:¬ (N<=20/\D<=8/\F<=8)) :
  Calls Tryz.prog 4 #[.slice pl N n,.int .i64 cur,.agg #[.int .i64 base,.int .i64 kind,.slice g D l,.slice i F j],.float .f64 h] w fun e p=>e=.returned (.bool true)/\Below w.heap.size w p:=by
 have b:=hideS (bu w base kind (.slice g D l) (.slice i F j));have a:=hideS fun r=>rX base kind pl g i N n D l F j r
 rw [decide_eq_false hn] at a
 have k:=hideS Eg;clear hn;have q:=b.out.t0;have o:=b.out.t1;have s:=b.out.t2;have t:=b.out.t3
 go_enter Tryz.func4,Tryz.ntmps4
 go_wp2_with fail
 refine (a.out _).mono ?_
 rintro e u ⟨rfl,f⟩;have d:=hideS (b.out.bl.trans (f.mono b.out.bl.size));clear f q o s t b a
 go_wp2_with fail
 refine (k.out _).mono ?_
 rintro e v ⟨rfl,c⟩;have m:=hideS (d.out.trans (c.mono d.out.size));clear c
 go_wp2_with fail
 go_ret
 exact⟨rfl,m.out⟩
structure DlB (w:World) (c:Cv) (pd pf:Option Addr) (bd od cd b2 o2 cf:Nat) (pl:Option Addr) (fb ol:Nat) (l:List Flw) (wr:World):Prop where
 bx:BxK wr w.heap.size c.base c.kind (.slice pd c.ds.length cd) (.slice pf c.fs.length cf)
 bl:Below w.heap.size w wr
 src:TFl wr pd pf bd od b2 o2 c.ds c.fs
 fl:JSrc aF wr pl fb ol l
theorem DlB.step {w:World} {c:Cv} {g i:Option Addr} {bd k j d f m:Nat} {pl:Option Addr} {bl e:Nat} {l:List Flw} {wr b:World} (h:DlB w c g i bd k j d f m pl bl e l wr) (a:Below wr.heap.size wr b):DlB w c g i bd k j d f m pl bl e l b:=⟨h.bx.step a,h.bl.trans (a.mono h.bl.size),h.src.below a,h.fl.below a⟩
theorem kj (w:World) (q:Nat):Below w.heap.size w (w.drewN q):=⟨rfl,rfl,rfl,Nat.le_refl _,fun _ _=>rfl⟩
theorem sT (l:List Flw) (cur:Int) (c:Cv) (h:Nat) (pl:Option Addr) (bl R cl N:Nat) (k r:Option Addr) (bd y o U Q v:Nat) (w:World) (hl:JSrc aF w pl bl R l) (hN:l.length=N) (hf:dB l) (hh:h<18446744073709551616) (hs:TFl w k r bd y U Q c.ds c.fs) (hm:N<=20/\c.ds.length<=8/\c.fs.length<=8) :
  Calls Tryz.prog 4 #[.slice pl N cl,.int .i64 cur,.agg #[.int .i64 c.base,.int .i64 c.kind,.slice k c.ds.length o,.slice r c.fs.length v],.float .f64 h] w fun e g=>e=.returned (.bool true)/\Below w.heap.size w g:=by
 have am:=hideS fun d=>rX c.base c.kind pl k r N cl c.ds.length o c.fs.length v d
 rw [decide_eq_true hm] at am
 have dU:=hideS Eg;have cu:Hid (∀ d,TFl d k r bd y U Q c.ds c.fs->JSrc aF d pl bl R l->Calls Tryz.prog 13 #[.slice pl N cl,.int .i64 cur,.agg #[.int .i64 c.base,.int .i64 c.kind,.slice k c.ds.length o,.slice r c.fs.length v],.float .f64 h] d fun e g=>e=.returned (.tuple #[.float .f64 (dlV l cur c h),.int .i64 (dlE l cur c h)])/\Below d.heap.size d g):=fun d D T=>(uG l cur c h pl bl R cl N k r bd y o U Q v d hh T hN (by omega) hf D).mono fun e g a=>⟨OP (fun x=>.float .f64 x) a.1,a.2⟩
 have ct:Hid (∀ d,TFl d k r bd y U Q c.ds c.fs->JSrc aF d pl bl R l->Calls Tryz.prog 15 #[.slice pl N cl,.int .i64 cur,.agg #[.int .i64 c.base,.int .i64 c.kind,.slice k c.ds.length o,.slice r c.fs.length v],.float .f64 h] d fun e g=>e=.returned (.tuple #[.float .f64 (gmV l cur c h),.int .i64 (gmE l cur c h)])/\Below d.heap.size d g):=fun d D T=>(GV l cur c h pl bl R cl N k r bd y o U Q v d hh T hN (by omega) hf D).mono fun e g a=>⟨OQ (fun x=>.float .f64 x) a.1,a.2⟩
 have dE:Hid (∀ d,TFl d k r bd y U Q c.ds c.fs->_):=fun d D=>Qo c.base c.kind k r bd y o U Q v c.ds c.fs d D (by omega)
 have W:Hid (∀ d,JSrc aF d pl bl R l->_):=fun d T=>Aq l pl bl R cl N d T hN (by omega)
 have br:Hid (∀ M bm om X s Y H d,JSrc aB d M bm om l->CSrcD d k s bd y Y 0 c.ds c.fs->Calls Tryz.prog 14 #[.slice M N X,.int .i64 cur,.agg #[.int .i64 c.base,.int .i64 c.kind,.slice k c.ds.length o,.slice s c.fs.length H],.int .u64 (h:Int)] d fun e g=>e=.returned (.tuple #[.int .u64 (dlV l cur c h:Nat),.int .i64 (dlE l cur c h)])/\Below d.heap.size d g):=fun M bm om X s Y H d T D=>(Ax l cur c h M bm om X N k s bd y o Y 0 H d hh T hN (by omega) hf D hs.f).mono fun e g a=>⟨OP (fun x=>.int .u64 (x:Int)) a.1,a.2⟩
 have bv:Hid (∀ M bm om X s Y H d,JSrc aB d M bm om l->CSrcD d k s bd y Y 0 c.ds c.fs->Calls Tryz.prog 16 #[.slice M N X,.int .i64 cur,.agg #[.int .i64 c.base,.int .i64 c.kind,.slice k c.ds.length o,.slice s c.fs.length H],.int .u64 (h:Int)] d fun e g=>e=.returned (.tuple #[.int .u64 (gmV l cur c h:Nat),.int .i64 (gmE l cur c h)])/\Below d.heap.size d g):=fun M bm om X s Y H d T D=>(Az l cur c h M bm om X N k s bd y o Y 0 H d hh T hN (by omega) hf D hs.f).mono fun e g a=>⟨OQ (fun x=>.int .u64 (x:Int)) a.1,a.2⟩
 have df:Hid (dlV l cur c h<18446744073709551616):=Rk l cur c h;have di:Hid (gmV l cur c h<18446744073709551616):=Rl l cur c h;generalize dlV l cur c h=v1 at *
 generalize dlE l cur c h=E1 at *
 generalize gmV l cur c h=v2 at *
 generalize gmE l cur c h=E2 at *
 have P:=(Below.refl w.heap.size w).alloc (Nat.le_refl _) (.cells #[.int .i64 c.base,.int .i64 c.kind,.slice k c.ds.length o,.slice r c.fs.length v] 26);have HB:Hid (DlB w c k r bd y o U Q v pl bl R l (w.alloc (.cells #[.int .i64 c.base,.int .i64 c.kind,.slice k c.ds.length o,.slice r c.fs.length v] 26))):=⟨rl w _ _ _ _,P,hs.below P,hl.below P⟩;obtain⟨w1,bh⟩:∃ w1,w.alloc (.cells #[.int .i64 c.base,.int .i64 c.kind,.slice k c.ds.length o,.slice r c.fs.length v] 26)=w1:=⟨_,rfl⟩;rw [bh] at HB
 have HN:=hideS hN;obtain⟨base,p⟩:∃ b,c.base=b:=⟨_,rfl⟩;obtain⟨kind,q⟩:∃ b,c.kind=b:=⟨_,rfl⟩;obtain⟨n,hn⟩:∃ b,c.ds.length=b:=⟨_,rfl⟩;obtain⟨m,V⟩:∃ b,c.fs.length=b:=⟨_,rfl⟩;have j:=hideS p;have i:=hideS q;have Hn:=hideS hn;have Hm:=hideS V;rw [p,q,hn,V] at bh
 rw [p,q,hn,V];have tt:∀ d,DlB w c k r bd y o U Q v pl bl R l d->d.cell? ⟨w.heap.size,0,none⟩=some (.int .i64 base)/\d.cell? ⟨w.heap.size,1,none⟩=some (.int .i64 kind)/\d.cell? ⟨w.heap.size,2,none⟩=some (.slice k n o)/\d.cell? ⟨w.heap.size,3,none⟩=some (.slice r m v):=fun d D=>by
  have:=D.bx.t;rw [j.out,i.out,Hn.out,Hm.out] at this
  exact this
 have O:=hideS tt;clear tt;obtain⟨t0,t1,t2,t3⟩:=O.out _ HB.out;clear hs hm P p q hn V hh hl hN hf
 go_enter Tryz.func4,Tryz.ntmps4
 go_wp2_with fail
 clear bh t0 t1 t2 t3;have J:=am.out w1;rw [j.out,i.out,Hn.out,Hm.out] at J
 refine J.mono ?_
 rintro e w2 ⟨rfl,dd⟩;have ba:=hideS (HB.out.step dd);clear dd HB am J
 go_wp2_with fail
 refine (W.out _ ba.out.fl).mono ?_
 rintro e w3 ⟨⟨u,rfl,ho⟩,dk⟩;obtain⟨M,gm,X,rfl,sm,_⟩:=zq ho HN.out;have S:=hideS (ba.out.step dk);have bz:=hideS sm;clear ho sm dk ba W;obtain⟨t0,t1,t2,t3⟩:=O.out _ S.out
 go_wp2_with fail
 clear t0 t1 t2 t3;have A:=dE.out w3 S.out.src;rw [j.out,i.out,Hn.out,Hm.out] at A
 refine A.mono ?_
 rintro e w4 ⟨s,Y,H,rfl,da,al⟩;obtain⟨u1,u2,u3,u4,⟨e0,z0,y0⟩,⟨e1,z1,y1⟩,⟨e2,z2,y2⟩,⟨e3,z3,y3⟩,hZ,cs⟩:=dH w4.heap.size base kind (.slice k n o) (.slice s m H) (w4.alloc bG) (heap_alloc_new _ _);have ai:Below w4.heap.size w4 u4:=((Below.refl _ w4).alloc (Nat.le_refl _) bG).trans cs;have bb:Below w3.heap.size w3 u4:=al.trans (ai.mono al.size);have z:=hideS (S.out.step bb);have ci:=hideS (bz.out.below bb);have cx:=hideS hZ;have cv:=hideS (da.below ai);obtain⟨wa,ad⟩:∃ wa,w4.alloc bG=wa:=⟨_,rfl⟩;rw [ad] at e0 z0 y0
 unfold bG at ad
 obtain⟨t0,t1,t2,t3⟩:=O.out _ z.out;clear da al hZ cs ai bb S bz dE A
 go_wp2_with fail
 clear ad e0 z0 y0 e1 z1 y1 e2 z2 y2 e3 z3 y3 t0 t1 t2 t3;generalize w4.heap.size=gw at *
 have C:=cu.out u4 z.out.src z.out.fl;rw [j.out,i.out,Hn.out,Hm.out] at C
 refine C.mono ?_
 rintro e w6 ⟨rfl,L⟩;have cq:=hideS (z.out.step L);have bo:=hideS (ci.out.below L);have ab:=hideS (cx.out.step L);have bi:=hideS (cv.out.below L);clear L z ci cx cv cu C;rw [j.out,i.out,Hn.out,Hm.out] at br bv
 have E:=hideS (bo.out.below (kj w6 1));have G:=hideS (bi.out.below (kj w6 1));have cr:=hideS ab.out.t
 go_wp2_with fail
 go_region_held3 (fun g=>g.cell? ⟨gw,0,none⟩=some (.int .i64 base)/\g.cell? ⟨gw,1,none⟩=some (.int .i64 kind)/\g.cell? ⟨gw,2,none⟩=some (.slice k n o)/\g.cell? ⟨gw,3,none⟩=some (.slice s m H)) (first | exact cr.out | exact dy.out | go_keep) (first | (go_at_call 11;refine (turned (fC _ _)).mono ?_;rintro e wb ⟨rfl,rfl⟩) | (go_at_call 14;refine (br.out _ _ _ _ _ _ _ _ E.out G.out).mono ?_;rintro e w7 ⟨rfl,hb⟩;have F:=(kj w6 1).trans hb;have B:=hideS (cq.out.step F);have dF:=hideS (bo.out.below F);have bk:=hideS (ab.out.step F);have dn:=hideS (bi.out.below F);have dy:=hideS bk.out.t;clear hb F))
 all_goals
  clear cq bo ab bi E G cr dy br;obtain⟨t0,t1,t2,t3⟩:=O.out _ B.out
  go_wp2_with fail
  clear t0 t1 t2 t3;have K:=ct.out w7 B.out.src B.out.fl;rw [j.out,i.out,Hn.out,Hm.out] at K
  refine K.mono ?_
  rintro e w8 ⟨rfl,I⟩;have db:=hideS (B.out.step I);have ca:=hideS (dF.out.below I);have bs:=hideS (bk.out.step I);have cy:=hideS (dn.out.below I);clear I B dF bk dn ct K;have E:=hideS (ca.out.below (kj w8 1));have G:=hideS (cy.out.below (kj w8 1));have cc:=hideS bs.out.t
  go_wp2_with fail
  go_region_held3 (fun g=>g.cell? ⟨gw,0,none⟩=some (.int .i64 base)/\g.cell? ⟨gw,1,none⟩=some (.int .i64 kind)/\g.cell? ⟨gw,2,none⟩=some (.slice k n o)/\g.cell? ⟨gw,3,none⟩=some (.slice s m H)) (first | exact cc.out | exact cp.out | go_keep) (first | (go_at_call 11;refine (turned (fC _ _)).mono ?_;rintro e wb ⟨rfl,rfl⟩) | (go_at_call 16;refine (bv.out _ _ _ _ _ _ _ _ E.out G.out).mono ?_;rintro e w9 ⟨rfl,hb⟩;have bc:=(kj w8 1).trans hb;have ea:=hideS (db.out.step bc);have cp:=hideS (bs.out.step bc).t;clear hb bc))
  all_goals
   clear db ca bs cy E G cc cp bv;have qa:(E1==E1)=true:=beq_self_eq_true _;have qb:(E2==E2)=true:=beq_self_eq_true _;have dY:Hid (∀ d,Calls Tryz.prog 17 #[.float .f64 v1,.int .u64 (v1:Int)] d fun e g=>e=.returned (.bool true)/\g=d):=fun d=>by
    have:=He v1 v1 d (af df.out) (af df.out);rw [fB] at this;exact this
   have dV:Hid (∀ d,Calls Tryz.prog 17 #[.float .f64 v2,.int .u64 (v2:Int)] d fun e g=>e=.returned (.bool true)/\g=d):=fun d=>by
    have:=He v2 v2 d (af di.out) (af di.out);rw [fB] at this;exact this
   go_wp2_with fail
   refine (turned (dY.out _)).mono ?_
   rintro e d ⟨rfl,rfl⟩
   go_wp2_with fail
   refine (turned (dV.out _)).mono ?_
   rintro e d ⟨rfl,rfl⟩
   go_wp2_with fail
   refine (dU.out _).mono ?_
   rintro e eb ⟨rfl,Z⟩;have dx:=hideS (ea.out.step Z);clear Z
   go_wp2_with fail
   go_ret
   exact⟨rfl,dx.out.bl⟩
theorem oN (pl:Option Addr) (bl n f:Nat) (l:List Flw) (cur:Int) (a b:Option Addr) (bd m g i j d:Nat) (c:Cv) (h:Nat) (w:World) (r:JSrc aF w pl bl n l) (o:dB l) (_:l.length<=9223372036854775807) (_:LY cur) (p:TFl w a b bd m i j c.ds c.fs) (s:h<18446744073709551616) :
  Calls Tryz.prog 4 #[.slice pl l.length f,.int .i64 cur,.agg #[.int .i64 c.base,.int .i64 c.kind,.slice a c.ds.length g,.slice b c.fs.length d],.float .f64 h] w fun e q=>e=.returned (.bool true)/\Below w.heap.size w q:=by
 by_cases k:l.length<=20/\c.ds.length<=8/\c.fs.length<=8
 ·exact sT l cur c h pl bl n f _ a b bd m g i j d w r rfl o s p k
 ·exact oM cur c.base c.kind h pl a b _ f _ g _ d w k
end Go.Proofs.YtfdddijdjpijbaaGreat
