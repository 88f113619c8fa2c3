/-  -/
import Derived.Test.YtfdddijdjpijbaaGreatHbv
import Derived.Test.YtfdddijdjpijbaaGreatHax
import Derived.Test.YtfdddijdjpijbaaGreatHbu
import Derived.Test.YtfdddijdjpijbaaGreatFFlw
set_option maxHeartbeats 25600000
set_option maxRecDepth 40000
namespace Go.Proofs.YtfdddijdjpijbaaGreat
open Go.RowKit
noncomputable def dlV (l:List Flw) (cur:Int) (c:Cv) (h:Nat):Nat:=if prE l cur c=0 then deV l cur c h else 0
noncomputable def dlE (l:List Flw) (cur:Int) (c:Cv) (h:Nat):Int:=if prE l cur c=0 then deE l cur c h else prE l cur c
noncomputable def gmV (l:List Flw) (cur:Int) (c:Cv) (h:Nat):Nat:=if erK (prE l cur c) (upE l cur c h) (upE l cur c (flipN h))=0 then tlO (gaO (upV l cur c h) (prV l cur c) (upV l cur c (flipN h))) else 0
noncomputable def gmE (l:List Flw) (cur:Int) (c:Cv) (h:Nat):Int:=if erK (prE l cur c) (upE l cur c h) (upE l cur c (flipN h))=0 then teO (gaO (upV l cur c h) (prV l cur c) (upV l cur c (flipN h))) else erK (prE l cur c) (upE l cur c h) (upE l cur c (flipN h))
theorem OP {l:List Flw} {cur:Int} {c:Cv} {h:Nat} (f:Nat->Value) {e:Ending} (a:(prE l cur c≠0/\e=.returned (.tuple #[f 0,.int .i64 (prE l cur c)]))\/(prE l cur c=0/\e=.returned (.tuple #[f (deV l cur c h),.int .i64 (deE l cur c h)]))):e=.returned (.tuple #[f (dlV l cur c h),.int .i64 (dlE l cur c h)]):=by
 unfold dlV dlE;rcases a with⟨a,b⟩| ⟨a,b⟩
 ·rw [if_neg a,if_neg a];exact b
 ·rw [if_pos a,if_pos a];exact b
theorem OQ {l:List Flw} {cur:Int} {c:Cv} {h:Nat} (f:Nat->Value) {e:Ending} (a:(prE l cur c≠0/\e=.returned (.tuple #[f 0,.int .i64 (prE l cur c)]))\/(prE l cur c=0/\((upE l cur c h≠0/\e=.returned (.tuple #[f 0,.int .i64 (upE l cur c h)]))\/(upE l cur c h=0/\upE l cur c (flipN h)≠0/\e=.returned (.tuple #[f 0,.int .i64 (upE l cur c (flipN h))]))\/(upE l cur c h=0/\upE l cur c (flipN h)=0/\e=.returned (.tuple #[f (tlO (gaO (upV l cur c h) (prV l cur c) (upV l cur c (flipN h)))),.int .i64 (teO (gaO (upV l cur c h) (prV l cur c) (upV l cur c (flipN h))))]))))):e=.returned (.tuple #[f (gmV l cur c h),.int .i64 (gmE l cur c h)]):=by
 unfold gmV gmE;rcases a with⟨a,b⟩| ⟨a,⟨d,b⟩| ⟨d,g,b⟩| ⟨d,g,b⟩⟩
 ·have k:erK (prE l cur c) (upE l cur c h) (upE l cur c (flipN h))=prE l cur c:=by unfold erK;rw [if_neg a]
  rw [k,if_neg a,if_neg a];exact b
 ·have k:erK (prE l cur c) (upE l cur c h) (upE l cur c (flipN h))=upE l cur c h:=by unfold erK;rw [if_pos a,if_neg d]
  rw [k,if_neg d,if_neg d];exact b
 ·have k:erK (prE l cur c) (upE l cur c h) (upE l cur c (flipN h))=upE l cur c (flipN h):=by unfold erK;rw [if_pos a,if_pos d]
  rw [k,if_neg g,if_neg g];exact b
 ·have k:erK (prE l cur c) (upE l cur c h) (upE l cur c (flipN h))=upE l cur c (flipN h):=by unfold erK;rw [if_pos a,if_pos d]
  rw [k,if_pos g,if_pos g];exact b
theorem LZ (x:Nat) (h:x<18446744073709551616):tldV x<18446744073709551616:=by
 unfold tldV
 split
 ·exact h
 ·decide
theorem Rk (l:List Flw) (cur:Int) (c:Cv) (h:Nat):dlV l cur c h<18446744073709551616:=by
 unfold dlV
 split
 ·rename_i a
  by_cases e:upE l cur c h=0
  ·rw [(OO e).1];exact LZ _ (CH (V0:=prV l cur c) (Aw e).2.1 (cL a).2.2.1).2.2.1
  ·rw [(CU e).1];decide
 ·decide
theorem Rl (l:List Flw) (cur:Int) (c:Cv) (h:Nat):gmV l cur c h<18446744073709551616:=by
 unfold gmV
 split
 ·cases k:gaO (upV l cur c h) (prV l cur c) (upV l cur c (flipN h)) with
  | none=>decide
  | some r=>exact LZ r (yE (by simp) k)
 ·decide
theorem oM (cur base kind:Int) (h:Nat) (pl l i:Option Addr) (N n D j F k:Nat) (w:World) (hn:¬ (N<=20/\D<=8/\F<=8)) :
  Calls Tryz.prog 4 #[.slice pl N n,.int .i64 cur,.agg #[.int .i64 base,.int .i64 kind,.slice l D j,.slice i F k],.float .f64 h] w fun e q=>e=.returned (.bool true)/\Below w.heap.size w q:=by
 have a:=hideS (bu w base kind (.slice l D j) (.slice i F k));have b:=hideS fun o=>rX base kind pl l i N n D j F k o
 rw [decide_eq_false hn] at b
 have m:=hideS Eg;clear hn;have r:=a.out.t0;have t:=a.out.t1;have s:=a.out.t2;have p:=a.out.t3
 go_enter Tryz.func4,Tryz.ntmps4
 go_wp2_with fail
 refine (b.out _).mono ?_
 rintro e u ⟨rfl,c⟩;have d:=hideS (a.out.bl.trans (c.mono a.out.bl.size));clear c r t s p a b
 go_wp2_with fail
 refine (m.out _).mono ?_
 rintro e v ⟨rfl,f⟩;have g:=hideS (d.out.trans (f.mono d.out.size));clear f
 go_wp2_with fail
 go_ret
 exact⟨rfl,g.out⟩
structure DlB (w:World) (c:Cv) (pd pf:Option Addr) (bd od cd b2 o2 cf:Nat) (pl:Option Addr) (fb ol:Nat) (l:List Flw) (wr:World):Prop where
 bx:BxK wr w.heap.size c.base c.kind (.slice pd c.ds.length cd) (.slice pf c.fs.length cf)
 bl:Below w.heap.size w wr
 src:TFl wr pd pf bd od b2 o2 c.ds c.fs
 fl:JSrc aF wr pl fb ol l
theorem DlB.step {w:World} {c:Cv} {b m:Option Addr} {bd i e f j k:Nat} {pl:Option Addr} {bl d:Nat} {l:List Flw} {wr g:World} (h:DlB w c b m bd i e f j k pl bl d l wr) (a:Below wr.heap.size wr g):DlB w c b m bd i e f j k pl bl d l g:=⟨h.bx.step a,h.bl.trans (a.mono h.bl.size),h.src.below a,h.fl.below a⟩
theorem kj (w:World) (q:Nat):Below w.heap.size w (w.drewN q):=⟨rfl,rfl,rfl,Nat.le_refl _,fun _ _=>rfl⟩
theorem sT (l:List Flw) (cur:Int) (c:Cv) (h:Nat) (pl:Option Addr) (bl P cl N:Nat) (k r:Option Addr) (bd s o S Q v:Nat) (w:World) (hl:JSrc aF w pl bl P l) (hN:l.length=N) (hf:dB l) (hh:h<18446744073709551616) (hs:TFl w k r bd s S Q c.ds c.fs) (hm:N<=20/\c.ds.length<=8/\c.fs.length<=8) :
  Calls Tryz.prog 4 #[.slice pl N cl,.int .i64 cur,.agg #[.int .i64 c.base,.int .i64 c.kind,.slice k c.ds.length o,.slice r c.fs.length v],.float .f64 h] w fun e j=>e=.returned (.bool true)/\Below w.heap.size w j:=by
 have bc:=hideS fun d=>rX c.base c.kind pl k r N cl c.ds.length o c.fs.length v d
 rw [decide_eq_true hm] at bc
 have dV:=hideS Eg;have dd:Hid (∀ d,TFl d k r bd s S Q c.ds c.fs->JSrc aF d pl bl P l->Calls Tryz.prog 13 #[.slice pl N cl,.int .i64 cur,.agg #[.int .i64 c.base,.int .i64 c.kind,.slice k c.ds.length o,.slice r c.fs.length v],.float .f64 h] d fun e j=>e=.returned (.tuple #[.float .f64 (dlV l cur c h),.int .i64 (dlE l cur c h)])/\Below d.heap.size d j):=fun d B U=>(uG l cur c h pl bl P cl N k r bd s o S Q v d hh U hN (by omega) hf B).mono fun e j a=>⟨OP (fun x=>.float .f64 x) a.1,a.2⟩
 have bs:Hid (∀ d,TFl d k r bd s S Q c.ds c.fs->JSrc aF d pl bl P l->Calls Tryz.prog 15 #[.slice pl N cl,.int .i64 cur,.agg #[.int .i64 c.base,.int .i64 c.kind,.slice k c.ds.length o,.slice r c.fs.length v],.float .f64 h] d fun e j=>e=.returned (.tuple #[.float .f64 (gmV l cur c h),.int .i64 (gmE l cur c h)])/\Below d.heap.size d j):=fun d B U=>(GV l cur c h pl bl P cl N k r bd s o S Q v d hh U hN (by omega) hf B).mono fun e j a=>⟨OQ (fun x=>.float .f64 x) a.1,a.2⟩
 have cc:Hid (∀ d,TFl d k r bd s S Q c.ds c.fs->_):=fun d B=>Qo c.base c.kind k r bd s o S Q v c.ds c.fs d B (by omega)
 have W:Hid (∀ d,JSrc aF d pl bl P l->_):=fun d U=>Aq l pl bl P cl N d U hN (by omega)
 have ab:Hid (∀ M bm om cm y Z z d,JSrc aB d M bm om l->CSrcD d k y bd s Z 0 c.ds c.fs->Calls Tryz.prog 14 #[.slice M N cm,.int .i64 cur,.agg #[.int .i64 c.base,.int .i64 c.kind,.slice k c.ds.length o,.slice y c.fs.length z],.int .u64 (h:Int)] d fun e j=>e=.returned (.tuple #[.int .u64 (dlV l cur c h:Nat),.int .i64 (dlE l cur c h)])/\Below d.heap.size d j):=fun M bm om cm y Z z d U B=>(Ax l cur c h M bm om cm N k y bd s o Z 0 z d hh U hN (by omega) hf B hs.f).mono fun e j a=>⟨OP (fun x=>.int .u64 (x:Int)) a.1,a.2⟩
 have bi:Hid (∀ M bm om cm y Z z d,JSrc aB d M bm om l->CSrcD d k y bd s Z 0 c.ds c.fs->Calls Tryz.prog 16 #[.slice M N cm,.int .i64 cur,.agg #[.int .i64 c.base,.int .i64 c.kind,.slice k c.ds.length o,.slice y c.fs.length z],.int .u64 (h:Int)] d fun e j=>e=.returned (.tuple #[.int .u64 (gmV l cur c h:Nat),.int .i64 (gmE l cur c h)])/\Below d.heap.size d j):=fun M bm om cm y Z z d U B=>(Az l cur c h M bm om cm N k y bd s o Z 0 z d hh U hN (by omega) hf B hs.f).mono fun e j a=>⟨OQ (fun x=>.int .u64 (x:Int)) a.1,a.2⟩
 have cy:Hid (dlV l cur c h<18446744073709551616):=Rk l cur c h;have dk:Hid (gmV l cur c h<18446744073709551616):=Rl l cur c h;generalize dlV l cur c h=v1 at *
 generalize dlE l cur c h=E1 at *
 generalize gmV l cur c h=v2 at *
 generalize gmE l cur c h=E2 at *
 have V:=(Below.refl w.heap.size w).alloc (Nat.le_refl _) (.cells #[.int .i64 c.base,.int .i64 c.kind,.slice k c.ds.length o,.slice r c.fs.length v] 26);have HB:Hid (DlB w c k r bd s o S Q v pl bl P l (w.alloc (.cells #[.int .i64 c.base,.int .i64 c.kind,.slice k c.ds.length o,.slice r c.fs.length v] 26))):=⟨rl w _ _ _ _,V,hs.below V,hl.below V⟩;obtain⟨w1,ai⟩:∃ w1,w.alloc (.cells #[.int .i64 c.base,.int .i64 c.kind,.slice k c.ds.length o,.slice r c.fs.length v] 26)=w1:=⟨_,rfl⟩;rw [ai] at HB
 have HN:=hideS hN;obtain⟨base,p⟩:∃ b,c.base=b:=⟨_,rfl⟩;obtain⟨kind,q⟩:∃ b,c.kind=b:=⟨_,rfl⟩;obtain⟨n,hn⟩:∃ b,c.ds.length=b:=⟨_,rfl⟩;obtain⟨m,R⟩:∃ b,c.fs.length=b:=⟨_,rfl⟩;have i:=hideS p;have g:=hideS q;have Hn:=hideS hn;have Hm:=hideS R;rw [p,q,hn,R] at ai
 rw [p,q,hn,R];have tt:∀ d,DlB w c k r bd s o S Q v pl bl P l d->d.cell? ⟨w.heap.size,0,none⟩=some (.int .i64 base)/\d.cell? ⟨w.heap.size,1,none⟩=some (.int .i64 kind)/\d.cell? ⟨w.heap.size,2,none⟩=some (.slice k n o)/\d.cell? ⟨w.heap.size,3,none⟩=some (.slice r m v):=fun d B=>by
  have:=B.bx.t;rw [i.out,g.out,Hn.out,Hm.out] at this
  exact this
 have O:=hideS tt;clear tt;obtain⟨t0,t1,t2,t3⟩:=O.out _ HB.out;clear hs hm V p q hn R hh hl hN hf
 go_enter Tryz.func4,Tryz.ntmps4
 go_wp2_with fail
 clear ai t0 t1 t2 t3;have E:=bc.out w1;rw [i.out,g.out,Hn.out,Hm.out] at E
 refine E.mono ?_
 rintro e w2 ⟨rfl,dn⟩;have br:=hideS (HB.out.step dn);clear dn HB bc E
 go_wp2_with fail
 refine (W.out _ br.out.fl).mono ?_
 rintro e w3 ⟨⟨u,rfl,ho⟩,ca⟩;obtain⟨M,gm,cm,rfl,sm,_⟩:=zq ho HN.out;have T:=hideS (br.out.step ca);have dx:=hideS sm;clear ho sm ca br W;obtain⟨t0,t1,t2,t3⟩:=O.out _ T.out
 go_wp2_with fail
 clear t0 t1 t2 t3;have D:=cc.out w3 T.out.src;rw [i.out,g.out,Hn.out,Hm.out] at D
 refine D.mono ?_
 rintro e w4 ⟨y,Z,z,rfl,db,as⟩;obtain⟨u1,u2,u3,u4,⟨e0,z0,y0⟩,⟨e1,z1,y1⟩,⟨e2,z2,y2⟩,⟨e3,z3,y3⟩,hZ,ci⟩:=dH w4.heap.size base kind (.slice k n o) (.slice y m z) (w4.alloc bG) (heap_alloc_new _ _);have bo:Below w4.heap.size w4 u4:=((Below.refl _ w4).alloc (Nat.le_refl _) bG).trans ci;have al:Below w3.heap.size w3 u4:=as.trans (bo.mono as.size);have F:=hideS (T.out.step al);have cq:=hideS (dx.out.below al);have cs:=hideS hZ;have di:=hideS (db.below bo);obtain⟨wa,bk⟩:∃ wa,w4.alloc bG=wa:=⟨_,rfl⟩;rw [bk] at e0 z0 y0
 unfold bG at bk
 obtain⟨t0,t1,t2,t3⟩:=O.out _ F.out;clear db as hZ ci bo al T dx cc D
 go_wp2_with fail
 clear bk e0 z0 y0 e1 z1 y1 e2 z2 y2 e3 z3 y3 t0 t1 t2 t3;generalize w4.heap.size=Y at *
 have C:=dd.out u4 F.out.src F.out.fl;rw [i.out,g.out,Hn.out,Hm.out] at C
 refine C.mono ?_
 rintro e w6 ⟨rfl,I⟩;have da:=hideS (F.out.step I);have ac:=hideS (cq.out.below I);have bb:=hideS (cs.out.step I);have ba:=hideS (di.out.below I);clear I F cq cs di dd C;rw [i.out,g.out,Hn.out,Hm.out] at ab bi
 have A:=hideS (ac.out.below (kj w6 1));have J:=hideS (ba.out.below (kj w6 1));have ct:=hideS bb.out.t
 go_wp2_with fail
 go_region_held3 (fun j=>j.cell? ⟨Y,0,none⟩=some (.int .i64 base)/\j.cell? ⟨Y,1,none⟩=some (.int .i64 kind)/\j.cell? ⟨Y,2,none⟩=some (.slice k n o)/\j.cell? ⟨Y,3,none⟩=some (.slice y m z)) (first | exact ct.out | exact cu.out | go_keep) (first | (go_at_call 11;refine (turned (fC _ _)).mono ?_;rintro e wb ⟨rfl,rfl⟩) | (go_at_call 14;refine (ab.out _ _ _ _ _ _ _ _ A.out J.out).mono ?_;rintro e w7 ⟨rfl,hb⟩;have H:=(kj w6 1).trans hb;have G:=hideS (da.out.step H);have cr:=hideS (ac.out.below H);have bh:=hideS (bb.out.step H);have cx:=hideS (ba.out.below H);have cu:=hideS bh.out.t;clear hb H))
 all_goals
  clear da ac bb ba A J ct cu ab;obtain⟨t0,t1,t2,t3⟩:=O.out _ G.out
  go_wp2_with fail
  clear t0 t1 t2 t3;have L:=bs.out w7 G.out.src G.out.fl;rw [i.out,g.out,Hn.out,Hm.out] at L
  refine L.mono ?_
  rintro e w8 ⟨rfl,K⟩;have cp:=hideS (G.out.step K);have dy:=hideS (cr.out.below K);have ad:=hideS (bh.out.step K);have bv:=hideS (cx.out.below K);clear K G cr bh cx bs L;have A:=hideS (dy.out.below (kj w8 1));have J:=hideS (bv.out.below (kj w8 1));have df:=hideS ad.out.t
  go_wp2_with fail
  go_region_held3 (fun j=>j.cell? ⟨Y,0,none⟩=some (.int .i64 base)/\j.cell? ⟨Y,1,none⟩=some (.int .i64 kind)/\j.cell? ⟨Y,2,none⟩=some (.slice k n o)/\j.cell? ⟨Y,3,none⟩=some (.slice y m z)) (first | exact df.out | exact bz.out | go_keep) (first | (go_at_call 11;refine (turned (fC _ _)).mono ?_;rintro e wb ⟨rfl,rfl⟩) | (go_at_call 16;refine (bi.out _ _ _ _ _ _ _ _ A.out J.out).mono ?_;rintro e w9 ⟨rfl,hb⟩;have am:=(kj w8 1).trans hb;have dE:=hideS (cp.out.step am);have bz:=hideS (ad.out.step am).t;clear hb am))
  all_goals
   clear cp dy ad bv A J df bz bi;have qa:(E1==E1)=true:=beq_self_eq_true _;have qb:(E2==E2)=true:=beq_self_eq_true _;have dU:Hid (∀ d,Calls Tryz.prog 17 #[.float .f64 v1,.int .u64 (v1:Int)] d fun e j=>e=.returned (.bool true)/\j=d):=fun d=>by
    have:=He v1 v1 d (af cy.out) (af cy.out);rw [fB] at this;exact this
   have dF:Hid (∀ d,Calls Tryz.prog 17 #[.float .f64 v2,.int .u64 (v2:Int)] d fun e j=>e=.returned (.bool true)/\j=d):=fun d=>by
    have:=He v2 v2 d (af dk.out) (af dk.out);rw [fB] at this;exact this
   go_wp2_with fail
   refine (turned (dU.out _)).mono ?_
   rintro e d ⟨rfl,rfl⟩
   go_wp2_with fail
   refine (turned (dF.out _)).mono ?_
   rintro e d ⟨rfl,rfl⟩
   go_wp2_with fail
   refine (dV.out _).mono ?_
   rintro e dY ⟨rfl,X⟩;have cv:=hideS (dE.out.step X);clear X
   go_wp2_with fail
   go_ret
   exact⟨rfl,cv.out.bl⟩
theorem oN (pl:Option Addr) (bl m g:Nat) (l:List Flw) (cur:Int) (b a:Option Addr) (bd i d n j f:Nat) (c:Cv) (h:Nat) (w:World) (p:JSrc aF w pl bl m l) (q:dB l) (_:l.length<=9223372036854775807) (_:LY cur) (s:TFl w b a bd i n j c.ds c.fs) (o:h<18446744073709551616) :
  Calls Tryz.prog 4 #[.slice pl l.length g,.int .i64 cur,.agg #[.int .i64 c.base,.int .i64 c.kind,.slice b c.ds.length d,.slice a c.fs.length f],.float .f64 h] w fun e r=>e=.returned (.bool true)/\Below w.heap.size w r:=by
 by_cases k:l.length<=20/\c.ds.length<=8/\c.fs.length<=8
 ·exact sT l cur c h pl bl m g _ b a bd i d n j f w p rfl q o s k
 ·exact oM cur c.base c.kind h pl b a _ g _ d _ f w k
end Go.Proofs.YtfdddijdjpijbaaGreat
