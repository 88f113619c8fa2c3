/-  -/
import Derived.Test.YtfdddijdjpijbaaGreatHbv
import Derived.Test.YtfdddijdjpijbaaGreatHbu
import Derived.Test.YtfdddijdjpijbaaGreatFFlw
set_option maxHeartbeats 25600000
set_option maxRecDepth 40000
namespace Go.Proofs.YtfdddijdjpijbaaGreat
open Go.RowKit
theorem nl (cur base kind:Int) (h:Nat) (pl m l:Option Addr) (N n D j F i:Nat) (w:World) (hn:¬ (N<=20/\D<=8/\F<=8)) :
  Calls Tryz.prog 3 #[.slice pl N n,.int .i64 cur,.agg #[.int .i64 base,.int .i64 kind,.slice m D j,.slice l F i],.float .f64 h] w fun e q=>e=.returned (.bool true)/\Below w.heap.size w q:=by
 have b:=hideS (bH w base kind (.slice m D j) (.slice l F i));have a:=hideS fun t=>rG base kind pl m l N n D j F i t
 rw [decide_eq_false hn] at a
 have k:=hideS DB;clear hn;have s:=b.out.t0;have o:=b.out.t1;have p:=b.out.t2;have r:=b.out.t3
 go_enter Tryz.func3,Tryz.ntmps3
 go_wp2_with fail
 refine (a.out _).mono ?_
 rintro e u ⟨rfl,c⟩;have f:=hideS (b.out.bl.trans (c.mono b.out.bl.size));clear c s o p r b a
 go_wp2_with fail
 refine (k.out _).mono ?_
 rintro e v ⟨rfl,d⟩;have g:=hideS (f.out.trans (d.mono f.out.size));clear d
 go_wp2_with fail
 go_ret
 exact⟨rfl,g.out⟩
structure LrB (w:World) (c:Cv) (pd pf:Option Addr) (bd od cd b2 o2 cf:Nat) (pl:Option Addr) (fb ol:Nat) (l:List Flw) (wr:World):Prop where
 bx:BxK wr w.heap.size c.base c.kind (.slice pd c.ds.length cd) (.slice pf c.fs.length cf)
 bl:Below w.heap.size w wr
 src:TFl wr pd pf bd od b2 o2 c.ds c.fs
 fl:JSrc aF wr pl fb ol l
theorem LrB.step {w:World} {c:Cv} {j i:Option Addr} {bd d e f m g:Nat} {pl:Option Addr} {bl k:Nat} {l:List Flw} {wr b:World} (h:LrB w c j i bd d e f m g pl bl k l wr) (a:Below wr.heap.size wr b):LrB w c j i bd d e f m g pl bl k l b:=⟨h.bx.step a,h.bl.trans (a.mono h.bl.size),h.src.below a,h.fl.below a⟩
theorem Cw (w:World) (q:Nat):Below w.heap.size w (w.drewN q):=⟨rfl,rfl,rfl,Nat.le_refl _,fun _ _=>rfl⟩
theorem rL (l:List Flw) (cur:Int) (c:Cv) (h:Nat) (pl:Option Addr) (bl L cl N:Nat) (k o:Option Addr) (bd G s M V x:Nat) (w:World) (hl:JSrc aF w pl bl L l) (hN:l.length=N) (hf:eu l) (hh:h<18446744073709551616) (hs:TFl w k o bd G M V c.ds c.fs) (hm:N<=20/\c.ds.length<=8/\c.fs.length<=8) :
  Calls Tryz.prog 3 #[.slice pl N cl,.int .i64 cur,.agg #[.int .i64 c.base,.int .i64 c.kind,.slice k c.ds.length s,.slice o c.fs.length x],.float .f64 h] w fun e X=>e=.returned (.bool true)/\Below w.heap.size w X:=by
 have O:=hideS fun a=>rG c.base c.kind pl k o N cl c.ds.length s c.fs.length x a
 rw [decide_eq_true hm] at O
 have cq:=hideS DB;have bk:Hid (∀ a,TFl a k o bd G M V c.ds c.fs->JSrc aF a pl bl L l->_):=fun a A K=>rF l cur c h pl bl L cl N k o bd G s M V x a hh K hN (by omega) hf A
 have ac:Hid (∀ a,TFl a k o bd G M V c.ds c.fs->_):=fun a A=>PK c.base c.kind k o bd G s M V x c.ds c.fs a A (by omega)
 have J:Hid (∀ a,JSrc aF a pl bl L l->_):=fun a K=>zX l pl bl L cl N a K hN (by omega)
 have ca:Hid (∀ Z bm om cm Y W dc a,JSrc aB a Z bm om l->CSrcD a k Y bd G W 0 c.ds c.fs->_):=fun Z bm om cm Y W dc a K A=>we l cur c h Z bm om cm N k Y bd G s W 0 dc a hh K hN (by omega) hf A hs.f
 have C:=(Below.refl w.heap.size w).alloc (Nat.le_refl _) (.cells #[.int .i64 c.base,.int .i64 c.kind,.slice k c.ds.length s,.slice o c.fs.length x] 26);have HB:Hid (LrB w c k o bd G s M V x pl bl L l (w.alloc (.cells #[.int .i64 c.base,.int .i64 c.kind,.slice k c.ds.length s,.slice o c.fs.length x] 26))):=⟨qU w _ _ _ _,C,hs.below C,hl.below C⟩;obtain⟨w1,T⟩:∃ w1,w.alloc (.cells #[.int .i64 c.base,.int .i64 c.kind,.slice k c.ds.length s,.slice o c.fs.length x] 26)=w1:=⟨_,rfl⟩;rw [T] at HB
 have HN:=hideS hN;have H8:=hideS hm.2.1;obtain⟨base,i⟩:∃ b,c.base=b:=⟨_,rfl⟩;obtain⟨kind,j⟩:∃ b,c.kind=b:=⟨_,rfl⟩;obtain⟨n,hn⟩:∃ b,c.ds.length=b:=⟨_,rfl⟩;obtain⟨m,I⟩:∃ b,c.fs.length=b:=⟨_,rfl⟩;have g:=hideS i;have d:=hideS j;have P:=hideS hn;have Hm:=hideS I;rw [i,j,hn,I] at T
 rw [i,j,hn,I];have tt:∀ a,LrB w c k o bd G s M V x pl bl L l a->a.cell? ⟨w.heap.size,0,none⟩=some (.int .i64 base)/\a.cell? ⟨w.heap.size,1,none⟩=some (.int .i64 kind)/\a.cell? ⟨w.heap.size,2,none⟩=some (.slice k n s)/\a.cell? ⟨w.heap.size,3,none⟩=some (.slice o m x):=fun a A=>by
  have:=A.bx.t;rw [g.out,d.out,P.out,Hm.out] at this
  exact this
 have r:=hideS tt;clear tt;obtain⟨t0,t1,t2,t3⟩:=r.out _ HB.out;clear hs hm C i j hn I hh hl hN hf
 go_enter Tryz.func3,Tryz.ntmps3
 go_wp2_with fail
 clear T t0 t1 t2 t3;have v:=O.out w1;rw [g.out,d.out,P.out,Hm.out] at v
 refine v.mono ?_
 rintro e w2 ⟨rfl,bh⟩;have B:=hideS (HB.out.step bh);clear bh HB O v;obtain⟨t0,t1,t2,t3⟩:=r.out _ B.out
 go_wp2_with fail
 clear t0 t1 t2 t3;have S:=bk.out w2 B.out.src B.out.fl;rw [g.out,d.out,P.out,Hm.out] at S
 refine S.mono ?_
 intro e w3 p;rw [<- P.out] at p
 obtain⟨p1,g1,n1,c1,E,xs,he,bv,bo,hX⟩:=Lt p.1;subst he;have H:=hideS (B.out.step p.2);have al:=hideS bv;have HX:=hideS hX;have bc:=hideS bo;have br:=hideS (Ls hX);clear p bv hX bo B S bk;have y:=hideS (fun a A=>ac.out a A)
 rw [g.out,d.out,P.out,Hm.out] at y
 have z:=hideS (fun Z bm om cm Y W dc a K A=>ca.out Z bm om cm Y W dc a K A)
 rw [g.out,d.out,P.out,Hm.out] at z
 have ak:=hideS (H.out.fl.below (Cw w3 1));have as:=hideS (r.out _ H.out)
 go_wp2_with fail
 clear ac ca
 go_region_held3 (fun X=>X.cell? ⟨w.heap.size,0,none⟩=some (.int .i64 base)/\X.cell? ⟨w.heap.size,1,none⟩=some (.int .i64 kind)/\X.cell? ⟨w.heap.size,2,none⟩=some (.slice k n s)/\X.cell? ⟨w.heap.size,3,none⟩=some (.slice o m x)) (first | exact as.out | exact cc.out | exact am.out | exact cu.out | go_keep) (first | (go_at_call 9;refine (J.out _ ak.out).mono ?_;rintro e w4 ⟨⟨u,rfl,p⟩,hb⟩;obtain⟨Z,gm,cm,rfl,sm,_⟩:=yQ p HN.out;have R:=(Cw w3 1).trans hb;have F:=hideS (H.out.step R);have ai:=hideS (al.out.below R);have ab:=hideS sm;have cc:=hideS (r.out _ F.out);clear p hb sm R) | (go_at_call 10;refine (y.out _ F.out.src).mono ?_;rintro e w5 ⟨Y,W,dc,rfl,ci,D⟩;have U:=hideS (F.out.step D);have bi:=hideS (ai.out.below D);have bb:=hideS (ab.out.below D);have ba:=hideS ci;have am:=hideS (r.out _ U.out);clear ci D) | (go_at_call 11;refine (turned (gn _ _)).mono ?_;rintro e wb ⟨rfl,rfl⟩) | (go_at_call 8;refine (z.out _ _ _ _ _ _ _ _ bb.out ba.out).mono ?_;intro e w6 p;rw [<- P.out] at p;obtain⟨p2,n2,c2,E2,ys,he,hO,ad⟩:=NU p.1;subst he;obtain⟨rfl,rfl⟩:=Lr HX.out ad;have Q:=hideS (U.out.step p.2);have cr:=hideS (bi.out.below p.2);have cp:=hideS hO;have cu:=hideS (r.out _ Q.out);clear hO ad p))
 all_goals
  clear H F U al ai bi ab bb ba as cc am ak y z J;have qE:(E==E)=true:=beq_self_eq_true _;have ct:=hideS (Hv _ g1 0 c1 n1 p1 (.slice p2 n2 c2) xs w6 cr.out cp.out br.out.1 bc.out (by have:=br.out.2;have:=H8.out;have:=bc.out;omega))
  have bz:Hid (∀ q,Below w.heap.size w (w6.drewN q)):=fun q=>Q.out.bl.trans ((Cw w6 q).mono Q.out.bl.size)
  go_wp2_with fail
  refine ct.out.mono ?_
  rintro e w7 ⟨rfl,q,rfl⟩
  go_wp2_with fail
  refine (cq.out _).mono ?_
  rintro e w8 ⟨rfl,bs⟩;have cs:=hideS ((bz.out q).trans (bs.mono (bz.out q).size));clear bs
  go_wp2_with fail
  go_ret
  exact⟨rfl,cs.out⟩
theorem nr (pl:Option Addr) (bl k g:Nat) (l:List Flw) (cur:Int) (b a:Option Addr) (bd i f n m d:Nat) (c:Cv) (h:Nat) (w:World) (q:JSrc aF w pl bl k l) (o:eu l) (_:l.length<=9223372036854775807) (_:Lv cur) (s:TFl w b a bd i n m c.ds c.fs) (r:h<18446744073709551616) :
  Calls Tryz.prog 3 #[.slice pl l.length g,.int .i64 cur,.agg #[.int .i64 c.base,.int .i64 c.kind,.slice b c.ds.length f,.slice a c.fs.length d],.float .f64 h] w fun e p=>e=.returned (.bool true)/\Below w.heap.size w p:=by
 by_cases j:l.length<=20/\c.ds.length<=8/\c.fs.length<=8
 ·exact rL l cur c h pl bl k g _ b a bd i f n m d w q rfl o r s j
 ·exact nl cur c.base c.kind h pl b a _ g _ f _ d w j
end Go.Proofs.YtfdddijdjpijbaaGreat
