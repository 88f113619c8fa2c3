/-  -/
import Derived.Test.YtfdddijdjpijbaaGreatHbv
import Derived.Test.YtfdddijdjpijbaaGreatHbu
import Derived.Test.YtfdddijdjpijbaaGreatFFlw
set_option maxHeartbeats 25600000
set_option maxRecDepth 40000
namespace Go.Proofs.YtfdddijdjpijbaaGreat
open Go.RowKit
theorem nl (cur base kind:Int) (h:Nat) (pl k j:Option Addr) (N n D l F m:Nat) (w:World) (hn:¬ (N<=20/\D<=8/\F<=8)) :
  Calls Tryz.prog 3 #[.slice pl N n,.int .i64 cur,.agg #[.int .i64 base,.int .i64 kind,.slice k D l,.slice j F m],.float .f64 h] w fun e s=>e=.returned (.bool true)/\Below w.heap.size w s:=by
 have b:=hideS (bH w base kind (.slice k D l) (.slice j F m));have a:=hideS fun q=>rG base kind pl k j N n D l F m q
 rw [decide_eq_false hn] at a
 have g:=hideS DB;clear hn;have r:=b.out.t0;have o:=b.out.t1;have t:=b.out.t2;have p:=b.out.t3
 go_enter Tryz.func3,Tryz.ntmps3
 go_wp2_with fail
 refine (a.out _).mono ?_
 rintro e u ⟨rfl,f⟩;have c:=hideS (b.out.bl.trans (f.mono b.out.bl.size));clear f r o t p b a
 go_wp2_with fail
 refine (g.out _).mono ?_
 rintro e v ⟨rfl,d⟩;have i:=hideS (c.out.trans (d.mono c.out.size));clear d
 go_wp2_with fail
 go_ret
 exact⟨rfl,i.out⟩
structure LrB (w:World) (c:Cv) (pd pf:Option Addr) (bd od cd b2 o2 cf:Nat) (pl:Option Addr) (fb ol:Nat) (l:List Flw) (wr:World):Prop where
 bx:BxK wr w.heap.size c.base c.kind (.slice pd c.ds.length cd) (.slice pf c.fs.length cf)
 bl:Below w.heap.size w wr
 src:TFl wr pd pf bd od b2 o2 c.ds c.fs
 fl:JSrc aF wr pl fb ol l
theorem LrB.step {w:World} {c:Cv} {m i:Option Addr} {bd e d k g f:Nat} {pl:Option Addr} {bl j:Nat} {l:List Flw} {wr b:World} (h:LrB w c m i bd e d k g f pl bl j l wr) (a:Below wr.heap.size wr b):LrB w c m i bd e d k g f pl bl j l b:=⟨h.bx.step a,h.bl.trans (a.mono h.bl.size),h.src.below a,h.fl.below a⟩
theorem Cw (w:World) (q:Nat):Below w.heap.size w (w.drewN q):=⟨rfl,rfl,rfl,Nat.le_refl _,fun _ _=>rfl⟩
theorem rL (l:List Flw) (cur:Int) (c:Cv) (h:Nat) (pl:Option Addr) (bl R cl N:Nat) (k o:Option Addr) (bd F s V O x:Nat) (w:World) (hl:JSrc aF w pl bl R l) (hN:l.length=N) (hf:eu l) (hh:h<18446744073709551616) (hs:TFl w k o bd F V O c.ds c.fs) (hm:N<=20/\c.ds.length<=8/\c.fs.length<=8) :
  Calls Tryz.prog 3 #[.slice pl N cl,.int .i64 cur,.agg #[.int .i64 c.base,.int .i64 c.kind,.slice k c.ds.length s,.slice o c.fs.length x],.float .f64 h] w fun e Z=>e=.returned (.bool true)/\Below w.heap.size w Z:=by
 have U:=hideS fun a=>rG c.base c.kind pl k o N cl c.ds.length s c.fs.length x a
 rw [decide_eq_true hm] at U
 have cx:=hideS DB;have ba:Hid (∀ a,TFl a k o bd F V O c.ds c.fs->JSrc aF a pl bl R l->_):=fun a v T=>rF l cur c h pl bl R cl N k o bd F s V O x a hh T hN (by omega) hf v
 have bz:Hid (∀ a,TFl a k o bd F V O c.ds c.fs->_):=fun a v=>PK c.base c.kind k o bd F s V O x c.ds c.fs a v (by omega)
 have J:Hid (∀ a,JSrc aF a pl bl R l->_):=fun a T=>zX l pl bl R cl N a T hN (by omega)
 have am:Hid (∀ W bm om cm Y X dc a,JSrc aB a W bm om l->CSrcD a k Y bd F X 0 c.ds c.fs->_):=fun W bm om cm Y X dc a T v=>we l cur c h W bm om cm N k Y bd F s X 0 dc a hh T hN (by omega) hf v hs.f
 have G:=(Below.refl w.heap.size w).alloc (Nat.le_refl _) (.cells #[.int .i64 c.base,.int .i64 c.kind,.slice k c.ds.length s,.slice o c.fs.length x] 26);have HB:Hid (LrB w c k o bd F s V O x pl bl R l (w.alloc (.cells #[.int .i64 c.base,.int .i64 c.kind,.slice k c.ds.length s,.slice o c.fs.length x] 26))):=⟨qU w _ _ _ _,G,hs.below G,hl.below G⟩;obtain⟨w1,Q⟩:∃ w1,w.alloc (.cells #[.int .i64 c.base,.int .i64 c.kind,.slice k c.ds.length s,.slice o c.fs.length x] 26)=w1:=⟨_,rfl⟩;rw [Q] at HB
 have HN:=hideS hN;have H8:=hideS hm.2.1;obtain⟨base,i⟩:∃ b,c.base=b:=⟨_,rfl⟩;obtain⟨kind,j⟩:∃ b,c.kind=b:=⟨_,rfl⟩;obtain⟨n,hn⟩:∃ b,c.ds.length=b:=⟨_,rfl⟩;obtain⟨m,I⟩:∃ b,c.fs.length=b:=⟨_,rfl⟩;have d:=hideS i;have g:=hideS j;have M:=hideS hn;have Hm:=hideS I;rw [i,j,hn,I] at Q
 rw [i,j,hn,I];have tt:∀ a,LrB w c k o bd F s V O x pl bl R l a->a.cell? ⟨w.heap.size,0,none⟩=some (.int .i64 base)/\a.cell? ⟨w.heap.size,1,none⟩=some (.int .i64 kind)/\a.cell? ⟨w.heap.size,2,none⟩=some (.slice k n s)/\a.cell? ⟨w.heap.size,3,none⟩=some (.slice o m x):=fun a v=>by
  have:=v.bx.t;rw [d.out,g.out,M.out,Hm.out] at this
  exact this
 have r:=hideS tt;clear tt;obtain⟨t0,t1,t2,t3⟩:=r.out _ HB.out;clear hs hm G i j hn I hh hl hN hf
 go_enter Tryz.func3,Tryz.ntmps3
 go_wp2_with fail
 clear Q t0 t1 t2 t3;have A:=U.out w1;rw [d.out,g.out,M.out,Hm.out] at A
 refine A.mono ?_
 rintro e w2 ⟨rfl,bc⟩;have y:=hideS (HB.out.step bc);clear bc HB U A;obtain⟨t0,t1,t2,t3⟩:=r.out _ y.out
 go_wp2_with fail
 clear t0 t1 t2 t3;have K:=ba.out w2 y.out.src y.out.fl;rw [d.out,g.out,M.out,Hm.out] at K
 refine K.mono ?_
 intro e w3 p;rw [<- M.out] at p
 obtain⟨p1,g1,n1,c1,E,xs,he,ci,bo,hX⟩:=Lt p.1;subst he;have H:=hideS (y.out.step p.2);have cq:=hideS ci;have HX:=hideS hX;have ab:=hideS bo;have cc:=hideS (Ls hX);clear p ci hX bo y K ba;have z:=hideS (fun a v=>bz.out a v)
 rw [d.out,g.out,M.out,Hm.out] at z
 have B:=hideS (fun W bm om cm Y X dc a T v=>am.out W bm om cm Y X dc a T v)
 rw [d.out,g.out,M.out,Hm.out] at B
 have al:=hideS (H.out.fl.below (Cw w3 1));have ad:=hideS (r.out _ H.out)
 go_wp2_with fail
 clear bz am
 go_region_held3 (fun Z=>Z.cell? ⟨w.heap.size,0,none⟩=some (.int .i64 base)/\Z.cell? ⟨w.heap.size,1,none⟩=some (.int .i64 kind)/\Z.cell? ⟨w.heap.size,2,none⟩=some (.slice k n s)/\Z.cell? ⟨w.heap.size,3,none⟩=some (.slice o m x)) (first | exact ad.out | exact ca.out | exact br.out | exact cu.out | go_keep) (first | (go_at_call 9;refine (J.out _ al.out).mono ?_;rintro e w4 ⟨⟨u,rfl,p⟩,hb⟩;obtain⟨W,gm,cm,rfl,sm,_⟩:=yQ p HN.out;have P:=(Cw w3 1).trans hb;have D:=hideS (H.out.step P);have bi:=hideS (cq.out.below P);have bk:=hideS sm;have ca:=hideS (r.out _ D.out);clear p hb sm P) | (go_at_call 10;refine (z.out _ D.out.src).mono ?_;rintro e w5 ⟨Y,X,dc,rfl,ak,C⟩;have S:=hideS (D.out.step C);have cp:=hideS (bi.out.below C);have ai:=hideS (bk.out.below C);have bb:=hideS ak;have br:=hideS (r.out _ S.out);clear ak C) | (go_at_call 11;refine (turned (gn _ _)).mono ?_;rintro e wb ⟨rfl,rfl⟩) | (go_at_call 8;refine (B.out _ _ _ _ _ _ _ _ ai.out bb.out).mono ?_;intro e w6 p;rw [<- M.out] at p;obtain⟨p2,n2,c2,E2,ys,he,hO,bv⟩:=NU p.1;subst he;obtain⟨rfl,rfl⟩:=Lr HX.out bv;have L:=hideS (S.out.step p.2);have cr:=hideS (cp.out.below p.2);have ct:=hideS hO;have cu:=hideS (r.out _ L.out);clear hO bv p))
 all_goals
  clear H D S cq bi cp bk ai bb ad ca br al z B J;have qE:(E==E)=true:=beq_self_eq_true _;have cs:=hideS (Hv _ g1 0 c1 n1 p1 (.slice p2 n2 c2) xs w6 cr.out ct.out cc.out.1 ab.out (by have:=cc.out.2;have:=H8.out;have:=ab.out;omega))
  have bs:Hid (∀ q,Below w.heap.size w (w6.drewN q)):=fun q=>L.out.bl.trans ((Cw w6 q).mono L.out.bl.size)
  go_wp2_with fail
  refine cs.out.mono ?_
  rintro e w7 ⟨rfl,q,rfl⟩
  go_wp2_with fail
  refine (cx.out _).mono ?_
  rintro e w8 ⟨rfl,bh⟩;have cv:=hideS ((bs.out q).trans (bh.mono (bs.out q).size));clear bh
  go_wp2_with fail
  go_ret
  exact⟨rfl,cv.out⟩
theorem nr (pl:Option Addr) (bl m g:Nat) (l:List Flw) (cur:Int) (b a:Option Addr) (bd i d k j f:Nat) (c:Cv) (h:Nat) (w:World) (s:JSrc aF w pl bl m l) (o:eu l) (_:l.length<=9223372036854775807) (_:Lv cur) (q:TFl w b a bd i k j c.ds c.fs) (p:h<18446744073709551616) :
  Calls Tryz.prog 3 #[.slice pl l.length g,.int .i64 cur,.agg #[.int .i64 c.base,.int .i64 c.kind,.slice b c.ds.length d,.slice a c.fs.length f],.float .f64 h] w fun e r=>e=.returned (.bool true)/\Below w.heap.size w r:=by
 by_cases n:l.length<=20/\c.ds.length<=8/\c.fs.length<=8
 ·exact rL l cur c h pl bl m g _ b a bd i d k j f w s rfl o p q n
 ·exact nl cur c.base c.kind h pl b a _ g _ d _ f w n
end Go.Proofs.YtfdddijdjpijbaaGreat
