/-  -/
import Derived.Test.YtkcnkhdbojdhgaaGreatHbp
import Derived.Test.YtkcnkhdbojdhgaaGreatHap
import Derived.Test.YtkcnkhdbojdhgaaGreatHbh
import Derived.Test.YtkcnkhdbojdhgaaGreatFFlw
import Derived.Test.YtkcnkhdbojdhgaaGreatHar
namespace Go.Proofs.YtkcnkhdbojdhgaaGreat
open Go.RowKit

theorem IM (base kind:Int) (px py:Option Addr) (bx ox cx b2 oy cy:Nat) (xs:List Int) (ys:List Nat) (w:World) (hs:TFl w px py bx ox b2 oy xs ys) (hy:ys.length≤17592186043904) :
  Calls Tryz.prog 12 #[.agg #[.int .i64 base,.int .i64 kind,.slice px xs.length cx,.slice py ys.length cy]] w fun e w'=>∃ p g c,e=.returned (.agg #[.int .i64 base,.int .i64 kind,.slice px xs.length cx,.slice p ys.length c])∧CSrcD w' px p bx ox g 0 xs ys∧Below w.heap.size w w':=by
 refine (us base kind b2 oy cx cy xs.length ys.length px py ys w hs.y rfl hy).mono fun e w' ⟨v,he,ho,hb⟩=>?_
 obtain⟨p,g,c,rfl,hsrc,hg,hnc,hcm⟩:=cH ho rfl
 exact⟨p,g,c,he,⟨hs.x.below hb,⟨hsrc.at_,hsrc.lt,hsrc.cell⟩,hs.u⟩,hb⟩
theorem isX (a:Nat) (w:World) (h:a<18446744073709551616) :
  Calls Tryz.prog 19 #[.float .f64 a,.int .u64 (a:Int)] w fun e w'=>e=.returned (.bool true)∧w=w':=by
 have:=GW a (a:Int) w (ah h) (ah h)
 rw [fe] at this
 exact this.mono fun _ _ ⟨p,q⟩=>⟨p,q.symm⟩
theorem Bj (g:Nat) (N:Int) (L:Nat) (w:World) (hg:WAt w g N L) (hL:L≤40000) :
  Calls Tryz.prog 24 #[.pointer (some ⟨g,0,none⟩),.pointer (some ⟨g,0,none⟩)] w fun e w'=>e=.returned (.bool true)∧Below w.heap.size w w':=by
 have:=AR g g N N L L w hg hg hL hL
 rw [decide_eq_true rfl] at this
 exact this.mono fun _ _ ⟨a,q,b⟩=>⟨a,by rw [b];exact jG (Below.refl _ _) q⟩
theorem Bk (g:Nat) (N:Int) (L:Nat) (w:World) (hg:WAt w g N L) :
  Calls Tryz.prog 24 #[.pointer (some ⟨g,0,none⟩),.pointer none] w fun e w'=>e=.returned (.bool false)∧Below w.heap.size w w':=
 (AS g N L w hg).mono fun _ _ ⟨a,q,b⟩=>⟨a,by rw [b];exact jG (Below.refl _ _) q⟩
theorem EI (x:Nat) (h:x<18446744073709551616):tldV x<18446744073709551616:=by
 unfold tldV;split
 ·exact h
 ·decide
theorem GL {op:BinOp} (ho:op=.add∨op=.sub∨op=.mul∨op=.quo) {o o':Option Nat} {r:Nat} (h:opO op o o'=some r):r<18446744073709551616:=by
 unfold opO at h
 cases o with
 | none=>cases h
 | some a=>
  cases o' with
  | none=>cases h
  | some b=>exact dL ho h
theorem EJ (cur:Int) (c:Cv) (l:List Flw):∀ (k r:Nat),flO cur c l k=some r→r<18446744073709551616
 | 0,r,h=>by obtain rfl:=Option.some.inj h;decide
 | k+1,r,h=>by
  unfold flO at h
  split at h
  ·exact GL (by simp) h
  ·exact EJ cur c l k r h
theorem IN (cur:Int) (c:Cv) (l:List Flw) (k:Nat):gdO (flO cur c l k)<18446744073709551616:=by
 cases h:flO cur c l k with
 | none=>decide
 | some r=>exact EJ cur c l k r h
structure OfM (w:World) (bs kd:Int) (vd vf:Value) (g2:Nat) (ud uf:Value) (wr:World):Prop where
 a:VBox w bs kd vd vf wr
 d:wr.heap[g2]? =some (.cells #[.int .i64 bs,.int .i64 kd,ud,uf] 33)
theorem OfM.step {w wr w':World} {bs kd:Int} {vd vf ud uf:Value} {g2:Nat} (h:OfM w bs kd vd vf g2 ud uf wr) (hb:Below wr.heap.size wr w'):OfM w bs kd vd vf g2 ud uf w':=⟨h.a.step hb,(hb.block _ (Array.getElem?_eq_some_iff.1 h.d).1).trans h.d⟩
theorem OfM.t {w wr:World} {bs kd:Int} {vd vf ud uf:Value} {g2:Nat} (h:OfM w bs kd vd vf g2 ud uf wr):wr.cell? ⟨g2,0,none⟩=some (.int .i64 bs)∧wr.cell? ⟨g2,1,none⟩=some (.int .i64 kd)∧wr.cell? ⟨g2,2,none⟩=some ud∧wr.cell? ⟨g2,3,none⟩=some uf:=by
 have hb:=h.d
 exact⟨by simp [World.cell?,hb],by simp [World.cell?,hb],by simp [World.cell?,hb],by simp [World.cell?,hb]⟩
structure OfZ (w:World) (gw b:Nat) (vv:Value) (S:Int) (L g3:Nat) (neg:Bool) (va:Value) (ee:Int) (M:Nat) (wr:World):Prop where
 ww:WAt wr gw S L
 c:wr.cell? ⟨gw,0,none⟩=some (.pointer (some ⟨b,0,none⟩))
 a:A.AccAt wr 0 b vv L ⟨0,S⟩
 x:wr.heap[g3]? =some (.cells #[.int .i64 0,.bool neg,va,.int .i64 ee] 42)
 d:DN wr va M
 bl:Below w.heap.size w wr
theorem OfZ.step {w wr w':World} {gw b:Nat} {vv:Value} {S:Int} {L g3:Nat} {neg:Bool} {va:Value} {ee:Int} {M:Nat} (h:OfZ w gw b vv S L g3 neg va ee M wr) (hb:Below wr.heap.size wr w'):OfZ w gw b vv S L g3 neg va ee M w':=
 ⟨h.ww.below hb,(hb.cell (p:=⟨gw,0,none⟩) h.ww.lt).trans h.c,h.a.below hb,(hb.block _ (Array.getElem?_eq_some_iff.1 h.x).1).trans h.x,h.d.below hb,h.bl.trans (hb.mono h.bl.size)⟩
theorem OfZ.t {w wr:World} {gw b:Nat} {vv:Value} {S:Int} {L g3:Nat} {neg:Bool} {va:Value} {ee:Int} {M:Nat} (h:OfZ w gw b vv S L g3 neg va ee M wr):wr.cell? ⟨g3,0,none⟩=some (.int .i64 0)∧wr.cell? ⟨g3,1,none⟩=some (.bool neg)∧wr.cell? ⟨g3,2,none⟩=some va∧wr.cell? ⟨g3,3,none⟩=some (.int .i64 ee):=by
 have hb:=h.x
 exact⟨by simp [World.cell?,hb],by simp [World.cell?,hb],by simp [World.cell?,hb],by simp [World.cell?,hb]⟩
set_option maxRecDepth 40000 in
set_option maxHeartbeats 6400000 in
theorem xt (l:List Flw) (cur:Int) (c:Cv) (pl:Option Addr) (bl ol cl N:Nat) (pd pf:Option Addr) (bd od cd b2 o2 cf:Nat) (w:World) (hl:JSrc aF w pl bl ol l) (hN:l.length=N) (hf:dV l) (hs:TFl w pd pf bd od b2 o2 c.ds c.fs) (hm:N≤60∧c.ds.length≤12∧c.fs.length≤12) :
  Calls Tryz.prog 3 #[.slice pl N cl,.int .i64 cur,.agg #[.int .i64 c.base,.int .i64 c.kind,.slice pd c.ds.length cd,.slice pf c.fs.length cf]] w fun e w'=>e=.returned (.bool true)∧Below w.heap.size w w':=by
 obtain⟨E,hE⟩:=jF l cur c
 obtain⟨X,P,hX⟩:=Gx l cur c
 obtain⟨Y,G,hY⟩:=GA l cur c
 have hX64:X<18446744073709551616:=by
  cases hX with
  | bad=>decide
  | ok h=>exact EI _ (lz _)
 have hY64:Y<18446744073709551616:=by
  cases hY with
  | bad=>decide
  | ok h=>exact EI _ (IN _ _ _ _)
 have HK:=hideS (bK w c.base c.kind (.slice pd c.ds.length cd) (.slice pf c.fs.length cf))
 have HS1:=hideS fun wx=>nC c.base c.kind pl pd pf N cl c.ds.length cd c.fs.length cf wx
 rw [decide_eq_true hm] at HS1
 have HFO:=hideS fun wx (hb:Below w.heap.size w wx)=>uH l pl bl ol cl N wx (hl.below hb) hN (by omega)
 have HCO:=hideS fun wx (hb:Below w.heap.size w wx)=>IM c.base c.kind pd pf bd od cd b2 o2 cf c.ds c.fs wx (hs.below hb) (by omega)
 have HO:=hideS fun wx (hb:Below w.heap.size w wx)=>xj l cur c pl bl ol cl N pd pf bd od cd b2 o2 cf wx E hE (hl.below hb) hN (by omega) hf (hs.below hb)
 have HP:=hideS fun wx (hb:Below w.heap.size w wx)=>Ew l cur c pl bl ol cl N pd pf bd od cd b2 o2 cf wx X P hX (hl.below hb) hN (by omega) hf (hs.below hb)
 have HF:=hideS fun wx (hb:Below w.heap.size w wx)=>Bb l cur c pl bl ol cl N pd pf bd od cd b2 o2 cf wx Y G hY (hl.below hb) hN (by omega) hf (hs.below hb)
 have HdO:=hideS fun pm gm cm p g cc wx (hl':JSrc aB wx pm gm 0 l) (hs':CSrcD wx pd p bd od g 0 c.ds c.fs)=>gI l cur c pm gm 0 cm N pd p bd od cd g 0 cc wx E hE hl' hN (by omega) hf hs' hs.f
 have HdP:=hideS fun pm gm cm p g cc wx (hl':JSrc aB wx pm gm 0 l) (hs':CSrcD wx pd p bd od g 0 c.ds c.fs)=>ru l cur c pm gm 0 cm N pd p bd od cd g 0 cc wx X P hX hl' hN (by omega) hf hs' hs.f
 have HdF:=hideS fun pm gm cm p g cc wx (hl':JSrc aB wx pm gm 0 l) (hs':CSrcD wx pd p bd od g 0 c.ds c.fs)=>om l cur c pm gm 0 cm N pd p bd od cd g 0 cc wx Y G hY hl' hN (by omega) hf hs' hs.f
 have HA:=hideS yB
 have HIx:=hideS fun wx=>isX X wx hX64
 have HIy:=hideS fun wx=>isX Y wx hY64
 have hN60:=hm.1
 have HNl:=hideS hN
 clear hl hN hf hs hm hX64 hY64 hX hY
 obtain⟨SS,hSS⟩:∃ S,(if E=0 then wsI cur c l else 0)=S:=⟨_,rfl⟩
 rw [hSS] at HdO
 have HSS:=hideS hSS
 have HE:=hideS hE
 clear hSS hE
 generalize hcl:c.fs.length=FL at *
 generalize hdl:c.ds.length=DL at *
 generalize Value.slice pf FL cf=vf at *
 have HFL:=hideS (And.intro hcl hdl)
 clear hcl hdl
 obtain⟨bs,hbs⟩:∃ b,c.base=b:=⟨_,rfl⟩
 obtain⟨kd,hkd⟩:∃ b,c.kind=b:=⟨_,rfl⟩
 rw [hbs,hkd] at HK HS1 HCO HO HP HF HdO HdP HdF ⊢
 clear hbs hkd
 obtain⟨w2,hw2⟩:∃ w2,w.alloc (.cells #[.int .i64 bs,.int .i64 kd,.slice pd DL cd,vf] 26)=w2:=⟨_,rfl⟩
 rw [hw2] at HK
 have t0:=HK.out.t0
 have t1:=HK.out.t1
 have t2:=HK.out.t2
 have t3:=HK.out.t3
 go_enter Tryz.func3,Tryz.ntmps3
 go_wp2_with fail
 clear hw2 t0 t1 t2 t3
 refine (HS1.out _).mono ?_
 rintro e w3 ⟨rfl,hb3⟩
 have H3:=hideS (HK.out.step hb3)
 clear hb3 HK HS1
 go_wp2_with fail
 refine (HFO.out _ H3.out.bl).mono ?_
 rintro e w4 ⟨⟨u,rfl,ho⟩,hb4⟩
 obtain⟨pm,gm,cm,rfl,sm,_,_,_⟩:=uo ho HNl.out
 have H4:=hideS (H3.out.step hb4)
 have Sm:=hideS sm
 clear ho hb4 sm H3 HFO
 have t0:=H4.out.t0
 have t1:=H4.out.t1
 have t2:=H4.out.t2
 have t3:=H4.out.t3
 go_wp2_with fail
 clear t0 t1 t2 t3
 refine (HCO.out _ H4.out.bl).mono ?_
 rintro e w5 ⟨pc,gc,cc,rfl,sc,hb5⟩
 have H5:=hideS (H4.out.step hb5)
 have Sm:=hideS (Sm.out.below hb5)
 have Sc:=hideS sc
 clear hb5 sc H4 HCO
 have H6:Hid (OfM w bs kd (.slice pd DL cd) vf w5.heap.size (.slice pd DL cd) (.slice pc FL cc) (w5.alloc (.cells #[.int .i64 bs,.int .i64 kd,.slice pd DL cd,.slice pc FL cc] 33))):=⟨H5.out.step ((Below.refl _ _).alloc (Nat.le_refl _) _),heap_alloc_new _ _⟩
 have Sm:=hideS (Sm.out.below ((Below.refl _ w5).alloc (Nat.le_refl _) (.cells #[.int .i64 bs,.int .i64 kd,.slice pd DL cd,.slice pc FL cc] 33)))
 have Sc:=hideS (Sc.out.below ((Below.refl _ w5).alloc (Nat.le_refl _) (.cells #[.int .i64 bs,.int .i64 kd,.slice pd DL cd,.slice pc FL cc] 33)))
 have t0:=H6.out.a.t0
 have t1:=H6.out.a.t1
 have t2:=H6.out.a.t2
 have t3:=H6.out.a.t3
 clear H5
 go_wp2_with fail
 clear t0 t1 t2 t3
 obtain⟨w6,hw6⟩:∃ w6,w5.alloc (.cells #[.int .i64 bs,.int .i64 kd,.slice pd DL cd,.slice pc FL cc] 33)=w6:=⟨_,rfl⟩
 rw [hw6] at H6 Sm Sc ⊢
 obtain⟨g2,hg2⟩:∃ g2,w5.heap.size=g2:=⟨_,rfl⟩
 rw [hg2] at H6 ⊢
 clear hw6 hg2
 by_cases hz:E=0
 ·have hO:=HO.out _ H6.out.a.bl
  refine hO.mono ?_
  intro e w7 hO7
  obtain⟨gw,rfl,hw⟩:=hO7.ok hz
  have hb7:=hO7.bl
  have H7:=hideS (H6.out.step hb7)
  have Sm:=hideS (Sm.out.below hb7)
  have Sc:=hideS (Sc.out.below hb7)
  clear hb7 H6
  have Ww:=hideS hw
  clear hO hO7 hw
  have t0:=H7.out.a.t0
  have t1:=H7.out.a.t1
  have t2:=H7.out.a.t2
  have t3:=H7.out.a.t3
  obtain⟨d0,d1,d2,d3⟩:=H7.out.t
  go_wp2_with fail
  clear t0 t1 t2 t3 d0 d1 d2 d3
  refine (HdO.out pm gm cm pc gc cc _ Sm.out Sc.out).mono ?_
  intro e w8 hD
  obtain⟨⟨neg,v,M,ee,rfl,hd,hdv⟩,hb8⟩:=hD
  obtain⟨pa,la,ca,rfl⟩:=hd.shape
  have H8:=hideS (H7.out.step hb8)
  have Sm:=hideS (Sm.out.below hb8)
  have Sc:=hideS (Sc.out.below hb8)
  have Ww:=hideS (Ww.out.below hb8)
  clear hb8 H7
  have HB9:Hid (Below w8.heap.size w8 (boxA w8 0 neg (.slice pa la ca) ee)):=(Below.refl _ _).alloc (Nat.le_refl _) _
  have hb9:=HB9.out
  have HDn:=hideS (hd.below hb9)
  have HDv:=hideS hdv
  have HAx:Hid ((boxA w8 0 neg (.slice pa la ca) ee).heap[w8.heap.size]? =some (.cells #[.int .i64 0,.bool neg,.slice pa la ca,.int .i64 ee] 42)):=heap_alloc_new _ _
  have H9:=hideS (H8.out.step hb9)
  have Sm:=hideS (Sm.out.below hb9)
  have Sc:=hideS (Sc.out.below hb9)
  have Ww:=hideS (Ww.out.below hb9)
  clear hb9 H8
  clear hd hdv HB9
  have t0:=H9.out.a.t0
  have t1:=H9.out.a.t1
  have t2:=H9.out.a.t2
  have t3:=H9.out.a.t3
  obtain⟨d0,d1,d2,d3⟩:=H9.out.t
  go_wp2_with fail
  clear t0 t1 t2 t3 d0 d1 d2 d3
  obtain⟨w9,hw9⟩:∃ w9,boxA w8 0 neg (.slice pa la ca) ee=w9:=⟨_,rfl⟩
  obtain⟨g3,hg3⟩:∃ g3,w8.heap.size=g3:=⟨_,rfl⟩
  rw [hw9] at H9 Sm Sc Ww HDn HAx
  rw [hg3] at HAx
  unfold boxA at hw9
  rw [hw9,hg3]
  clear hw9 hg3
  refine (HP.out _ H9.out.a.bl).mono ?_
  rintro e w10 ⟨rfl,hb10⟩
  have HAx:=hideS ((hb10.block _ (Array.getElem?_eq_some_iff.1 HAx.out).1).trans HAx.out)
  have H10:=hideS (H9.out.step hb10)
  have Sm:=hideS (Sm.out.below hb10)
  have Sc:=hideS (Sc.out.below hb10)
  have Ww:=hideS (Ww.out.below hb10)
  have HDn:=hideS (HDn.out.below hb10)
  clear hb10 H9
  have t0:=H10.out.a.t0
  have t1:=H10.out.a.t1
  have t2:=H10.out.a.t2
  have t3:=H10.out.a.t3
  obtain⟨d0,d1,d2,d3⟩:=H10.out.t
  go_wp2_with fail
  clear t0 t1 t2 t3 d0 d1 d2 d3
  refine (HdP.out pm gm cm pc gc cc _ Sm.out Sc.out).mono ?_
  rintro e w11 ⟨rfl,hb11⟩
  have HAx:=hideS ((hb11.block _ (Array.getElem?_eq_some_iff.1 HAx.out).1).trans HAx.out)
  have H11:=hideS (H10.out.step hb11)
  have Sm:=hideS (Sm.out.below hb11)
  have Sc:=hideS (Sc.out.below hb11)
  have Ww:=hideS (Ww.out.below hb11)
  have HDn:=hideS (HDn.out.below hb11)
  clear hb11 H10
  have t0:=H11.out.a.t0
  have t1:=H11.out.a.t1
  have t2:=H11.out.a.t2
  have t3:=H11.out.a.t3
  obtain⟨d0,d1,d2,d3⟩:=H11.out.t
  go_wp2_with fail
  clear t0 t1 t2 t3 d0 d1 d2 d3
  refine (HF.out _ H11.out.a.bl).mono ?_
  rintro e w12 ⟨rfl,hb12⟩
  have HAx:=hideS ((hb12.block _ (Array.getElem?_eq_some_iff.1 HAx.out).1).trans HAx.out)
  have H12:=hideS (H11.out.step hb12)
  have Sm:=hideS (Sm.out.below hb12)
  have Sc:=hideS (Sc.out.below hb12)
  have Ww:=hideS (Ww.out.below hb12)
  have HDn:=hideS (HDn.out.below hb12)
  clear hb12 H11
  have t0:=H12.out.a.t0
  have t1:=H12.out.a.t1
  have t2:=H12.out.a.t2
  have t3:=H12.out.a.t3
  obtain⟨d0,d1,d2,d3⟩:=H12.out.t
  go_wp2_with fail
  clear t0 t1 t2 t3 d0 d1 d2 d3
  refine (HdF.out pm gm cm pc gc cc _ Sm.out Sc.out).mono ?_
  rintro e w13 ⟨rfl,hb13⟩
  have HAx:=hideS ((hb13.block _ (Array.getElem?_eq_some_iff.1 HAx.out).1).trans HAx.out)
  have H13:=hideS (H12.out.step hb13)
  have Sm:=hideS (Sm.out.below hb13)
  have Sc:=hideS (Sc.out.below hb13)
  have Ww:=hideS (Ww.out.below hb13)
  have HDn:=hideS (HDn.out.below hb13)
  clear hb13 H12
  have HSz:Hid (SS=wsI cur c l):=by show _=_;rw [← HSS.out,if_pos hz]
  rw [HSz.out] at HDv
  subst hz
  have oP:(P !=P)=false:=by simp
  have oG:(G !=G)=false:=by simp
  go_wp2_with (first | (go_at_call_of 19 (Value.float FloatKind.f64 X);refine (HIx.out _).mono ?_;rintro e w' ⟨rfl,rfl⟩) | (go_at_call_of 19 (Value.float FloatKind.f64 Y);refine (HIy.out _).mono ?_;rintro e w' ⟨rfl,rfl⟩))
  obtain⟨b,vv,cw,hacc⟩:=Ww.out.at_
  have PZ0:Hid (OfZ w gw b vv (wsI cur c l) (70+N) g3 neg (.slice pa la ca) ee M w13):=⟨Ww.out,cw,hacc,HAx.out,HDn.out,H13.out.a.bl⟩
  have PZ:Hid (OfZ w gw b vv (wsI cur c l) (70+N) g3 neg (.slice pa la ca) ee M w13.drew):=PZ0.out.step (jG (Below.refl _ _) 1)
  have hX64:=lz (wsI cur c l)
  have HVa:=hideS fun wx (hp:OfZ w gw b vv (wsI cur c l) (70+N) g3 neg (.slice pa la ca) ee M wx)=>WAt.value hp.a (by omega)
  have HdV:=hideS fun wx (hp:OfZ w gw b vv (wsI cur c l) (70+N) g3 neg (.slice pa la ca) ee M wx)=>CJ 0 neg (.slice pa la ca) M ee (wsI cur c l) N wx hp.d HDv.out (fK (by omega))
  have HSg:=hideS fun wx (hp:OfZ w gw b vv (wsI cur c l) (70+N) g3 neg (.slice pa la ca) ee M wx)=>WAt.sign hp.a (by omega)
  have HdS:=hideS fun wx (hp:OfZ w gw b vv (wsI cur c l) (70+N) g3 neg (.slice pa la ca) ee M wx)=>Jn 0 neg (.slice pa la ca) M ee (wsI cur c l) N wx hp.d HDv.out (fK (by omega))
  have HSm:=hideS fun wx (hp:OfZ w gw b vv (wsI cur c l) (70+N) g3 neg (.slice pa la ca) ee M wx)=>Bj gw _ _ wx hp.ww (by omega)
  have HSn:=hideS fun wx (hp:OfZ w gw b vv (wsI cur c l) (70+N) g3 neg (.slice pa la ca) ee M wx)=>Bk gw _ _ wx hp.ww
  rw [pN] at HdV
  rw [uD] at HdS
  have HIs:=hideS fun wx=>isX (valF (wsI cur c l)) wx hX64
  generalize valF (wsI cur c l)=X1 at *
  generalize A.dq (wsI cur c l)=sg at *
  have osg:(sg==sg)=true:=by simp
  clear cw hacc hX64
  go_region_held3 (fun w'=>w'.cell? ⟨gw,0,none⟩=some (.pointer (some ⟨b,0,none⟩))∧w'.cell? ⟨g3,0,none⟩=some (.int .i64 0)∧w'.cell? ⟨g3,1,none⟩=some (.bool neg)∧w'.cell? ⟨g3,2,none⟩=some (.slice pa la ca)∧w'.cell? ⟨g3,3,none⟩=some (.int .i64 ee))
   (first | exact⟨PZ.out.c,PZ.out.t⟩| go_keep)
   (first
    | (go_at_call 20;(with_reducible refine (HVa.out _ PZ.out).mono ?_);rintro e wz ⟨rfl,hbz⟩;have PZ:=hideS (PZ.out.step hbz);clear hbz)
    | (go_at_call 21;refine (HdV.out _ PZ.out).mono ?_;rintro e wz ⟨rfl,hbz⟩;have PZ:=hideS (PZ.out.step hbz);clear hbz)
    | (go_at_call 19;refine (HIs.out _).mono ?_;rintro e wz ⟨rfl,rfl⟩)
    | (go_at_call 22;refine (turned (HSg.out _ PZ.out)).mono ?_;rintro e wz ⟨rfl,rfl⟩)
    | (go_at_call 23;refine (HdS.out _ PZ.out).mono ?_;rintro e wz ⟨rfl,hbz⟩;have PZ:=hideS (PZ.out.step hbz);clear hbz)
    | (go_at_call_of 24 (Value.pointer none);refine (HSn.out _ PZ.out).mono ?_;rintro e wz ⟨rfl,hbz⟩;have PZ:=hideS (PZ.out.step hbz);clear hbz)
    | (go_at_call 24;refine (HSm.out _ PZ.out).mono ?_;rintro e wz ⟨rfl,hbz⟩;have PZ:=hideS (PZ.out.step hbz);clear hbz)
    | (go_at_call 10;refine (HA.out _).mono ?_;rintro e wz ⟨rfl,hbz⟩;have PZ:=hideS (PZ.out.step hbz);clear hbz))
  all_goals
   go_wp2_with fail
   go_ret
   exact⟨rfl,PZ.out.bl⟩
 ·refine (HO.out _ H6.out.a.bl).mono ?_
  intro e w7 hO7
  have hbad:=hO7.bad hz
  subst hbad
  have hb7:=hO7.bl
  have H7:=hideS (H6.out.step hb7)
  have Sm:=hideS (Sm.out.below hb7)
  have Sc:=hideS (Sc.out.below hb7)
  clear hb7 H6
  clear hO7
  have t0:=H7.out.a.t0
  have t1:=H7.out.a.t1
  have t2:=H7.out.a.t2
  have t3:=H7.out.a.t3
  obtain⟨d0,d1,d2,d3⟩:=H7.out.t
  go_wp2_with fail
  clear t0 t1 t2 t3 d0 d1 d2 d3
  refine (HdO.out pm gm cm pc gc cc _ Sm.out Sc.out).mono ?_
  intro e w8 hD
  obtain⟨⟨neg,v,M,ee,rfl,hd,hdv⟩,hb8⟩:=hD
  obtain⟨pa,la,ca,rfl⟩:=hd.shape
  have H8:=hideS (H7.out.step hb8)
  have Sm:=hideS (Sm.out.below hb8)
  have Sc:=hideS (Sc.out.below hb8)
  clear hb8 H7
  have hb9:Below w8.heap.size w8 (boxA w8 0 neg (.slice pa la ca) ee):=(Below.refl _ _).alloc (Nat.le_refl _) _
  have H9:=hideS (H8.out.step hb9)
  have Sm:=hideS (Sm.out.below hb9)
  have Sc:=hideS (Sc.out.below hb9)
  clear hb9 H8
  clear hd hdv
  have t0:=H9.out.a.t0
  have t1:=H9.out.a.t1
  have t2:=H9.out.a.t2
  have t3:=H9.out.a.t3
  obtain⟨d0,d1,d2,d3⟩:=H9.out.t
  go_wp2_with fail
  clear t0 t1 t2 t3 d0 d1 d2 d3
  obtain⟨w9,hw9⟩:∃ w9,boxA w8 0 neg (.slice pa la ca) ee=w9:=⟨_,rfl⟩
  rw [hw9] at H9 Sm Sc
  unfold boxA at hw9
  rw [hw9]
  clear hw9
  refine (HP.out _ H9.out.a.bl).mono ?_
  rintro e w10 ⟨rfl,hb10⟩
  have H10:=hideS (H9.out.step hb10)
  have Sm:=hideS (Sm.out.below hb10)
  have Sc:=hideS (Sc.out.below hb10)
  clear hb10 H9
  have t0:=H10.out.a.t0
  have t1:=H10.out.a.t1
  have t2:=H10.out.a.t2
  have t3:=H10.out.a.t3
  obtain⟨d0,d1,d2,d3⟩:=H10.out.t
  go_wp2_with fail
  clear t0 t1 t2 t3 d0 d1 d2 d3
  refine (HdP.out pm gm cm pc gc cc _ Sm.out Sc.out).mono ?_
  rintro e w11 ⟨rfl,hb11⟩
  have H11:=hideS (H10.out.step hb11)
  have Sm:=hideS (Sm.out.below hb11)
  have Sc:=hideS (Sc.out.below hb11)
  clear hb11 H10
  have t0:=H11.out.a.t0
  have t1:=H11.out.a.t1
  have t2:=H11.out.a.t2
  have t3:=H11.out.a.t3
  obtain⟨d0,d1,d2,d3⟩:=H11.out.t
  go_wp2_with fail
  clear t0 t1 t2 t3 d0 d1 d2 d3
  refine (HF.out _ H11.out.a.bl).mono ?_
  rintro e w12 ⟨rfl,hb12⟩
  have H12:=hideS (H11.out.step hb12)
  have Sm:=hideS (Sm.out.below hb12)
  have Sc:=hideS (Sc.out.below hb12)
  clear hb12 H11
  have t0:=H12.out.a.t0
  have t1:=H12.out.a.t1
  have t2:=H12.out.a.t2
  have t3:=H12.out.a.t3
  obtain⟨d0,d1,d2,d3⟩:=H12.out.t
  go_wp2_with fail
  clear t0 t1 t2 t3 d0 d1 d2 d3
  refine (HdF.out pm gm cm pc gc cc _ Sm.out Sc.out).mono ?_
  rintro e w13 ⟨rfl,hb13⟩
  have H13:=hideS (H12.out.step hb13)
  have Sm:=hideS (Sm.out.below hb13)
  have Sc:=hideS (Sc.out.below hb13)
  clear hb13 H12
  have oE:(E !=E)=false:=by simp
  have oP:(P !=P)=false:=by simp
  have oG:(G !=G)=false:=by simp
  have oZ:(E !=0)=true:=bne_iff_ne.2 hz
  clear hz HE HSS
  go_wp2_with (first | (go_at_call_of 19 (Value.float FloatKind.f64 X);refine (HIx.out _).mono ?_;rintro e w' ⟨rfl,rfl⟩) | (go_at_call_of 19 (Value.float FloatKind.f64 Y);refine (HIy.out _).mono ?_;rintro e w' ⟨rfl,rfl⟩))
  refine wp_region_held_drew (S:=fun _=>True) (by kernel_rfl) trivial (fun _=>?_)
  refine wpAnyH_take (i:=0) (v:=?_) rfl (by kernel_rfl) (by kernel_rfl) (by kernel_rfl) (fun _ _ _ h=>h) (Or.inl ⟨by rfl,?_⟩) trivial ?_
  rotate_left
  ·(intro wq hSq;go_simp;try (with_reducible rfl))
  simp only [Act.put,List.setIfInBounds_toArray]
  refine wpAnyH_take (i:=1) (v:=?_) rfl (by kernel_rfl) (by kernel_rfl) (by kernel_rfl) (fun _ _ _ h=>h) (Or.inl ⟨by rfl,?_⟩) trivial ?_
  rotate_left
  ·(intro wq hSq;go_simp;try (with_reducible rfl))
  simp only [Act.put]
  refine wpAnyH_take (i:=2) (v:=?_) rfl (by kernel_rfl) (by kernel_rfl) (by kernel_rfl) (fun _ _ _ h=>h) (Or.inl ⟨by rfl,?_⟩) trivial ?_
  rotate_left
  ·(intro wq hSq;go_simp;try (with_reducible rfl))
  simp only [Act.put]
  refine wpAnyH_ready (rs:=[3]) (by kernel_rfl) (by simp) ?_
  refine AllReadyH.cons rfl (fun K hK=>?_) AllReadyH.nil
  rw [if_pos (by rfl)]
  go_simp
  refine (HA.out _).mono ?_
  rintro e w14 ⟨rfl,hb14⟩
  have H14:=hideS (H13.out.step (jG (Below.refl _ _) 1)).a
  have HB14:=hideS (H14.out.step hb14).bl
  clear hb14 H14
  try go_wp2_with fail
  refine hK.out _ _ trivial (fun _=>?_)
  clear hK K
  try simp only [Act.put]
  refine fY (i:=4) (some 108) (v:=?_) (by kernel_rfl) rfl (by kernel_rfl) (by kernel_rfl) (by kernel_rfl) (fun _ _ _ h=>h) (Or.inl ⟨by rfl,?_⟩) trivial ?_
  rotate_left
  ·(intro wq hSq;go_simp;try (with_reducible rfl))
  simp only [Act.put]
  refine fY (i:=5) (some 109) (v:=?_) (by kernel_rfl) rfl (by kernel_rfl) (by kernel_rfl) (by kernel_rfl) (fun _ _ _ h=>h) (Or.inl ⟨by rfl,?_⟩) trivial ?_
  rotate_left
  ·(intro wq hSq;go_simp;try (with_reducible rfl))
  simp only [Act.put]
  refine Bi [6,7,8,9,10,11,12,13,14,15,16,17,18,19,20,21,22,23,24,25,26,27,28,29,30,31,32,33,34,35,36,37,38,39,40] 35 2 rfl (by kernel_rfl) (fun _ _ d _ h=>by cases d<;>exact h) trivial (by kernel_rfl) (by kernel_rfl) (by kernel_rfl) ?_
  refine fY (i:=41) (some 145) (v:=?_) (by kernel_rfl) rfl (by kernel_rfl) (by kernel_rfl) (by kernel_rfl) (fun _ _ _ h=>h) (Or.inl ⟨by rfl,?_⟩) trivial ?_
  rotate_left
  ·(intro wq hSq;go_simp;try (with_reducible rfl))
  simp only [Act.put]
  refine fY (i:=42) (some 6) (v:=?_) (by kernel_rfl) rfl (by kernel_rfl) (by kernel_rfl) (by kernel_rfl) (fun _ _ _ h=>h) (Or.inl ⟨by rfl,?_⟩) trivial ?_
  rotate_left
  ·(intro wq hSq;go_simp;try (with_reducible rfl))
  simp only [Act.put]
  refine wpAnyH_done (by kernel_rfl) ?_ _
  go_wp2_with fail
  go_ret
  exact⟨rfl,HB14.out⟩
set_option maxRecDepth 40000 in
set_option maxHeartbeats 3200000 in
theorem rz (cur a p:Int) (pl:Option Addr) (cl N:Nat) (pd pf:Option Addr) (D cd F cf:Nat) (w:World) (hm:¬ (N≤60∧D≤12∧F≤12)) :
  Calls Tryz.prog 3 #[.slice pl N cl,.int .i64 cur,.agg #[.int .i64 a,.int .i64 p,.slice pd D cd,.slice pf F cf]] w fun e w'=>e=.returned (.bool true)∧Below w.heap.size w w':=by
 have HK:=hideS (bK w a p (.slice pd D cd) (.slice pf F cf))
 have HS1:=hideS fun wx=>nC a p pl pd pf N cl D cd F cf wx
 rw [decide_eq_false hm] at HS1
 have HA:=hideS yB
 clear hm
 generalize Value.slice pd D cd=vd at *
 generalize Value.slice pf F cf=vf at *
 obtain⟨w2,hw2⟩:∃ w2,w.alloc (.cells #[.int .i64 a,.int .i64 p,vd,vf] 26)=w2:=⟨_,rfl⟩
 rw [hw2] at HK
 have t0:=HK.out.t0
 have t1:=HK.out.t1
 have t2:=HK.out.t2
 have t3:=HK.out.t3
 go_enter Tryz.func3,Tryz.ntmps3
 go_wp2_with fail
 clear hw2 t0 t1 t2 t3
 refine (HS1.out _).mono ?_
 rintro e w3 ⟨rfl,hb3⟩
 have H3:=hideS (HK.out.step hb3)
 clear hb3 HK HS1
 go_wp2_with fail
 refine (HA.out _).mono ?_
 rintro e w8 ⟨rfl,hb8⟩
 have HB8:=hideS (H3.out.step hb8).bl
 clear hb8
 go_wp2_with fail
 go_ret
 exact⟨rfl,HB8.out⟩
theorem rC (pl:Option Addr) (bl ol cl:Nat) (l:List Flw) (cur:Int) (pd pf:Option Addr) (bd od cd b2 o2 cf:Nat) (c:Cv) (w:World) (hl:JSrc aF w pl bl ol l) (hf:dV l) (_:l.length≤9223372036854775807) (_:EH cur) (hs:TFl w pd pf bd od b2 o2 c.ds c.fs) :
  Calls Tryz.prog 3 #[.slice pl l.length cl,.int .i64 cur,.agg #[.int .i64 c.base,.int .i64 c.kind,.slice pd c.ds.length cd,.slice pf c.fs.length cf]] w fun e w'=>e=.returned (.bool true)∧Below w.heap.size w w':=by
 by_cases hm:l.length≤60∧c.ds.length≤12∧c.fs.length≤12
 ·exact xt l cur c pl bl ol cl _ pd pf bd od cd b2 o2 cf w hl rfl hf hs hm
 ·exact rz cur c.base c.kind pl cl _ pd pf _ cd _ cf w hm
end Go.Proofs.YtkcnkhdbojdhgaaGreat
