/-  -/
import Derived.Test.YtfdddijdjpijbaaGreatHbt
import Derived.Test.YtfdddijdjpijbaaGreatHat
import Derived.Test.YtfdddijdjpijbaaGreatHba
import Derived.Test.YtfdddijdjpijbaaGreatHbr
import Derived.Test.YtfdddijdjpijbaaGreatHbq
import Derived.Deep.QuietTactic
import Derived.Test.YtfdddijdjpijbaaGreatHbn
import Derived.Test.YtfdddijdjpijbaaGreatHbe
import Derived.Test.YtfdddijdjpijbaaGreatHbk
set_option maxHeartbeats 12800000
set_option maxRecDepth 40000
namespace Go.Proofs.YtfdddijdjpijbaaGreat
open Go.RowKit
theorem ov (a b r:Nat) (w:World) (k:a<18446744073709551616) (h:b<18446744073709551616) (l:floatBits .sub .f64 a b=some r) (i:r<18446744073709551616) :
  Calls Tryz.prog 27 #[.int .u64 (a:Int),.int .u64 (b:Int)] w fun e m=>e=.returned (.tuple #[.int .u64 (tldV r:Nat),.int .i64 (fU r)])/\Below w.heap.size w m:=by
 have j:=hideS fun g=>dR a b _ _ g rfl rfl (af k) (af h)
 rw [l,ao] at j
 have f:=hideS fun g=>bK (r:Int) g (af i)
 unfold tldV fU;clear k h l i;generalize aE (r:Int)=n at *
 go_enter Tryz.func27,Tryz.ntmps27
 go_wp2_with fail
 refine (j.out _).mono ?_
 rintro e o ⟨rfl,d⟩;have c:=hideS d;clear d
 go_wp2_with fail
 refine (turned (f.out _)).mono ?_
 rintro e p ⟨rfl,rfl⟩;cases n
 ·go_wp2_with fail
  go_ret2
  exact⟨rfl,c.out⟩
 ·go_wp2_with fail
  go_ret2
  exact⟨rfl,c.out⟩
def Oo (w:World) (pl:Option Addr) (N c:Nat) (cur base kind:Int) (b f:Value) (V:Nat) (E:Int):Prop:=∀ a,Below w.heap.size w a->Calls Tryz.prog 26 #[.slice pl N c,.int .i64 cur,.agg #[.int .i64 base,.int .i64 kind,b,f]] a fun e d=>e=.returned (.tuple #[.int .u64 (V:Int),.int .i64 E])/\Below a.heap.size a d
theorem rW (w:World) (base kind:Int) (a b:Value):DxK (w.alloc (.cells #[.int .i64 base,.int .i64 kind,a,b] 39)) w.heap.size base kind a b:=⟨heap_alloc_new _ _⟩
def Ru (b:Bool) (V:Nat):Nat:=if b=true then V else 0
def Rv (b:Bool):Int:=if b=true then 0 else 91
theorem mA (pl:Option Addr) (N j:Nat) (cur base kind E h:Int) (a b:Value) (V:Nat) (w:World) (l:E≠0) (m:Hid (Oo w pl N j cur base kind a b V E)) :
  Calls Tryz.prog 24 #[.slice pl N j,.int .i64 cur,.agg #[.int .i64 base,.int .i64 kind,a,b],.int .u64 h] w fun e n=>e=.returned (.tuple #[.int .u64 0,.int .i64 E])/\Below w.heap.size w n:=by
 have o:(E !=0)=true:=bne_iff_ne.2 l;have i:=hideS (rW w base kind a b);have d:Hid (Below w.heap.size w (w.alloc (.cells #[.int .i64 base,.int .i64 kind,a,b] 39))):=(Below.refl _ _).alloc (Nat.le_refl _) _;clear l;obtain⟨k,g⟩:∃ k,w.alloc (.cells #[.int .i64 base,.int .i64 kind,a,b] 39)=k:=⟨_,rfl⟩;rw [g] at i d
 obtain⟨q,s,r,p⟩:=i.out.t
 go_enter Tryz.func24,Tryz.ntmps24
 go_wp2_with fail
 refine (m.out _ d.out).mono ?_
 rintro e u ⟨rfl,c⟩;have f:=hideS (d.out.trans (c.mono d.out.size));clear c
 go_wp2_with fail
 go_ret2
 exact⟨rfl,f.out⟩
theorem ow (pl:Option Addr) (N l:Nat) (cur base kind:Int) (h:Nat) (a c:Value) (V:Nat) (w:World) (j:h<18446744073709551616) (o:Hid (Oo w pl N l cur base kind a c V 0)) :
  Calls Tryz.prog 24 #[.slice pl N l,.int .i64 cur,.agg #[.int .i64 base,.int .i64 kind,a,c],.int .u64 (h:Int)] w fun e p=>e=.returned (.tuple #[.int .u64 (Ru (aE (h:Int)) V:Nat),.int .i64 (Rv (aE (h:Int)))])/\Below w.heap.size w p:=by
 have k:=hideS (rW w base kind a c);have f:Hid (Below w.heap.size w (w.alloc (.cells #[.int .i64 base,.int .i64 kind,a,c] 39))):=(Below.refl _ _).alloc (Nat.le_refl _) _;have i:=hideS fun n=>bK (h:Int) n (af j)
 clear j;obtain⟨m,g⟩:∃ m,w.alloc (.cells #[.int .i64 base,.int .i64 kind,a,c] 39)=m:=⟨_,rfl⟩;rw [g] at k f
 obtain⟨s,x,v,r⟩:=k.out.t;generalize aE (h:Int)=q at *
 go_enter Tryz.func24,Tryz.ntmps24
 go_wp2_with fail
 refine (o.out _ f.out).mono ?_
 rintro e y ⟨rfl,d⟩;have b:=hideS (f.out.trans (d.mono f.out.size));clear d
 go_wp2_with fail
 refine (turned (i.out _)).mono ?_
 rintro e u ⟨rfl,rfl⟩;cases q
 ·go_wp2_with fail
  go_ret2
  exact⟨rfl,b.out⟩
 ·go_wp2_with fail
  go_ret2
  exact⟨rfl,b.out⟩
open Classical in
noncomputable def paE (c:Cv) (h:Nat):Int:=if ∀ k<c.ds.length,bmB c k h=true then 0 else 91
theorem CN {c:Cv} {h:Nat} (e:c.Ok):∃ d,ParR c h d (paE c h)/\(paE c h=0->d=c.para h/\∀ k<c.ds.length,bmB c k h=true):=by
 unfold paE
 by_cases a:∀ k<c.ds.length,bmB c k h=true
 ·rw [if_pos a];exact⟨_,.ok e a,fun _=>⟨rfl,a⟩⟩
 ·rw [if_neg a];obtain⟨K,n,f,i⟩:=jw (p:=fun k=>!bmB c k h) c.ds.length
  have b:K<c.ds.length:=Classical.byContradiction fun l=>a fun k m=>by have:=f k (by omega);simpa using this
  exact⟨_,.val e K b (by have:=i b;simpa using this) (fun j g=>by have:=f j g;simpa using this),fun h=>absurd h (by decide)⟩
theorem Qs {l:List Flw} {cur:Int} {d d':Cv} {E:Int} (h:E=0->d=d'):rU l cur d E=rU l cur d' E/\nD l cur d E=nD l cur d' E:=by
 unfold rU nD
 by_cases e:E=0
 ·rw [h e];exact⟨rfl,rfl⟩
 ·rw [if_neg e,if_neg e,if_neg e,if_neg e];exact⟨rfl,rfl⟩
noncomputable def deV (l:List Flw) (cur:Int) (c:Cv) (h:Nat):Nat:=oJ l cur (c.para h) (prV l cur c) (paE c h)
noncomputable def deE (l:List Flw) (cur:Int) (c:Cv) (h:Nat):Int:=oK l cur (c.para h) (prV l cur c) (paE c h)
noncomputable def upV (l:List Flw) (cur:Int) (c:Cv) (h:Nat):Nat:=rU l cur (c.para h) (paE c h)
noncomputable def upE (l:List Flw) (cur:Int) (c:Cv) (h:Nat):Int:=nD l cur (c.para h) (paE c h)
theorem uF (h:Nat) (w:World) :
  Calls Tryz.prog 30 #[.float .f64 h] w fun e c=>e=.returned (.func (.func 46) #[] #[.pointer (some ⟨w.heap.size,0,none⟩)])/\c.cell? ⟨w.heap.size,0,none⟩=some (.float .f64 h)/\w.heap.size<c.heap.size/\Below w.heap.size w c:=
 (CJ h w).mono fun e c ⟨a,b⟩=>by
  subst b;exact⟨a,cT w _ _ 0,by simp,(Below.refl _ _).alloc (Nat.le_refl _) _⟩
theorem Ed (c d:Cv) (h b:Nat) (E:Int) (g f:Option Addr) (bd i k m j l:Nat) (w:World) (t:ParR c h d E) (q:h<18446744073709551616) (hc:w.cell? ⟨b,0,none⟩=some (.float .f64 h)) (a:b<w.heap.size) (s:TFl w g f bd i m j c.ds c.fs) :
  BmC 46 #[.pointer (some ⟨b,0,none⟩)] c.base c.kind (.slice g c.ds.length k) (.slice f c.fs.length l) w d E:=fun n e=>
 GQ c d h b E _ _ n ((e.cell (p:=⟨b,0,none⟩) a).trans hc) (Nat.lt_of_lt_of_le a e.size) (fun o r=>uC c d h E g f bd i k m j l o t q (s.below (e.trans (r.mono e.size))))
theorem CO (cur base kind E:Int) (h:Nat) (q g j:Value) (w:World) (p:E≠0) (n:Hid (∀ i,Below w.heap.size w i->Calls Tryz.prog 20 #[q,.int .i64 cur,.agg #[.int .i64 base,.int .i64 kind,g,j]] i fun e k=>e=.returned (.tuple #[.agg #[.slice none 0 0,.int .i64 0,.int .i64 0,.int .i64 0,.slice none 0 0,.slice none 0 0,.float .f64 0],.int .i64 E])/\Below i.heap.size i k)) :
  Calls Tryz.prog 13 #[q,.int .i64 cur,.agg #[.int .i64 base,.int .i64 kind,g,j],.float .f64 h] w fun e k=>e=.returned (.tuple #[.float .f64 0,.int .i64 E])/\Below w.heap.size w k:=by
 have L:(E !=0)=true:=bne_iff_ne.2 p;have a:=hideS (bu w base kind g j);obtain⟨s,d⟩:∃ s,w.alloc (.cells #[.int .i64 base,.int .i64 kind,g,j] 26)=s:=⟨_,rfl⟩;rw [d] at a
 have B:=a.out.t0;have D:=a.out.t1;have C:=a.out.t2;have A:=a.out.t3;clear p
 go_enter Tryz.func13,Tryz.ntmps13
 go_wp2_with fail
 clear d B D C A;refine (n.out _ a.out.bl).mono ?_
 rintro e m ⟨rfl,f⟩;have b:=hideS (a.out.step f);clear f n a;obtain⟨N,V,u3,I,X,M,y,⟨v,z,x⟩,⟨Y,z1,P⟩,⟨H,S,R⟩,⟨Q,z3,Z⟩,⟨e4,J,T⟩,⟨U,F,O⟩,⟨W,K,G⟩,u,o⟩:=gv m.heap.size (.slice none 0 0) 0 0 0 (.slice none 0 0) (.slice none 0 0) 0 (m.alloc aR) (heap_alloc_new _ _);have l:Hid (Below w.heap.size w y):=(b.out.bl.alloc b.out.bl.size aR).trans (o.mono b.out.bl.size);obtain⟨r,c⟩:∃ r,m.alloc aR=r:=⟨_,rfl⟩;rw [c] at v z x
 unfold aR at c
 have t:=bJ;clear u o
 go_wp2_with fail
 go_ret2
 exact⟨rfl,l.out⟩
theorem CP (cur base kind E:Int) (h:Nat) (q g j:Value) (w:World) (p:E≠0) (n:Hid (∀ i,Below w.heap.size w i->Calls Tryz.prog 20 #[q,.int .i64 cur,.agg #[.int .i64 base,.int .i64 kind,g,j]] i fun e k=>e=.returned (.tuple #[.agg #[.slice none 0 0,.int .i64 0,.int .i64 0,.int .i64 0,.slice none 0 0,.slice none 0 0,.float .f64 0],.int .i64 E])/\Below i.heap.size i k)) :
  Calls Tryz.prog 15 #[q,.int .i64 cur,.agg #[.int .i64 base,.int .i64 kind,g,j],.float .f64 h] w fun e k=>e=.returned (.tuple #[.float .f64 0,.int .i64 E])/\Below w.heap.size w k:=by
 have L:(E !=0)=true:=bne_iff_ne.2 p;have a:=hideS (bu w base kind g j);obtain⟨s,d⟩:∃ s,w.alloc (.cells #[.int .i64 base,.int .i64 kind,g,j] 26)=s:=⟨_,rfl⟩;rw [d] at a
 have B:=a.out.t0;have D:=a.out.t1;have C:=a.out.t2;have A:=a.out.t3;clear p
 go_enter Tryz.func15,Tryz.ntmps15
 go_wp2_with fail
 clear d B D C A;refine (n.out _ a.out.bl).mono ?_
 rintro e m ⟨rfl,f⟩;have b:=hideS (a.out.step f);clear f n a;obtain⟨N,V,u3,I,X,M,y,⟨v,z,x⟩,⟨Y,z1,P⟩,⟨H,S,R⟩,⟨Q,z3,Z⟩,⟨e4,J,T⟩,⟨U,F,O⟩,⟨W,K,G⟩,u,o⟩:=gv m.heap.size (.slice none 0 0) 0 0 0 (.slice none 0 0) (.slice none 0 0) 0 (m.alloc aR) (heap_alloc_new _ _);have l:Hid (Below w.heap.size w y):=(b.out.bl.alloc b.out.bl.size aR).trans (o.mono b.out.bl.size);obtain⟨r,c⟩:∃ r,m.alloc aR=r:=⟨_,rfl⟩;rw [c] at v z x
 unfold aR at c
 have t:=bJ;clear u o
 go_wp2_with fail
 go_ret2
 exact⟨rfl,l.out⟩
theorem GR (cur base kind:Int) (h n V0:Nat) (X:Nat) (Q:Int) (pl:Option Addr) (q N:Nat) (i k:Option Addr) (l j m:Nat) (w:World)
  (S:Hid (∀ b,Below w.heap.size w b->Calls Tryz.prog 20 #[.slice pl N q,.int .i64 cur,.agg #[.int .i64 base,.int .i64 kind,.slice i n l,.slice k m j]] b fun e s=>e=.returned (.tuple #[.agg #[.slice pl N q,.int .i64 cur,.int .i64 base,.int .i64 kind,.slice i n l,.slice k m j,.float .f64 V0],.int .i64 0])/\Below b.heap.size b s))
  (HG:Hid (∀ b I,Below w.heap.size w b->b.cell? ⟨I,0,none⟩=some (.float .f64 h)->I<b.heap.size->Calls Tryz.prog 29 #[.agg #[.slice pl N q,.int .i64 cur,.int .i64 base,.int .i64 kind,.slice i n l,.slice k m j,.float .f64 V0],.func (.func 46) #[] #[.pointer (some ⟨I,0,none⟩)]] b fun e s=>e=.returned (.tuple #[.float .f64 X,.int .i64 Q])/\Below b.heap.size b s)) :
  Calls Tryz.prog 13 #[.slice pl N q,.int .i64 cur,.agg #[.int .i64 base,.int .i64 kind,.slice i n l,.slice k m j],.float .f64 h] w fun e s=>e=.returned (.tuple #[.float .f64 X,.int .i64 Q])/\Below w.heap.size w s:=by
 have f:=hideS (bu w base kind (.slice i n l) (.slice k m j));obtain⟨L,r⟩:∃ L,w.alloc (.cells #[.int .i64 base,.int .i64 kind,.slice i n l,.slice k m j] 26)=L:=⟨_,rfl⟩;rw [r] at f
 have t0:=f.out.t0;have t1:=f.out.t1;have t2:=f.out.t2;have Z:=f.out.t3
 go_enter Tryz.func13,Tryz.ntmps13
 go_wp2_with fail
 clear r t0 t1 t2 Z;refine (S.out _ f.out.bl).mono ?_
 rintro e y ⟨rfl,u⟩;have o:=hideS (f.out.step u);clear u S f;obtain⟨u1,u2,u3,u4,u5,u6,C,⟨K,R,P⟩,⟨e1,z1,W⟩,⟨V,z2,y2⟩,⟨Y,z3,y3⟩,⟨e4,z4,y4⟩,⟨e5,z5,y5⟩,⟨e6,z6,y6⟩,O,T⟩:=gv y.heap.size (.slice pl N q) cur base kind (.slice i n l) (.slice k m j) V0 (y.alloc aR) (heap_alloc_new _ _);have D:=hideS O;have c:Hid (Below w.heap.size w C):=o.out.bl.trans ((((Below.refl _ y).alloc (Nat.le_refl _) aR).trans T).mono o.out.bl.size);have J:=hideS (uF h);obtain⟨U,p⟩:∃ U,y.alloc aR=U:=⟨_,rfl⟩;rw [p] at K R P
 unfold aR at p
 have H:=bJ;clear O T o
 go_wp2_with fail
 clear p K R P e1 z1 W V z2 y2 Y z3 y3 e4 z4 y4 e5 z5 y5 e6 z6 y6 H;obtain⟨s0,s1,s2,s3,s4,s5,s6⟩:=D.out.t;generalize y.heap.size=g at *
 go_region_held3 (fun x=>x.cell? ⟨g,0,none⟩=some (.slice pl N q)/\x.cell? ⟨g,1,none⟩=some (.int .i64 cur)/\x.cell? ⟨g,2,none⟩=some (.int .i64 base)/\x.cell? ⟨g,3,none⟩=some (.int .i64 kind)/\x.cell? ⟨g,4,none⟩=some (.slice i n l)/\x.cell? ⟨g,5,none⟩=some (.slice k m j)/\x.cell? ⟨g,6,none⟩=some (.float .f64 V0)) (first | go_keep | exact E.out.t | exact G.out.t) (first | (go_at_call 30;refine (J.out _).mono ?_;rintro e M ⟨rfl,z,v,a⟩;have d:Hid (Below C.heap.size C M):=⟨a.os,a.tape,a.output,a.size,a.block⟩;have G:=hideS (D.out.step d.out);have F:=hideS (HG.out M C.heap.size (c.out.trans (d.out.mono c.out.size)) z v);clear a z v) | (go_at_call 29;refine F.out.mono ?_;rintro e w6 ⟨rfl,B⟩;have A:=hideS (d.out.trans (B.mono d.out.size));have E:=hideS (D.out.step A.out);clear B))
 all_goals
  go_wp2_with fail
  go_ret2
  exact⟨rfl,c.out.trans (A.out.mono c.out.size)⟩
theorem uG (l:List Flw) (cur:Int) (c:Cv) (h:Nat) (pl:Option Addr) (bl s p N:Nat) (j g:Option Addr) (bd q n t r o:Nat) (w:World) (D:h<18446744073709551616) (u:JSrc aF w pl bl s l) (y:l.length=N) (k:N<=30000) (v:dB l) (A:TFl w j g bd q t r c.ds c.fs) :
  Calls Tryz.prog 13 #[.slice pl N p,.int .i64 cur,.agg #[.int .i64 c.base,.int .i64 c.kind,.slice j c.ds.length n,.slice g c.fs.length o],.float .f64 h] w fun e x=>((prE l cur c≠0/\e=.returned (.tuple #[.float .f64 0,.int .i64 (prE l cur c)]))\/(prE l cur c=0/\e=.returned (.tuple #[.float .f64 (deV l cur c h),.int .i64 (deE l cur c h)])))/\Below w.heap.size w x:=by
 by_cases f:prE l cur c=0
 ·have C:=prR l cur c;rw [f] at C
  have E:=(cL f).1.ok;obtain⟨d,J,H⟩:=CN (h:=h) E;refine (GR cur c.base c.kind h c.ds.length (prV l cur c) (deV l cur c h) (deE l cur c h) pl p N j g n o c.fs.length w (fun m i=>rT l cur c pl bl s p N j g bd q n t r o m _ C (u.below i) y k v (A.below i)) (fun m i B G z=>?_)).mono ?_
  ·have:=ou 46 _ l d (paE c h) cur c.base c.kind pl bl s p N (.slice j c.ds.length n) (.slice g c.fs.length o) (prV l cur c) m (cL f).2.2.1 rV (Ed c d h i (paE c h) j g bd q n t r o m J D G z (A.below B)) (u.below B) y k v;obtain⟨I,F⟩:=LK (l:=l) (cur:=cur) (V0:=prV l cur c) (fun e=>(H e).1)
   rw [I,F] at this
   exact this
  ·rintro e x ⟨a,b⟩;exact⟨Or.inr ⟨f,a⟩,b⟩
 ·refine (CO cur c.base c.kind (prE l cur c) h _ _ _ w f (fun m i=>nC l cur c pl bl s p N j g bd q n t r o m _ _ (prR l cur c) f (u.below i) y k v (A.below i))).mono ?_
  rintro e x ⟨a,b⟩;exact⟨Or.inl ⟨f,a⟩,b⟩
theorem Ou {l:List Flw} {cur:Int} {c d:Cv} (a:prE l cur c=0) (h:prV l cur d=prV l cur c/\prE l cur d=prE l cur c):chV l cur d (prV l cur c)=0/\chE l cur d (prV l cur c)=0:=by
 obtain⟨_,_,b,_⟩:=cL a;have e:chO l cur d (prV l cur c)=0:=by unfold chO;rw [h.1,sub_self (bt b)];rfl
 unfold chV chE;rw [h.2,a,if_pos rfl,if_pos rfl,e];exact⟨by decide,by decide⟩
theorem LN (b:World) {base d:Int} (a:ag (rkT base d)):rkX base d 0=4607182418800017408:=by
 have e:opO .mul (some 0) (some (rkT base d))=some (wrd (sB 0^^sB (rkT base d)) 0):=by
  show floatBits .mul .f64 0 (rkT base d)=_
  rw [gg (by unfold ag;decide) a,show aV 0=0 by decide+kernel,Nat.zero_mul];rfl
 unfold rkX;rw [e,Ot b];rfl
theorem LO {f:Nat} (hn:ag f) (d:f<18446744073709551616) (g:0<ae (f:Nat)):floatBits .mul .f64 f 4607182418800017408=some f:=by
 obtain⟨a,l⟩:=rK hn d g;have h:f<9223372036854775808:=by
  unfold sB at a
  simp at a
  omega
 have b:f<9218868437227405312:=by unfold ag at hn;omega
 rw [gg hn (by unfold ag;decide),a,show sB 4607182418800017408=false by decide]
 obtain⟨K,c⟩:∃ K:Nat,K=1074:=⟨_,rfl⟩;have i:aV 4607182418800017408=2^K:=by subst c;decide+kernel
 have k:aV f=V f:=by unfold aV;rw [Nat.mod_eq_of_lt h]
 have j:V f≠0:=by
  intro e;have:=jT b 0;rw [e,Nat.zero_mul,ip (by decide)] at this
  omega
 unfold mulR;rw [i,k,if_neg (by have:=Nat.two_pow_pos K;exact Nat.mul_ne_zero j (by omega))]
 have:=jT b K;rw [show (-1074 - (K:Int))= -2148 by rw [c];decide] at this
 rw [this];rfl
theorem pk (g:World) {c:Cv} {k:Nat} (a:c.Ok) (f:c.Fit) (b:k<c.ds.length):c.bm k 0=c.fs.getD k 0/\bmB c k 0=true:=by
 obtain⟨d,n⟩:=a.day b;have l:=a.b0;obtain⟨j,m⟩:=ph d (by omega)
 obtain⟨h,i⟩:=a.fac b;have e:c.bm k 0=c.fs.getD k 0:=by
  unfold Cv.bm rkF;rw [LN g j,LO h (f k (by rw [a.len];exact b)) i];rfl
 refine⟨e,?_⟩
 unfold bmB;rw [e,a.rkB b];decide
theorem Ao {l:List Nat} {k:Nat} (a:k<l.length):l.set k (l.getD k 0)=l:=by
 apply List.ext_getElem?;intro j;rw [List.getElem?_set]
 by_cases e:k=j
 ·subst e;rw [if_pos rfl,if_pos a,List.getD_eq_getElem?_getD,List.getElem?_eq_getElem a];rfl
 ·rw [if_neg e]
theorem GS (e:World) {c:Cv} {k:Nat} (a:c.Ok) (d:c.Fit) (b:k<c.ds.length):c.bump k 0=c:=by
 unfold Cv.bump;rw [(pk e a d b).1,Ao (by rw [a.len];exact b)]
theorem uH (d:World) {c:Cv} (a:c.Ok) (b:c.Fit):∀ k≤c.ds.length,c.parL 0 k=c.fs
 | 0,_=>rfl
 | k+1,hk=>by
  rw [Cv.parL,uH d a b k (by omega),(pk d a b (k:=k) (by omega)).1,Ao (by rw [a.len];omega)]
theorem GT (d:World) {c:Cv} (a:c.Ok) (b:c.Fit):c.para 0=c:=by
 unfold Cv.para;rw [uH d a b _ (Nat.le_refl _)]
def Ap (u v:Int):Int:=az u*az v*((2^(aP u+aP v+2148).toNat:Nat):Int)
theorem LP (u v:Int):(A.fR u v).N=Ap u v:=by unfold A.fR Ap;rw [Int.natCast_pow];rfl
theorem rX (base kind:Int) (pl g c:Option Addr) (N l D d F f:Nat) (w:World) :
  Calls Tryz.prog 5 #[.slice pl N l,.agg #[.int .i64 base,.int .i64 kind,.slice g D d,.slice c F f]] w fun e m=>e=.returned (.bool (decide (N<=20/\D<=8/\F<=8)))/\Below w.heap.size w m:=by
 have b:=hideS (bu w base kind (.slice g D d) (.slice c F f));have o:=b.out.t2;have n:=b.out.t3
 by_cases k:N<=20<;>by_cases j:D<=8<;>by_cases a:F<=8
 all_goals
  first | rw [decide_eq_true (⟨k,j,a⟩:N<=20/\D<=8/\F<=8)] | rw [decide_eq_false (fun h:N<=20/\D<=8/\F<=8=>by omega)]
  have i:decide ((F:Int)<=8)=decide (F<=8):=decide_eq_decide.2 (by omega)
  first | rw [decide_eq_true a] at i | rw [decide_eq_false a] at i
  go_enter Tryz.func5,Tryz.ntmps5
  go_wp2_with fail
  go_ret
  exact⟨rfl,b.out.bl⟩
def rqD:List Int:=[365,730]
def rqF:List Nat:=[4602678819172646912,4598175219545276416]
def rqC:Cv:=⟨0,2,rqD,rqF⟩
def rqL:List Flw:=[⟨365,4607182418800017408,1⟩]
abbrev rqH:Nat:=4576918229304087675
theorem gD:rqC.Ok:=⟨by decide,by decide,by decide,by decide,by decide,by decide,rfl,fun i hi=>by
 have a:i<2:=hi;rcases (show i=0\/i=1 by omega) with rfl | rfl<;>decide+kernel⟩
theorem mB:rqC.Fit:=fun i hi=>by
 have a:i<2:=hi;rcases (show i=0\/i=1 by omega) with rfl | rfl<;>decide
theorem LQ (w:World):Calls Tryz.prog 81 #[.float .f64 4602418926338704640] w fun e a=>e=.returned (.float .f64 0)/\a=w:=lN _ 0 w (qK _ (by decide)) (by decide+kernel)
theorem LR (w:World):Calls Tryz.prog 81 #[.float .f64 4602159033504762368] w fun e a=>e=.returned (.float .f64 0)/\a=w:=lN _ 0 w (qK _ (by decide)) (by decide+kernel)
theorem Qu (w:World):Calls Tryz.prog 54 #[.float .f64 13800290266158863483] w fun e a=>e=.returned (.float .f64 4607092795669978366)/\Below w.heap.size w a:=by
 have:=lQ 13800290266158863483 13802842229321981950 4602418926338704640 0 0 0 13800290266158863483 13800290266158863483 4607092795669978366 0 w (by unfold U64;omega) (by decide) (by decide+kernel) (by decide+kernel) (by decide+kernel) (by decide+kernel) (by decide+kernel) (by decide+kernel) LQ (by decide+kernel) (by decide+kernel) (by decide+kernel) (by decide+kernel) (by show _=_;decide+kernel) (by show U64 _;unfold U64;omega) (by decide+kernel) (by omega) (by decide+kernel) (by decide+kernel)
 rw [show aI (az (4607092795669978366:Nat)) (aP (4607092795669978366:Nat)+0)=4607092795669978366 by decide+kernel] at this
 exact this
theorem Qv (w:World):Calls Tryz.prog 54 #[.float .f64 13804793865786233979] w fun e a=>e=.returned (.float .f64 4607004064304983131)/\Below w.heap.size w a:=by
 have:=lQ 13804793865786233979 13807345828949352446 4602159033504762368 0 0 0 13804793865786233979 13804793865786233979 4607004064304983131 0 w (by unfold U64;omega) (by decide) (by decide+kernel) (by decide+kernel) (by decide+kernel) (by decide+kernel) (by decide+kernel) (by decide+kernel) LR (by decide+kernel) (by decide+kernel) (by decide+kernel) (by decide+kernel) (by show _=_;decide+kernel) (by show U64 _;unfold U64;omega) (by decide+kernel) (by omega) (by decide+kernel) (by decide+kernel)
 rw [show aI (az (4607004064304983131:Nat)) (aP (4607004064304983131:Nat)+0)=4607004064304983131 by decide+kernel] at this
 exact this
theorem Rw (w:World):rkX 0 365 rqH=4607092795669978366:=by
 have e:opO .mul (some rqH) (some (rkT 0 365))=some 4576918229304087675:=by decide+kernel
 have b:lV 13800290266158863483=some 4607092795669978366:=pj (by decide) (by decide) w (Qu w)
 have a:flipN 4576918229304087675=13800290266158863483:=by decide+kernel
 unfold rkX;rw [e]
 show (lV (flipN 4576918229304087675)).getD 0=_
 rw [a,b];rfl
theorem Rx (w:World):rkX 0 730 rqH=4607004064304983131:=by
 have e:opO .mul (some rqH) (some (rkT 0 730))=some 4581421828931458171:=by decide+kernel
 have b:lV 13804793865786233979=some 4607004064304983131:=pj (by decide) (by decide) w (Qv w)
 have a:flipN 4581421828931458171=13804793865786233979:=by decide+kernel
 unfold rkX;rw [e]
 show (lV (flipN 4581421828931458171)).getD 0=_
 rw [a,b];rfl
theorem Qw (w:World):rqC.bm 0 rqH=4602589196042607870:=by
 show rkF 0 365 4602678819172646912 rqH=_
 unfold rkF;rw [Rw w];decide+kernel
theorem Ry (w:World):rqC.bm 1 rqH=4597996865050242139:=by
 show rkF 0 730 4598175219545276416 rqH=_
 unfold rkF;rw [Rx w];decide+kernel
theorem Ov (w:World):∀ k<rqC.ds.length,bmB rqC k rqH=true:=fun k a=>by
 have b:k<2:=a;unfold bmB;rcases (show k=0\/k=1 by omega) with rfl | rfl
 ·rw [Qw w];decide
 ·rw [Ry w];decide
theorem Ee {d:Cv} {u:Nat} (h:d.Ok) (m:d.base=0) (j:d.ds=rqD) (n:d.fs.getD 0 0=u) (g:valF (Ap 4607182418800017408 u+0)=u) (c:aE (u:Int)=true):prV rqL 1 d=u/\prE rqL 1 d=0:=by
 have e:=Gd h (i:=0) (by rw [j];decide)
 have b:d.ds.getD 0 0=365:=by rw [j];rfl
 rw [b] at e
 have o:d.V 365=u:=e.1.trans n;have q:d.E 365=0:=e.2;have l:FineP rqL 1 d:=⟨by decide,by decide,by decide,h,fun f c _=>by
  simp only [rqL,List.mem_cons,List.not_mem_nil,or_false] at c
  subst c;exact q⟩
 have k:wsI 1 d rqL=Ap 4607182418800017408 u+0:=by
  have r:ctI 1 d ⟨365,4607182418800017408,1⟩=Ap 4607182418800017408 u:=by
   unfold ctI tkB;rw [m,if_pos (by decide)];unfold prI;dsimp only;rw [o,LP];rfl
  simp only [wsI,rqL];rw [r]
 have a:=PreR.ok l;have p:zH rqL 1 d=u:=by unfold zH;rw [k,g];unfold tldV;rw [if_pos c]
 have s:Cg rqL 1 d=0:=by unfold Cg;rw [k,g];unfold fU;rw [if_pos c]
 rw [p,s] at a
 exact Rf a
abbrev rqY:Nat:=13795757939330957440
theorem rqP:prV rqL 1 rqC=4602678819172646912/\prE rqL 1 rqC=0:=Ee gD rfl rfl rfl (by decide+kernel) (by decide)
theorem LS {d:Cv} (h:prV rqL 1 d=4602589196042607870/\prE rqL 1 d=0):oJ rqL 1 d (prV rqL 1 rqC) 0=rqY/\oK rqL 1 d (prV rqL 1 rqC) 0=0:=by
 have e:chO rqL 1 d (prV rqL 1 rqC)=rqY:=by unfold chO;rw [h.1,rqP.1];decide+kernel
 unfold oJ oK chV chE;rw [if_pos rfl,if_pos rfl,if_pos h.2,if_pos h.2,e];exact⟨by decide,by decide⟩
theorem CR (w:World):(rqC.bump 0 rqH).fs.getD 0 0=4602589196042607870/\(rqC.bump 1 rqH).fs.getD 0 0=4602678819172646912/\(rqC.para rqH).fs.getD 0 0=4602589196042607870:=by
 refine⟨?_,?_,?_⟩
 ·rw [mw (by decide),if_pos rfl,Qw w]
 ·rw [mw (by decide),if_neg (by decide)];rfl
 ·show (rqC.parL rqH 2).getD 0 0=_
  rw [mu rqC rqH 2 (by decide),if_pos (by decide),Qw w]
theorem Rg (w:World):lnV rqL 1 rqC rqH 0=rqY/\lnE rqL 1 rqC rqH 0=0/\lnV rqL 1 rqC rqH 1=0/\lnE rqL 1 rqC rqH 1=0:=by
 have e:=Ov w 0 (by decide)
 have f:=Ov w 1 (by decide)
 have h:bmE rqC 0 rqH=0:=by unfold bmE;rw [if_pos e]
 have i:bmE rqC 1 rqH=0:=by unfold bmE;rw [if_pos f]
 unfold lnV lnE;rw [h,i];obtain⟨a,b⟩:=LS (Ee (DZ gD (by decide) e) rfl rfl (CR w).1 (by decide+kernel) (by decide))
 have g:=Ee (DZ gD (by decide) f) rfl rfl (CR w).2.1 (by decide+kernel) (by decide)
 obtain⟨c,d⟩:=Ou rqP.2 (g.1.trans rqP.1.symm |> fun x=>⟨x,g.2.trans rqP.2.symm⟩)
 refine⟨a,b,?_,?_⟩
 ·unfold oJ;rw [if_pos rfl];exact c
 ·unfold oK;rw [if_pos rfl];exact d
theorem Rh (w:World):deV rqL 1 rqC rqH=rqY/\deE rqL 1 rqC rqH=0:=by
 have e:paE rqC rqH=0:=by unfold paE;rw [if_pos (Ov w)]
 unfold deV deE;rw [e];exact LS (Ee (Ol gD (Ov w)) rfl rfl (CR w).2.2 (by decide+kernel) (by decide))
theorem Ox (w:World):BmpR rqC 1 0 rqC 0:=by
 have:=BmpR.ok (c:=rqC) (h:=0) gD 1 (by decide) rfl (pk w gD mB (by decide)).2
 rw [GS w gD mB (by decide)] at this
 exact this
theorem Oy (w:World):ParR rqC 0 rqC 0:=by
 have:=ParR.ok (c:=rqC) (h:=0) gD (fun k a=>(pk w gD mB a).2)
 rw [GT w gD mB] at this
 exact this
def akX:Obj:=.cells #[.int .i64 365,.int .i64 730] 3
def akY:Obj:=.cells #[.float .f64 4602678819172646912,.float .f64 4598175219545276416] 27
def akO:Obj:=.cells #[.int .i64 365,.float .f64 4607182418800017408,.int .i64 1] 51
structure AkB (w wr:World):Prop where
 bx:BxK wr (w.heap.size+1+1) 0 2 (.slice (some ⟨w.heap.size,0,none⟩) 2 2) (.slice (some ⟨w.heap.size+1,0,none⟩) 2 2)
 src:TFl wr (some ⟨w.heap.size,0,none⟩) (some ⟨w.heap.size+1,0,none⟩) w.heap.size 0 (w.heap.size+1) 0 rqD rqF
 bl:Below w.heap.size w wr
theorem AkB.step {w wr b:World} (h:AkB w wr) (a:Below wr.heap.size wr b):AkB w b:=⟨h.bx.step a,h.src.below a,h.bl.trans (a.mono h.bl.size)⟩
theorem ak3 (w:World):(((w.alloc akX).alloc akY).alloc ar).heap[w.heap.size]? =some akX/\(((w.alloc akX).alloc akY).alloc ar).heap[w.heap.size+1]? =some akY/\(((w.alloc akX).alloc akY).alloc ar).heap[w.heap.size+1+1]? =some ar/\Below w.heap.size w (((w.alloc akX).alloc akY).alloc ar):=by
 have b:(w.alloc akX).heap.size=w.heap.size+1:=by simp
 have d:((w.alloc akX).alloc akY).heap.size=w.heap.size+1+1:=by simp
 have c:=(Below.refl (w.heap.size+1) (w.alloc akX)).alloc (by omega) akY
 have a:=(Below.refl (w.heap.size+1+1) ((w.alloc akX).alloc akY)).alloc (by omega) ar
 refine⟨?_,?_,?_,(((Below.refl _ _).alloc (Nat.le_refl _) _).alloc (by omega) _).alloc (by omega) _⟩
 ·rw [a.block _ (by omega),c.block _ (by omega)];exact heap_alloc_new _ _
 ·rw [a.block _ (by omega),<- b];exact heap_alloc_new _ _
 ·rw [<- d];exact heap_alloc_new _ _
theorem Qx {wr:World} {g e:Nat} (b:wr.heap[g]? =some akX) (d:wr.heap[e]? =some akY):TFl wr (some ⟨g,0,none⟩) (some ⟨e,0,none⟩) g 0 e 0 rqD rqF:=by
 unfold akX at b
 unfold akY at d
 refine⟨⟨fun _=>rfl,fun _=>(Array.getElem?_eq_some_iff.1 b).1,fun j a=>?_⟩,⟨fun _=>rfl,fun _=>(Array.getElem?_eq_some_iff.1 d).1,fun j a=>?_⟩,mB⟩
 ·have c:j<2:=a;rcases (show j=0\/j=1 by omega) with rfl | rfl
  all_goals
   simp only [World.cell?,b,Option.isSome_none,Bool.false_eq_true,if_false]
   rfl
 ·have c:j<2:=a;rcases (show j=0\/j=1 by omega) with rfl | rfl
  all_goals
   simp only [World.cell?,d,Option.isSome_none,Bool.false_eq_true,if_false]
   rfl
theorem Qy (w:World):JSrc aF (w.alloc akO) (some ⟨w.heap.size,0,none⟩) w.heap.size 0 rqL:=by
 have h:=heap_alloc_new w akO;refine⟨fun _=>rfl,fun _=>(Array.getElem?_eq_some_iff.1 h).1,fun i hi=>?_⟩
 have a:i<1:=hi;unfold akO at h
 obtain rfl:i=0:=by omega
 refine⟨?_,?_,?_⟩
 all_goals
  simp only [World.cell?,h,akO,Option.isSome_none,Bool.false_eq_true,if_false]
  rfl
theorem Ef:dB rqL:=fun i=>by
 rcases (show i=0\/1<=i by omega) with rfl | h
 ·decide
 ·rw [List.getD_eq_getElem?_getD,List.getElem?_eq_none (by exact h)];decide
theorem Eg (w:World):Calls Tryz.prog 6 #[] w fun e f=>e=.returned (.bool true)/\Below w.heap.size w f:=by
 obtain⟨O,N,A,K⟩:=ak3 w;obtain⟨w3,x⟩:∃ w3,((w.alloc akX).alloc akY).alloc ar=w3:=⟨_,rfl⟩;rw [x] at O N A K
 unfold akX akY ar at x
 obtain⟨u1,u2,u3,u4,⟨s,E,D⟩,⟨l,z1,S⟩,⟨R,Z,y2⟩,⟨T,z3,y3⟩,r,m⟩:=bD (w.heap.size+1+1) 0 2 (.slice (some ⟨w.heap.size,0,none⟩) 2 2) (.slice (some ⟨w.heap.size+1,0,none⟩) 2 2) w3 A;have HA:Hid (AkB w u4):=⟨r,Qx ((m.block _ (by omega)).trans O) ((m.block _ (by omega)).trans N),K.trans (m.mono (by omega))⟩
 have HJ:=hideS (Qy u4);have j:=hideS (HA.out.step ((Below.refl _ u4).alloc (Nat.le_refl _) akO));obtain⟨w5,G⟩:∃ w5,u4.alloc akO=w5:=⟨_,rfl⟩;rw [G] at HJ j
 unfold akO at G
 obtain⟨i,Y⟩:∃ i,u4.heap.size=i:=⟨_,rfl⟩;rw [Y] at HJ
 have q1:(FloatKind.f64.format.order 4598175219545276416 4598175219545276416==some .eq)=true:=by kernel_rfl
 have q2:(FloatKind.f64.format.order rqY 0==some .lt)=true:=by kernel_rfl
 have q3:(FloatKind.f64.format.order 0 0==some .eq)=true:=by kernel_rfl
 have q4:(FloatKind.f64.format.order rqY rqY==some .eq)=true:=by kernel_rfl
 have W:Hid (∀ a,AkB w a->Calls Tryz.prog 18 #[.agg #[.int .i64 0,.int .i64 2,.slice (some ⟨w.heap.size,0,none⟩) 2 2,.slice (some ⟨w.heap.size+1,0,none⟩) 2 2],.int .i64 1,.float .f64 0] a fun e f=>CvO a rqC 0 e f):=fun a z=>uB rqC rqC 1 0 0 _ _ _ _ 2 _ _ 2 a (Ox w) (by decide) z.src
 have ab:Hid (∀ a,AkB w a->Calls Tryz.prog 19 #[.agg #[.int .i64 0,.int .i64 2,.slice (some ⟨w.heap.size,0,none⟩) 2 2,.slice (some ⟨w.heap.size+1,0,none⟩) 2 2],.float .f64 0] a fun e f=>CvO a rqC 0 e f):=fun a z=>uC rqC rqC 0 0 _ _ _ _ 2 _ _ 2 a (Oy w) (by decide) z.src
 have bb:Hid (∀ a,AkB w a->JSrc aF a (some ⟨i,0,none⟩) i 0 rqL->Calls Tryz.prog 7 #[.slice (some ⟨i,0,none⟩) 1 1,.int .i64 1,.agg #[.int .i64 0,.int .i64 2,.slice (some ⟨w.heap.size,0,none⟩) 2 2,.slice (some ⟨w.heap.size+1,0,none⟩) 2 2],.float .f64 4576918229304087675] a fun e f=>∃ g,e=.returned (.tuple #[.slice (some ⟨g,0,none⟩) 2 2,.int .i64 0])/\f.cell? ⟨g,0,none⟩=some (.float .f64 rqY)/\f.cell? ⟨g,1,none⟩=some (.float .f64 0)/\g<f.heap.size/\Below a.heap.size a f):=fun a z hj=>by
  refine (CM rqL 1 rqC rqH (some ⟨i,0,none⟩) i 0 1 1 _ _ _ _ 2 _ _ 2 a (by decide) hj rfl (by decide) Ef z.src).mono ?_
  rintro e f ⟨b,hb⟩;obtain⟨a1,a2,a3,a4⟩:=Rg w;rcases b with⟨hn,_⟩| ⟨_,b⟩
  ·exact absurd rqP.2 hn
  ·rcases b with⟨k,hk,hE,_⟩| ⟨_,g,H,b⟩
   ·exfalso
    have bi:k<2:=hk;rcases (show k=0\/k=1 by omega) with rfl | rfl
    ·exact hE a2
    ·exact hE a4
   ·have hl:(List.range rqC.ds.length).map (lnV rqL 1 rqC rqH)=[rqY,0]:=by
     show [lnV rqL 1 rqC rqH 0,lnV rqL 1 rqC rqH 1]=_
     rw [a1,a3]
    rw [hl] at b
    obtain⟨g',c',e',hs,_⟩:=fx (xs:=[rqY,0]) b rfl (by decide)
    injection e' with l _ _;injection l with l;injection l with l;subst l;exact⟨g,H,hs.cell 0 (by decide),hs.cell 1 (by decide),hs.lt (by decide),hb⟩
 have ai:Hid (∀ a,AkB w a->JSrc aF a (some ⟨i,0,none⟩) i 0 rqL->Calls Tryz.prog 13 #[.slice (some ⟨i,0,none⟩) 1 1,.int .i64 1,.agg #[.int .i64 0,.int .i64 2,.slice (some ⟨w.heap.size,0,none⟩) 2 2,.slice (some ⟨w.heap.size+1,0,none⟩) 2 2],.float .f64 4576918229304087675] a fun e f=>e=.returned (.tuple #[.float .f64 rqY,.int .i64 0])/\Below a.heap.size a f):=fun a z hj=>by
  refine (uG rqL 1 rqC rqH (some ⟨i,0,none⟩) i 0 1 1 _ _ _ _ 2 _ _ 2 a (by decide) hj rfl (by decide) Ef z.src).mono ?_
  rintro e f ⟨b,hb⟩;obtain⟨a1,a2⟩:=Rh w;rcases b with⟨hn,_⟩| ⟨_,b⟩
  ·exact absurd rqP.2 hn
  ·rw [a1,a2] at b;exact⟨b,hb⟩
 clear O N A K r m;obtain⟨v,P,F,u⟩:=j.out.bx.t
 go_enter Tryz.func6,Tryz.ntmps6
 go_wp2_with fail
 clear x s E D l z1 S R Z y2 T z3 y3 G Y v P F u HA;refine (W.out _ j.out).mono ?_
 intro e L b;obtain⟨gx,cx,gy,cy,H,hO⟩:=b.ok rfl;have M:e=.returned (.tuple #[.agg #[.int .i64 0,.int .i64 2,.slice (some ⟨gx,0,none⟩) 2 cx,.slice (some ⟨gy,0,none⟩) 2 cy],.int .i64 0]):=H;subst M;obtain⟨u1,u2,u3,bc,⟨s,E,D⟩,⟨l,z1,S⟩,⟨R,Z,y2⟩,⟨T,z3,y3⟩,r,m⟩:=bD L.heap.size 0 2 (.slice (some ⟨gx,0,none⟩) 2 cx) (.slice (some ⟨gy,0,none⟩) 2 cy) (L.alloc ar) (heap_alloc_new _ _);have c:Below L.heap.size L bc:=((Below.refl _ L).alloc (Nat.le_refl _) ar).trans m;have n:=hideS ((j.out.step b.bl).step c);have X:=hideS ((HJ.out.below b.bl).below c);have ba:=hideS r;have ad:=hideS (hO.below c).src.y;obtain⟨w7,C⟩:∃ w7,L.alloc ar=w7:=⟨_,rfl⟩;rw [C] at s E D
 unfold ar at C
 obtain⟨v,P,F,u⟩:=n.out.bx.t;clear b hO m c r j W HJ H
 go_wp2_with fail
 clear C s E D l z1 S R Z y2 T z3 y3 v P F u;generalize L.heap.size=gd at *
 refine (ab.out _ n.out).mono ?_
 intro e B b;obtain⟨px,dx,py,dy,H,hO⟩:=b.ok rfl;have M:e=.returned (.tuple #[.agg #[.int .i64 0,.int .i64 2,.slice (some ⟨px,0,none⟩) 2 dx,.slice (some ⟨py,0,none⟩) 2 dy],.int .i64 0]):=H;subst M;obtain⟨v1,v2,v3,v4,⟨s,E,D⟩,⟨l,z1,S⟩,⟨R,Z,y2⟩,⟨T,z3,y3⟩,r,m⟩:=bD B.heap.size 0 2 (.slice (some ⟨px,0,none⟩) 2 dx) (.slice (some ⟨py,0,none⟩) 2 dy) (B.alloc ar) (heap_alloc_new _ _);have c:Below B.heap.size B v4:=((Below.refl _ B).alloc (Nat.le_refl _) ar).trans m;have o:=hideS ((n.out.step b.bl).step c);have I:=hideS ((X.out.below b.bl).below c);have Q:=hideS ((ba.out.step b.bl).step c);have al:=hideS ((ad.out.below b.bl).below c);have am:=hideS r;obtain⟨w9,J⟩:∃ w9,B.alloc ar=w9:=⟨_,rfl⟩;rw [J] at s E D
 unfold ar at J
 obtain⟨v,P,F,u⟩:=o.out.bx.t;clear b hO m c r n ab X ba ad H
 go_wp2_with fail
 clear J s E D l z1 S R Z y2 T z3 y3 v P F u;generalize B.heap.size=gp at *
 refine (bb.out _ o.out I.out).mono ?_
 rintro e wa ⟨g,rfl,k0,k1,kl,h⟩;have q:=hideS (o.out.step h);have V:=hideS (I.out.below h);have ac:=hideS (Q.out.step h);have U:=hideS (al.out.below h);have as:=hideS (am.out.step h);have HK:=hideS (And.intro k0 (And.intro k1 kl));clear h o I Q al am bb k0 k1 kl;obtain⟨v,P,F,u⟩:=q.out.bx.t
 go_wp2_with fail
 clear v P F u;refine (ai.out _ q.out V.out).mono ?_
 rintro e wb ⟨rfl,d⟩;have bh:=hideS (q.out.step d).bl;obtain⟨_,_,_,d3⟩:=(ac.out.step d).t;obtain⟨_,_,_,p3⟩:=(as.out.step d).t;have c1:=(U.out.below d).cell 1 (by decide)
 have k0:=(d.cell (p:=⟨g,0,none⟩) HK.out.2.2).trans HK.out.1;have k1:=(d.cell (p:=⟨g,1,none⟩) HK.out.2.2).trans HK.out.2.1;have bk:wb.cell? ⟨gy,1,none⟩=some (.float .f64 4598175219545276416):=c1;clear d q V ac U as HK ai c1
 go_wp2_with fail
 go_ret
 exact⟨rfl,bh.out⟩
def tlO (o:Option Nat):Nat:=match o with | some x=>tldV x | none=>0
def teO (o:Option Nat):Int:=match o with | some x=>fU x | none=>91
theorem Ri {o:Option Nat} {x:Nat} (h:AgU o x):tldV x=tlO o/\fU x=teO o:=by
 cases o with
 | none=>
  have:=lP (eV h.1).1;unfold tldV fU;rw [this];exact⟨rfl,rfl⟩
 | some r=>rw [cz h.1];exact⟨rfl,rfl⟩
noncomputable def gaO (u b d:Nat):Option Nat:=opO .sub (opO .sub (some u) (some b)) (opO .sub (some b) (some d))
theorem GU (cur base kind:Int) (h n V0 uV r:Nat) (I M:Int) (pl:Option Addr) (C N:Nat) (l p:Option Addr) (q o m:Nat) (w:World) (ai:V0<18446744073709551616) (hu:uV<18446744073709551616) (hd:r<18446744073709551616)
  (HH:Hid (∀ b,Below w.heap.size w b->Calls Tryz.prog 20 #[.slice pl N C,.int .i64 cur,.agg #[.int .i64 base,.int .i64 kind,.slice l n q,.slice p m o]] b fun e A=>e=.returned (.tuple #[.agg #[.slice pl N C,.int .i64 cur,.int .i64 base,.int .i64 kind,.slice l n q,.slice p m o,.float .f64 V0],.int .i64 0])/\Below b.heap.size b A))
  (HG:Hid (∀ b F,Below w.heap.size w b->b.cell? ⟨F,0,none⟩=some (.float .f64 h)->F<b.heap.size->Calls Tryz.prog 32 #[.agg #[.slice pl N C,.int .i64 cur,.int .i64 base,.int .i64 kind,.slice l n q,.slice p m o,.float .f64 V0],.func (.func 46) #[] #[.pointer (some ⟨F,0,none⟩)]] b fun e A=>e=.returned (.tuple #[.float .f64 uV,.int .i64 I])/\Below b.heap.size b A))
  (HD:Hid (∀ b F,Below w.heap.size w b->b.cell? ⟨F,0,none⟩=some (.float .f64 (Op.negFloat .f64 h))->F<b.heap.size->Calls Tryz.prog 32 #[.agg #[.slice pl N C,.int .i64 cur,.int .i64 base,.int .i64 kind,.slice l n q,.slice p m o,.float .f64 V0],.func (.func 46) #[] #[.pointer (some ⟨F,0,none⟩)]] b fun e A=>e=.returned (.tuple #[.float .f64 r,.int .i64 M])/\Below b.heap.size b A)) :
  Calls Tryz.prog 15 #[.slice pl N C,.int .i64 cur,.agg #[.int .i64 base,.int .i64 kind,.slice l n q,.slice p m o],.float .f64 h] w fun e A=>((I≠0/\e=.returned (.tuple #[.float .f64 0,.int .i64 I]))\/(I=0/\M≠0/\e=.returned (.tuple #[.float .f64 0,.int .i64 M]))\/(I=0/\M=0/\e=.returned (.tuple #[.float .f64 (tlO (gaO uV V0 r)),.int .i64 (teO (gaO uV V0 r))])))/\Below w.heap.size w A:=by
 have B:=hideS (bu w base kind (.slice l n q) (.slice p m o));obtain⟨w2,S⟩:∃ w2,w.alloc (.cells #[.int .i64 base,.int .i64 kind,.slice l n q,.slice p m o] 26)=w2:=⟨_,rfl⟩;rw [S] at B
 have t0:=B.out.t0;have t1:=B.out.t1;have t2:=B.out.t2;have t3:=B.out.t3;have as:=Ad;have V:=hideS ai;have Hu:=hideS hu;have Hd:=hideS hd;clear ai hu hd
 go_enter Tryz.func15,Tryz.ntmps15
 go_wp2_with fail
 clear S t0 t1 t2 t3;refine (HH.out _ B.out.bl).mono ?_
 rintro e U ⟨rfl,T⟩;have G:=hideS (B.out.step T);clear T HH B;obtain⟨u1,u2,u3,u4,u5,u6,u7,⟨e0,z0,y0⟩,⟨e1,z1,y1⟩,⟨e2,z2,y2⟩,⟨e3,z3,y3⟩,⟨e4,z4,y4⟩,⟨e5,z5,y5⟩,⟨e6,z6,y6⟩,hZ,hB⟩:=gv U.heap.size (.slice pl N C) cur base kind (.slice l n q) (.slice p m o) V0 (U.alloc aR) (heap_alloc_new _ _);have HZ:=hideS hZ;have u:Hid (Below w.heap.size w u7):=G.out.bl.trans ((((Below.refl _ U).alloc (Nat.le_refl _) aR).trans hB).mono G.out.bl.size);have ad:=hideS uF;obtain⟨w4,K⟩:∃ w4,U.alloc aR=w4:=⟨_,rfl⟩;rw [K] at e0 z0 y0
 unfold aR at K
 have al:=bJ;clear hZ hB G
 go_wp2_with fail
 clear K e0 z0 y0 e1 z1 y1 e2 z2 y2 e3 z3 y3 e4 z4 y4 e5 z5 y5 e6 z6 y6 al;obtain⟨s0,s1,s2,s3,s4,s5,X⟩:=HZ.out.t;generalize U.heap.size=g at *
 go_region_held3 (fun x=>x.cell? ⟨g,0,none⟩=some (.slice pl N C)/\x.cell? ⟨g,1,none⟩=some (.int .i64 cur)/\x.cell? ⟨g,2,none⟩=some (.int .i64 base)/\x.cell? ⟨g,3,none⟩=some (.int .i64 kind)/\x.cell? ⟨g,4,none⟩=some (.slice l n q)/\x.cell? ⟨g,5,none⟩=some (.slice p m o)/\x.cell? ⟨g,6,none⟩=some (.float .f64 V0)) (first | go_keep | exact s.out.t | exact Q.out.t) (first | (go_at_call 30;refine (ad.out h _).mono ?_;rintro e w5 ⟨rfl,i,f,a⟩;have y:Hid (Below u7.heap.size u7 w5):=⟨a.os,a.tape,a.output,a.size,a.block⟩;have Q:=hideS (HZ.out.step y.out);have d:=hideS (HG.out w5 u7.heap.size (u.out.trans (y.out.mono u.out.size)) i f);clear a i f) | (go_at_call 32;refine d.out.mono ?_;rintro e w6 ⟨rfl,k⟩;have ac:=hideS (y.out.trans (k.mono y.out.size));have s:=hideS (HZ.out.step ac.out);clear k))
 all_goals
  have j:=hideS (u.out.trans (ac.out.mono u.out.size));clear s0 s1 s2 s3 s4 s5 X d Q
  by_cases O:I=0
  ·have HE:=hideS O;rw [O];obtain⟨s0,s1,s2,s3,s4,s5,X⟩:=s.out.t;clear O
   go_wp2_with fail
   go_region_held3 (fun x=>x.cell? ⟨g,0,none⟩=some (.slice pl N C)/\x.cell? ⟨g,1,none⟩=some (.int .i64 cur)/\x.cell? ⟨g,2,none⟩=some (.int .i64 base)/\x.cell? ⟨g,3,none⟩=some (.int .i64 kind)/\x.cell? ⟨g,4,none⟩=some (.slice l n q)/\x.cell? ⟨g,5,none⟩=some (.slice p m o)/\x.cell? ⟨g,6,none⟩=some (.float .f64 V0)) (first | go_keep | exact P.out.t | exact R.out.t) (first | (go_at_call 30;refine (ad.out (Op.negFloat .f64 h) _).mono ?_;rintro e w7 ⟨rfl,i,f,a⟩;have z:Hid (Below w6.heap.size w6 w7):=⟨a.os,a.tape,a.output,a.size,a.block⟩;have R:=hideS (s.out.step z.out);have d:=hideS (HD.out w7 w6.heap.size (j.out.trans (z.out.mono j.out.size)) i f);clear a i f) | (go_at_call 32;refine d.out.mono ?_;rintro e w8 ⟨rfl,k⟩;have W:=hideS (z.out.trans (k.mono z.out.size));have P:=hideS (s.out.step W.out);clear k))
   all_goals
    have c:=hideS (j.out.trans (W.out.mono j.out.size));clear s0 s1 s2 s3 s4 s5 X d R
    by_cases L:M=0
    ·have HF:=hideS L;rw [L];obtain⟨_,_,_,_,_,_,X⟩:=P.out.t;obtain⟨x1,⟨q1,r1⟩,g1⟩:=we .sub (by simp) 27 (lW Hu.out) (lW V.out) w8
     obtain⟨Y,v⟩:∃ Y,w8.drewN q1=Y:=⟨_,rfl⟩;rw [v] at r1
     have sa:Y.cell? ⟨g,6,none⟩=some (.float .f64 V0):=by rw [<- v];exact X
     obtain⟨x2,⟨q2,r2⟩,g2⟩:=we .sub (by simp) 27 (lW V.out) (lW Hd.out) Y
     obtain⟨wb,D⟩:∃ wb,Y.drewN q2=wb:=⟨_,rfl⟩;rw [D] at r2
     obtain⟨x3,⟨q3,r3⟩,g3⟩:=we .sub (by simp) 27 g1 g2 wb
     obtain⟨wc,J⟩:∃ wc,wb.drewN q3=wc:=⟨_,rfl⟩;rw [J] at r3
     have am:Hid (Below w.heap.size w wc):=by
      show Below _ _ _
      rw [<- J,<- D,<- v];exact⟨c.out.os,c.out.tape,c.out.output,c.out.size,c.out.block⟩
     have HT:=hideS (Ri g3);have E:=hideS fun b=>jH x3 b (af g3.2)
     rw [HT.out.1,HT.out.2] at E
     have H:Hid (tlO (gaO uV V0 r)=tlO (opO .sub (opO .sub (some uV) (some V0)) (opO .sub (some V0) (some r)))/\teO (gaO uV V0 r)=teO (opO .sub (opO .sub (some uV) (some V0)) (opO .sub (some V0) (some r)))):=⟨rfl,rfl⟩;obtain⟨TV,Z⟩:∃ TV,tlO (opO .sub (opO .sub (some uV) (some V0)) (opO .sub (some V0) (some r)))=TV:=⟨_,rfl⟩;obtain⟨TE,ab⟩:∃ TE,teO (opO .sub (opO .sub (some uV) (some V0)) (opO .sub (some V0) (some r)))=TE:=⟨_,rfl⟩;rw [Z,ab] at E H
     clear L g1 g2 g3 v D J HT Z ab
     go_wp2_with (go_at_call 33;refine (turned (E.out _)).mono ?_;rintro e A ⟨rfl,rfl⟩)
     go_ret2
     refine⟨Or.inr (Or.inr ⟨HE.out,HF.out,?_⟩),am.out⟩
     rw [H.out.1,H.out.2]
     rfl
    ·have dF:(M !=0)=true:=bne_iff_ne.2 L;have HF:=hideS L;clear L
     go_wp2_with fail
     go_ret2
     exact⟨Or.inr (Or.inl ⟨HE.out,HF.out,rfl⟩),c.out⟩
  ·have dU:(I !=0)=true:=bne_iff_ne.2 O;have HE:=hideS O;clear O
   go_wp2_with fail
   go_ret2
   exact⟨Or.inl ⟨HE.out,rfl⟩,j.out⟩
theorem LT {l:List Flw} {cur:Int} {d:Cv} {E:Int}:rU l cur d E<18446744073709551616:=by
 unfold rU
 split
 ·have h:=prR l cur d;generalize prV l cur d=V at *
  generalize prE l cur d=a at *
  cases h with
  | bad=>decide
  | ok=>
   unfold zH tldV
   split
   ·exact oZ _
   ·decide
 ·decide
theorem GV (l:List Flw) (cur:Int) (c:Cv) (h:Nat) (pl:Option Addr) (bl v q N:Nat) (k j:Option Addr) (bd t n x u o:Nat) (w:World) (y:h<18446744073709551616) (z:JSrc aF w pl bl v l) (C:l.length=N) (p:N<=30000) (B:dB l) (E:TFl w k j bd t x u c.ds c.fs) :
  Calls Tryz.prog 15 #[.slice pl N q,.int .i64 cur,.agg #[.int .i64 c.base,.int .i64 c.kind,.slice k c.ds.length n,.slice j c.fs.length o],.float .f64 h] w fun e s=>((prE l cur c≠0/\e=.returned (.tuple #[.float .f64 0,.int .i64 (prE l cur c)]))\/(prE l cur c=0/\((upE l cur c h≠0/\e=.returned (.tuple #[.float .f64 0,.int .i64 (upE l cur c h)]))\/(upE l cur c h=0/\upE l cur c (flipN h)≠0/\e=.returned (.tuple #[.float .f64 0,.int .i64 (upE l cur c (flipN h))]))\/(upE l cur c h=0/\upE l cur c (flipN h)=0/\e=.returned (.tuple #[.float .f64 (tlO (gaO (upV l cur c h) (prV l cur c) (upV l cur c (flipN h)))),.int .i64 (teO (gaO (upV l cur c h) (prV l cur c) (upV l cur c (flipN h))))])))))/\Below w.heap.size w s:=by
 by_cases m:prE l cur c=0
 ·have G:=prR l cur c;rw [m] at G
  have H:=(cL m).1.ok;have r:∀ i,i<18446744073709551616->∀ f g,Below w.heap.size w f->f.cell? ⟨g,0,none⟩=some (.float .f64 i)->g<f.heap.size->Calls Tryz.prog 32 #[.agg #[.slice pl N q,.int .i64 cur,.int .i64 c.base,.int .i64 c.kind,.slice k c.ds.length n,.slice j c.fs.length o,.float .f64 (prV l cur c)],.func (.func 46) #[] #[.pointer (some ⟨g,0,none⟩)]] f fun e s=>e=.returned (.tuple #[.float .f64 (upV l cur c i),.int .i64 (upE l cur c i)])/\Below f.heap.size f s:=fun i A f g F J D=>by
   obtain⟨d,M,K⟩:=CN (h:=i) H;have:=ot 46 _ l d (paE c i) cur c.base c.kind pl bl v q N (.slice k c.ds.length n) (.slice j c.fs.length o) (prV l cur c) f rV (Ed c d i g (paE c i) k j bd t n x u o f M A J D (E.below F)) (z.below F) C p B;obtain⟨L,I⟩:=Qs (l:=l) (cur:=cur) (fun e=>(K e).1)
   rw [L,I] at this
   exact this
  refine (GU cur c.base c.kind h c.ds.length (prV l cur c) (upV l cur c h) (upV l cur c (flipN h)) (upE l cur c h) (upE l cur c (flipN h)) pl q N k j n o c.fs.length w (cL m).2.2.2 LT LT (fun f g=>rT l cur c pl bl v q N k j bd t n x u o f _ G (z.below g) C p B (E.below g)) (r h y) (by rw [yG y];exact r (flipN h) (bM y).1)).mono ?_
  rintro e s ⟨a,b⟩;exact⟨Or.inr ⟨m,a⟩,b⟩
 ·refine (CP cur c.base c.kind (prE l cur c) h _ _ _ w m (fun f g=>nC l cur c pl bl v q N k j bd t n x u o f _ _ (prR l cur c) m (z.below g) C p B (E.below g))).mono ?_
  rintro e s ⟨a,b⟩;exact⟨Or.inl ⟨m,a⟩,b⟩
structure CvS (wr:World) (d:Cv) (E b k:Int) (px py:Option Addr) (nx ny gx gy:Nat):Prop where
 ok:E=0->b=d.base/\k=d.kind/\nx=d.ds.length/\ny=d.fs.length/\TFl wr px py gx 0 gy 0 d.ds d.fs
 no:E≠0->b=0/\k=0/\px=none/\py=none/\nx=0/\ny=0
theorem CvS.step {wr m:World} {d:Cv} {E b k:Int} {g l:Option Addr} {nx j n i:Nat} (h:CvS wr d E b k g l nx j n i) (o:Below wr.heap.size wr m):CvS m d E b k g l nx j n i:=
 ⟨fun e=>by obtain⟨a,b,c,d,f⟩:=h.ok e;exact⟨a,b,c,d,f.below o⟩,h.no⟩
structure DvS (wr:World) (d:Cv) (E b k:Int) (px py:Option Addr) (bx ox nx ny gy:Nat):Prop where
 ok:E=0->b=d.base/\k=d.kind/\nx=d.ds.length/\ny=d.fs.length/\CSrcD wr px py bx ox gy 0 d.ds d.fs
 no:E≠0->b=0/\k=0/\px=none/\py=none/\nx=0/\ny=0
theorem DvS.step {wr l:World} {d:Cv} {E b k:Int} {m o:Option Addr} {i n nx g j:Nat} (h:DvS wr d E b k m o i n nx g j) (p:Below wr.heap.size wr l):DvS l d E b k m o i n nx g j:=
 ⟨fun e=>by obtain⟨a,b,c,d,f⟩:=h.ok e;exact⟨a,b,c,d,f.below p⟩,h.no⟩
theorem DvO.shp {w:World} {d:Cv} {E:Int} {s:Option Addr} {i o cx:Nat} {e:Ending} {m:World} (h:DvO w d E s i o cx e m):∃ (b k:Int) (n l:Option Addr) (nx u f p j:Nat),e=.returned (.tuple #[.agg #[.int .i64 b,.int .i64 k,.slice n nx u,.slice l f p],.int .i64 E])/\DvS m d E b k n l i o nx f j/\(E=0->w.heap.size<=j):=by
 by_cases c:E=0
 ·subst c;obtain⟨q,g,t,rfl,r,v⟩:=h.ok rfl;exact⟨_,_,_,_,_,cx,_,t,g,rfl,⟨fun _=>⟨rfl,rfl,rfl,rfl,r⟩,fun a=>absurd rfl a⟩,fun _=>v⟩
 ·exact⟨0,0,none,none,0,0,0,0,0,h.bad c,⟨fun e=>absurd e c,fun _=>⟨rfl,rfl,rfl,rfl,rfl,rfl⟩⟩,fun e=>absurd e c⟩
theorem VSrc.blk {w u:World} {p:Option Addr} {g o n:Nat} {f:Nat->Value} (h:VSrc w p g o n f) (e:u.heap[g]? =w.heap[g]?):VSrc u p g o n f:=
 ⟨h.at_,fun b=>(by
  obtain⟨x,c⟩:∃ x,w.heap[g]? =some x:=⟨_,Array.getElem?_eq_getElem (h.lt b)⟩
  rw [c] at e
  exact (Array.getElem?_eq_some_iff.1 e).1),fun j a=>(by
  rw [<- h.cell j a];simp only [World.cell?,e])⟩
def erK (a b c:Int):Int:=if a=0 then (if b=0 then c else b) else a
structure LdB (w:World) (base kind:Int) (vd vf:Value) (wr:World):Prop where
 k:DxK wr w.heap.size base kind vd vf
 bl:Below w.heap.size w wr
 sz:w.heap.size+1<=wr.heap.size
theorem LdB.step {w wr c:World} {base kind:Int} {b d:Value} (h:LdB w base kind b d wr) (a:Below wr.heap.size wr c):LdB w base kind b d c:=⟨h.k.step a,h.bl.trans (a.mono h.bl.size),Nat.le_trans h.sz a.size⟩
theorem LdB.stay {w wr c:World} {base kind:Int} {b d:Value} (h:LdB w base kind b d wr) (a:Below (w.heap.size+1) wr c):LdB w base kind b d c:=⟨⟨(a.block _ (by omega)).trans h.k.blk⟩,h.bl.trans (a.mono (by omega)),Nat.le_trans h.sz a.size⟩
theorem sb (l:List Flw) (cur:Int) (c:Cv) (pl:Option Addr) (bl B D N:Nat) (i h:Option Addr) (bd t m G u o:Nat) (w:World) (g s A:Int) (x:ChkF l g s) (v:c.Chk A) (z:JSrc aB w pl bl B l) (E:l.length=N) (K:N<=30000) (C:dB l) (F:CSrcD w i h bd t G u c.ds c.fs) :
  Calls Tryz.prog 65 #[.slice pl N D,.int .i64 cur,.agg #[.int .i64 c.base,.int .i64 c.kind,.slice i c.ds.length m,.slice h c.fs.length o]] w fun e r=>e=.returned (.int .i64 (if g=0 then (if 1<=cur/\cur<=8 then A else 140) else g))/\Below w.heap.size w r:=by
 have HK:=hideS (gq w c.base c.kind (.slice i c.ds.length m) (.slice h c.fs.length o));have d:=hideS fun b (q:Below w.heap.size w b)=>rZ l pl bl B D N g s b (z.below q) E (by omega) C x
 have n:=hideS fun b=>mC cur b
 have y:=hideS fun b (q:Below w.heap.size w b)=>dC c.base c.kind i h bd t m G u o c.ds c.fs b (F.below q) v
 clear z E C F x v;generalize Value.slice i c.ds.length m=O at *
 generalize Value.slice h c.fs.length o=Q at *
 by_cases j:g=0
 ·rw [if_pos j];subst j
  by_cases f:1<=cur/\cur<=8
  ·rw [if_pos f];rw [decide_eq_true f] at n
   clear f
   go_enter Tryz.func65,Tryz.ntmps65
   go_wp2_with fail
   refine (d.out _ HK.out.bl).mono ?_
   rintro e H ⟨rfl,a⟩;have HK2:=hideS (HK.out.step a);clear a HK d;have J:=HK2.out.t0;have M:=HK2.out.t1;have L:=HK2.out.t2;have I:=HK2.out.t3
   go_wp2_with (go_at_call 106;refine (n.out _).mono ?_;rintro e r ⟨rfl,rfl⟩)
   clear J M L I;refine (y.out _ HK2.out.bl).mono ?_
   rintro e R ⟨rfl,k⟩;have p:=hideS (HK2.out.step k).bl;clear k HK2 y
   go_wp2_with fail
   go_ret
   exact⟨rfl,p.out⟩
  ·rw [if_neg f];rw [decide_eq_false f] at n
   clear f
   go_enter Tryz.func65,Tryz.ntmps65
   go_wp2_with fail
   refine (d.out _ HK.out.bl).mono ?_
   rintro e H ⟨rfl,a⟩;have HK2:=hideS (HK.out.step a);clear a HK d
   go_wp2_with (go_at_call 106;refine (n.out _).mono ?_;rintro e r ⟨rfl,rfl⟩)
   go_ret
   exact⟨rfl,HK2.out.bl⟩
 ·rw [if_neg j];have P:(g !=0)=true:=bne_iff_ne.2 j;clear j
  go_enter Tryz.func65,Tryz.ntmps65
  go_wp2_with fail
  refine (d.out _ HK.out.bl).mono ?_
  rintro e H ⟨rfl,a⟩;have HK2:=hideS (HK.out.step a);clear a HK d
  go_wp2_with fail
  go_ret
  exact⟨rfl,HK2.out.bl⟩
structure DO (w wr:World) (bs kd:Int) (vd vf:Value) (a:A.St) (k:Nat):Prop where
 c:wr.heap[w.heap.size]? =some (.cells #[.int .i64 bs,.int .i64 kd,vd,vf] 39)
 r:wr.heap[w.heap.size+1]? =some (.cells #[.int .i64 0,.bool false,.slice none 0 0,.int .i64 0] 85)
 h:Held w wr (w.heap.size+2) a k
theorem CT {w wr d:World} {B k:Nat} {a:A.St} (h:Held w wr B a k) (b:Below wr.heap.size wr d):Held w d B a k:=by
 obtain⟨⟨neg,v,M,e,j,i,l,g⟩,c,m,f⟩:=h;exact⟨⟨neg,v,M,e,(b.block B f).trans j,i.below b,l,g⟩,c.trans (b.mono c.size),m,Nat.lt_of_lt_of_le f b.size⟩
theorem GX {w wr:World} {B k b:Nat} {a:A.St} (h:Held w wr B a k) (i:k<=b):Held w wr B a b:=by
 obtain⟨⟨neg,v,M,e,f,d,g,c⟩,l,j,m⟩:=h;exact⟨⟨neg,v,M,e,f,d,g,c.mono i⟩,l,j,m⟩
theorem DO.below {w wr g:World} {f e:Int} {d i:Value} {a:A.St} {k:Nat} (h:DO w wr f e d i a k) (b:Below wr.heap.size wr g):DO w g f e d i a k:=
 ⟨(b.block _ (Array.getElem?_eq_some_iff.1 h.c).1).trans h.c,(b.block _ (Array.getElem?_eq_some_iff.1 h.r).1).trans h.r,CT h.h b⟩
theorem DO.drewN {w wr:World} {d c:Int} {b e:Value} {a:A.St} {k:Nat} (h:DO w wr d c b e a k) (n:Nat):DO w (wr.drewN n) d c b e a k:=
 h.below (NE (Below.refl _ _) n)
theorem DO.mono {w wr:World} {f e:Int} {b g:Value} {a:A.St} {k d:Nat} (h:DO w wr f e b g a k) (i:k<=d):DO w wr f e b g a d:=⟨h.c,h.r,GX h.h i⟩
theorem DO.t {w wr:World} {f e:Int} {d g:Value} {a:A.St} {k:Nat} (h:DO w wr f e d g a k):wr.cell? ⟨w.heap.size,0,none⟩=some (.int .i64 f)/\wr.cell? ⟨w.heap.size,1,none⟩=some (.int .i64 e)/\wr.cell? ⟨w.heap.size,2,none⟩=some d/\wr.cell? ⟨w.heap.size,3,none⟩=some g:=by
 have b:=h.c;exact⟨by simp [World.cell?,b],by simp [World.cell?,b],by simp [World.cell?,b],by simp [World.cell?,b]⟩
theorem Rj (w:World) (c b:Int) (a d:Value):DO w (((w.alloc (.cells #[.int .i64 c,.int .i64 b,a,d] 39)).alloc (.cells #[.int .i64 0,.bool false,.slice none 0 0,.int .i64 0] 85)).alloc (.cells #[.int .i64 0,.bool false,.slice none 0 0,.int .i64 0] 85)) c b a d ⟨0,0⟩ 0:=by
 have g:(w.alloc (.cells #[.int .i64 c,.int .i64 b,a,d] 39)).heap.size=w.heap.size+1:=by simp
 have e:((w.alloc (.cells #[.int .i64 c,.int .i64 b,a,d] 39)).alloc (.cells #[.int .i64 0,.bool false,.slice none 0 0,.int .i64 0] 85)).heap.size=w.heap.size+2:=by simp
 have i:=(Below.refl _ w).alloc (Nat.le_refl _) (.cells #[.int .i64 c,.int .i64 b,a,d] 39);have h:=(Below.refl _ (w.alloc (.cells #[.int .i64 c,.int .i64 b,a,d] 39))).alloc (Nat.le_refl _) (.cells #[.int .i64 0,.bool false,.slice none 0 0,.int .i64 0] 85);have f:=(Below.refl _ ((w.alloc (.cells #[.int .i64 c,.int .i64 b,a,d] 39)).alloc (.cells #[.int .i64 0,.bool false,.slice none 0 0,.int .i64 0] 85))).alloc (Nat.le_refl _) (.cells #[.int .i64 0,.bool false,.slice none 0 0,.int .i64 0] 85);refine⟨?_,?_,⟨⟨false,.slice none 0 0,0,0,?_,Or.inl ⟨rfl,_,_,rfl⟩,gI _,DV.zero (by decide) 0⟩,?_,by omega,by simp⟩⟩
 ·rw [f.block _ (by rw [e];omega),h.block _ (by rw [g];omega)];exact heap_alloc_new _ _
 ·rw [f.block _ (by rw [e];omega),<- g];exact heap_alloc_new _ _
 ·rw [<- e];exact heap_alloc_new _ _
 ·exact i.trans ((h.mono (by rw [g];omega)).trans (f.mono (by rw [e];omega)))
theorem DO.put {w wr w1:World} {n j:Int} {i m:Value} {a0 a:A.St} {z k M:Nat} {s:Int} {neg:Bool} {v:Value} {e:Int} {r:Ending} (h:DO w wr n j i m a0 z) (x:wr.heap[w.heap.size+2]? =some (.cells #[.int .i64 s,.bool neg,v,.int .i64 e] 85 (0,0))) (q:From (w.heap.size+2+1) v) (o:cw wr v M a k r w1) :
  ∃ b p l c f,r=.returned (AV (a.s:Int) b (.slice p l c) f)/\Held4 w1 (w.heap.size+2) s neg v e/\DO w (put4 w1 (w.heap.size+2) (a.s:Int) b (.slice p l c) f) n j i m a k:=by
 have d:Below wr.heap.size wr w1:=by
  obtain⟨_,_,_,_,_,_,_,_,d⟩:=o;exact d
 obtain⟨b,p,l,c,f,u,t,y⟩:=xZ x q h.h.bl h.h.lo h.h.lt o;have B:=h.h.lt;have g:Below (w.heap.size+2) wr (put4 w1 (w.heap.size+2) (a.s:Int) b (.slice p l c) f):=bX (d.mono (by omega)) (Nat.le_refl _)
 exact⟨b,p,l,c,f,u,t,⟨(g.block _ (by omega)).trans h.c,(g.block _ (by omega)).trans h.r,y⟩⟩
end Go.Proofs.YtfdddijdjpijbaaGreat
