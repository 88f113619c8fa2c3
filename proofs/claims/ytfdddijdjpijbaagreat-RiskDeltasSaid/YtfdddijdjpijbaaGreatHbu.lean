/-  -/
import Derived.Test.YtfdddijdjpijbaaGreatHbt
import Derived.Test.YtfdddijdjpijbaaGreatHat
import Derived.Test.YtfdddijdjpijbaaGreatHba
import Derived.Test.YtfdddijdjpijbaaGreatHbr
import Derived.Test.YtfdddijdjpijbaaGreatHbq
import Derived.Deep.QuietTactic
import Derived.Test.YtfdddijdjpijbaaGreatHbn
import Derived.Test.YtfdddijdjpijbaaGreatHbe
import Derived.Test.YtfdddijdjpijbaaGreatHbk
set_option maxHeartbeats 12800000
set_option maxRecDepth 40000
namespace Go.Proofs.YtfdddijdjpijbaaGreat
open Go.RowKit
theorem ov (a b r:Nat) (w:World) (l:a<18446744073709551616) (i:b<18446744073709551616) (k:floatBits .sub .f64 a b=some r) (j:r<18446744073709551616) :
  Calls Tryz.prog 27 #[.int .u64 (a:Int),.int .u64 (b:Int)] w fun e m=>e=.returned (.tuple #[.int .u64 (tldV r:Nat),.int .i64 (fU r)])/\Below w.heap.size w m:=by
 have h:=hideS fun f=>dR a b _ _ f rfl rfl (af l) (af i)
 rw [k,ao] at h
 have g:=hideS fun f=>bK (r:Int) f (af j)
 unfold tldV fU;clear l i k j;generalize aE (r:Int)=n at *
 go_enter Tryz.func27,Tryz.ntmps27
 go_wp2_with fail
 refine (h.out _).mono ?_
 rintro e p ⟨rfl,d⟩;have c:=hideS d;clear d
 go_wp2_with fail
 refine (turned (g.out _)).mono ?_
 rintro e o ⟨rfl,rfl⟩;cases n
 ·go_wp2_with fail
  go_ret2
  exact⟨rfl,c.out⟩
 ·go_wp2_with fail
  go_ret2
  exact⟨rfl,c.out⟩
def Oo (w:World) (pl:Option Addr) (N c:Nat) (cur base kind:Int) (d f:Value) (V:Nat) (E:Int):Prop:=∀ a,Below w.heap.size w a->Calls Tryz.prog 26 #[.slice pl N c,.int .i64 cur,.agg #[.int .i64 base,.int .i64 kind,d,f]] a fun e b=>e=.returned (.tuple #[.int .u64 (V:Int),.int .i64 E])/\Below a.heap.size a b
theorem rW (w:World) (base kind:Int) (a b:Value):DxK (w.alloc (.cells #[.int .i64 base,.int .i64 kind,a,b] 39)) w.heap.size base kind a b:=⟨heap_alloc_new _ _⟩
def Ru (b:Bool) (V:Nat):Nat:=if b=true then V else 0
def Rv (b:Bool):Int:=if b=true then 0 else 91
theorem mA (pl:Option Addr) (N l:Nat) (cur base kind E h:Int) (b c:Value) (V:Nat) (w:World) (j:E≠0) (n:Hid (Oo w pl N l cur base kind b c V E)) :
  Calls Tryz.prog 24 #[.slice pl N l,.int .i64 cur,.agg #[.int .i64 base,.int .i64 kind,b,c],.int .u64 h] w fun e m=>e=.returned (.tuple #[.int .u64 0,.int .i64 E])/\Below w.heap.size w m:=by
 have o:(E !=0)=true:=bne_iff_ne.2 j;have i:=hideS (rW w base kind b c);have d:Hid (Below w.heap.size w (w.alloc (.cells #[.int .i64 base,.int .i64 kind,b,c] 39))):=(Below.refl _ _).alloc (Nat.le_refl _) _;clear j;obtain⟨k,g⟩:∃ k,w.alloc (.cells #[.int .i64 base,.int .i64 kind,b,c] 39)=k:=⟨_,rfl⟩;rw [g] at i d
 obtain⟨r,p,s,u⟩:=i.out.t
 go_enter Tryz.func24,Tryz.ntmps24
 go_wp2_with fail
 refine (n.out _ d.out).mono ?_
 rintro e q ⟨rfl,a⟩;have f:=hideS (d.out.trans (a.mono d.out.size));clear a
 go_wp2_with fail
 go_ret2
 exact⟨rfl,f.out⟩
theorem ow (pl:Option Addr) (N l:Nat) (cur base kind:Int) (h:Nat) (b d:Value) (V:Nat) (w:World) (m:h<18446744073709551616) (q:Hid (Oo w pl N l cur base kind b d V 0)) :
  Calls Tryz.prog 24 #[.slice pl N l,.int .i64 cur,.agg #[.int .i64 base,.int .i64 kind,b,d],.int .u64 (h:Int)] w fun e n=>e=.returned (.tuple #[.int .u64 (Ru (aE (h:Int)) V:Nat),.int .i64 (Rv (aE (h:Int)))])/\Below w.heap.size w n:=by
 have j:=hideS (rW w base kind b d);have f:Hid (Below w.heap.size w (w.alloc (.cells #[.int .i64 base,.int .i64 kind,b,d] 39))):=(Below.refl _ _).alloc (Nat.le_refl _) _;have g:=hideS fun o=>bK (h:Int) o (af m)
 clear m;obtain⟨k,i⟩:∃ k,w.alloc (.cells #[.int .i64 base,.int .i64 kind,b,d] 39)=k:=⟨_,rfl⟩;rw [i] at j f
 obtain⟨u,r,v,x⟩:=j.out.t;generalize aE (h:Int)=p at *
 go_enter Tryz.func24,Tryz.ntmps24
 go_wp2_with fail
 refine (q.out _ f.out).mono ?_
 rintro e s ⟨rfl,a⟩;have c:=hideS (f.out.trans (a.mono f.out.size));clear a
 go_wp2_with fail
 refine (turned (g.out _)).mono ?_
 rintro e y ⟨rfl,rfl⟩;cases p
 ·go_wp2_with fail
  go_ret2
  exact⟨rfl,c.out⟩
 ·go_wp2_with fail
  go_ret2
  exact⟨rfl,c.out⟩
open Classical in
noncomputable def paE (c:Cv) (h:Nat):Int:=if ∀ k<c.ds.length,bmB c k h=true then 0 else 91
theorem CN {c:Cv} {h:Nat} (e:c.Ok):∃ d,ParR c h d (paE c h)/\(paE c h=0->d=c.para h/\∀ k<c.ds.length,bmB c k h=true):=by
 unfold paE
 by_cases b:∀ k<c.ds.length,bmB c k h=true
 ·rw [if_pos b];exact⟨_,.ok e b,fun _=>⟨rfl,b⟩⟩
 ·rw [if_neg b];obtain⟨K,l,f,i⟩:=jw (p:=fun k=>!bmB c k h) c.ds.length
  have a:K<c.ds.length:=Classical.byContradiction fun n=>b fun k m=>by have:=f k (by omega);simpa using this
  exact⟨_,.val e K a (by have:=i a;simpa using this) (fun j g=>by have:=f j g;simpa using this),fun h=>absurd h (by decide)⟩
theorem Qs {l:List Flw} {cur:Int} {d d':Cv} {E:Int} (h:E=0->d=d'):rU l cur d E=rU l cur d' E/\nD l cur d E=nD l cur d' E:=by
 unfold rU nD
 by_cases e:E=0
 ·rw [h e];exact⟨rfl,rfl⟩
 ·rw [if_neg e,if_neg e,if_neg e,if_neg e];exact⟨rfl,rfl⟩
noncomputable def deV (l:List Flw) (cur:Int) (c:Cv) (h:Nat):Nat:=oJ l cur (c.para h) (prV l cur c) (paE c h)
noncomputable def deE (l:List Flw) (cur:Int) (c:Cv) (h:Nat):Int:=oK l cur (c.para h) (prV l cur c) (paE c h)
noncomputable def upV (l:List Flw) (cur:Int) (c:Cv) (h:Nat):Nat:=rU l cur (c.para h) (paE c h)
noncomputable def upE (l:List Flw) (cur:Int) (c:Cv) (h:Nat):Int:=nD l cur (c.para h) (paE c h)
theorem uF (h:Nat) (w:World) :
  Calls Tryz.prog 30 #[.float .f64 h] w fun e c=>e=.returned (.func (.func 46) #[] #[.pointer (some ⟨w.heap.size,0,none⟩)])/\c.cell? ⟨w.heap.size,0,none⟩=some (.float .f64 h)/\w.heap.size<c.heap.size/\Below w.heap.size w c:=
 (CJ h w).mono fun e c ⟨a,b⟩=>by
  subst b;exact⟨a,cT w _ _ 0,by simp,(Below.refl _ _).alloc (Nat.le_refl _) _⟩
theorem Ed (c d:Cv) (h b:Nat) (E:Int) (f g:Option Addr) (bd m l i j k:Nat) (w:World) (n:ParR c h d E) (t:h<18446744073709551616) (hc:w.cell? ⟨b,0,none⟩=some (.float .f64 h)) (a:b<w.heap.size) (s:TFl w f g bd m i j c.ds c.fs) :
  BmC 46 #[.pointer (some ⟨b,0,none⟩)] c.base c.kind (.slice f c.ds.length l) (.slice g c.fs.length k) w d E:=fun q e=>
 GQ c d h b E _ _ q ((e.cell (p:=⟨b,0,none⟩) a).trans hc) (Nat.lt_of_lt_of_le a e.size) (fun r o=>uC c d h E f g bd m l i j k r n t (s.below (e.trans (o.mono e.size))))
theorem CO (cur base kind E:Int) (h:Nat) (q g j:Value) (w:World) (o:E≠0) (p:Hid (∀ i,Below w.heap.size w i->Calls Tryz.prog 20 #[q,.int .i64 cur,.agg #[.int .i64 base,.int .i64 kind,g,j]] i fun e m=>e=.returned (.tuple #[.agg #[.slice none 0 0,.int .i64 0,.int .i64 0,.int .i64 0,.slice none 0 0,.slice none 0 0,.float .f64 0],.int .i64 E])/\Below i.heap.size i m)) :
  Calls Tryz.prog 13 #[q,.int .i64 cur,.agg #[.int .i64 base,.int .i64 kind,g,j],.float .f64 h] w fun e m=>e=.returned (.tuple #[.float .f64 0,.int .i64 E])/\Below w.heap.size w m:=by
 have H:(E !=0)=true:=bne_iff_ne.2 o;have a:=hideS (bu w base kind g j);obtain⟨n,d⟩:∃ n,w.alloc (.cells #[.int .i64 base,.int .i64 kind,g,j] 26)=n:=⟨_,rfl⟩;rw [d] at a
 have z:=a.out.t0;have v:=a.out.t1;have B:=a.out.t2;have C:=a.out.t3;clear o
 go_enter Tryz.func13,Tryz.ntmps13
 go_wp2_with fail
 clear d z v B C;refine (p.out _ a.out.bl).mono ?_
 rintro e k ⟨rfl,c⟩;have b:=hideS (a.out.step c);clear c p a;obtain⟨V,Z,u3,u4,N,K,u,⟨x,D,A⟩,⟨S,O,y1⟩,⟨W,P,X⟩,⟨Y,L,G⟩,⟨M,F,Q⟩,⟨T,z5,J⟩,⟨R,I,U⟩,y,s⟩:=gv k.heap.size (.slice none 0 0) 0 0 0 (.slice none 0 0) (.slice none 0 0) 0 (k.alloc aR) (heap_alloc_new _ _);have l:Hid (Below w.heap.size w u):=(b.out.bl.alloc b.out.bl.size aR).trans (s.mono b.out.bl.size);obtain⟨r,f⟩:∃ r,k.alloc aR=r:=⟨_,rfl⟩;rw [f] at x D A
 unfold aR at f
 have t:=bJ;clear y s
 go_wp2_with fail
 go_ret2
 exact⟨rfl,l.out⟩
theorem CP (cur base kind E:Int) (h:Nat) (q g j:Value) (w:World) (o:E≠0) (p:Hid (∀ i,Below w.heap.size w i->Calls Tryz.prog 20 #[q,.int .i64 cur,.agg #[.int .i64 base,.int .i64 kind,g,j]] i fun e m=>e=.returned (.tuple #[.agg #[.slice none 0 0,.int .i64 0,.int .i64 0,.int .i64 0,.slice none 0 0,.slice none 0 0,.float .f64 0],.int .i64 E])/\Below i.heap.size i m)) :
  Calls Tryz.prog 15 #[q,.int .i64 cur,.agg #[.int .i64 base,.int .i64 kind,g,j],.float .f64 h] w fun e m=>e=.returned (.tuple #[.float .f64 0,.int .i64 E])/\Below w.heap.size w m:=by
 have H:(E !=0)=true:=bne_iff_ne.2 o;have a:=hideS (bu w base kind g j);obtain⟨n,d⟩:∃ n,w.alloc (.cells #[.int .i64 base,.int .i64 kind,g,j] 26)=n:=⟨_,rfl⟩;rw [d] at a
 have z:=a.out.t0;have v:=a.out.t1;have B:=a.out.t2;have C:=a.out.t3;clear o
 go_enter Tryz.func15,Tryz.ntmps15
 go_wp2_with fail
 clear d z v B C;refine (p.out _ a.out.bl).mono ?_
 rintro e k ⟨rfl,c⟩;have b:=hideS (a.out.step c);clear c p a;obtain⟨V,Z,u3,u4,N,K,u,⟨x,D,A⟩,⟨S,O,y1⟩,⟨W,P,X⟩,⟨Y,L,G⟩,⟨M,F,Q⟩,⟨T,z5,J⟩,⟨R,I,U⟩,y,s⟩:=gv k.heap.size (.slice none 0 0) 0 0 0 (.slice none 0 0) (.slice none 0 0) 0 (k.alloc aR) (heap_alloc_new _ _);have l:Hid (Below w.heap.size w u):=(b.out.bl.alloc b.out.bl.size aR).trans (s.mono b.out.bl.size);obtain⟨r,f⟩:∃ r,k.alloc aR=r:=⟨_,rfl⟩;rw [f] at x D A
 unfold aR at f
 have t:=bJ;clear y s
 go_wp2_with fail
 go_ret2
 exact⟨rfl,l.out⟩
theorem GR (cur base kind:Int) (h n V0:Nat) (X:Nat) (M:Int) (pl:Option Addr) (q N:Nat) (k l:Option Addr) (j i m:Nat) (w:World)
  (T:Hid (∀ b,Below w.heap.size w b->Calls Tryz.prog 20 #[.slice pl N q,.int .i64 cur,.agg #[.int .i64 base,.int .i64 kind,.slice k n j,.slice l m i]] b fun e s=>e=.returned (.tuple #[.agg #[.slice pl N q,.int .i64 cur,.int .i64 base,.int .i64 kind,.slice k n j,.slice l m i,.float .f64 V0],.int .i64 0])/\Below b.heap.size b s))
  (HG:Hid (∀ b J,Below w.heap.size w b->b.cell? ⟨J,0,none⟩=some (.float .f64 h)->J<b.heap.size->Calls Tryz.prog 29 #[.agg #[.slice pl N q,.int .i64 cur,.int .i64 base,.int .i64 kind,.slice k n j,.slice l m i,.float .f64 V0],.func (.func 46) #[] #[.pointer (some ⟨J,0,none⟩)]] b fun e s=>e=.returned (.tuple #[.float .f64 X,.int .i64 M])/\Below b.heap.size b s)) :
  Calls Tryz.prog 13 #[.slice pl N q,.int .i64 cur,.agg #[.int .i64 base,.int .i64 kind,.slice k n j,.slice l m i],.float .f64 h] w fun e s=>e=.returned (.tuple #[.float .f64 X,.int .i64 M])/\Below w.heap.size w s:=by
 have f:=hideS (bu w base kind (.slice k n j) (.slice l m i));obtain⟨S,u⟩:∃ S,w.alloc (.cells #[.int .i64 base,.int .i64 kind,.slice k n j,.slice l m i] 26)=S:=⟨_,rfl⟩;rw [u] at f
 have t0:=f.out.t0;have t1:=f.out.t1;have t2:=f.out.t2;have t3:=f.out.t3
 go_enter Tryz.func13,Tryz.ntmps13
 go_wp2_with fail
 clear u t0 t1 t2 t3;refine (T.out _ f.out.bl).mono ?_
 rintro e A ⟨rfl,z⟩;have p:=hideS (f.out.step z);clear z T f;obtain⟨u1,u2,u3,u4,u5,u6,C,⟨O,L,U⟩,⟨e1,W,y1⟩,⟨e2,Y,y2⟩,⟨e3,z3,y3⟩,⟨e4,z4,Z⟩,⟨e5,z5,y5⟩,⟨e6,V,y6⟩,P,R⟩:=gv A.heap.size (.slice pl N q) cur base kind (.slice k n j) (.slice l m i) V0 (A.alloc aR) (heap_alloc_new _ _);have I:=hideS P;have d:Hid (Below w.heap.size w C):=p.out.bl.trans ((((Below.refl _ A).alloc (Nat.le_refl _) aR).trans R).mono p.out.bl.size);have H:=hideS (uF h);obtain⟨Q,o⟩:∃ Q,A.alloc aR=Q:=⟨_,rfl⟩;rw [o] at O L U
 unfold aR at o
 have E:=bJ;clear P R p
 go_wp2_with fail
 clear o O L U e1 W y1 e2 Y y2 e3 z3 y3 e4 z4 Z e5 z5 y5 e6 V y6 E;obtain⟨s0,s1,s2,s3,s4,s5,s6⟩:=I.out.t;generalize A.heap.size=g at *
 go_region_held3 (fun x=>x.cell? ⟨g,0,none⟩=some (.slice pl N q)/\x.cell? ⟨g,1,none⟩=some (.int .i64 cur)/\x.cell? ⟨g,2,none⟩=some (.int .i64 base)/\x.cell? ⟨g,3,none⟩=some (.int .i64 kind)/\x.cell? ⟨g,4,none⟩=some (.slice k n j)/\x.cell? ⟨g,5,none⟩=some (.slice l m i)/\x.cell? ⟨g,6,none⟩=some (.float .f64 V0)) (first | go_keep | exact G.out.t | exact D.out.t) (first | (go_at_call 30;refine (H.out _).mono ?_;rintro e K ⟨rfl,y,v,a⟩;have c:Hid (Below C.heap.size C K):=⟨a.os,a.tape,a.output,a.size,a.block⟩;have D:=hideS (I.out.step c.out);have F:=hideS (HG.out K C.heap.size (d.out.trans (c.out.mono d.out.size)) y v);clear a y v) | (go_at_call 29;refine F.out.mono ?_;rintro e w6 ⟨rfl,B⟩;have r:=hideS (c.out.trans (B.mono c.out.size));have G:=hideS (I.out.step r.out);clear B))
 all_goals
  go_wp2_with fail
  go_ret2
  exact⟨rfl,d.out.trans (r.out.mono d.out.size)⟩
theorem uG (l:List Flw) (cur:Int) (c:Cv) (h:Nat) (pl:Option Addr) (bl t p N:Nat) (f g:Option Addr) (bd s o q r m:Nat) (w:World) (J:h<18446744073709551616) (A:JSrc aF w pl bl t l) (x:l.length=N) (i:N<=30000) (v:dB l) (y:TFl w f g bd s q r c.ds c.fs) :
  Calls Tryz.prog 13 #[.slice pl N p,.int .i64 cur,.agg #[.int .i64 c.base,.int .i64 c.kind,.slice f c.ds.length o,.slice g c.fs.length m],.float .f64 h] w fun e z=>((prE l cur c≠0/\e=.returned (.tuple #[.float .f64 0,.int .i64 (prE l cur c)]))\/(prE l cur c=0/\e=.returned (.tuple #[.float .f64 (deV l cur c h),.int .i64 (deE l cur c h)])))/\Below w.heap.size w z:=by
 by_cases j:prE l cur c=0
 ·have B:=prR l cur c;rw [j] at B
  have E:=(cL j).1.ok;obtain⟨d,D,H⟩:=CN (h:=h) E;refine (GR cur c.base c.kind h c.ds.length (prV l cur c) (deV l cur c h) (deE l cur c h) pl p N f g o m c.fs.length w (fun n k=>rT l cur c pl bl t p N f g bd s o q r m n _ B (A.below k) x i v (y.below k)) (fun n k C G u=>?_)).mono ?_
  ·have:=ou 46 _ l d (paE c h) cur c.base c.kind pl bl t p N (.slice f c.ds.length o) (.slice g c.fs.length m) (prV l cur c) n (cL j).2.2.1 rV (Ed c d h k (paE c h) f g bd s o q r m n D J G u (y.below C)) (A.below C) x i v;obtain⟨F,I⟩:=LK (l:=l) (cur:=cur) (V0:=prV l cur c) (fun e=>(H e).1)
   rw [F,I] at this
   exact this
  ·rintro e z ⟨a,b⟩;exact⟨Or.inr ⟨j,a⟩,b⟩
 ·refine (CO cur c.base c.kind (prE l cur c) h _ _ _ w j (fun n k=>nC l cur c pl bl t p N f g bd s o q r m n _ _ (prR l cur c) j (A.below k) x i v (y.below k))).mono ?_
  rintro e z ⟨a,b⟩;exact⟨Or.inl ⟨j,a⟩,b⟩
theorem Ou {l:List Flw} {cur:Int} {c d:Cv} (a:prE l cur c=0) (h:prV l cur d=prV l cur c/\prE l cur d=prE l cur c):chV l cur d (prV l cur c)=0/\chE l cur d (prV l cur c)=0:=by
 obtain⟨_,_,b,_⟩:=cL a;have e:chO l cur d (prV l cur c)=0:=by unfold chO;rw [h.1,sub_self (bt b)];rfl
 unfold chV chE;rw [h.2,a,if_pos rfl,if_pos rfl,e];exact⟨by decide,by decide⟩
theorem LN (a:World) {base d:Int} (b:ag (rkT base d)):rkX base d 0=4607182418800017408:=by
 have e:opO .mul (some 0) (some (rkT base d))=some (wrd (sB 0^^sB (rkT base d)) 0):=by
  show floatBits .mul .f64 0 (rkT base d)=_
  rw [gg (by unfold ag;decide) b,show aV 0=0 by decide+kernel,Nat.zero_mul];rfl
 unfold rkX;rw [e,Ot a];rfl
theorem LO {f:Nat} (hn:ag f) (h:f<18446744073709551616) (g:0<ae (f:Nat)):floatBits .mul .f64 f 4607182418800017408=some f:=by
 obtain⟨a,l⟩:=rK hn h g;have d:f<9223372036854775808:=by
  unfold sB at a
  simp at a
  omega
 have c:f<9218868437227405312:=by unfold ag at hn;omega
 rw [gg hn (by unfold ag;decide),a,show sB 4607182418800017408=false by decide]
 obtain⟨K,b⟩:∃ K:Nat,K=1074:=⟨_,rfl⟩;have k:aV 4607182418800017408=2^K:=by subst b;decide+kernel
 have i:aV f=V f:=by unfold aV;rw [Nat.mod_eq_of_lt d]
 have j:V f≠0:=by
  intro e;have:=jT c 0;rw [e,Nat.zero_mul,ip (by decide)] at this
  omega
 unfold mulR;rw [k,i,if_neg (by have:=Nat.two_pow_pos K;exact Nat.mul_ne_zero j (by omega))]
 have:=jT c K;rw [show (-1074 - (K:Int))= -2148 by rw [b];decide] at this
 rw [this];rfl
theorem pk (d:World) {c:Cv} {k:Nat} (a:c.Ok) (j:c.Fit) (b:k<c.ds.length):c.bm k 0=c.fs.getD k 0/\bmB c k 0=true:=by
 obtain⟨f,m⟩:=a.day b;have l:=a.b0;obtain⟨h,n⟩:=ph f (by omega)
 obtain⟨g,i⟩:=a.fac b;have e:c.bm k 0=c.fs.getD k 0:=by
  unfold Cv.bm rkF;rw [LN d h,LO g (j k (by rw [a.len];exact b)) i];rfl
 refine⟨e,?_⟩
 unfold bmB;rw [e,a.rkB b];decide
theorem Ao {l:List Nat} {k:Nat} (a:k<l.length):l.set k (l.getD k 0)=l:=by
 apply List.ext_getElem?;intro j;rw [List.getElem?_set]
 by_cases e:k=j
 ·subst e;rw [if_pos rfl,if_pos a,List.getD_eq_getElem?_getD,List.getElem?_eq_getElem a];rfl
 ·rw [if_neg e]
theorem GS (d:World) {c:Cv} {k:Nat} (b:c.Ok) (e:c.Fit) (a:k<c.ds.length):c.bump k 0=c:=by
 unfold Cv.bump;rw [(pk d b e a).1,Ao (by rw [b.len];exact a)]
theorem uH (b:World) {c:Cv} (a:c.Ok) (d:c.Fit):∀ k≤c.ds.length,c.parL 0 k=c.fs
 | 0,_=>rfl
 | k+1,hk=>by
  rw [Cv.parL,uH b a d k (by omega),(pk b a d (k:=k) (by omega)).1,Ao (by rw [a.len];omega)]
theorem GT (a:World) {c:Cv} (b:c.Ok) (d:c.Fit):c.para 0=c:=by
 unfold Cv.para;rw [uH a b d _ (Nat.le_refl _)]
def Ap (u v:Int):Int:=az u*az v*((2^(aP u+aP v+2148).toNat:Nat):Int)
theorem LP (u v:Int):(A.fR u v).N=Ap u v:=by unfold A.fR Ap;rw [Int.natCast_pow];rfl
theorem rX (base kind:Int) (pl c d:Option Addr) (N m D i F f:Nat) (w:World) :
  Calls Tryz.prog 5 #[.slice pl N m,.agg #[.int .i64 base,.int .i64 kind,.slice c D i,.slice d F f]] w fun e l=>e=.returned (.bool (decide (N<=20/\D<=8/\F<=8)))/\Below w.heap.size w l:=by
 have b:=hideS (bu w base kind (.slice c D i) (.slice d F f));have n:=b.out.t2;have o:=b.out.t3
 by_cases k:N<=20<;>by_cases j:D<=8<;>by_cases a:F<=8
 all_goals
  first | rw [decide_eq_true (⟨k,j,a⟩:N<=20/\D<=8/\F<=8)] | rw [decide_eq_false (fun h:N<=20/\D<=8/\F<=8=>by omega)]
  have g:decide ((F:Int)<=8)=decide (F<=8):=decide_eq_decide.2 (by omega)
  first | rw [decide_eq_true a] at g | rw [decide_eq_false a] at g
  go_enter Tryz.func5,Tryz.ntmps5
  go_wp2_with fail
  go_ret
  exact⟨rfl,b.out.bl⟩
def rqD:List Int:=[365,730]
def rqF:List Nat:=[4602678819172646912,4598175219545276416]
def rqC:Cv:=⟨0,2,rqD,rqF⟩
def rqL:List Flw:=[⟨365,4607182418800017408,1⟩]
abbrev rqH:Nat:=4576918229304087675
theorem gD:rqC.Ok:=⟨by decide,by decide,by decide,by decide,by decide,by decide,rfl,fun i hi=>by
 have a:i<2:=hi;rcases (show i=0\/i=1 by omega) with rfl | rfl<;>decide+kernel⟩
theorem mB:rqC.Fit:=fun i hi=>by
 have a:i<2:=hi;rcases (show i=0\/i=1 by omega) with rfl | rfl<;>decide
theorem LQ (w:World):Calls Tryz.prog 81 #[.float .f64 4602418926338704640] w fun e a=>e=.returned (.float .f64 0)/\a=w:=lN _ 0 w (qK _ (by decide)) (by decide+kernel)
theorem LR (w:World):Calls Tryz.prog 81 #[.float .f64 4602159033504762368] w fun e a=>e=.returned (.float .f64 0)/\a=w:=lN _ 0 w (qK _ (by decide)) (by decide+kernel)
theorem Qu (w:World):Calls Tryz.prog 54 #[.float .f64 13800290266158863483] w fun e a=>e=.returned (.float .f64 4607092795669978366)/\Below w.heap.size w a:=by
 have:=lQ 13800290266158863483 13802842229321981950 4602418926338704640 0 0 0 13800290266158863483 13800290266158863483 4607092795669978366 0 w (by unfold U64;omega) (by decide) (by decide+kernel) (by decide+kernel) (by decide+kernel) (by decide+kernel) (by decide+kernel) (by decide+kernel) LQ (by decide+kernel) (by decide+kernel) (by decide+kernel) (by decide+kernel) (by show _=_;decide+kernel) (by show U64 _;unfold U64;omega) (by decide+kernel) (by omega) (by decide+kernel) (by decide+kernel)
 rw [show aI (az (4607092795669978366:Nat)) (aP (4607092795669978366:Nat)+0)=4607092795669978366 by decide+kernel] at this
 exact this
theorem Qv (w:World):Calls Tryz.prog 54 #[.float .f64 13804793865786233979] w fun e a=>e=.returned (.float .f64 4607004064304983131)/\Below w.heap.size w a:=by
 have:=lQ 13804793865786233979 13807345828949352446 4602159033504762368 0 0 0 13804793865786233979 13804793865786233979 4607004064304983131 0 w (by unfold U64;omega) (by decide) (by decide+kernel) (by decide+kernel) (by decide+kernel) (by decide+kernel) (by decide+kernel) (by decide+kernel) LR (by decide+kernel) (by decide+kernel) (by decide+kernel) (by decide+kernel) (by show _=_;decide+kernel) (by show U64 _;unfold U64;omega) (by decide+kernel) (by omega) (by decide+kernel) (by decide+kernel)
 rw [show aI (az (4607004064304983131:Nat)) (aP (4607004064304983131:Nat)+0)=4607004064304983131 by decide+kernel] at this
 exact this
theorem Rw (w:World):rkX 0 365 rqH=4607092795669978366:=by
 have e:opO .mul (some rqH) (some (rkT 0 365))=some 4576918229304087675:=by decide+kernel
 have b:lV 13800290266158863483=some 4607092795669978366:=pj (by decide) (by decide) w (Qu w)
 have a:flipN 4576918229304087675=13800290266158863483:=by decide+kernel
 unfold rkX;rw [e]
 show (lV (flipN 4576918229304087675)).getD 0=_
 rw [a,b];rfl
theorem Rx (w:World):rkX 0 730 rqH=4607004064304983131:=by
 have e:opO .mul (some rqH) (some (rkT 0 730))=some 4581421828931458171:=by decide+kernel
 have b:lV 13804793865786233979=some 4607004064304983131:=pj (by decide) (by decide) w (Qv w)
 have a:flipN 4581421828931458171=13804793865786233979:=by decide+kernel
 unfold rkX;rw [e]
 show (lV (flipN 4581421828931458171)).getD 0=_
 rw [a,b];rfl
theorem Qw (w:World):rqC.bm 0 rqH=4602589196042607870:=by
 show rkF 0 365 4602678819172646912 rqH=_
 unfold rkF;rw [Rw w];decide+kernel
theorem Ry (w:World):rqC.bm 1 rqH=4597996865050242139:=by
 show rkF 0 730 4598175219545276416 rqH=_
 unfold rkF;rw [Rx w];decide+kernel
theorem Ov (w:World):∀ k<rqC.ds.length,bmB rqC k rqH=true:=fun k a=>by
 have b:k<2:=a;unfold bmB;rcases (show k=0\/k=1 by omega) with rfl | rfl
 ·rw [Qw w];decide
 ·rw [Ry w];decide
theorem Ee {d:Cv} {u:Nat} (h:d.Ok) (q:d.base=0) (j:d.ds=rqD) (n:d.fs.getD 0 0=u) (g:valF (Ap 4607182418800017408 u+0)=u) (a:aE (u:Int)=true):prV rqL 1 d=u/\prE rqL 1 d=0:=by
 have e:=Gd h (i:=0) (by rw [j];decide)
 have c:d.ds.getD 0 0=365:=by rw [j];rfl
 rw [c] at e
 have m:d.V 365=u:=e.1.trans n;have o:d.E 365=0:=e.2;have hF:FineP rqL 1 d:=⟨by decide,by decide,by decide,h,fun f a _=>by
  simp only [rqL,List.mem_cons,List.not_mem_nil,or_false] at a
  subst a;exact o⟩
 have k:wsI 1 d rqL=Ap 4607182418800017408 u+0:=by
  have p:ctI 1 d ⟨365,4607182418800017408,1⟩=Ap 4607182418800017408 u:=by
   unfold ctI tkB;rw [q,if_pos (by decide)];unfold prI;dsimp only;rw [m,LP];rfl
  simp only [wsI,rqL];rw [p]
 have b:=PreR.ok hF;have l:zH rqL 1 d=u:=by unfold zH;rw [k,g];unfold tldV;rw [if_pos a]
 have r:Cg rqL 1 d=0:=by unfold Cg;rw [k,g];unfold fU;rw [if_pos a]
 rw [l,r] at b
 exact Rf b
abbrev rqY:Nat:=13795757939330957440
theorem rqP:prV rqL 1 rqC=4602678819172646912/\prE rqL 1 rqC=0:=Ee gD rfl rfl rfl (by decide+kernel) (by decide)
theorem LS {d:Cv} (h:prV rqL 1 d=4602589196042607870/\prE rqL 1 d=0):oJ rqL 1 d (prV rqL 1 rqC) 0=rqY/\oK rqL 1 d (prV rqL 1 rqC) 0=0:=by
 have e:chO rqL 1 d (prV rqL 1 rqC)=rqY:=by unfold chO;rw [h.1,rqP.1];decide+kernel
 unfold oJ oK chV chE;rw [if_pos rfl,if_pos rfl,if_pos h.2,if_pos h.2,e];exact⟨by decide,by decide⟩
theorem CR (w:World):(rqC.bump 0 rqH).fs.getD 0 0=4602589196042607870/\(rqC.bump 1 rqH).fs.getD 0 0=4602678819172646912/\(rqC.para rqH).fs.getD 0 0=4602589196042607870:=by
 refine⟨?_,?_,?_⟩
 ·rw [mw (by decide),if_pos rfl,Qw w]
 ·rw [mw (by decide),if_neg (by decide)];rfl
 ·show (rqC.parL rqH 2).getD 0 0=_
  rw [mu rqC rqH 2 (by decide),if_pos (by decide),Qw w]
theorem Rg (w:World):lnV rqL 1 rqC rqH 0=rqY/\lnE rqL 1 rqC rqH 0=0/\lnV rqL 1 rqC rqH 1=0/\lnE rqL 1 rqC rqH 1=0:=by
 have e:=Ov w 0 (by decide)
 have f:=Ov w 1 (by decide)
 have h:bmE rqC 0 rqH=0:=by unfold bmE;rw [if_pos e]
 have i:bmE rqC 1 rqH=0:=by unfold bmE;rw [if_pos f]
 unfold lnV lnE;rw [h,i];obtain⟨a,b⟩:=LS (Ee (DZ gD (by decide) e) rfl rfl (CR w).1 (by decide+kernel) (by decide))
 have g:=Ee (DZ gD (by decide) f) rfl rfl (CR w).2.1 (by decide+kernel) (by decide)
 obtain⟨c,d⟩:=Ou rqP.2 (g.1.trans rqP.1.symm |> fun x=>⟨x,g.2.trans rqP.2.symm⟩)
 refine⟨a,b,?_,?_⟩
 ·unfold oJ;rw [if_pos rfl];exact c
 ·unfold oK;rw [if_pos rfl];exact d
theorem Rh (w:World):deV rqL 1 rqC rqH=rqY/\deE rqL 1 rqC rqH=0:=by
 have e:paE rqC rqH=0:=by unfold paE;rw [if_pos (Ov w)]
 unfold deV deE;rw [e];exact LS (Ee (Ol gD (Ov w)) rfl rfl (CR w).2.2 (by decide+kernel) (by decide))
theorem Ox (w:World):BmpR rqC 1 0 rqC 0:=by
 have:=BmpR.ok (c:=rqC) (h:=0) gD 1 (by decide) rfl (pk w gD mB (by decide)).2
 rw [GS w gD mB (by decide)] at this
 exact this
theorem Oy (w:World):ParR rqC 0 rqC 0:=by
 have:=ParR.ok (c:=rqC) (h:=0) gD (fun k a=>(pk w gD mB a).2)
 rw [GT w gD mB] at this
 exact this
def akX:Obj:=.cells #[.int .i64 365,.int .i64 730] 3
def akY:Obj:=.cells #[.float .f64 4602678819172646912,.float .f64 4598175219545276416] 27
def akO:Obj:=.cells #[.int .i64 365,.float .f64 4607182418800017408,.int .i64 1] 51
structure AkB (w wr:World):Prop where
 bx:BxK wr (w.heap.size+1+1) 0 2 (.slice (some ⟨w.heap.size,0,none⟩) 2 2) (.slice (some ⟨w.heap.size+1,0,none⟩) 2 2)
 src:TFl wr (some ⟨w.heap.size,0,none⟩) (some ⟨w.heap.size+1,0,none⟩) w.heap.size 0 (w.heap.size+1) 0 rqD rqF
 bl:Below w.heap.size w wr
theorem AkB.step {w wr b:World} (h:AkB w wr) (a:Below wr.heap.size wr b):AkB w b:=⟨h.bx.step a,h.src.below a,h.bl.trans (a.mono h.bl.size)⟩
theorem ak3 (w:World):(((w.alloc akX).alloc akY).alloc ar).heap[w.heap.size]? =some akX/\(((w.alloc akX).alloc akY).alloc ar).heap[w.heap.size+1]? =some akY/\(((w.alloc akX).alloc akY).alloc ar).heap[w.heap.size+1+1]? =some ar/\Below w.heap.size w (((w.alloc akX).alloc akY).alloc ar):=by
 have d:(w.alloc akX).heap.size=w.heap.size+1:=by simp
 have b:((w.alloc akX).alloc akY).heap.size=w.heap.size+1+1:=by simp
 have c:=(Below.refl (w.heap.size+1) (w.alloc akX)).alloc (by omega) akY
 have a:=(Below.refl (w.heap.size+1+1) ((w.alloc akX).alloc akY)).alloc (by omega) ar
 refine⟨?_,?_,?_,(((Below.refl _ _).alloc (Nat.le_refl _) _).alloc (by omega) _).alloc (by omega) _⟩
 ·rw [a.block _ (by omega),c.block _ (by omega)];exact heap_alloc_new _ _
 ·rw [a.block _ (by omega),<- d];exact heap_alloc_new _ _
 ·rw [<- b];exact heap_alloc_new _ _
theorem Qx {wr:World} {g d:Nat} (e:wr.heap[g]? =some akX) (c:wr.heap[d]? =some akY):TFl wr (some ⟨g,0,none⟩) (some ⟨d,0,none⟩) g 0 d 0 rqD rqF:=by
 unfold akX at e
 unfold akY at c
 refine⟨⟨fun _=>rfl,fun _=>(Array.getElem?_eq_some_iff.1 e).1,fun j a=>?_⟩,⟨fun _=>rfl,fun _=>(Array.getElem?_eq_some_iff.1 c).1,fun j a=>?_⟩,mB⟩
 ·have b:j<2:=a;rcases (show j=0\/j=1 by omega) with rfl | rfl
  all_goals
   simp only [World.cell?,e,Option.isSome_none,Bool.false_eq_true,if_false]
   rfl
 ·have b:j<2:=a;rcases (show j=0\/j=1 by omega) with rfl | rfl
  all_goals
   simp only [World.cell?,c,Option.isSome_none,Bool.false_eq_true,if_false]
   rfl
theorem Qy (w:World):JSrc aF (w.alloc akO) (some ⟨w.heap.size,0,none⟩) w.heap.size 0 rqL:=by
 have h:=heap_alloc_new w akO;refine⟨fun _=>rfl,fun _=>(Array.getElem?_eq_some_iff.1 h).1,fun i hi=>?_⟩
 have a:i<1:=hi;unfold akO at h
 obtain rfl:i=0:=by omega
 refine⟨?_,?_,?_⟩
 all_goals
  simp only [World.cell?,h,akO,Option.isSome_none,Bool.false_eq_true,if_false]
  rfl
theorem Ef:dB rqL:=fun i=>by
 rcases (show i=0\/1<=i by omega) with rfl | h
 ·decide
 ·rw [List.getD_eq_getElem?_getD,List.getElem?_eq_none (by exact h)];decide
theorem Eg (w:World):Calls Tryz.prog 6 #[] w fun e f=>e=.returned (.bool true)/\Below w.heap.size w f:=by
 obtain⟨I,L,D,P⟩:=ak3 w;obtain⟨w3,F⟩:∃ w3,((w.alloc akX).alloc akY).alloc ar=w3:=⟨_,rfl⟩;rw [F] at I L D P
 unfold akX akY ar at F
 obtain⟨u1,u2,u3,u4,⟨G,v,O⟩,⟨l,S,y1⟩,⟨e2,T,Z⟩,⟨e3,z3,y3⟩,r,m⟩:=bD (w.heap.size+1+1) 0 2 (.slice (some ⟨w.heap.size,0,none⟩) 2 2) (.slice (some ⟨w.heap.size+1,0,none⟩) 2 2) w3 D;have HA:Hid (AkB w u4):=⟨r,Qx ((m.block _ (by omega)).trans I) ((m.block _ (by omega)).trans L),P.trans (m.mono (by omega))⟩
 have HJ:=hideS (Qy u4);have j:=hideS (HA.out.step ((Below.refl _ u4).alloc (Nat.le_refl _) akO));obtain⟨w5,N⟩:∃ w5,u4.alloc akO=w5:=⟨_,rfl⟩;rw [N] at HJ j
 unfold akO at N
 obtain⟨i,am⟩:∃ i,u4.heap.size=i:=⟨_,rfl⟩;rw [am] at HJ
 have q1:(FloatKind.f64.format.order 4598175219545276416 4598175219545276416==some .eq)=true:=by kernel_rfl
 have q2:(FloatKind.f64.format.order rqY 0==some .lt)=true:=by kernel_rfl
 have q3:(FloatKind.f64.format.order 0 0==some .eq)=true:=by kernel_rfl
 have q4:(FloatKind.f64.format.order rqY rqY==some .eq)=true:=by kernel_rfl
 have bc:Hid (∀ a,AkB w a->Calls Tryz.prog 18 #[.agg #[.int .i64 0,.int .i64 2,.slice (some ⟨w.heap.size,0,none⟩) 2 2,.slice (some ⟨w.heap.size+1,0,none⟩) 2 2],.int .i64 1,.float .f64 0] a fun e f=>CvO a rqC 0 e f):=fun a z=>uB rqC rqC 1 0 0 _ _ _ _ 2 _ _ 2 a (Ox w) (by decide) z.src
 have W:Hid (∀ a,AkB w a->Calls Tryz.prog 19 #[.agg #[.int .i64 0,.int .i64 2,.slice (some ⟨w.heap.size,0,none⟩) 2 2,.slice (some ⟨w.heap.size+1,0,none⟩) 2 2],.float .f64 0] a fun e f=>CvO a rqC 0 e f):=fun a z=>uC rqC rqC 0 0 _ _ _ _ 2 _ _ 2 a (Oy w) (by decide) z.src
 have R:Hid (∀ a,AkB w a->JSrc aF a (some ⟨i,0,none⟩) i 0 rqL->Calls Tryz.prog 7 #[.slice (some ⟨i,0,none⟩) 1 1,.int .i64 1,.agg #[.int .i64 0,.int .i64 2,.slice (some ⟨w.heap.size,0,none⟩) 2 2,.slice (some ⟨w.heap.size+1,0,none⟩) 2 2],.float .f64 4576918229304087675] a fun e f=>∃ g,e=.returned (.tuple #[.slice (some ⟨g,0,none⟩) 2 2,.int .i64 0])/\f.cell? ⟨g,0,none⟩=some (.float .f64 rqY)/\f.cell? ⟨g,1,none⟩=some (.float .f64 0)/\g<f.heap.size/\Below a.heap.size a f):=fun a z hj=>by
  refine (CM rqL 1 rqC rqH (some ⟨i,0,none⟩) i 0 1 1 _ _ _ _ 2 _ _ 2 a (by decide) hj rfl (by decide) Ef z.src).mono ?_
  rintro e f ⟨b,hb⟩;obtain⟨a1,a2,a3,a4⟩:=Rg w;rcases b with⟨hn,_⟩| ⟨_,b⟩
  ·exact absurd rqP.2 hn
  ·rcases b with⟨k,hk,hE,_⟩| ⟨_,g,A,b⟩
   ·exfalso
    have bo:k<2:=hk;rcases (show k=0\/k=1 by omega) with rfl | rfl
    ·exact hE a2
    ·exact hE a4
   ·have hl:(List.range rqC.ds.length).map (lnV rqL 1 rqC rqH)=[rqY,0]:=by
     show [lnV rqL 1 rqC rqH 0,lnV rqL 1 rqC rqH 1]=_
     rw [a1,a3]
    rw [hl] at b
    obtain⟨g',c',e',hs,_⟩:=fx (xs:=[rqY,0]) b rfl (by decide)
    injection e' with l _ _;injection l with l;injection l with l;subst l;exact⟨g,A,hs.cell 0 (by decide),hs.cell 1 (by decide),hs.lt (by decide),hb⟩
 have X:Hid (∀ a,AkB w a->JSrc aF a (some ⟨i,0,none⟩) i 0 rqL->Calls Tryz.prog 13 #[.slice (some ⟨i,0,none⟩) 1 1,.int .i64 1,.agg #[.int .i64 0,.int .i64 2,.slice (some ⟨w.heap.size,0,none⟩) 2 2,.slice (some ⟨w.heap.size+1,0,none⟩) 2 2],.float .f64 4576918229304087675] a fun e f=>e=.returned (.tuple #[.float .f64 rqY,.int .i64 0])/\Below a.heap.size a f):=fun a z hj=>by
  refine (uG rqL 1 rqC rqH (some ⟨i,0,none⟩) i 0 1 1 _ _ _ _ 2 _ _ 2 a (by decide) hj rfl (by decide) Ef z.src).mono ?_
  rintro e f ⟨b,hb⟩;obtain⟨a1,a2⟩:=Rh w;rcases b with⟨hn,_⟩| ⟨_,b⟩
  ·exact absurd rqP.2 hn
  ·rw [a1,a2] at b;exact⟨b,hb⟩
 clear I L D P r m;obtain⟨B,x,J,E⟩:=j.out.bx.t
 go_enter Tryz.func6,Tryz.ntmps6
 go_wp2_with fail
 clear F G v O l S y1 e2 T Z e3 z3 y3 N am B x J E HA;refine (bc.out _ j.out).mono ?_
 intro e u b;obtain⟨gx,cx,gy,cy,A,hO⟩:=b.ok rfl;have H:e=.returned (.tuple #[.agg #[.int .i64 0,.int .i64 2,.slice (some ⟨gx,0,none⟩) 2 cx,.slice (some ⟨gy,0,none⟩) 2 cy],.int .i64 0]):=A;subst H;obtain⟨u1,u2,u3,bh,⟨G,v,O⟩,⟨l,S,y1⟩,⟨e2,T,Z⟩,⟨e3,z3,y3⟩,r,m⟩:=bD u.heap.size 0 2 (.slice (some ⟨gx,0,none⟩) 2 cx) (.slice (some ⟨gy,0,none⟩) 2 cy) (u.alloc ar) (heap_alloc_new _ _);have c:Below u.heap.size u bh:=((Below.refl _ u).alloc (Nat.le_refl _) ar).trans m;have o:=hideS ((j.out.step b.bl).step c);have ab:=hideS ((HJ.out.below b.bl).below c);have ai:=hideS r;have ba:=hideS (hO.below c).src.y;obtain⟨w7,K⟩:∃ w7,u.alloc ar=w7:=⟨_,rfl⟩;rw [K] at G v O
 unfold ar at K
 obtain⟨B,x,J,E⟩:=o.out.bx.t;clear b hO m c r j bc HJ A
 go_wp2_with fail
 clear K G v O l S y1 e2 T Z e3 z3 y3 B x J E;generalize u.heap.size=gd at *
 refine (W.out _ o.out).mono ?_
 intro e C b;obtain⟨px,dx,py,dy,A,hO⟩:=b.ok rfl;have H:e=.returned (.tuple #[.agg #[.int .i64 0,.int .i64 2,.slice (some ⟨px,0,none⟩) 2 dx,.slice (some ⟨py,0,none⟩) 2 dy],.int .i64 0]):=A;subst H;obtain⟨v1,v2,v3,v4,⟨G,v,O⟩,⟨l,S,y1⟩,⟨e2,T,Z⟩,⟨e3,z3,y3⟩,r,m⟩:=bD C.heap.size 0 2 (.slice (some ⟨px,0,none⟩) 2 dx) (.slice (some ⟨py,0,none⟩) 2 dy) (C.alloc ar) (heap_alloc_new _ _);have c:Below C.heap.size C v4:=((Below.refl _ C).alloc (Nat.le_refl _) ar).trans m;have q:=hideS ((o.out.step b.bl).step c);have M:=hideS ((ab.out.below b.bl).below c);have Y:=hideS ((ai.out.step b.bl).step c);have al:=hideS ((ba.out.below b.bl).below c);have ad:=hideS r;obtain⟨w9,s⟩:∃ w9,C.alloc ar=w9:=⟨_,rfl⟩;rw [s] at G v O
 unfold ar at s
 obtain⟨B,x,J,E⟩:=q.out.bx.t;clear b hO m c r o W ab ai ba A
 go_wp2_with fail
 clear s G v O l S y1 e2 T Z e3 z3 y3 B x J E;generalize C.heap.size=gp at *
 refine (R.out _ q.out M.out).mono ?_
 rintro e wa ⟨g,rfl,k0,k1,kl,h⟩;have n:=hideS (q.out.step h);have U:=hideS (M.out.below h);have V:=hideS (Y.out.step h);have Q:=hideS (al.out.below h);have bb:=hideS (ad.out.step h);have HK:=hideS (And.intro k0 (And.intro k1 kl));clear h q M Y al ad R k0 k1 kl;obtain⟨B,x,J,E⟩:=n.out.bx.t
 go_wp2_with fail
 clear B x J E;refine (X.out _ n.out U.out).mono ?_
 rintro e wb ⟨rfl,d⟩;have bi:=hideS (n.out.step d).bl;obtain⟨_,_,_,d3⟩:=(V.out.step d).t;obtain⟨_,_,_,p3⟩:=(bb.out.step d).t;have c1:=(Q.out.below d).cell 1 (by decide)
 have k0:=(d.cell (p:=⟨g,0,none⟩) HK.out.2.2).trans HK.out.1;have k1:=(d.cell (p:=⟨g,1,none⟩) HK.out.2.2).trans HK.out.2.1;have bk:wb.cell? ⟨gy,1,none⟩=some (.float .f64 4598175219545276416):=c1;clear d n U V Q bb HK X c1
 go_wp2_with fail
 go_ret
 exact⟨rfl,bi.out⟩
def tlO (o:Option Nat):Nat:=match o with | some x=>tldV x | none=>0
def teO (o:Option Nat):Int:=match o with | some x=>fU x | none=>91
theorem Ri {o:Option Nat} {x:Nat} (h:AgU o x):tldV x=tlO o/\fU x=teO o:=by
 cases o with
 | none=>
  have:=lP (eV h.1).1;unfold tldV fU;rw [this];exact⟨rfl,rfl⟩
 | some r=>rw [cz h.1];exact⟨rfl,rfl⟩
noncomputable def gaO (u b d:Nat):Option Nat:=opO .sub (opO .sub (some u) (some b)) (opO .sub (some b) (some d))
theorem GU (cur base kind:Int) (h n V0 uV p:Nat) (D M:Int) (pl:Option Addr) (B N:Nat) (q r:Option Addr) (o l m:Nat) (w:World) (O:V0<18446744073709551616) (hu:uV<18446744073709551616) (hd:p<18446744073709551616)
  (HH:Hid (∀ b,Below w.heap.size w b->Calls Tryz.prog 20 #[.slice pl N B,.int .i64 cur,.agg #[.int .i64 base,.int .i64 kind,.slice q n o,.slice r m l]] b fun e A=>e=.returned (.tuple #[.agg #[.slice pl N B,.int .i64 cur,.int .i64 base,.int .i64 kind,.slice q n o,.slice r m l,.float .f64 V0],.int .i64 0])/\Below b.heap.size b A))
  (HG:Hid (∀ b I,Below w.heap.size w b->b.cell? ⟨I,0,none⟩=some (.float .f64 h)->I<b.heap.size->Calls Tryz.prog 32 #[.agg #[.slice pl N B,.int .i64 cur,.int .i64 base,.int .i64 kind,.slice q n o,.slice r m l,.float .f64 V0],.func (.func 46) #[] #[.pointer (some ⟨I,0,none⟩)]] b fun e A=>e=.returned (.tuple #[.float .f64 uV,.int .i64 D])/\Below b.heap.size b A))
  (HD:Hid (∀ b I,Below w.heap.size w b->b.cell? ⟨I,0,none⟩=some (.float .f64 (Op.negFloat .f64 h))->I<b.heap.size->Calls Tryz.prog 32 #[.agg #[.slice pl N B,.int .i64 cur,.int .i64 base,.int .i64 kind,.slice q n o,.slice r m l,.float .f64 V0],.func (.func 46) #[] #[.pointer (some ⟨I,0,none⟩)]] b fun e A=>e=.returned (.tuple #[.float .f64 p,.int .i64 M])/\Below b.heap.size b A)) :
  Calls Tryz.prog 15 #[.slice pl N B,.int .i64 cur,.agg #[.int .i64 base,.int .i64 kind,.slice q n o,.slice r m l],.float .f64 h] w fun e A=>((D≠0/\e=.returned (.tuple #[.float .f64 0,.int .i64 D]))\/(D=0/\M≠0/\e=.returned (.tuple #[.float .f64 0,.int .i64 M]))\/(D=0/\M=0/\e=.returned (.tuple #[.float .f64 (tlO (gaO uV V0 p)),.int .i64 (teO (gaO uV V0 p))])))/\Below w.heap.size w A:=by
 have C:=hideS (bu w base kind (.slice q n o) (.slice r m l));obtain⟨w2,U⟩:∃ w2,w.alloc (.cells #[.int .i64 base,.int .i64 kind,.slice q n o,.slice r m l] 26)=w2:=⟨_,rfl⟩;rw [U] at C
 have t0:=C.out.t0;have t1:=C.out.t1;have t2:=C.out.t2;have t3:=C.out.t3;have ba:=Ad;have ab:=hideS O;have Hu:=hideS hu;have Hd:=hideS hd;clear O hu hd
 go_enter Tryz.func15,Tryz.ntmps15
 go_wp2_with fail
 clear U t0 t1 t2 t3;refine (HH.out _ C.out.bl).mono ?_
 rintro e Z ⟨rfl,Y⟩;have G:=hideS (C.out.step Y);clear Y HH C;obtain⟨u1,u2,u3,u4,u5,u6,u7,⟨e0,z0,y0⟩,⟨e1,z1,y1⟩,⟨e2,z2,y2⟩,⟨e3,z3,y3⟩,⟨e4,z4,y4⟩,⟨e5,z5,y5⟩,⟨e6,z6,y6⟩,hZ,hB⟩:=gv Z.heap.size (.slice pl N B) cur base kind (.slice q n o) (.slice r m l) V0 (Z.alloc aR) (heap_alloc_new _ _);have HZ:=hideS hZ;have y:Hid (Below w.heap.size w u7):=G.out.bl.trans ((((Below.refl _ Z).alloc (Nat.le_refl _) aR).trans hB).mono G.out.bl.size);have ai:=hideS uF;obtain⟨w4,E⟩:∃ w4,Z.alloc aR=w4:=⟨_,rfl⟩;rw [E] at e0 z0 y0
 unfold aR at E
 have al:=bJ;clear hZ hB G
 go_wp2_with fail
 clear E e0 z0 y0 e1 z1 y1 e2 z2 y2 e3 z3 y3 e4 z4 y4 e5 z5 y5 e6 z6 y6 al;obtain⟨s0,s1,s2,s3,s4,s5,S⟩:=HZ.out.t;generalize Z.heap.size=g at *
 go_region_held3 (fun x=>x.cell? ⟨g,0,none⟩=some (.slice pl N B)/\x.cell? ⟨g,1,none⟩=some (.int .i64 cur)/\x.cell? ⟨g,2,none⟩=some (.int .i64 base)/\x.cell? ⟨g,3,none⟩=some (.int .i64 kind)/\x.cell? ⟨g,4,none⟩=some (.slice q n o)/\x.cell? ⟨g,5,none⟩=some (.slice r m l)/\x.cell? ⟨g,6,none⟩=some (.float .f64 V0)) (first | go_keep | exact z.out.t | exact R.out.t) (first | (go_at_call 30;refine (ai.out h _).mono ?_;rintro e w5 ⟨rfl,i,f,a⟩;have s:Hid (Below u7.heap.size u7 w5):=⟨a.os,a.tape,a.output,a.size,a.block⟩;have R:=hideS (HZ.out.step s.out);have d:=hideS (HG.out w5 u7.heap.size (y.out.trans (s.out.mono y.out.size)) i f);clear a i f) | (go_at_call 32;refine d.out.mono ?_;rintro e w6 ⟨rfl,k⟩;have P:=hideS (s.out.trans (k.mono s.out.size));have z:=hideS (HZ.out.step P.out);clear k))
 all_goals
  have j:=hideS (y.out.trans (P.out.mono y.out.size));clear s0 s1 s2 s3 s4 s5 S d R
  by_cases L:D=0
  ·have HE:=hideS L;rw [L];obtain⟨s0,s1,s2,s3,s4,s5,S⟩:=z.out.t;clear L
   go_wp2_with fail
   go_region_held3 (fun x=>x.cell? ⟨g,0,none⟩=some (.slice pl N B)/\x.cell? ⟨g,1,none⟩=some (.int .i64 cur)/\x.cell? ⟨g,2,none⟩=some (.int .i64 base)/\x.cell? ⟨g,3,none⟩=some (.int .i64 kind)/\x.cell? ⟨g,4,none⟩=some (.slice q n o)/\x.cell? ⟨g,5,none⟩=some (.slice r m l)/\x.cell? ⟨g,6,none⟩=some (.float .f64 V0)) (first | go_keep | exact X.out.t | exact W.out.t) (first | (go_at_call 30;refine (ai.out (Op.negFloat .f64 h) _).mono ?_;rintro e w7 ⟨rfl,i,f,a⟩;have u:Hid (Below w6.heap.size w6 w7):=⟨a.os,a.tape,a.output,a.size,a.block⟩;have W:=hideS (z.out.step u.out);have d:=hideS (HD.out w7 w6.heap.size (j.out.trans (u.out.mono j.out.size)) i f);clear a i f) | (go_at_call 32;refine d.out.mono ?_;rintro e w8 ⟨rfl,k⟩;have V:=hideS (u.out.trans (k.mono u.out.size));have X:=hideS (z.out.step V.out);clear k))
   all_goals
    have c:=hideS (j.out.trans (V.out.mono j.out.size));clear s0 s1 s2 s3 s4 s5 S d W
    by_cases hF:M=0
    ·have HF:=hideS hF;rw [hF];obtain⟨_,_,_,_,_,_,S⟩:=X.out.t;obtain⟨x1,⟨q1,r1⟩,g1⟩:=we .sub (by simp) 27 (lW Hu.out) (lW ab.out) w8
     obtain⟨Q,v⟩:∃ Q,w8.drewN q1=Q:=⟨_,rfl⟩;rw [v] at r1
     have sa:Q.cell? ⟨g,6,none⟩=some (.float .f64 V0):=by rw [<- v];exact S
     obtain⟨x2,⟨q2,r2⟩,g2⟩:=we .sub (by simp) 27 (lW ab.out) (lW Hd.out) Q
     obtain⟨wb,H⟩:∃ wb,Q.drewN q2=wb:=⟨_,rfl⟩;rw [H] at r2
     obtain⟨x3,⟨q3,r3⟩,g3⟩:=we .sub (by simp) 27 g1 g2 wb
     obtain⟨wc,K⟩:∃ wc,wb.drewN q3=wc:=⟨_,rfl⟩;rw [K] at r3
     have am:Hid (Below w.heap.size w wc):=by
      show Below _ _ _
      rw [<- K,<- H,<- v];exact⟨c.out.os,c.out.tape,c.out.output,c.out.size,c.out.block⟩
     have HT:=hideS (Ri g3);have F:=hideS fun b=>jH x3 b (af g3.2)
     rw [HT.out.1,HT.out.2] at F
     have J:Hid (tlO (gaO uV V0 p)=tlO (opO .sub (opO .sub (some uV) (some V0)) (opO .sub (some V0) (some p)))/\teO (gaO uV V0 p)=teO (opO .sub (opO .sub (some uV) (some V0)) (opO .sub (some V0) (some p)))):=⟨rfl,rfl⟩;obtain⟨TV,ad⟩:∃ TV,tlO (opO .sub (opO .sub (some uV) (some V0)) (opO .sub (some V0) (some p)))=TV:=⟨_,rfl⟩;obtain⟨TE,T⟩:∃ TE,teO (opO .sub (opO .sub (some uV) (some V0)) (opO .sub (some V0) (some p)))=TE:=⟨_,rfl⟩;rw [ad,T] at F J
     clear hF g1 g2 g3 v H K HT ad T
     go_wp2_with (go_at_call 33;refine (turned (F.out _)).mono ?_;rintro e A ⟨rfl,rfl⟩)
     go_ret2
     refine⟨Or.inr (Or.inr ⟨HE.out,HF.out,?_⟩),am.out⟩
     rw [J.out.1,J.out.2]
     rfl
    ·have dF:(M !=0)=true:=bne_iff_ne.2 hF;have HF:=hideS hF;clear hF
     go_wp2_with fail
     go_ret2
     exact⟨Or.inr (Or.inl ⟨HE.out,HF.out,rfl⟩),c.out⟩
  ·have dU:(D !=0)=true:=bne_iff_ne.2 L;have HE:=hideS L;clear L
   go_wp2_with fail
   go_ret2
   exact⟨Or.inl ⟨HE.out,rfl⟩,j.out⟩
theorem LT {l:List Flw} {cur:Int} {d:Cv} {E:Int}:rU l cur d E<18446744073709551616:=by
 unfold rU
 split
 ·have h:=prR l cur d;generalize prV l cur d=V at *
  generalize prE l cur d=a at *
  cases h with
  | bad=>decide
  | ok=>
   unfold zH tldV
   split
   ·exact oZ _
   ·decide
 ·decide
theorem GV (l:List Flw) (cur:Int) (c:Cv) (h:Nat) (pl:Option Addr) (bl x q N:Nat) (j k:Option Addr) (bd v p t u m:Nat) (w:World) (D:h<18446744073709551616) (C:JSrc aF w pl bl x l) (A:l.length=N) (n:N<=30000) (z:dB l) (B:TFl w j k bd v t u c.ds c.fs) :
  Calls Tryz.prog 15 #[.slice pl N q,.int .i64 cur,.agg #[.int .i64 c.base,.int .i64 c.kind,.slice j c.ds.length p,.slice k c.fs.length m],.float .f64 h] w fun e s=>((prE l cur c≠0/\e=.returned (.tuple #[.float .f64 0,.int .i64 (prE l cur c)]))\/(prE l cur c=0/\((upE l cur c h≠0/\e=.returned (.tuple #[.float .f64 0,.int .i64 (upE l cur c h)]))\/(upE l cur c h=0/\upE l cur c (flipN h)≠0/\e=.returned (.tuple #[.float .f64 0,.int .i64 (upE l cur c (flipN h))]))\/(upE l cur c h=0/\upE l cur c (flipN h)=0/\e=.returned (.tuple #[.float .f64 (tlO (gaO (upV l cur c h) (prV l cur c) (upV l cur c (flipN h)))),.int .i64 (teO (gaO (upV l cur c h) (prV l cur c) (upV l cur c (flipN h))))])))))/\Below w.heap.size w s:=by
 by_cases o:prE l cur c=0
 ·have F:=prR l cur c;rw [o] at F
  have I:=(cL o).1.ok;have r:∀ i,i<18446744073709551616->∀ f g,Below w.heap.size w f->f.cell? ⟨g,0,none⟩=some (.float .f64 i)->g<f.heap.size->Calls Tryz.prog 32 #[.agg #[.slice pl N q,.int .i64 cur,.int .i64 c.base,.int .i64 c.kind,.slice j c.ds.length p,.slice k c.fs.length m,.float .f64 (prV l cur c)],.func (.func 46) #[] #[.pointer (some ⟨g,0,none⟩)]] f fun e s=>e=.returned (.tuple #[.float .f64 (upV l cur c i),.int .i64 (upE l cur c i)])/\Below f.heap.size f s:=fun i E f g G K y=>by
   obtain⟨d,H,L⟩:=CN (h:=i) I;have:=ot 46 _ l d (paE c i) cur c.base c.kind pl bl x q N (.slice j c.ds.length p) (.slice k c.fs.length m) (prV l cur c) f rV (Ed c d i g (paE c i) j k bd v p t u m f H E K y (B.below G)) (C.below G) A n z;obtain⟨J,M⟩:=Qs (l:=l) (cur:=cur) (fun e=>(L e).1)
   rw [J,M] at this
   exact this
  refine (GU cur c.base c.kind h c.ds.length (prV l cur c) (upV l cur c h) (upV l cur c (flipN h)) (upE l cur c h) (upE l cur c (flipN h)) pl q N j k p m c.fs.length w (cL o).2.2.2 LT LT (fun f g=>rT l cur c pl bl x q N j k bd v p t u m f _ F (C.below g) A n z (B.below g)) (r h D) (by rw [yG D];exact r (flipN h) (bM D).1)).mono ?_
  rintro e s ⟨a,b⟩;exact⟨Or.inr ⟨o,a⟩,b⟩
 ·refine (CP cur c.base c.kind (prE l cur c) h _ _ _ w o (fun f g=>nC l cur c pl bl x q N j k bd v p t u m f _ _ (prR l cur c) o (C.below g) A n z (B.below g))).mono ?_
  rintro e s ⟨a,b⟩;exact⟨Or.inl ⟨o,a⟩,b⟩
structure CvS (wr:World) (d:Cv) (E b k:Int) (px py:Option Addr) (nx ny gx gy:Nat):Prop where
 ok:E=0->b=d.base/\k=d.kind/\nx=d.ds.length/\ny=d.fs.length/\TFl wr px py gx 0 gy 0 d.ds d.fs
 no:E≠0->b=0/\k=0/\px=none/\py=none/\nx=0/\ny=0
theorem CvS.step {wr i:World} {d:Cv} {E b k:Int} {m g:Option Addr} {nx j n l:Nat} (h:CvS wr d E b k m g nx j n l) (o:Below wr.heap.size wr i):CvS i d E b k m g nx j n l:=
 ⟨fun e=>by obtain⟨a,b,c,d,f⟩:=h.ok e;exact⟨a,b,c,d,f.below o⟩,h.no⟩
structure DvS (wr:World) (d:Cv) (E b k:Int) (px py:Option Addr) (bx ox nx ny gy:Nat):Prop where
 ok:E=0->b=d.base/\k=d.kind/\nx=d.ds.length/\ny=d.fs.length/\CSrcD wr px py bx ox gy 0 d.ds d.fs
 no:E≠0->b=0/\k=0/\px=none/\py=none/\nx=0/\ny=0
theorem DvS.step {wr i:World} {d:Cv} {E b k:Int} {o g:Option Addr} {m l nx j n:Nat} (h:DvS wr d E b k o g m l nx j n) (p:Below wr.heap.size wr i):DvS i d E b k o g m l nx j n:=
 ⟨fun e=>by obtain⟨a,b,c,d,f⟩:=h.ok e;exact⟨a,b,c,d,f.below p⟩,h.no⟩
theorem DvO.shp {w:World} {d:Cv} {E:Int} {u:Option Addr} {n m cx:Nat} {e:Ending} {j:World} (h:DvO w d E u n m cx e j):∃ (b k:Int) (i f:Option Addr) (nx v l r o:Nat),e=.returned (.tuple #[.agg #[.int .i64 b,.int .i64 k,.slice i nx v,.slice f l r],.int .i64 E])/\DvS j d E b k i f n m nx l o/\(E=0->w.heap.size<=o):=by
 by_cases c:E=0
 ·subst c;obtain⟨q,g,s,rfl,p,t⟩:=h.ok rfl;exact⟨_,_,_,_,_,cx,_,s,g,rfl,⟨fun _=>⟨rfl,rfl,rfl,rfl,p⟩,fun a=>absurd rfl a⟩,fun _=>t⟩
 ·exact⟨0,0,none,none,0,0,0,0,0,h.bad c,⟨fun e=>absurd e c,fun _=>⟨rfl,rfl,rfl,rfl,rfl,rfl⟩⟩,fun e=>absurd e c⟩
theorem VSrc.blk {w u:World} {p:Option Addr} {g o n:Nat} {f:Nat->Value} (h:VSrc w p g o n f) (e:u.heap[g]? =w.heap[g]?):VSrc u p g o n f:=
 ⟨h.at_,fun c=>(by
  obtain⟨x,b⟩:∃ x,w.heap[g]? =some x:=⟨_,Array.getElem?_eq_getElem (h.lt c)⟩
  rw [b] at e
  exact (Array.getElem?_eq_some_iff.1 e).1),fun j a=>(by
  rw [<- h.cell j a];simp only [World.cell?,e])⟩
def erK (a b c:Int):Int:=if a=0 then (if b=0 then c else b) else a
structure LdB (w:World) (base kind:Int) (vd vf:Value) (wr:World):Prop where
 k:DxK wr w.heap.size base kind vd vf
 bl:Below w.heap.size w wr
 sz:w.heap.size+1<=wr.heap.size
theorem LdB.step {w wr b:World} {base kind:Int} {c d:Value} (h:LdB w base kind c d wr) (a:Below wr.heap.size wr b):LdB w base kind c d b:=⟨h.k.step a,h.bl.trans (a.mono h.bl.size),Nat.le_trans h.sz a.size⟩
theorem LdB.stay {w wr b:World} {base kind:Int} {c d:Value} (h:LdB w base kind c d wr) (a:Below (w.heap.size+1) wr b):LdB w base kind c d b:=⟨⟨(a.block _ (by omega)).trans h.k.blk⟩,h.bl.trans (a.mono (by omega)),Nat.le_trans h.sz a.size⟩
theorem sb (l:List Flw) (cur:Int) (c:Cv) (pl:Option Addr) (bl G C N:Nat) (j k:Option Addr) (bd F n z A m:Nat) (w:World) (d t H:Int) (v:ChkF l d t) (u:c.Chk H) (D:JSrc aB w pl bl G l) (y:l.length=N) (J:N<=30000) (s:dB l) (B:CSrcD w j k bd F z A c.ds c.fs) :
  Calls Tryz.prog 65 #[.slice pl N C,.int .i64 cur,.agg #[.int .i64 c.base,.int .i64 c.kind,.slice j c.ds.length n,.slice k c.fs.length m]] w fun e p=>e=.returned (.int .i64 (if d=0 then (if 1<=cur/\cur<=8 then H else 140) else d))/\Below w.heap.size w p:=by
 have HK:=hideS (gq w c.base c.kind (.slice j c.ds.length n) (.slice k c.fs.length m));have g:=hideS fun b (q:Below w.heap.size w b)=>rZ l pl bl G C N d t b (D.below q) y (by omega) s v
 have o:=hideS fun b=>mC cur b
 have E:=hideS fun b (q:Below w.heap.size w b)=>dC c.base c.kind j k bd F n z A m c.ds c.fs b (B.below q) u
 clear D y s B v u;generalize Value.slice j c.ds.length n=P at *
 generalize Value.slice k c.fs.length m=R at *
 by_cases i:d=0
 ·rw [if_pos i];subst i
  by_cases f:1<=cur/\cur<=8
  ·rw [if_pos f];rw [decide_eq_true f] at o
   clear f
   go_enter Tryz.func65,Tryz.ntmps65
   go_wp2_with fail
   refine (g.out _ HK.out.bl).mono ?_
   rintro e x ⟨rfl,a⟩;have HK2:=hideS (HK.out.step a);clear a HK g;have K:=HK2.out.t0;have I:=HK2.out.t1;have L:=HK2.out.t2;have M:=HK2.out.t3
   go_wp2_with (go_at_call 106;refine (o.out _).mono ?_;rintro e p ⟨rfl,rfl⟩)
   clear K I L M;refine (E.out _ HK2.out.bl).mono ?_
   rintro e O ⟨rfl,h⟩;have r:=hideS (HK2.out.step h).bl;clear h HK2 E
   go_wp2_with fail
   go_ret
   exact⟨rfl,r.out⟩
  ·rw [if_neg f];rw [decide_eq_false f] at o
   clear f
   go_enter Tryz.func65,Tryz.ntmps65
   go_wp2_with fail
   refine (g.out _ HK.out.bl).mono ?_
   rintro e x ⟨rfl,a⟩;have HK2:=hideS (HK.out.step a);clear a HK g
   go_wp2_with (go_at_call 106;refine (o.out _).mono ?_;rintro e p ⟨rfl,rfl⟩)
   go_ret
   exact⟨rfl,HK2.out.bl⟩
 ·rw [if_neg i];have Q:(d !=0)=true:=bne_iff_ne.2 i;clear i
  go_enter Tryz.func65,Tryz.ntmps65
  go_wp2_with fail
  refine (g.out _ HK.out.bl).mono ?_
  rintro e x ⟨rfl,a⟩;have HK2:=hideS (HK.out.step a);clear a HK g
  go_wp2_with fail
  go_ret
  exact⟨rfl,HK2.out.bl⟩
structure DO (w wr:World) (bs kd:Int) (vd vf:Value) (a:A.St) (k:Nat):Prop where
 c:wr.heap[w.heap.size]? =some (.cells #[.int .i64 bs,.int .i64 kd,vd,vf] 39)
 r:wr.heap[w.heap.size+1]? =some (.cells #[.int .i64 0,.bool false,.slice none 0 0,.int .i64 0] 85)
 h:Held w wr (w.heap.size+2) a k
theorem CT {w wr d:World} {B k:Nat} {a:A.St} (h:Held w wr B a k) (b:Below wr.heap.size wr d):Held w d B a k:=by
 obtain⟨⟨neg,v,M,e,j,i,g,m⟩,f,l,c⟩:=h;exact⟨⟨neg,v,M,e,(b.block B c).trans j,i.below b,g,m⟩,f.trans (b.mono f.size),l,Nat.lt_of_lt_of_le c b.size⟩
theorem GX {w wr:World} {B k b:Nat} {a:A.St} (h:Held w wr B a k) (m:k<=b):Held w wr B a b:=by
 obtain⟨⟨neg,v,M,e,f,d,c,j⟩,l,i,g⟩:=h;exact⟨⟨neg,v,M,e,f,d,c,j.mono m⟩,l,i,g⟩
theorem DO.below {w wr d:World} {e i:Int} {f g:Value} {a:A.St} {k:Nat} (h:DO w wr e i f g a k) (b:Below wr.heap.size wr d):DO w d e i f g a k:=
 ⟨(b.block _ (Array.getElem?_eq_some_iff.1 h.c).1).trans h.c,(b.block _ (Array.getElem?_eq_some_iff.1 h.r).1).trans h.r,CT h.h b⟩
theorem DO.drewN {w wr:World} {b e:Int} {c d:Value} {a:A.St} {k:Nat} (h:DO w wr b e c d a k) (n:Nat):DO w (wr.drewN n) b e c d a k:=
 h.below (NE (Below.refl _ _) n)
theorem DO.mono {w wr:World} {b g:Int} {d e:Value} {a:A.St} {k f:Nat} (h:DO w wr b g d e a k) (i:k<=f):DO w wr b g d e a f:=⟨h.c,h.r,GX h.h i⟩
theorem DO.t {w wr:World} {d g:Int} {e f:Value} {a:A.St} {k:Nat} (h:DO w wr d g e f a k):wr.cell? ⟨w.heap.size,0,none⟩=some (.int .i64 d)/\wr.cell? ⟨w.heap.size,1,none⟩=some (.int .i64 g)/\wr.cell? ⟨w.heap.size,2,none⟩=some e/\wr.cell? ⟨w.heap.size,3,none⟩=some f:=by
 have b:=h.c;exact⟨by simp [World.cell?,b],by simp [World.cell?,b],by simp [World.cell?,b],by simp [World.cell?,b]⟩
theorem Rj (w:World) (a d:Int) (b c:Value):DO w (((w.alloc (.cells #[.int .i64 a,.int .i64 d,b,c] 39)).alloc (.cells #[.int .i64 0,.bool false,.slice none 0 0,.int .i64 0] 85)).alloc (.cells #[.int .i64 0,.bool false,.slice none 0 0,.int .i64 0] 85)) a d b c ⟨0,0⟩ 0:=by
 have f:(w.alloc (.cells #[.int .i64 a,.int .i64 d,b,c] 39)).heap.size=w.heap.size+1:=by simp
 have e:((w.alloc (.cells #[.int .i64 a,.int .i64 d,b,c] 39)).alloc (.cells #[.int .i64 0,.bool false,.slice none 0 0,.int .i64 0] 85)).heap.size=w.heap.size+2:=by simp
 have i:=(Below.refl _ w).alloc (Nat.le_refl _) (.cells #[.int .i64 a,.int .i64 d,b,c] 39);have h:=(Below.refl _ (w.alloc (.cells #[.int .i64 a,.int .i64 d,b,c] 39))).alloc (Nat.le_refl _) (.cells #[.int .i64 0,.bool false,.slice none 0 0,.int .i64 0] 85);have g:=(Below.refl _ ((w.alloc (.cells #[.int .i64 a,.int .i64 d,b,c] 39)).alloc (.cells #[.int .i64 0,.bool false,.slice none 0 0,.int .i64 0] 85))).alloc (Nat.le_refl _) (.cells #[.int .i64 0,.bool false,.slice none 0 0,.int .i64 0] 85);refine⟨?_,?_,⟨⟨false,.slice none 0 0,0,0,?_,Or.inl ⟨rfl,_,_,rfl⟩,gI _,DV.zero (by decide) 0⟩,?_,by omega,by simp⟩⟩
 ·rw [g.block _ (by rw [e];omega),h.block _ (by rw [f];omega)];exact heap_alloc_new _ _
 ·rw [g.block _ (by rw [e];omega),<- f];exact heap_alloc_new _ _
 ·rw [<- e];exact heap_alloc_new _ _
 ·exact i.trans ((h.mono (by rw [f];omega)).trans (g.mono (by rw [e];omega)))
theorem DO.put {w wr w1:World} {m o:Int} {j n:Value} {a0 a:A.St} {u k M:Nat} {s:Int} {neg:Bool} {v:Value} {e:Int} {r:Ending} (h:DO w wr m o j n a0 u) (y:wr.heap[w.heap.size+2]? =some (.cells #[.int .i64 s,.bool neg,v,.int .i64 e] 85 (0,0))) (t:From (w.heap.size+2+1) v) (i:cw wr v M a k r w1) :
  ∃ b p l c f,r=.returned (AV (a.s:Int) b (.slice p l c) f)/\Held4 w1 (w.heap.size+2) s neg v e/\DO w (put4 w1 (w.heap.size+2) (a.s:Int) b (.slice p l c) f) m o j n a k:=by
 have d:Below wr.heap.size wr w1:=by
  obtain⟨_,_,_,_,_,_,_,_,d⟩:=i;exact d
 obtain⟨b,p,l,c,f,z,x,B⟩:=xZ y t h.h.bl h.h.lo h.h.lt i;have q:=h.h.lt;have g:Below (w.heap.size+2) wr (put4 w1 (w.heap.size+2) (a.s:Int) b (.slice p l c) f):=bX (d.mono (by omega)) (Nat.le_refl _)
 exact⟨b,p,l,c,f,z,x,⟨(g.block _ (by omega)).trans h.c,(g.block _ (by omega)).trans h.r,B⟩⟩
end Go.Proofs.YtfdddijdjpijbaaGreat
