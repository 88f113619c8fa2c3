/-  -/
import Derived.Test.YtfdddijdjpijbaaGreatHbt
import Derived.Test.YtfdddijdjpijbaaGreatHat
import Derived.Test.YtfdddijdjpijbaaGreatHba
import Derived.Test.YtfdddijdjpijbaaGreatHbr
import Derived.Test.YtfdddijdjpijbaaGreatHbq
import Derived.Deep.QuietTactic
import Derived.Test.YtfdddijdjpijbaaGreatHbn
import Derived.Test.YtfdddijdjpijbaaGreatHbe
import Derived.Test.YtfdddijdjpijbaaGreatHbk
set_option maxHeartbeats 12800000
set_option maxRecDepth 40000
namespace Go.Proofs.YtfdddijdjpijbaaGreat
open Go.RowKit
open Classical in
noncomputable def paE (c:Cv) (h:Nat):Int:=if ∀ k<c.ds.length,bmB c k h=true then 0 else 91
theorem PT {c:Cv} {h:Nat} (f:c.Ok):∃ d,ParR c h d (paE c h)/\(paE c h=0->d=c.para h/\∀ k<c.ds.length,bmB c k h=true):=by
 unfold paE
 by_cases b:∀ k<c.ds.length,bmB c k h=true
 ·rw [if_pos b];exact⟨_,.ok f b,fun _=>⟨rfl,b⟩⟩
 ·rw [if_neg b];obtain⟨K,m,e,i⟩:=jm (p:=fun k=>!bmB c k h) c.ds.length
  have a:K<c.ds.length:=Classical.byContradiction fun l=>b fun k n=>by have:=e k (by omega);simpa using this
  exact⟨_,.val f K a (by have:=i a;simpa using this) (fun j g=>by have:=e j g;simpa using this),fun h=>absurd h (by decide)⟩
noncomputable def deV (l:List Flw) (cur:Int) (c:Cv) (h:Nat):Nat:=rD l cur (c.para h) (prV l cur c) (paE c h)
noncomputable def deE (l:List Flw) (cur:Int) (c:Cv) (h:Nat):Int:=rE l cur (c.para h) (prV l cur c) (paE c h)
theorem Gl (h:Nat) (w:World) :
  Calls Tryz.prog 30 #[.float .f64 h] w fun e c=>e=.returned (.func (.func 46) #[] #[.pointer (some ⟨w.heap.size,0,none⟩)])/\c.cell? ⟨w.heap.size,0,none⟩=some (.float .f64 h)/\w.heap.size<c.heap.size/\Below w.heap.size w c:=
 (Cl h w).mono fun e c ⟨a,b⟩=>by
  subst b;exact⟨a,cP w _ _ 0,by simp,(Below.refl _ _).alloc (Nat.le_refl _) _⟩
theorem NL (c d:Cv) (h b:Nat) (E:Int) (g f:Option Addr) (bd i k m l j:Nat) (w:World) (q:ParR c h d E) (o:h<18446744073709551616) (hc:w.cell? ⟨b,0,none⟩=some (.float .f64 h)) (a:b<w.heap.size) (r:TFl w g f bd i m l c.ds c.fs) :
  BmC 46 #[.pointer (some ⟨b,0,none⟩)] c.base c.kind (.slice g c.ds.length k) (.slice f c.fs.length j) w d E:=fun s e=>
 Gk c d h b E _ _ s ((e.cell (p:=⟨b,0,none⟩) a).trans hc) (Nat.lt_of_lt_of_le a e.size) (fun t n=>tW c d h E g f bd i k m l j t q o (r.below (e.trans (n.mono e.size))))
theorem Co (cur base kind E:Int) (h:Nat) (n g i:Value) (w:World) (s:E≠0) (r:Hid (∀ j,Below w.heap.size w j->Calls Tryz.prog 20 #[n,.int .i64 cur,.agg #[.int .i64 base,.int .i64 kind,g,i]] j fun e k=>e=.returned (.tuple #[.agg #[.slice none 0 0,.int .i64 0,.int .i64 0,.int .i64 0,.slice none 0 0,.slice none 0 0,.float .f64 0],.int .i64 E])/\Below j.heap.size j k)) :
  Calls Tryz.prog 13 #[n,.int .i64 cur,.agg #[.int .i64 base,.int .i64 kind,g,i],.float .f64 h] w fun e k=>e=.returned (.tuple #[.float .f64 0,.int .i64 E])/\Below w.heap.size w k:=by
 have V:(E !=0)=true:=bne_iff_ne.2 s;have a:=hideS (bH w base kind g i);obtain⟨o,d⟩:∃ o,w.alloc (.cells #[.int .i64 base,.int .i64 kind,g,i] 26)=o:=⟨_,rfl⟩;rw [d] at a
 have B:=a.out.t0;have u:=a.out.t1;have z:=a.out.t2;have A:=a.out.t3;clear s
 go_enter Tryz.func13,Tryz.ntmps13
 go_wp2_with fail
 clear d B u z A;refine (r.out _ a.out.bl).mono ?_
 rintro e l ⟨rfl,c⟩;have b:=hideS (a.out.step c);clear c r a;obtain⟨O,T,u3,I,R,U,D,⟨y,t,v⟩,⟨J,N,S⟩,⟨W,z2,Z⟩,⟨Q,z3,H⟩,⟨G,F,Y⟩,⟨K,X,P⟩,⟨L,M,y6⟩,x,p⟩:=jY l.heap.size (.slice none 0 0) 0 0 0 (.slice none 0 0) (.slice none 0 0) 0 (l.alloc bC) (heap_alloc_new _ _);have m:Hid (Below w.heap.size w D):=(b.out.bl.alloc b.out.bl.size bC).trans (p.mono b.out.bl.size);obtain⟨q,f⟩:∃ q,l.alloc bC=q:=⟨_,rfl⟩;rw [f] at y t v
 unfold bC at f
 have C:=cg;clear x p
 go_wp2_with fail
 go_ret2
 exact⟨rfl,m.out⟩
theorem Gm (cur base kind:Int) (h n V0:Nat) (X:Nat) (M:Int) (pl:Option Addr) (q N:Nat) (j l:Option Addr) (f k m:Nat) (w:World)
  (U:Hid (∀ b,Below w.heap.size w b->Calls Tryz.prog 20 #[.slice pl N q,.int .i64 cur,.agg #[.int .i64 base,.int .i64 kind,.slice j n f,.slice l m k]] b fun e s=>e=.returned (.tuple #[.agg #[.slice pl N q,.int .i64 cur,.int .i64 base,.int .i64 kind,.slice j n f,.slice l m k,.float .f64 V0],.int .i64 0])/\Below b.heap.size b s))
  (HG:Hid (∀ b F,Below w.heap.size w b->b.cell? ⟨F,0,none⟩=some (.float .f64 h)->F<b.heap.size->Calls Tryz.prog 29 #[.agg #[.slice pl N q,.int .i64 cur,.int .i64 base,.int .i64 kind,.slice j n f,.slice l m k,.float .f64 V0],.func (.func 46) #[] #[.pointer (some ⟨F,0,none⟩)]] b fun e s=>e=.returned (.tuple #[.float .f64 X,.int .i64 M])/\Below b.heap.size b s)) :
  Calls Tryz.prog 13 #[.slice pl N q,.int .i64 cur,.agg #[.int .i64 base,.int .i64 kind,.slice j n f,.slice l m k],.float .f64 h] w fun e s=>e=.returned (.tuple #[.float .f64 X,.int .i64 M])/\Below w.heap.size w s:=by
 have i:=hideS (bH w base kind (.slice j n f) (.slice l m k));obtain⟨R,z⟩:∃ R,w.alloc (.cells #[.int .i64 base,.int .i64 kind,.slice j n f,.slice l m k] 26)=R:=⟨_,rfl⟩;rw [z] at i
 have t0:=i.out.t0;have t1:=i.out.t1;have Y:=i.out.t2;have t3:=i.out.t3
 go_enter Tryz.func13,Tryz.ntmps13
 go_wp2_with fail
 clear z t0 t1 Y t3;refine (U.out _ i.out.bl).mono ?_
 rintro e A ⟨rfl,y⟩;have p:=hideS (i.out.step y);clear y U i;obtain⟨u1,u2,u3,u4,u5,u6,C,⟨S,Q,K⟩,⟨e1,V,y1⟩,⟨e2,z2,y2⟩,⟨e3,z3,y3⟩,⟨e4,z4,y4⟩,⟨e5,Z,W⟩,⟨e6,z6,y6⟩,L,T⟩:=jY A.heap.size (.slice pl N q) cur base kind (.slice j n f) (.slice l m k) V0 (A.alloc bC) (heap_alloc_new _ _);have G:=hideS L;have c:Hid (Below w.heap.size w C):=p.out.bl.trans ((((Below.refl _ A).alloc (Nat.le_refl _) bC).trans T).mono p.out.bl.size);have I:=hideS (Gl h);obtain⟨O,o⟩:∃ O,A.alloc bC=O:=⟨_,rfl⟩;rw [o] at S Q K
 unfold bC at o
 have E:=cg;clear L T p
 go_wp2_with fail
 clear o S Q K e1 V y1 e2 z2 y2 e3 z3 y3 e4 z4 y4 e5 Z W e6 z6 y6 E;obtain⟨s0,s1,s2,s3,s4,s5,s6⟩:=G.out.t;generalize A.heap.size=g at *
 go_region_held3 (fun x=>x.cell? ⟨g,0,none⟩=some (.slice pl N q)/\x.cell? ⟨g,1,none⟩=some (.int .i64 cur)/\x.cell? ⟨g,2,none⟩=some (.int .i64 base)/\x.cell? ⟨g,3,none⟩=some (.int .i64 kind)/\x.cell? ⟨g,4,none⟩=some (.slice j n f)/\x.cell? ⟨g,5,none⟩=some (.slice l m k)/\x.cell? ⟨g,6,none⟩=some (.float .f64 V0)) (first | go_keep | exact J.out.t | exact D.out.t) (first | (go_at_call 30;refine (I.out _).mono ?_;rintro e P ⟨rfl,v,B,a⟩;have d:Hid (Below C.heap.size C P):=⟨a.os,a.tape,a.output,a.size,a.block⟩;have D:=hideS (G.out.step d.out);have H:=hideS (HG.out P C.heap.size (c.out.trans (d.out.mono c.out.size)) v B);clear a v B) | (go_at_call 29;refine H.out.mono ?_;rintro e w6 ⟨rfl,r⟩;have u:=hideS (d.out.trans (r.mono d.out.size));have J:=hideS (G.out.step u.out);clear r))
 all_goals
  go_wp2_with fail
  go_ret2
  exact⟨rfl,c.out.trans (u.out.mono c.out.size)⟩
theorem Gn (l:List Flw) (cur:Int) (c:Cv) (h:Nat) (pl:Option Addr) (bl r p N:Nat) (j i:Option Addr) (bd q n t s m:Nat) (w:World) (G:h<18446744073709551616) (x:JSrc aF w pl bl r l) (A:l.length=N) (f:N<=30000) (u:eu l) (z:TFl w j i bd q t s c.ds c.fs) :
  Calls Tryz.prog 13 #[.slice pl N p,.int .i64 cur,.agg #[.int .i64 c.base,.int .i64 c.kind,.slice j c.ds.length n,.slice i c.fs.length m],.float .f64 h] w fun e v=>((prE l cur c≠0/\e=.returned (.tuple #[.float .f64 0,.int .i64 (prE l cur c)]))\/(prE l cur c=0/\e=.returned (.tuple #[.float .f64 (deV l cur c h),.int .i64 (deE l cur c h)])))/\Below w.heap.size w v:=by
 by_cases g:prE l cur c=0
 ·have B:=prR l cur c;rw [g] at B
  have J:=(gh g).1.ok;obtain⟨d,I,H⟩:=PT (h:=h) J;refine (Gm cur c.base c.kind h c.ds.length (prV l cur c) (deV l cur c h) (deE l cur c h) pl p N j i n m c.fs.length w (fun o k=>zN l cur c pl bl r p N j i bd q n t s m o _ B (x.below k) A f u (z.below k)) (fun o k C E y=>?_)).mono ?_
  ·have:=nZ 46 _ l d (paE c h) cur c.base c.kind pl bl r p N (.slice j c.ds.length n) (.slice i c.fs.length m) (prV l cur c) o (gh g).2.2.1 Ck (NL c d h k (paE c h) j i bd q n t s m o I G E y (z.below C)) (x.below C) A f u;obtain⟨D,F⟩:=Le (l:=l) (cur:=cur) (V0:=prV l cur c) (fun e=>(H e).1)
   rw [D,F] at this
   exact this
  ·rintro e v ⟨a,b⟩;exact⟨Or.inr ⟨g,a⟩,b⟩
 ·refine (Co cur c.base c.kind (prE l cur c) h _ _ _ w g (fun o k=>tX l cur c pl bl r p N j i bd q n t s m o _ _ (prR l cur c) g (x.below k) A f u (z.below k))).mono ?_
  rintro e v ⟨a,b⟩;exact⟨Or.inl ⟨g,a⟩,b⟩
theorem NP {l:List Flw} {cur:Int} {c d:Cv} (a:prE l cur c=0) (h:prV l cur d=prV l cur c/\prE l cur d=prE l cur c):chV l cur d (prV l cur c)=0/\chE l cur d (prV l cur c)=0:=by
 obtain⟨_,_,b,_⟩:=gh a;have e:chO l cur d (prV l cur c)=0:=by unfold chO;rw [h.1,sub_self (cC b)];rfl
 unfold chV chE;rw [h.2,a,if_pos rfl,if_pos rfl,e];exact⟨by decide,by decide⟩
theorem Lh (b:World) {base d:Int} (a:af (rkT base d)):rkX base d 0=4607182418800017408:=by
 have e:opO .mul (some 0) (some (rkT base d))=some (wrd (sB 0^^sB (rkT base d)) 0):=by
  show floatBits .mul .f64 0 (rkT base d)=_
  rw [fP (by unfold af;decide) a,show aV 0=0 by decide+kernel,Nat.zero_mul];rfl
 unfold rkX;rw [e,NO b];rfl
theorem Li {f:Nat} (hn:af f) (g:f<18446744073709551616) (k:0<ae (f:Nat)):floatBits .mul .f64 f 4607182418800017408=some f:=by
 obtain⟨a,l⟩:=ru hn g k;have d:f<9223372036854775808:=by
  unfold sB at a
  simp at a
  omega
 have b:f<9218868437227405312:=by unfold af at hn;omega
 rw [fP hn (by unfold af;decide),a,show sB 4607182418800017408=false by decide]
 obtain⟨K,c⟩:∃ K:Nat,K=1074:=⟨_,rfl⟩;have i:aV 4607182418800017408=2^K:=by subst c;decide+kernel
 have h:aV f=V f:=by unfold aV;rw [Nat.mod_eq_of_lt d]
 have j:V f≠0:=by
  intro e;have:=jK b 0;rw [e,Nat.zero_mul,ie (by decide)] at this
  omega
 unfold mulR;rw [i,h,if_neg (by have:=Nat.two_pow_pos K;exact Nat.mul_ne_zero j (by omega))]
 have:=jK b K;rw [show (-1074 - (K:Int))= -2148 by rw [c];decide] at this
 rw [this];rfl
theorem oR (j:World) {c:Cv} {k:Nat} (a:c.Ok) (d:c.Fit) (b:k<c.ds.length):c.bm k 0=c.fs.getD k 0/\bmB c k 0=true:=by
 obtain⟨i,n⟩:=a.day b;have m:=a.b0;obtain⟨f,l⟩:=oP i (by omega)
 obtain⟨g,h⟩:=a.fac b;have e:c.bm k 0=c.fs.getD k 0:=by
  unfold Cv.bm rkF;rw [Lh j f,Li g (d k (by rw [a.len];exact b)) h];rfl
 refine⟨e,?_⟩
 unfold bmB;rw [e,a.rkB b];decide
theorem zV {l:List Nat} {k:Nat} (a:k<l.length):l.set k (l.getD k 0)=l:=by
 apply List.ext_getElem?;intro j;rw [List.getElem?_set]
 by_cases e:k=j
 ·subst e;rw [if_pos rfl,if_pos a,List.getD_eq_getElem?_getD,List.getElem?_eq_getElem a];rfl
 ·rw [if_neg e]
theorem Gp (e:World) {c:Cv} {k:Nat} (b:c.Ok) (d:c.Fit) (a:k<c.ds.length):c.bump k 0=c:=by
 unfold Cv.bump;rw [(oR e b d a).1,zV (by rw [b.len];exact a)]
theorem tY (d:World) {c:Cv} (a:c.Ok) (b:c.Fit):∀ k≤c.ds.length,c.parL 0 k=c.fs
 | 0,_=>rfl
 | k+1,hk=>by
  rw [Cv.parL,tY d a b k (by omega),(oR d a b (k:=k) (by omega)).1,zV (by rw [a.len];omega)]
theorem Gq (a:World) {c:Cv} (d:c.Ok) (b:c.Fit):c.para 0=c:=by
 unfold Cv.para;rw [tY a d b _ (Nat.le_refl _)]
def zW (u v:Int):Int:=aA u*aA v*((2^(aQ u+aQ v+2148).toNat:Nat):Int)
theorem Lj (u v:Int):(A.fF u v).N=zW u v:=by unfold A.fF zW;rw [Int.natCast_pow];rfl
theorem rG (base kind:Int) (pl i g:Option Addr) (N m D f F c:Nat) (w:World) :
  Calls Tryz.prog 5 #[.slice pl N m,.agg #[.int .i64 base,.int .i64 kind,.slice i D f,.slice g F c]] w fun e k=>e=.returned (.bool (decide (N<=20/\D<=8/\F<=8)))/\Below w.heap.size w k:=by
 have b:=hideS (bH w base kind (.slice i D f) (.slice g F c));have n:=b.out.t2;have o:=b.out.t3
 by_cases l:N<=20<;>by_cases j:D<=8<;>by_cases a:F<=8
 all_goals
  first | rw [decide_eq_true (⟨l,j,a⟩:N<=20/\D<=8/\F<=8)] | rw [decide_eq_false (fun h:N<=20/\D<=8/\F<=8=>by omega)]
  have d:decide ((F:Int)<=8)=decide (F<=8):=decide_eq_decide.2 (by omega)
  first | rw [decide_eq_true a] at d | rw [decide_eq_false a] at d
  go_enter Tryz.func5,Tryz.ntmps5
  go_wp2_with fail
  go_ret
  exact⟨rfl,b.out.bl⟩
def rqD:List Int:=[365,730]
def rqF:List Nat:=[4602678819172646912,4598175219545276416]
def rqC:Cv:=⟨0,2,rqD,rqF⟩
def rqL:List Flw:=[⟨365,4607182418800017408,1⟩]
abbrev rqH:Nat:=4576918229304087675
theorem gj:rqC.Ok:=⟨by decide,by decide,by decide,by decide,by decide,by decide,rfl,fun i hi=>by
 have a:i<2:=hi;rcases (show i=0\/i=1 by omega) with rfl | rfl<;>decide+kernel⟩
theorem mq:rqC.Fit:=fun i hi=>by
 have a:i<2:=hi;rcases (show i=0\/i=1 by omega) with rfl | rfl<;>decide
theorem Lk (w:World):Calls Tryz.prog 81 #[.float .f64 4602418926338704640] w fun e a=>e=.returned (.float .f64 0)/\a=w:=lK _ 0 w (qv _ (by decide)) (by decide+kernel)
theorem Ll (w:World):Calls Tryz.prog 81 #[.float .f64 4602159033504762368] w fun e a=>e=.returned (.float .f64 0)/\a=w:=lK _ 0 w (qv _ (by decide)) (by decide+kernel)
theorem PV (w:World):Calls Tryz.prog 54 #[.float .f64 13800290266158863483] w fun e a=>e=.returned (.float .f64 4607092795669978366)/\Below w.heap.size w a:=by
 have:=lM 13800290266158863483 13802842229321981950 4602418926338704640 0 0 0 13800290266158863483 13800290266158863483 4607092795669978366 0 w (by unfold U64;omega) (by decide) (by decide+kernel) (by decide+kernel) (by decide+kernel) (by decide+kernel) (by decide+kernel) (by decide+kernel) Lk (by decide+kernel) (by decide+kernel) (by decide+kernel) (by decide+kernel) (by show _=_;decide+kernel) (by show U64 _;unfold U64;omega) (by decide+kernel) (by omega) (by decide+kernel) (by decide+kernel)
 rw [show aJ (aA (4607092795669978366:Nat)) (aQ (4607092795669978366:Nat)+0)=4607092795669978366 by decide+kernel] at this
 exact this
theorem PW (w:World):Calls Tryz.prog 54 #[.float .f64 13804793865786233979] w fun e a=>e=.returned (.float .f64 4607004064304983131)/\Below w.heap.size w a:=by
 have:=lM 13804793865786233979 13807345828949352446 4602159033504762368 0 0 0 13804793865786233979 13804793865786233979 4607004064304983131 0 w (by unfold U64;omega) (by decide) (by decide+kernel) (by decide+kernel) (by decide+kernel) (by decide+kernel) (by decide+kernel) (by decide+kernel) Ll (by decide+kernel) (by decide+kernel) (by decide+kernel) (by decide+kernel) (by show _=_;decide+kernel) (by show U64 _;unfold U64;omega) (by decide+kernel) (by omega) (by decide+kernel) (by decide+kernel)
 rw [show aJ (aA (4607004064304983131:Nat)) (aQ (4607004064304983131:Nat)+0)=4607004064304983131 by decide+kernel] at this
 exact this
theorem QV (w:World):rkX 0 365 rqH=4607092795669978366:=by
 have e:opO .mul (some rqH) (some (rkT 0 365))=some 4576918229304087675:=by decide+kernel
 have a:lQ 13800290266158863483=some 4607092795669978366:=oQ (by decide) (by decide) w (PV w)
 have b:flipN 4576918229304087675=13800290266158863483:=by decide+kernel
 unfold rkX;rw [e]
 show (lQ (flipN 4576918229304087675)).getD 0=_
 rw [b,a];rfl
theorem QW (w:World):rkX 0 730 rqH=4607004064304983131:=by
 have e:opO .mul (some rqH) (some (rkT 0 730))=some 4581421828931458171:=by decide+kernel
 have a:lQ 13804793865786233979=some 4607004064304983131:=oQ (by decide) (by decide) w (PW w)
 have b:flipN 4581421828931458171=13804793865786233979:=by decide+kernel
 unfold rkX;rw [e]
 show (lQ (flipN 4581421828931458171)).getD 0=_
 rw [b,a];rfl
theorem PX (w:World):rqC.bm 0 rqH=4602589196042607870:=by
 show rkF 0 365 4602678819172646912 rqH=_
 unfold rkF;rw [QV w];decide+kernel
theorem QX (w:World):rqC.bm 1 rqH=4597996865050242139:=by
 show rkF 0 730 4598175219545276416 rqH=_
 unfold rkF;rw [QW w];decide+kernel
theorem NQ (w:World):∀ k<rqC.ds.length,bmB rqC k rqH=true:=fun k b=>by
 have a:k<2:=b;unfold bmB;rcases (show k=0\/k=1 by omega) with rfl | rfl
 ·rw [PX w];decide
 ·rw [QX w];decide
theorem Dz {d:Cv} {u:Nat} (k:d.Ok) (s:d.base=0) (j:d.ds=rqD) (n:d.fs.getD 0 0=u) (g:valF (zW 4607182418800017408 u+0)=u) (c:aM (u:Int)=true):prV rqL 1 d=u/\prE rqL 1 d=0:=by
 have e:=Fx k (i:=0) (by rw [j];decide)
 have a:d.ds.getD 0 0=365:=by rw [j];rfl
 rw [a] at e
 have r:d.V 365=u:=e.1.trans n;have q:d.E 365=0:=e.2;have l:FineP rqL 1 d:=⟨by decide,by decide,by decide,k,fun f c _=>by
  simp only [rqL,List.mem_cons,List.not_mem_nil,or_false] at c
  subst c;exact q⟩
 have h:wsI 1 d rqL=zW 4607182418800017408 u+0:=by
  have m:ctI 1 d ⟨365,4607182418800017408,1⟩=zW 4607182418800017408 u:=by
   unfold ctI tkB;rw [s,if_pos (by decide)];unfold prI;dsimp only;rw [r,Lj];rfl
  simp only [wsI,rqL];rw [m]
 have b:=PreR.ok l;have o:BI rqL 1 d=u:=by unfold BI;rw [h,g];unfold tldV;rw [if_pos c]
 have p:BJ rqL 1 d=0:=by unfold BJ;rw [h,g];unfold gM;rw [if_pos c]
 rw [o,p] at b
 exact QG b
abbrev rqY:Nat:=13795757939330957440
theorem rqP:prV rqL 1 rqC=4602678819172646912/\prE rqL 1 rqC=0:=Dz gj rfl rfl rfl (by decide+kernel) (by decide)
theorem Lm {d:Cv} (h:prV rqL 1 d=4602589196042607870/\prE rqL 1 d=0):rD rqL 1 d (prV rqL 1 rqC) 0=rqY/\rE rqL 1 d (prV rqL 1 rqC) 0=0:=by
 have e:chO rqL 1 d (prV rqL 1 rqC)=rqY:=by unfold chO;rw [h.1,rqP.1];decide+kernel
 unfold rD rE chV chE;rw [if_pos rfl,if_pos rfl,if_pos h.2,if_pos h.2,e];exact⟨by decide,by decide⟩
theorem Cq (w:World):(rqC.bump 0 rqH).fs.getD 0 0=4602589196042607870/\(rqC.bump 1 rqH).fs.getD 0 0=4602678819172646912/\(rqC.para rqH).fs.getD 0 0=4602589196042607870:=by
 refine⟨?_,?_,?_⟩
 ·rw [mn (by decide),if_pos rfl,PX w]
 ·rw [mn (by decide),if_neg (by decide)];rfl
 ·show (rqC.parL rqH 2).getD 0 0=_
  rw [vT rqC rqH 2 (by decide),if_pos (by decide),PX w]
theorem QH (w:World):lnV rqL 1 rqC rqH 0=rqY/\lnE rqL 1 rqC rqH 0=0/\lnV rqL 1 rqC rqH 1=0/\lnE rqL 1 rqC rqH 1=0:=by
 have g:=NQ w 0 (by decide)
 have e:=NQ w 1 (by decide)
 have i:bmE rqC 0 rqH=0:=by unfold bmE;rw [if_pos g]
 have h:bmE rqC 1 rqH=0:=by unfold bmE;rw [if_pos e]
 unfold lnV lnE;rw [i,h];obtain⟨a,b⟩:=Lm (Dz (Dv gj (by decide) g) rfl rfl (Cq w).1 (by decide+kernel) (by decide))
 have f:=Dz (Dv gj (by decide) e) rfl rfl (Cq w).2.1 (by decide+kernel) (by decide)
 obtain⟨c,d⟩:=NP rqP.2 (f.1.trans rqP.1.symm |> fun x=>⟨x,f.2.trans rqP.2.symm⟩)
 refine⟨a,b,?_,?_⟩
 ·unfold rD;rw [if_pos rfl];exact c
 ·unfold rE;rw [if_pos rfl];exact d
theorem QI (w:World):deV rqL 1 rqC rqH=rqY/\deE rqL 1 rqC rqH=0:=by
 have e:paE rqC rqH=0:=by unfold paE;rw [if_pos (NQ w)]
 unfold deV deE;rw [e];exact Lm (Dz (NF gj (NQ w)) rfl rfl (Cq w).2.2 (by decide+kernel) (by decide))
theorem NR (w:World):BmpR rqC 1 0 rqC 0:=by
 have:=BmpR.ok (c:=rqC) (h:=0) gj 1 (by decide) rfl (oR w gj mq (by decide)).2
 rw [Gp w gj mq (by decide)] at this
 exact this
theorem NS (w:World):ParR rqC 0 rqC 0:=by
 have:=ParR.ok (c:=rqC) (h:=0) gj (fun k a=>(oR w gj mq a).2)
 rw [Gq w gj mq] at this
 exact this
def akX:Obj:=.cells #[.int .i64 365,.int .i64 730] 3
def akY:Obj:=.cells #[.float .f64 4602678819172646912,.float .f64 4598175219545276416] 27
def akO:Obj:=.cells #[.int .i64 365,.float .f64 4607182418800017408,.int .i64 1] 51
structure AkB (w wr:World):Prop where
 bx:BxK wr (w.heap.size+1+1) 0 2 (.slice (some ⟨w.heap.size,0,none⟩) 2 2) (.slice (some ⟨w.heap.size+1,0,none⟩) 2 2)
 src:TFl wr (some ⟨w.heap.size,0,none⟩) (some ⟨w.heap.size+1,0,none⟩) w.heap.size 0 (w.heap.size+1) 0 rqD rqF
 bl:Below w.heap.size w wr
theorem AkB.step {w wr b:World} (h:AkB w wr) (a:Below wr.heap.size wr b):AkB w b:=⟨h.bx.step a,h.src.below a,h.bl.trans (a.mono h.bl.size)⟩
theorem ak3 (w:World):(((w.alloc akX).alloc akY).alloc au).heap[w.heap.size]? =some akX/\(((w.alloc akX).alloc akY).alloc au).heap[w.heap.size+1]? =some akY/\(((w.alloc akX).alloc akY).alloc au).heap[w.heap.size+1+1]? =some au/\Below w.heap.size w (((w.alloc akX).alloc akY).alloc au):=by
 have d:(w.alloc akX).heap.size=w.heap.size+1:=by simp
 have b:((w.alloc akX).alloc akY).heap.size=w.heap.size+1+1:=by simp
 have c:=(Below.refl (w.heap.size+1) (w.alloc akX)).alloc (by omega) akY
 have a:=(Below.refl (w.heap.size+1+1) ((w.alloc akX).alloc akY)).alloc (by omega) au
 refine⟨?_,?_,?_,(((Below.refl _ _).alloc (Nat.le_refl _) _).alloc (by omega) _).alloc (by omega) _⟩
 ·rw [a.block _ (by omega),c.block _ (by omega)];exact heap_alloc_new _ _
 ·rw [a.block _ (by omega),<- d];exact heap_alloc_new _ _
 ·rw [<- b];exact heap_alloc_new _ _
theorem PY {wr:World} {g c:Nat} (d:wr.heap[g]? =some akX) (a:wr.heap[c]? =some akY):TFl wr (some ⟨g,0,none⟩) (some ⟨c,0,none⟩) g 0 c 0 rqD rqF:=by
 unfold akX at d
 unfold akY at a
 refine⟨⟨fun _=>rfl,fun _=>(Array.getElem?_eq_some_iff.1 d).1,fun j b=>?_⟩,⟨fun _=>rfl,fun _=>(Array.getElem?_eq_some_iff.1 a).1,fun j b=>?_⟩,mq⟩
 ·have e:j<2:=b;rcases (show j=0\/j=1 by omega) with rfl | rfl
  all_goals
   simp only [World.cell?,d,Option.isSome_none,Bool.false_eq_true,if_false]
   rfl
 ·have e:j<2:=b;rcases (show j=0\/j=1 by omega) with rfl | rfl
  all_goals
   simp only [World.cell?,a,Option.isSome_none,Bool.false_eq_true,if_false]
   rfl
theorem PZ (w:World):JSrc aF (w.alloc akO) (some ⟨w.heap.size,0,none⟩) w.heap.size 0 rqL:=by
 have h:=heap_alloc_new w akO;refine⟨fun _=>rfl,fun _=>(Array.getElem?_eq_some_iff.1 h).1,fun i hi=>?_⟩
 have a:i<1:=hi;unfold akO at h
 obtain rfl:i=0:=by omega
 refine⟨?_,?_,?_⟩
 all_goals
  simp only [World.cell?,h,akO,Option.isSome_none,Bool.false_eq_true,if_false]
  rfl
theorem DA:eu rqL:=fun i=>by
 rcases (show i=0\/1<=i by omega) with rfl | h
 ·decide
 ·rw [List.getD_eq_getElem?_getD,List.getElem?_eq_none (by exact h)];decide
theorem DB (w:World):Calls Tryz.prog 6 #[] w fun e f=>e=.returned (.bool true)/\Below w.heap.size w f:=by
 obtain⟨D,B,I,O⟩:=ak3 w;obtain⟨w3,E⟩:∃ w3,((w.alloc akX).alloc akY).alloc au=w3:=⟨_,rfl⟩;rw [E] at D B I O
 unfold akX akY au at E
 obtain⟨u1,u2,u3,Y,⟨N,L,s⟩,⟨j,Q,y1⟩,⟨W,z2,y2⟩,⟨e3,X,y3⟩,r,m⟩:=bB (w.heap.size+1+1) 0 2 (.slice (some ⟨w.heap.size,0,none⟩) 2 2) (.slice (some ⟨w.heap.size+1,0,none⟩) 2 2) w3 I;have HA:Hid (AkB w Y):=⟨r,PY ((m.block _ (by omega)).trans D) ((m.block _ (by omega)).trans B),O.trans (m.mono (by omega))⟩
 have HJ:=hideS (PZ Y);have l:=hideS (HA.out.step ((Below.refl _ Y).alloc (Nat.le_refl _) akO));obtain⟨w5,v⟩:∃ w5,Y.alloc akO=w5:=⟨_,rfl⟩;rw [v] at HJ l
 unfold akO at v
 obtain⟨i,ai⟩:∃ i,Y.heap.size=i:=⟨_,rfl⟩;rw [ai] at HJ
 have q1:(FloatKind.f64.format.order 4598175219545276416 4598175219545276416==some .eq)=true:=by kernel_rfl
 have q2:(FloatKind.f64.format.order rqY 0==some .lt)=true:=by kernel_rfl
 have q3:(FloatKind.f64.format.order 0 0==some .eq)=true:=by kernel_rfl
 have q4:(FloatKind.f64.format.order rqY rqY==some .eq)=true:=by kernel_rfl
 have Z:Hid (∀ a,AkB w a->Calls Tryz.prog 18 #[.agg #[.int .i64 0,.int .i64 2,.slice (some ⟨w.heap.size,0,none⟩) 2 2,.slice (some ⟨w.heap.size+1,0,none⟩) 2 2],.int .i64 1,.float .f64 0] a fun e f=>CvO a rqC 0 e f):=fun a P=>tV rqC rqC 1 0 0 _ _ _ _ 2 _ _ 2 a (NR w) (by decide) P.src
 have S:Hid (∀ a,AkB w a->Calls Tryz.prog 19 #[.agg #[.int .i64 0,.int .i64 2,.slice (some ⟨w.heap.size,0,none⟩) 2 2,.slice (some ⟨w.heap.size+1,0,none⟩) 2 2],.float .f64 0] a fun e f=>CvO a rqC 0 e f):=fun a P=>tW rqC rqC 0 0 _ _ _ _ 2 _ _ 2 a (NS w) (by decide) P.src
 have ak:Hid (∀ a,AkB w a->JSrc aF a (some ⟨i,0,none⟩) i 0 rqL->Calls Tryz.prog 7 #[.slice (some ⟨i,0,none⟩) 1 1,.int .i64 1,.agg #[.int .i64 0,.int .i64 2,.slice (some ⟨w.heap.size,0,none⟩) 2 2,.slice (some ⟨w.heap.size+1,0,none⟩) 2 2],.float .f64 4576918229304087675] a fun e f=>∃ g,e=.returned (.tuple #[.slice (some ⟨g,0,none⟩) 2 2,.int .i64 0])/\f.cell? ⟨g,0,none⟩=some (.float .f64 rqY)/\f.cell? ⟨g,1,none⟩=some (.float .f64 0)/\g<f.heap.size/\Below a.heap.size a f):=fun a P hj=>by
  refine (rF rqL 1 rqC rqH (some ⟨i,0,none⟩) i 0 1 1 _ _ _ _ 2 _ _ 2 a (by decide) hj rfl (by decide) DA P.src).mono ?_
  rintro e f ⟨b,hb⟩;obtain⟨a1,a2,a3,a4⟩:=QH w;rcases b with⟨hn,_⟩| ⟨_,b⟩
  ·exact absurd rqP.2 hn
  ·rcases b with⟨k,hk,hE,_⟩| ⟨_,g,z,b⟩
   ·exfalso
    have bh:k<2:=hk;rcases (show k=0\/k=1 by omega) with rfl | rfl
    ·exact hE a2
    ·exact hE a4
   ·have hl:(List.range rqC.ds.length).map (lnV rqL 1 rqC rqH)=[rqY,0]:=by
     show [lnV rqL 1 rqC rqH 0,lnV rqL 1 rqC rqH 1]=_
     rw [a1,a3]
    rw [hl] at b
    obtain⟨g',c',e',hs,_⟩:=dO (xs:=[rqY,0]) b rfl (by decide)
    injection e' with j _ _;injection j with j;injection j with j;subst j;exact⟨g,z,hs.cell 0 (by decide),hs.cell 1 (by decide),hs.lt (by decide),hb⟩
 have V:Hid (∀ a,AkB w a->JSrc aF a (some ⟨i,0,none⟩) i 0 rqL->Calls Tryz.prog 13 #[.slice (some ⟨i,0,none⟩) 1 1,.int .i64 1,.agg #[.int .i64 0,.int .i64 2,.slice (some ⟨w.heap.size,0,none⟩) 2 2,.slice (some ⟨w.heap.size+1,0,none⟩) 2 2],.float .f64 4576918229304087675] a fun e f=>e=.returned (.tuple #[.float .f64 rqY,.int .i64 0])/\Below a.heap.size a f):=fun a P hj=>by
  refine (Gn rqL 1 rqC rqH (some ⟨i,0,none⟩) i 0 1 1 _ _ _ _ 2 _ _ 2 a (by decide) hj rfl (by decide) DA P.src).mono ?_
  rintro e f ⟨b,hb⟩;obtain⟨a1,a2⟩:=QI w;rcases b with⟨hn,_⟩| ⟨_,b⟩
  ·exact absurd rqP.2 hn
  ·rw [a1,a2] at b;exact⟨b,hb⟩
 clear D B I O r m;obtain⟨H,M,u,G⟩:=l.out.bx.t
 go_enter Tryz.func6,Tryz.ntmps6
 go_wp2_with fail
 clear E N L s j Q y1 W z2 y2 e3 X y3 v ai H M u G HA;refine (Z.out _ l.out).mono ?_
 intro e F b;obtain⟨gx,cx,gy,cy,z,hO⟩:=b.ok rfl;have A:e=.returned (.tuple #[.agg #[.int .i64 0,.int .i64 2,.slice (some ⟨gx,0,none⟩) 2 cx,.slice (some ⟨gy,0,none⟩) 2 cy],.int .i64 0]):=z;subst A;obtain⟨u1,u2,u3,bb,⟨N,L,s⟩,⟨j,Q,y1⟩,⟨W,z2,y2⟩,⟨e3,X,y3⟩,r,m⟩:=bB F.heap.size 0 2 (.slice (some ⟨gx,0,none⟩) 2 cx) (.slice (some ⟨gy,0,none⟩) 2 cy) (F.alloc au) (heap_alloc_new _ _);have c:Below F.heap.size F bb:=((Below.refl _ F).alloc (Nat.le_refl _) au).trans m;have n:=hideS ((l.out.step b.bl).step c);have al:=hideS ((HJ.out.below b.bl).below c);have ac:=hideS r;have ab:=hideS (hO.below c).src.y;obtain⟨w7,K⟩:∃ w7,F.alloc au=w7:=⟨_,rfl⟩;rw [K] at N L s
 unfold au at K
 obtain⟨H,M,u,G⟩:=n.out.bx.t;clear b hO m c r l Z HJ z
 go_wp2_with fail
 clear K N L s j Q y1 W z2 y2 e3 X y3 H M u G;generalize F.heap.size=gd at *
 refine (S.out _ n.out).mono ?_
 intro e C b;obtain⟨px,dx,py,dy,z,hO⟩:=b.ok rfl;have A:e=.returned (.tuple #[.agg #[.int .i64 0,.int .i64 2,.slice (some ⟨px,0,none⟩) 2 dx,.slice (some ⟨py,0,none⟩) 2 dy],.int .i64 0]):=z;subst A;obtain⟨v1,v2,v3,v4,⟨N,L,s⟩,⟨j,Q,y1⟩,⟨W,z2,y2⟩,⟨e3,X,y3⟩,r,m⟩:=bB C.heap.size 0 2 (.slice (some ⟨px,0,none⟩) 2 dx) (.slice (some ⟨py,0,none⟩) 2 dy) (C.alloc au) (heap_alloc_new _ _);have c:Below C.heap.size C v4:=((Below.refl _ C).alloc (Nat.le_refl _) au).trans m;have q:=hideS ((n.out.step b.bl).step c);have x:=hideS ((al.out.below b.bl).below c);have R:=hideS ((ac.out.step b.bl).step c);have U:=hideS ((ab.out.below b.bl).below c);have ad:=hideS r;obtain⟨w9,J⟩:∃ w9,C.alloc au=w9:=⟨_,rfl⟩;rw [J] at N L s
 unfold au at J
 obtain⟨H,M,u,G⟩:=q.out.bx.t;clear b hO m c r n S al ac ab z
 go_wp2_with fail
 clear J N L s j Q y1 W z2 y2 e3 X y3 H M u G;generalize C.heap.size=gp at *
 refine (ak.out _ q.out x.out).mono ?_
 rintro e wa ⟨g,rfl,k0,k1,kl,h⟩;have o:=hideS (q.out.step h);have am:=hideS (x.out.below h);have as:=hideS (R.out.step h);have T:=hideS (U.out.below h);have ba:=hideS (ad.out.step h);have HK:=hideS (And.intro k0 (And.intro k1 kl));clear h q x R U ad ak k0 k1 kl;obtain⟨H,M,u,G⟩:=o.out.bx.t
 go_wp2_with fail
 clear H M u G;refine (V.out _ o.out am.out).mono ?_
 rintro e wb ⟨rfl,d⟩;have bc:=hideS (o.out.step d).bl;obtain⟨_,_,_,d3⟩:=(as.out.step d).t;obtain⟨_,_,_,p3⟩:=(ba.out.step d).t;have c1:=(T.out.below d).cell 1 (by decide)
 have k0:=(d.cell (p:=⟨g,0,none⟩) HK.out.2.2).trans HK.out.1;have k1:=(d.cell (p:=⟨g,1,none⟩) HK.out.2.2).trans HK.out.2.1;have bi:wb.cell? ⟨gy,1,none⟩=some (.float .f64 4598175219545276416):=c1;clear d o am as T ba HK V c1
 go_wp2_with fail
 go_ret
 exact⟨rfl,bc.out⟩
structure CvS (wr:World) (d:Cv) (E b k:Int) (px py:Option Addr) (nx ny gx gy:Nat):Prop where
 ok:E=0->b=d.base/\k=d.kind/\nx=d.ds.length/\ny=d.fs.length/\TFl wr px py gx 0 gy 0 d.ds d.fs
 no:E≠0->b=0/\k=0/\px=none/\py=none/\nx=0/\ny=0
theorem CvS.step {wr g:World} {d:Cv} {E b k:Int} {j n:Option Addr} {nx m l i:Nat} (h:CvS wr d E b k j n nx m l i) (o:Below wr.heap.size wr g):CvS g d E b k j n nx m l i:=
 ⟨fun e=>by obtain⟨a,b,c,d,f⟩:=h.ok e;exact⟨a,b,c,d,f.below o⟩,h.no⟩
structure DvS (wr:World) (d:Cv) (E b k:Int) (px py:Option Addr) (bx ox nx ny gy:Nat):Prop where
 ok:E=0->b=d.base/\k=d.kind/\nx=d.ds.length/\ny=d.fs.length/\CSrcD wr px py bx ox gy 0 d.ds d.fs
 no:E≠0->b=0/\k=0/\px=none/\py=none/\nx=0/\ny=0
theorem DvS.step {wr l:World} {d:Cv} {E b k:Int} {o n:Option Addr} {i j nx g m:Nat} (h:DvS wr d E b k o n i j nx g m) (p:Below wr.heap.size wr l):DvS l d E b k o n i j nx g m:=
 ⟨fun e=>by obtain⟨a,b,c,d,f⟩:=h.ok e;exact⟨a,b,c,d,f.below p⟩,h.no⟩
theorem DvO.shp {w:World} {d:Cv} {E:Int} {v:Option Addr} {i j cx:Nat} {e:Ending} {n:World} (h:DvO w d E v i j cx e n):∃ (b k:Int) (l m:Option Addr) (nx p f u o:Nat),e=.returned (.tuple #[.agg #[.int .i64 b,.int .i64 k,.slice l nx p,.slice m f u],.int .i64 E])/\DvS n d E b k l m i j nx f o/\(E=0->w.heap.size<=o):=by
 by_cases c:E=0
 ·subst c;obtain⟨q,g,t,rfl,r,s⟩:=h.ok rfl;exact⟨_,_,_,_,_,cx,_,t,g,rfl,⟨fun _=>⟨rfl,rfl,rfl,rfl,r⟩,fun a=>absurd rfl a⟩,fun _=>s⟩
 ·exact⟨0,0,none,none,0,0,0,0,0,h.bad c,⟨fun e=>absurd e c,fun _=>⟨rfl,rfl,rfl,rfl,rfl,rfl⟩⟩,fun e=>absurd e c⟩
theorem VSrc.blk {w u:World} {p:Option Addr} {g o n:Nat} {f:Nat->Value} (h:VSrc w p g o n f) (e:u.heap[g]? =w.heap[g]?):VSrc u p g o n f:=
 ⟨h.at_,fun a=>(by
  obtain⟨x,c⟩:∃ x,w.heap[g]? =some x:=⟨_,Array.getElem?_eq_getElem (h.lt a)⟩
  rw [c] at e
  exact (Array.getElem?_eq_some_iff.1 e).1),fun j b=>(by
  rw [<- h.cell j b];simp only [World.cell?,e])⟩
def erK (a b c:Int):Int:=if a=0 then (if b=0 then c else b) else a
def LsD (w:World) (n:Nat) (X:Nat->Nat) (a:Nat->Int) (e:Ending) (c:World):Prop:=
 (∃ k<n,a k≠0/\(∀ j<k,a j=0)/\e=.returned (.tuple #[.slice none 0 0,.int .i64 (a k)]))\/
 ((∀ k<n,a k=0)/\∃ p b,e=.returned (.tuple #[.slice p n b,.int .i64 0])/\c.ownsRow w.heap.size 41 1 (.slice p n b) n (((List.range n).map X).map uV))
structure LdB (w:World) (base kind:Int) (vd vf:Value) (wr:World):Prop where
 k:DxK wr w.heap.size base kind vd vf
 bl:Below w.heap.size w wr
 sz:w.heap.size+1<=wr.heap.size
theorem LdB.step {w wr c:World} {base kind:Int} {d b:Value} (h:LdB w base kind d b wr) (a:Below wr.heap.size wr c):LdB w base kind d b c:=⟨h.k.step a,h.bl.trans (a.mono h.bl.size),Nat.le_trans h.sz a.size⟩
theorem LdB.stay {w wr c:World} {base kind:Int} {d b:Value} (h:LdB w base kind d b wr) (a:Below (w.heap.size+1) wr c):LdB w base kind d b c:=⟨⟨(a.block _ (by omega)).trans h.k.blk⟩,h.bl.trans (a.mono (by omega)),Nat.le_trans h.sz a.size⟩
theorem Gr (X:Nat->Nat) (k:Nat):(List.range (k+1)).map X=(List.range k).map X++[X k]:=by rw [List.range_succ,List.map_append];rfl
theorem vZ (cur base kind:Int) (h n V0:Nat) (D:Nat->Cv) (d f g:Nat->Int) (V1 X:Nat->Nat) (pl:Option Addr) (N cl:Nat) (s A:Option Addr) (bd od q y:Nat) (w:World) (hn:n<=255)
  (HG:Hid (∀ c,Below w.heap.size w c->Calls Tryz.prog 24 #[.slice pl N cl,.int .i64 cur,.agg #[.int .i64 base,.int .i64 kind,.slice s n q,.slice A n y],.int .u64 (h:Int)] c fun e u=>e=.returned (.tuple #[.int .u64 (V0:Int),.int .i64 0])/\Below c.heap.size c u))
  (Y:Hid (∀ k<n,∀ c,Below w.heap.size w c->Calls Tryz.prog 25 #[.agg #[.int .i64 base,.int .i64 kind,.slice s n q,.slice A n y],.int .i64 (k:Nat),.int .u64 (h:Int)] c fun e u=>DvO c (D k) (d k) s bd od q e u))
  (ab:Hid (∀ k<n,d k=0->∀ c b kk qx qy nx kx ny ky gy,DvS c (D k) (d k) b kk qx qy bd od nx ny gy->Below w.heap.size w c->Calls Tryz.prog 26 #[.slice pl N cl,.int .i64 cur,.agg #[.int .i64 b,.int .i64 kk,.slice qx nx kx,.slice qy ny ky]] c fun e u=>e=.returned (.tuple #[.int .u64 (V1 k:Nat),.int .i64 (f k)])/\Below c.heap.size c u))
  (T:Hid (∀ k<n,d k=0->f k=0->∀ c,Calls Tryz.prog 27 #[.int .u64 (V1 k:Nat),.int .u64 (V0:Int)] c fun e u=>e=.returned (.tuple #[.int .u64 (X k:Nat),.int .i64 (g k)])/\Below c.heap.size c u)) :
  Calls Tryz.prog 8 #[.slice pl N cl,.int .i64 cur,.agg #[.int .i64 base,.int .i64 kind,.slice s n q,.slice A n y],.int .u64 (h:Int)] w fun e u=>LsD w n X (fun k=>erK (d k) (f k) (g k)) e u/\Below w.heap.size w u:=by
 have P:=(Below.refl w.heap.size w).alloc (Nat.le_refl _) (.cells #[.int .i64 base,.int .i64 kind,.slice s n q,.slice A n y] 39);have m:Hid (LdB w base kind (.slice s n q) (.slice A n y) (w.alloc (.cells #[.int .i64 base,.int .i64 kind,.slice s n q,.slice A n y] 39))):=⟨Dy w _ _ _ _,P,by simp⟩
 obtain⟨w1,ad⟩:∃ w1,w.alloc (.cells #[.int .i64 base,.int .i64 kind,.slice s n q,.slice A n y] 39)=w1:=⟨_,rfl⟩;rw [ad] at m
 obtain⟨t0,t1,t2,t3⟩:=m.out.k.t;clear P
 go_enter Tryz.func8,Tryz.ntmps8
 go_wp2_with fail
 clear ad t0 t1 t2 t3;refine (HG.out _ m.out.bl).mono ?_
 rintro e w2 ⟨rfl,W⟩;have ak:=hideS (m.out.step W);clear W m HG
 go_wp2_with fail
 go_loopw [12,13,14,15,16,17] (fun r i _ _ _ _ wr=>∃ k:Nat,k<=n/\i=.int .i64 k/\Hid (∀ j<k,erK (d j) (f j) (g j)=0)/\Hid (wr.ownsRow (w.heap.size+1) 41 1 r k (((List.range k).map X).map uV))/\Hid (LdB w base kind (.slice s n q) (.slice A n y) wr)) (fun _ i _ _ _ _ _=>n - (intOf i).toNat)
 case atStart=>exact⟨0,Nat.zero_le _,rfl,fun j hj=>absurd hj (by omega),gF _ _,ak.out⟩
 case round=>
  clear ak;obtain⟨k,hk,rfl,K,HO,m⟩:=hrel;obtain⟨q0,g0,bi,rfl,_,_,_,_⟩:=bq HO.out (by simp)
  have t3:=m.out.k.t.2.2.2
  by_cases l:k<n
  ·obtain⟨t0,t1,t2,_⟩:=m.out.k.t;have l2:(k:Int)<(n:Int):=by omega
   go_wp2_with fail
   clear t0 t1 t2 t3;refine (Y.out k l _ m.out.bl).mono ?_
   intro e L ho;obtain⟨bb,bk,bc,bh,bo,al,bv,bs,bz,he,ac,_⟩:=ho.shp;subst he;obtain⟨x1,x2,x3,x4,⟨e0,z0,y0⟩,⟨e1,z1,y1⟩,⟨e2,z2,y2⟩,⟨e3,z3,y3⟩,hZ,O⟩:=jX L.heap.size bb bk (.slice bc bo al) (.slice bh bv bs) (L.alloc cY) (heap_alloc_new _ _);have G:Below L.heap.size L x4:=((Below.refl _ L).alloc (Nat.le_refl _) cY).trans O;have E:Below wr.heap.size wr x4:=ho.bl.trans (G.mono ho.bl.size);have z:=hideS (m.out.step E);have Q:=hideS (ao HO.out E);have R:=hideS (ac.step G);obtain⟨s0,s1,s2,s3⟩:=hZ.t;obtain⟨w4,H⟩:∃ w4,L.alloc cY=w4:=⟨_,rfl⟩;rw [H] at e0 z0 y0
   unfold cY at H
   clear ac ho hZ O G E m HO Y
   by_cases p:d k=0
   ·have d1:(d k !=0)=false:=by rw [p];rfl
    go_wp2_with fail
    clear H e0 z0 y0 e1 z1 y1 e2 z2 y2 e3 z3 y3;refine (ab.out k l p _ _ _ _ _ _ _ _ _ _ R.out z.out.bl).mono ?_
    rintro e w5 ⟨rfl,F⟩;have I:=hideS (z.out.step F);have S:=hideS (ao Q.out F);clear F z Q R ab s0 s1 s2 s3
    by_cases x:f k=0
    ·have d2:(f k !=0)=false:=by rw [x];rfl
     go_wp2_with fail
     refine (T.out k l p x _).mono ?_
     rintro e V ⟨rfl,B⟩;have U:=hideS (I.out.step B);have am:=hideS (ao S.out B);clear B I S T;have v:Hid (erK (d k) (f k) (g k)=g k):=by show _=_;unfold erK;rw [if_pos p,if_pos x]
     by_cases J:g k=0
     ·have d3:(g k !=0)=false:=by rw [J];rfl
      have br:Hid (∀ j<k+1,erK (d j) (f j) (g j)=0):=fun j hj=>by
       rcases Nat.lt_or_eq_of_le (Nat.le_of_lt_succ hj) with a | a
       ·exact K.out j a
       ·rw [a];exact v.out.trans J
      have HN:=hideS (Gr X k);have ai:Hid (∀ o,(V.alloc o).ownsRow (w.heap.size+1) 41 1 (.slice q0 k bi) k (((List.range k).map X).map uV)):=fun o=>ao am.out ((Below.refl _ V).alloc (Nat.le_refl _) o)
      have C:Hid (∀ o,LdB w base kind (.slice s n q) (.slice A n y) (V.alloc o)):=fun o=>U.out.step ((Below.refl _ V).alloc (Nat.le_refl _) o)
      clear p x J d1 d2 v K
      go_wp2_with (at_builtin;refine aH _ rfl (.tmp 65) (.tmp 67) rfl (w.heap.size+1) _ k ((List.range k).map X) rfl (ai.out _) V.heap.size (X k) rfl (by simp) (by omega) (C.out (.cells #[.int .u64 (X k:Int)] 41)).sz ?_;intro v6 w7 Z M;have as:=hideS ((C.out _).stay (aW (ai.out _) M (C.out (.cells #[.int .u64 (X k:Int)] 41)).sz));have ba:=hideS Z;clear Z M)
      go_roundw
      case rel=>exact⟨k+1,by omega,by simp,br,by show World.ownsRow _ _ _ _ _ _ _;rw [HN.out];exact ba.out,as.out⟩
      case measure=>simp [intOf];omega
     ·have d3:(g k !=0)=true:=bne_iff_ne.2 J;have HH:=hideS J;clear p x J d1 d2
      go_wp2_with fail
      go_ret2
      exact⟨Or.inl ⟨k,l,by show erK _ _ _≠0;rw [v.out];exact HH.out,K.out,by show _=Ending.returned (.tuple #[.slice none 0 0,.int .i64 (erK (d k) (f k) (g k))]);rw [v.out];rfl⟩,U.out.bl⟩
    ·have d2:(f k !=0)=true:=bne_iff_ne.2 x;have v:Hid (erK (d k) (f k) (g k)=f k):=by show _=_;unfold erK;rw [if_pos p,if_neg x]
     have HH:=hideS x;clear p x d1
     go_wp2_with fail
     go_ret2
     exact⟨Or.inl ⟨k,l,by show erK _ _ _≠0;rw [v.out];exact HH.out,K.out,by show _=Ending.returned (.tuple #[.slice none 0 0,.int .i64 (erK (d k) (f k) (g k))]);rw [v.out];rfl⟩,I.out.bl⟩
   ·have d1:(d k !=0)=true:=bne_iff_ne.2 p;have v:Hid (erK (d k) (f k) (g k)=d k):=by show _=_;unfold erK;rw [if_neg p]
    have HH:=hideS p;clear p
    go_wp2_with fail
    go_ret2
    exact⟨Or.inl ⟨k,l,by show erK _ _ _≠0;rw [v.out];exact HH.out,K.out,by show _=Ending.returned (.tuple #[.slice none 0 0,.int .i64 (erK (d k) (f k) (g k))]);rw [v.out];rfl⟩,z.out.bl⟩
  ·obtain rfl:k=n:=by omega
   have bx:¬ (k:Int)<(k:Int):=by omega
   go_wp2_with fail
   go_ret2
   exact⟨Or.inr ⟨K.out,_,_,rfl,fX HO.out (by omega)⟩,m.out.bl⟩
theorem rK (l:List Flw) (cur:Int) (c:Cv) (pl:Option Addr) (bl D C N:Nat) (k j:Option Addr) (bd s o G E m:Nat) (w:World) (f z v:Int) (A:ChkF l f z) (t:c.Chk v) (B:JSrc aB w pl bl D l) (H:l.length=N) (K:N<=30000) (y:eu l) (F:CSrcD w k j bd s G E c.ds c.fs) :
  Calls Tryz.prog 65 #[.slice pl N C,.int .i64 cur,.agg #[.int .i64 c.base,.int .i64 c.kind,.slice k c.ds.length o,.slice j c.fs.length m]] w fun e q=>e=.returned (.int .i64 (if f=0 then (if 1<=cur/\cur<=8 then v else 140) else f))/\Below w.heap.size w q:=by
 have HK:=hideS (fW w c.base c.kind (.slice k c.ds.length o) (.slice j c.fs.length m));have g:=hideS fun b (r:Below w.heap.size w b)=>rJ l pl bl D C N f z b (B.below r) H (by omega) y A
 have n:=hideS fun b=>mr cur b
 have x:=hideS fun b (r:Below w.heap.size w b)=>dw c.base c.kind k j bd s o G E m c.ds c.fs b (F.below r) t
 clear B H y F A t;generalize Value.slice k c.ds.length o=O at *
 generalize Value.slice j c.fs.length m=Q at *
 by_cases i:f=0
 ·rw [if_pos i];subst i
  by_cases d:1<=cur/\cur<=8
  ·rw [if_pos d];rw [decide_eq_true d] at n
   clear d
   go_enter Tryz.func65,Tryz.ntmps65
   go_wp2_with fail
   refine (g.out _ HK.out.bl).mono ?_
   rintro e u ⟨rfl,a⟩;have HK2:=hideS (HK.out.step a);clear a HK g;have M:=HK2.out.t0;have I:=HK2.out.t1;have J:=HK2.out.t2;have L:=HK2.out.t3
   go_wp2_with (go_at_call 106;refine (n.out _).mono ?_;rintro e q ⟨rfl,rfl⟩)
   clear M I J L;refine (x.out _ HK2.out.bl).mono ?_
   rintro e R ⟨rfl,h⟩;have p:=hideS (HK2.out.step h).bl;clear h HK2 x
   go_wp2_with fail
   go_ret
   exact⟨rfl,p.out⟩
  ·rw [if_neg d];rw [decide_eq_false d] at n
   clear d
   go_enter Tryz.func65,Tryz.ntmps65
   go_wp2_with fail
   refine (g.out _ HK.out.bl).mono ?_
   rintro e u ⟨rfl,a⟩;have HK2:=hideS (HK.out.step a);clear a HK g
   go_wp2_with (go_at_call 106;refine (n.out _).mono ?_;rintro e q ⟨rfl,rfl⟩)
   go_ret
   exact⟨rfl,HK2.out.bl⟩
 ·rw [if_neg i];have P:(f !=0)=true:=bne_iff_ne.2 i;clear i
  go_enter Tryz.func65,Tryz.ntmps65
  go_wp2_with fail
  refine (g.out _ HK.out.bl).mono ?_
  rintro e u ⟨rfl,a⟩;have HK2:=hideS (HK.out.step a);clear a HK g
  go_wp2_with fail
  go_ret
  exact⟨rfl,HK2.out.bl⟩
structure DO (w wr:World) (bs kd:Int) (vd vf:Value) (a:A.St) (k:Nat):Prop where
 c:wr.heap[w.heap.size]? =some (.cells #[.int .i64 bs,.int .i64 kd,vd,vf] 39)
 r:wr.heap[w.heap.size+1]? =some (.cells #[.int .i64 0,.bool false,.slice none 0 0,.int .i64 0] 85)
 h:Held w wr (w.heap.size+2) a k
theorem Cs {w wr d:World} {B k:Nat} {a:A.St} (h:Held w wr B a k) (b:Below wr.heap.size wr d):Held w d B a k:=by
 obtain⟨⟨neg,v,M,e,j,g,i,m⟩,c,l,f⟩:=h;exact⟨⟨neg,v,M,e,(b.block B f).trans j,g.below b,i,m⟩,c.trans (b.mono c.size),l,Nat.lt_of_lt_of_le f b.size⟩
theorem Gt {w wr:World} {B k b:Nat} {a:A.St} (h:Held w wr B a k) (i:k<=b):Held w wr B a b:=by
 obtain⟨⟨neg,v,M,e,g,d,f,m⟩,c,l,j⟩:=h;exact⟨⟨neg,v,M,e,g,d,f,m.mono i⟩,c,l,j⟩
theorem DO.below {w wr e:World} {i g:Int} {f d:Value} {a:A.St} {k:Nat} (h:DO w wr i g f d a k) (b:Below wr.heap.size wr e):DO w e i g f d a k:=
 ⟨(b.block _ (Array.getElem?_eq_some_iff.1 h.c).1).trans h.c,(b.block _ (Array.getElem?_eq_some_iff.1 h.r).1).trans h.r,Cs h.h b⟩
theorem DO.drewN {w wr:World} {e d:Int} {c b:Value} {a:A.St} {k:Nat} (h:DO w wr e d c b a k) (n:Nat):DO w (wr.drewN n) e d c b a k:=
 h.below (MZ (Below.refl _ _) n)
theorem DO.mono {w wr:World} {f e:Int} {d b:Value} {a:A.St} {k g:Nat} (h:DO w wr f e d b a k) (i:k<=g):DO w wr f e d b a g:=⟨h.c,h.r,Gt h.h i⟩
theorem DO.t {w wr:World} {g f:Int} {e d:Value} {a:A.St} {k:Nat} (h:DO w wr g f e d a k):wr.cell? ⟨w.heap.size,0,none⟩=some (.int .i64 g)/\wr.cell? ⟨w.heap.size,1,none⟩=some (.int .i64 f)/\wr.cell? ⟨w.heap.size,2,none⟩=some e/\wr.cell? ⟨w.heap.size,3,none⟩=some d:=by
 have b:=h.c;exact⟨by simp [World.cell?,b],by simp [World.cell?,b],by simp [World.cell?,b],by simp [World.cell?,b]⟩
theorem QJ (w:World) (d c:Int) (b a:Value):DO w (((w.alloc (.cells #[.int .i64 d,.int .i64 c,b,a] 39)).alloc (.cells #[.int .i64 0,.bool false,.slice none 0 0,.int .i64 0] 85)).alloc (.cells #[.int .i64 0,.bool false,.slice none 0 0,.int .i64 0] 85)) d c b a ⟨0,0⟩ 0:=by
 have f:(w.alloc (.cells #[.int .i64 d,.int .i64 c,b,a] 39)).heap.size=w.heap.size+1:=by simp
 have e:((w.alloc (.cells #[.int .i64 d,.int .i64 c,b,a] 39)).alloc (.cells #[.int .i64 0,.bool false,.slice none 0 0,.int .i64 0] 85)).heap.size=w.heap.size+2:=by simp
 have i:=(Below.refl _ w).alloc (Nat.le_refl _) (.cells #[.int .i64 d,.int .i64 c,b,a] 39);have h:=(Below.refl _ (w.alloc (.cells #[.int .i64 d,.int .i64 c,b,a] 39))).alloc (Nat.le_refl _) (.cells #[.int .i64 0,.bool false,.slice none 0 0,.int .i64 0] 85);have g:=(Below.refl _ ((w.alloc (.cells #[.int .i64 d,.int .i64 c,b,a] 39)).alloc (.cells #[.int .i64 0,.bool false,.slice none 0 0,.int .i64 0] 85))).alloc (Nat.le_refl _) (.cells #[.int .i64 0,.bool false,.slice none 0 0,.int .i64 0] 85);refine⟨?_,?_,⟨⟨false,.slice none 0 0,0,0,?_,Or.inl ⟨rfl,_,_,rfl⟩,gu _,DV.zero (by decide) 0⟩,?_,by omega,by simp⟩⟩
 ·rw [g.block _ (by rw [e];omega),h.block _ (by rw [f];omega)];exact heap_alloc_new _ _
 ·rw [g.block _ (by rw [e];omega),<- f];exact heap_alloc_new _ _
 ·rw [<- e];exact heap_alloc_new _ _
 ·exact i.trans ((h.mono (by rw [f];omega)).trans (g.mono (by rw [e];omega)))
theorem DO.put {w wr w1:World} {m o:Int} {i j:Value} {a0 a:A.St} {x k M:Nat} {s:Int} {neg:Bool} {v:Value} {e:Int} {r:Ending} (h:DO w wr m o i j a0 x) (B:wr.heap[w.heap.size+2]? =some (.cells #[.int .i64 s,.bool neg,v,.int .i64 e] 85 (0,0))) (q:From (w.heap.size+2+1) v) (n:cj wr v M a k r w1) :
  ∃ b p l c g,r=.returned (AV (a.s:Int) b (.slice p l c) g)/\Held4 w1 (w.heap.size+2) s neg v e/\DO w (put4 w1 (w.heap.size+2) (a.s:Int) b (.slice p l c) g) m o i j a k:=by
 have d:Below wr.heap.size wr w1:=by
  obtain⟨_,_,_,_,_,_,_,_,d⟩:=n;exact d
 obtain⟨b,p,l,c,g,z,y,t⟩:=xE B q h.h.bl h.h.lo h.h.lt n;have u:=h.h.lt;have f:Below (w.heap.size+2) wr (put4 w1 (w.heap.size+2) (a.s:Int) b (.slice p l c) g):=bT (d.mono (by omega)) (Nat.le_refl _)
 exact⟨b,p,l,c,g,z,y,⟨(f.block _ (by omega)).trans h.c,(f.block _ (by omega)).trans h.r,t⟩⟩
structure DOE (w:World) (S:Int) (E:Int) (N:Nat) (e:Ending) (w':World):Prop where
 ex:∃ neg v M ee,e=.returned (.tuple #[AV 0 neg v ee,.int .i64 E])/\DN w' v M/\DV 0 neg M ee S N
 bl:Below w.heap.size w w'
theorem Gu {x y:Nat} (b:az (x:Int)=true) (a:az (y:Int)=true):A.bn x y=A.fF (x:Int) (y:Int):=by
 unfold A.bn;rw [b,a];rfl
theorem DO.tail {w wr:World} {i m:Int} {d f:Value} {S:Int} {k:Nat} (h:DO w wr i m d f ⟨0,S⟩ k):∃ neg p l c M e,Held4 wr (w.heap.size+2) 0 neg (.slice p l c) e/\Held4 wr (w.heap.size+1) 0 false (.slice none 0 0) 0/\Held4 (put4 wr (w.heap.size+1) 0 neg (.slice p l c) e) (w.heap.size+1) 0 neg (.slice p l c) e/\DN (put4 wr (w.heap.size+1) 0 neg (.slice p l c) e) (.slice p l c) M/\DV 0 neg M e S k/\Below w.heap.size w (put4 wr (w.heap.size+1) 0 neg (.slice p l c) e):=by
 obtain⟨neg,v,M,e,g,a,b,j⟩:=h.h.ex;obtain⟨p,l,c,rfl⟩:=a.shape;exact⟨neg,p,l,c,M,e,dX g,dX h.r,dX (mH h.r),lG a b (by omega),j,bT h.h.bl (by omega)⟩
theorem DO.zero {w wr:World} {e d:Int} {c b:Value} {a:A.St} {k:Nat} (h:DO w wr e d c b a k):Held4 wr (w.heap.size+1) 0 false (.slice none 0 0) 0/\Held4 (put4 wr (w.heap.size+1) 0 false (.slice none 0 0) 0) (w.heap.size+1) 0 false (.slice none 0 0) 0/\Below w.heap.size w (put4 wr (w.heap.size+1) 0 false (.slice none 0 0) 0):=
 ⟨dX h.r,dX (mH h.r),bT h.h.bl (by omega)⟩
theorem zY (l:List Flw) (cur:Int) (c:Cv) (pl:Option Addr) (bl ol cl N:Nat) (pd pf:Option Addr) (bd od cd b2 o2 cf:Nat) (w:World) (E:Int) (hE:VisR l cur c E) (hl:JSrc aB w pl bl ol l) (hN:l.length=N) (cx:N<=900) (hf:eu l) (hs:CSrcD w pd pf bd od b2 o2 c.ds c.fs) (hv:c.Fit) :
  Calls Tryz.prog 44 #[.slice pl N cl,.int .i64 cur,.agg #[.int .i64 c.base,.int .i64 c.kind,.slice pd c.ds.length cd,.slice pf c.fs.length cf]] w fun e w'=>DOE w (if E=0 then wsI cur c l else 0) E N e w':=by
 obtain⟨E1,K1,h1⟩:=vG l;obtain⟨E2,h2⟩:=oJ c.base c.kind c.ds c.fs;have K:=hideS fun wx (R:Below w.heap.size w wx)=>rK l cur c pl bl ol cl N pd pf bd od cd b2 o2 cf wx E1 K1 E2 h1 h2 (hl.below R) hN (by omega) hf (hs.below R)
 have bz:=hideS fun x wx (R:Below w.heap.size w wx)=>ou c.base c.kind x (c.E x) (c.V x) pd pf bd od cd b2 o2 cf c.ds c.fs wx (hs.below R) (lU c.base c.kind c.ds c.fs x)
 have H0:=hideS (QJ w c.base c.kind (.slice pd c.ds.length cd) (.slice pf c.fs.length cf));have HE:=hideS hE;have HQ:=hideS hl;have HN:=hideS hN;have HF:=hideS hf;have HV:=hideS hv;have HP:Hid (0<N->pl=some ⟨bl,ol,none⟩):=fun h=>hl.at_ (by omega)
 have Z:=hideS h1;have H2:=hideS h2;clear hE hl hN hf hs h1 h2 hv;generalize Value.slice pd c.ds.length cd=vd at *
 generalize Value.slice pf c.fs.length cf=vf at *
 obtain⟨bs,ad⟩:∃ b,c.base=b:=⟨_,rfl⟩;obtain⟨kd,br⟩:∃ b,c.kind=b:=⟨_,rfl⟩;rw [ad,br] at K bz H0 ⊢
 have al:=hideS ad;clear ad br;obtain⟨SS,ba⟩:∃ S,(if E=0 then wsI cur c l else 0)=S:=⟨_,rfl⟩
 rw [ba];have Y:=hideS ba;clear ba;obtain⟨A,o⟩:∃ A:Int,(if E1=0 then (if 1<=cur/\cur<=8 then E2 else 140) else E1)=A:=⟨_,rfl⟩
 rw [o] at K
 have HA:=hideS o;clear o;obtain⟨z1,ct⟩:∃ z1,(w.alloc (.cells #[.int .i64 bs,.int .i64 kd,vd,vf] 39)).alloc (.cells #[.int .i64 0,.bool false,.slice none 0 0,.int .i64 0] 85)=z1:=⟨_,rfl⟩
 go_enter Tryz.func44,Tryz.ntmps44
 clear ct
 go_wp2_with fail
 refine (K.out _ H0.out.h.bl).mono ?_
 rintro e w2 ⟨rfl,bv⟩;have bb:=hideS (H0.out.below bv);clear bv H0 K
 by_cases F:A=0
 ·subst F;have cc:ChkF l 0 0/\(1<=cur/\cur<=8)/\c.Ok:=by
   have o:=HA.out
   by_cases e1:E1=0
   ·subst e1;rw [if_pos rfl] at o
    obtain rfl:=jT Z.out
    by_cases T:1<=cur/\cur<=8
    ·rw [if_pos T] at o
     subst o;exact⟨Z.out,T,jR H2.out⟩
    ·rw [if_neg T] at o;cases o
   ·rw [if_neg e1] at o;exact absurd o e1
  have m:=hideS cc;clear cc HA Z H2
  go_wp2_with fail
  go_loopw [10] (fun i wr=>∃ k:Nat,k<=N/\i=.int .i64 k/\Hid (∀ j<k,tkB cur c.base (l.getD j aD)=true->c.E (l.getD j aD).day=0)/\Hid (DO w wr bs kd vd vf ⟨0,wsI cur c (l.take k)⟩ k)) (fun i _=>N - (intOf i).toNat)
  case atStart=>exact⟨0,Nat.zero_le _,rfl,fun j hj=>by omega,bb⟩
  case round=>
   clear bb;obtain⟨k,hk,rfl,I,U⟩:=hrel
   by_cases G:k<N
   ·obtain rfl:=HP.out (by omega)
    obtain⟨c0,c1,c2⟩:=(HQ.out.below U.out.h.bl).cell k (by rw [HN.out];exact G)
    obtain⟨t0,t1,t2,t3⟩:=U.out.t;have B:=hideS (qM (cur:=cur) (c:=c) (l:=l) (k:=k) (by rw [HN.out];exact G))
    have cq:=hideS ((BG m.out.1).2 k (by rw [HN.out];exact G))
    have ak:=hideS (HF.out k);obtain⟨q,hq⟩:∃ q,l.getD k aD=q:=⟨_,rfl⟩;rw [hq] at c0 c1 c2 B cq ak
    have Hq:=hideS hq;clear hq;obtain⟨qd,qa,z⟩:=q;dsimp only [aB] at c0 c1 c2 ak
    by_cases ht:z=cur/\bs<=qd
    ·obtain⟨rfl,cs⟩:=ht;have o1:(z !=z)=false:=by simp
     have o2:decide (qd<bs)=false:=decide_eq_false (by omega)
     have ac:Hid (tkB z c.base ⟨qd,qa,z⟩=true):=by show _=_;unfold tkB;rw [al.out];simp;omega
     have am:=hideS (bz.out qd);obtain⟨FE,bc⟩:∃ x,c.E qd=x:=⟨_,rfl⟩;obtain⟨FV,ai⟩:∃ x,c.V qd=x:=⟨_,rfl⟩;rw [bc,ai] at am
     obtain⟨yi,as⟩:∃ yi:Int,yi=(FV:Int):=⟨_,rfl⟩;rw [<- as] at am
     have ci:=hideS as;clear as;have O:=hideS bc;have bi:=hideS ai;clear bc ai cs
     go_wp2_with fail
     go_quiet (fail)
     go_wp2_with fail
     go_region_with ((go_at_call 66;refine (am.out _ ((U.out.drewN _).h.bl)).mono ?_;rintro e w5 ⟨rfl,bx⟩;have H5:=hideS ((U.out.drewN _).below bx);clear bx))
     all_goals
      clear t0 t1 t2 t3 c0 c1 c2
      by_cases F:FE=0
      ·subst F;have y:Hid (∀ j<k+1,tkB z c.base (l.getD j aD)=true->c.E (l.getD j aD).day=0):=fun j hj hy=>by
        by_cases d:j<k
        ·exact I.out j d hy
        ·obtain rfl:j=k:=by omega
         rw [Hq.out];exact O.out
       obtain⟨C,_,_⟩:=Cv.num m.out.2.2 HV.out O.out;have bh:=Cv.splV m.out.2.2 HV.out O.out;rw [bi.out] at C bh
       obtain⟨c0,c1,c2⟩:=(HQ.out.below H5.out.h.bl).cell k (by rw [HN.out];exact G)
       rw [Hq.out] at c0 c1 c2
       dsimp only [aB] at c0 c1 c2
       obtain⟨neg,va,M,ee,R,L,cm,cp⟩:=H5.out.h.ex;have h4:=dX R;obtain⟨xi,P⟩:∃ xi:Int,xi=(qa:Int):=⟨_,rfl⟩;have cr:=hideS (Ob 0 neg va M ee _ k qa FV xi yi w5.drew (L.drewN 1) cp (oE (by omega)) (by rw [P];exact ag ak.out) (by rw [ci.out];exact ag C) P ci.out)
       have e3:(⟨0,wsI z c (l.take k)⟩:A.St).merge (A.bn qa FV)=⟨0,wsI z c (l.take (k+1))⟩:=by
        rw [B.out,Dt ac.out,Gu (Kj cq.out) bh,zc rfl];unfold prI;rw [bi.out]
       rw [e3] at cr
       have bk:=hideS fun w1 r (u:cj w5.drew va M ⟨0,wsI z c (l.take (k+1))⟩ (k+1) r w1)=>DO.put (H5.out.drewN 1) R cm u
       obtain⟨pa,la,ca,rfl⟩:=L.shape;have q0:=h4.c0;have q1:=h4.c1;have q2:=h4.c2;have q3:=h4.c3;rw [<- P] at c1
       clear C bh R L cm cp h4 e3 P c0 c2 ac B
       go_wp2_with fail
       go_region_with ((go_at_call 67;refine cr.out.mono ?_;intro r w1 u;obtain⟨cv,p4,l4,c4,Q,rfl,J,hH⟩:=bk.out w1 r u;have HH:=hideS hH;have k0:=J.c0;have k1:=J.c1;have k2:=J.c2;have k3:=J.c3;have l0:=J.f0;have l1:=J.f1;have l2:=J.f2;have l3:=J.f3;clear u hH J))
       all_goals
        go_wp2_with fail
        go_roundw
        case rel=>exact⟨k+1,by omega,by simp,y,HH⟩
        case measure=>simp [intOf];omega
      ·have X:Hid (E=FE):=bN HE.out (.fac m.out.1 m.out.2.1 m.out.2.2 k (by rw [HN.out];exact G) (by rw [Hq.out];exact ac.out) FE (by rw [Hq.out];exact O.out) F I.out)
       have d1:(FE !=0)=true:=bne_iff_ne.2 F;have Hz:=hideS F;clear F;obtain⟨f,g,p⟩:=H5.out.zero;have r0:=f.c0;have r1:=f.c1;have r2:=f.c2;have r3:=f.c3;have y0:=f.f0;have y1:=f.f1;have y2:=f.f2;have y3:=f.f3;have a:=hideS p;obtain⟨W,s⟩:∃ W,put4 w5 (w.heap.size+1) 0 false (.slice none 0 0) 0=W:=⟨_,rfl⟩;rw [s] at g a
       unfold put4 at s
       have p0:=g.c0;have p1:=g.c1;have p2:=g.c2;have p3:=g.c3;clear f g p
       go_wp2_with fail
       refine bodyPost_ret (v:=.tuple #[AV 0 false (.slice none 0 0) 0,.int .i64 FE]) (by simp [results,Tryz.results44,go_sem,p0,p1,p2,p3]) rfl ?_
       exact⟨⟨false,_,0,0,by rw [X.out],Or.inl ⟨rfl,_,_,rfl⟩,by rw [<- Y.out,X.out,if_neg Hz.out];exact DV.zero (by decide) N⟩,a.out⟩
    ·have bo:Hid (∀ n,DO w (wr.drewN n) bs kd vd vf ⟨0,wsI cur c (l.take (k+1))⟩ (k+1)):=fun n=>by
      rw [B.out,Ki (by unfold tkB;rw [al.out];simp;omega),Int.add_zero]
      exact (U.out.mono (by omega)).drewN n
     have y:Hid (∀ j<k+1,tkB cur c.base (l.getD j aD)=true->c.E (l.getD j aD).day=0):=fun j hj hy=>by
      by_cases d:j<k
      ·exact I.out j d hy
      ·obtain rfl:j=k:=by omega
       rw [Hq.out] at hy
       unfold tkB at hy
       rw [al.out] at hy
       simp at hy;omega
     by_cases ab:z=cur
     ·subst ab;have o1:(z !=z)=false:=by simp
      have o2:decide (qd<bs)=true:=decide_eq_true (by omega)
      clear ht B U
      go_wp2_with fail
      go_quiet (fail)
      clear t0 t1 t2 t3 c0 c1 c2
      go_wp2_with fail
      go_roundw
      case rel=>exact⟨k+1,by omega,by simp,y,bo.out _⟩
      case measure=>simp [intOf];omega
     ·have o1:(z !=cur)=true:=bne_iff_ne.2 ab;clear ht B U ab
      go_wp2_with fail
      go_quiet (fail)
      clear t0 t1 t2 t3 c0 c1 c2
      go_wp2_with fail
      go_roundw
      case rel=>exact⟨k+1,by omega,by simp,y,bo.out _⟩
      case measure=>simp [intOf];omega
   ·obtain rfl:k=N:=by omega
    have X:Hid (E=0):=bN HE.out (.ok m.out.1 m.out.2.1 m.out.2.2 (fun i hi=>I.out i (by rw [HN.out] at hi;exact hi)))
    have cu:Hid (wsI cur c (l.take k)=wsI cur c l):=by show _=_;rw [<- HN.out,List.take_length]
    obtain⟨neg,p4,l4,c4,M4,Q,D,f,g,L,H,p⟩:=U.out.tail;have a0:=D.c0;have a1:=D.c1;have a2:=D.c2;have a3:=D.c3;have r0:=f.c0;have r1:=f.c1;have r2:=f.c2;have r3:=f.c3;have y0:=f.f0;have y1:=f.f1;have y2:=f.f2;have y3:=f.f3;have a:=hideS (And.intro L (And.intro H p));obtain⟨W,s⟩:∃ W,put4 wr (w.heap.size+1) 0 neg (.slice p4 l4 c4) Q=W:=⟨_,rfl⟩;rw [s] at g a
    unfold put4 at s
    have p0:=g.c0;have p1:=g.c1;have p2:=g.c2;have p3:=g.c3;clear D f g L H p
    go_wp2_with fail
    refine bodyPost_ret (v:=.tuple #[AV 0 neg (.slice p4 l4 c4) Q,.int .i64 0]) (by simp [results,Tryz.results44,go_sem,p0,p1,p2,p3]) rfl ?_
    exact⟨⟨neg,_,M4,Q,by rw [X.out],a.out.1,by rw [<- Y.out,X.out,if_pos rfl,<- cu.out];exact a.out.2.1⟩,a.out.2.2⟩
 ·have X:Hid (E=A):=by
   show _=_
   have o:=HA.out
   by_cases e1:E1=0
   ·subst e1;rw [if_pos rfl] at o
    have hK:=jT Z.out;subst hK
    by_cases T:1<=cur/\cur<=8
    ·rw [if_pos T] at o
     subst o;exact bN HE.out (.curve Z.out T E2 H2.out F)
    ·rw [if_neg T] at o
     rw [<- o];exact bN HE.out (.cur Z.out T)
   ·rw [if_neg e1] at o
    rw [<- o];exact bN HE.out (.flow E1 K1 Z.out e1)
  have d1:(A !=0)=true:=bne_iff_ne.2 F;have Hz:=hideS F;clear F;obtain⟨neg,p4,l4,c4,M4,Q,D,f,g,L,H,p⟩:=bb.out.tail;have a0:=D.c0;have a1:=D.c1;have a2:=D.c2;have a3:=D.c3;have r0:=f.c0;have r1:=f.c1;have r2:=f.c2;have r3:=f.c3;have y0:=f.f0;have y1:=f.f1;have y2:=f.f2;have y3:=f.f3;have a:=hideS (And.intro L (And.intro H p));obtain⟨W,s⟩:∃ W,put4 w2 (w.heap.size+1) 0 neg (.slice p4 l4 c4) Q=W:=⟨_,rfl⟩;rw [s] at g a
  unfold put4 at s
  have p0:=g.c0;have p1:=g.c1;have p2:=g.c2;have p3:=g.c3;clear D f g L H p
  go_wp2_with fail
  refine bodyPost_ret (v:=.tuple #[AV 0 neg (.slice p4 l4 c4) Q,.int .i64 A]) (by simp [results,Tryz.results44,go_sem,p0,p1,p2,p3]) rfl ?_
  exact⟨⟨neg,_,M4,Q,by rw [X.out],a.out.1,by rw [<- Y.out,X.out,if_neg Hz.out];exact a.out.2.1.mono (Nat.zero_le _)⟩,a.out.2.2⟩
end Go.Proofs.YtfdddijdjpijbaaGreat
