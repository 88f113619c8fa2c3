/-  -/
import Derived.Test.YtfdddijdjpijbaaGreatHbt
import Derived.Test.YtfdddijdjpijbaaGreatHat
import Derived.Test.YtfdddijdjpijbaaGreatHba
import Derived.Test.YtfdddijdjpijbaaGreatHbr
import Derived.Test.YtfdddijdjpijbaaGreatHbq
import Derived.Deep.QuietTactic
import Derived.Test.YtfdddijdjpijbaaGreatHbn
import Derived.Test.YtfdddijdjpijbaaGreatHbe
import Derived.Test.YtfdddijdjpijbaaGreatHbk
set_option maxHeartbeats 12800000
set_option maxRecDepth 40000
namespace Go.Proofs.YtfdddijdjpijbaaGreat
open Go.RowKit
open Classical in
noncomputable def paE (c:Cv) (h:Nat):Int:=if ∀ k<c.ds.length,bmB c k h=true then 0 else 91
theorem PT {c:Cv} {h:Nat} (e:c.Ok):∃ d,ParR c h d (paE c h)/\(paE c h=0->d=c.para h/\∀ k<c.ds.length,bmB c k h=true):=by
 unfold paE
 by_cases b:∀ k<c.ds.length,bmB c k h=true
 ·rw [if_pos b];exact⟨_,.ok e b,fun _=>⟨rfl,b⟩⟩
 ·rw [if_neg b];obtain⟨K,l,f,g⟩:=jm (p:=fun k=>!bmB c k h) c.ds.length
  have a:K<c.ds.length:=Classical.byContradiction fun m=>b fun k n=>by have:=f k (by omega);simpa using this
  exact⟨_,.val e K a (by have:=g a;simpa using this) (fun j i=>by have:=f j i;simpa using this),fun h=>absurd h (by decide)⟩
noncomputable def deV (l:List Flw) (cur:Int) (c:Cv) (h:Nat):Nat:=rD l cur (c.para h) (prV l cur c) (paE c h)
noncomputable def deE (l:List Flw) (cur:Int) (c:Cv) (h:Nat):Int:=rE l cur (c.para h) (prV l cur c) (paE c h)
theorem Gl (h:Nat) (w:World) :
  Calls Tryz.prog 30 #[.float .f64 h] w fun e c=>e=.returned (.func (.func 46) #[] #[.pointer (some ⟨w.heap.size,0,none⟩)])/\c.cell? ⟨w.heap.size,0,none⟩=some (.float .f64 h)/\w.heap.size<c.heap.size/\Below w.heap.size w c:=
 (Cl h w).mono fun e c ⟨a,b⟩=>by
  subst b;exact⟨a,cP w _ _ 0,by simp,(Below.refl _ _).alloc (Nat.le_refl _) _⟩
theorem NL (c d:Cv) (h a:Nat) (E:Int) (g f:Option Addr) (bd i k m j l:Nat) (w:World) (n:ParR c h d E) (s:h<18446744073709551616) (hc:w.cell? ⟨a,0,none⟩=some (.float .f64 h)) (b:a<w.heap.size) (t:TFl w g f bd i m j c.ds c.fs) :
  BmC 46 #[.pointer (some ⟨a,0,none⟩)] c.base c.kind (.slice g c.ds.length k) (.slice f c.fs.length l) w d E:=fun r e=>
 Gk c d h a E _ _ r ((e.cell (p:=⟨a,0,none⟩) b).trans hc) (Nat.lt_of_lt_of_le b e.size) (fun q o=>tW c d h E g f bd i k m j l q n s (t.below (e.trans (o.mono e.size))))
theorem Co (cur base kind E:Int) (h:Nat) (r g j:Value) (w:World) (s:E≠0) (n:Hid (∀ i,Below w.heap.size w i->Calls Tryz.prog 20 #[r,.int .i64 cur,.agg #[.int .i64 base,.int .i64 kind,g,j]] i fun e l=>e=.returned (.tuple #[.agg #[.slice none 0 0,.int .i64 0,.int .i64 0,.int .i64 0,.slice none 0 0,.slice none 0 0,.float .f64 0],.int .i64 E])/\Below i.heap.size i l)) :
  Calls Tryz.prog 13 #[r,.int .i64 cur,.agg #[.int .i64 base,.int .i64 kind,g,j],.float .f64 h] w fun e l=>e=.returned (.tuple #[.float .f64 0,.int .i64 E])/\Below w.heap.size w l:=by
 have H:(E !=0)=true:=bne_iff_ne.2 s;have a:=hideS (bH w base kind g j);obtain⟨q,d⟩:∃ q,w.alloc (.cells #[.int .i64 base,.int .i64 kind,g,j] 26)=q:=⟨_,rfl⟩;rw [d] at a
 have y:=a.out.t0;have t:=a.out.t1;have B:=a.out.t2;have v:=a.out.t3;clear s
 go_enter Tryz.func13,Tryz.ntmps13
 go_wp2_with fail
 clear d y t B v;refine (n.out _ a.out.bl).mono ?_
 rintro e m ⟨rfl,f⟩;have b:=hideS (a.out.step f);clear f n a;obtain⟨N,u2,u3,O,P,S,z,⟨A,C,D⟩,⟨Y,M,X⟩,⟨U,Q,Z⟩,⟨V,T,I⟩,⟨K,F,J⟩,⟨L,W,G⟩,⟨R,z6,y6⟩,x,o⟩:=jY m.heap.size (.slice none 0 0) 0 0 0 (.slice none 0 0) (.slice none 0 0) 0 (m.alloc bC) (heap_alloc_new _ _);have k:Hid (Below w.heap.size w z):=(b.out.bl.alloc b.out.bl.size bC).trans (o.mono b.out.bl.size);obtain⟨p,c⟩:∃ p,m.alloc bC=p:=⟨_,rfl⟩;rw [c] at A C D
 unfold bC at c
 have u:=cg;clear x o
 go_wp2_with fail
 go_ret2
 exact⟨rfl,k.out⟩
theorem Gm (cur base kind:Int) (h n V0:Nat) (X:Nat) (U:Int) (pl:Option Addr) (q N:Nat) (k l:Option Addr) (i j m:Nat) (w:World)
  (K:Hid (∀ b,Below w.heap.size w b->Calls Tryz.prog 20 #[.slice pl N q,.int .i64 cur,.agg #[.int .i64 base,.int .i64 kind,.slice k n i,.slice l m j]] b fun e z=>e=.returned (.tuple #[.agg #[.slice pl N q,.int .i64 cur,.int .i64 base,.int .i64 kind,.slice k n i,.slice l m j,.float .f64 V0],.int .i64 0])/\Below b.heap.size b z))
  (HG:Hid (∀ b I,Below w.heap.size w b->b.cell? ⟨I,0,none⟩=some (.float .f64 h)->I<b.heap.size->Calls Tryz.prog 29 #[.agg #[.slice pl N q,.int .i64 cur,.int .i64 base,.int .i64 kind,.slice k n i,.slice l m j,.float .f64 V0],.func (.func 46) #[] #[.pointer (some ⟨I,0,none⟩)]] b fun e z=>e=.returned (.tuple #[.float .f64 X,.int .i64 U])/\Below b.heap.size b z)) :
  Calls Tryz.prog 13 #[.slice pl N q,.int .i64 cur,.agg #[.int .i64 base,.int .i64 kind,.slice k n i,.slice l m j],.float .f64 h] w fun e z=>e=.returned (.tuple #[.float .f64 X,.int .i64 U])/\Below w.heap.size w z:=by
 have f:=hideS (bH w base kind (.slice k n i) (.slice l m j));obtain⟨T,A⟩:∃ T,w.alloc (.cells #[.int .i64 base,.int .i64 kind,.slice k n i,.slice l m j] 26)=T:=⟨_,rfl⟩;rw [A] at f
 have t0:=f.out.t0;have t1:=f.out.t1;have t2:=f.out.t2;have Y:=f.out.t3
 go_enter Tryz.func13,Tryz.ntmps13
 go_wp2_with fail
 clear A t0 t1 t2 Y;refine (K.out _ f.out.bl).mono ?_
 rintro e B ⟨rfl,y⟩;have o:=hideS (f.out.step y);clear y K f;obtain⟨u1,u2,u3,u4,u5,u6,C,⟨P,M,Q⟩,⟨e1,z1,y1⟩,⟨e2,W,y2⟩,⟨e3,z3,y3⟩,⟨e4,z4,y4⟩,⟨e5,z5,V⟩,⟨e6,Z,y6⟩,L,O⟩:=jY B.heap.size (.slice pl N q) cur base kind (.slice k n i) (.slice l m j) V0 (B.alloc bC) (heap_alloc_new _ _);have J:=hideS L;have c:Hid (Below w.heap.size w C):=o.out.bl.trans ((((Below.refl _ B).alloc (Nat.le_refl _) bC).trans O).mono o.out.bl.size);have D:=hideS (Gl h);obtain⟨S,p⟩:∃ S,B.alloc bC=S:=⟨_,rfl⟩;rw [p] at P M Q
 unfold bC at p
 have G:=cg;clear L O o
 go_wp2_with fail
 clear p P M Q e1 z1 y1 e2 W y2 e3 z3 y3 e4 z4 y4 e5 z5 V e6 Z y6 G;obtain⟨s0,s1,s2,s3,s4,s5,s6⟩:=J.out.t;generalize B.heap.size=g at *
 go_region_held3 (fun x=>x.cell? ⟨g,0,none⟩=some (.slice pl N q)/\x.cell? ⟨g,1,none⟩=some (.int .i64 cur)/\x.cell? ⟨g,2,none⟩=some (.int .i64 base)/\x.cell? ⟨g,3,none⟩=some (.int .i64 kind)/\x.cell? ⟨g,4,none⟩=some (.slice k n i)/\x.cell? ⟨g,5,none⟩=some (.slice l m j)/\x.cell? ⟨g,6,none⟩=some (.float .f64 V0)) (first | go_keep | exact E.out.t | exact F.out.t) (first | (go_at_call 30;refine (D.out _).mono ?_;rintro e R ⟨rfl,v,r,a⟩;have d:Hid (Below C.heap.size C R):=⟨a.os,a.tape,a.output,a.size,a.block⟩;have F:=hideS (J.out.step d.out);have H:=hideS (HG.out R C.heap.size (c.out.trans (d.out.mono c.out.size)) v r);clear a v r) | (go_at_call 29;refine H.out.mono ?_;rintro e w6 ⟨rfl,u⟩;have s:=hideS (d.out.trans (u.mono d.out.size));have E:=hideS (J.out.step s.out);clear u))
 all_goals
  go_wp2_with fail
  go_ret2
  exact⟨rfl,c.out.trans (s.out.mono c.out.size)⟩
theorem Gn (l:List Flw) (cur:Int) (c:Cv) (h:Nat) (pl:Option Addr) (bl t p N:Nat) (j i:Option Addr) (bd q m s r o:Nat) (w:World) (F:h<18446744073709551616) (A:JSrc aF w pl bl t l) (z:l.length=N) (g:N<=30000) (v:eu l) (x:TFl w j i bd q s r c.ds c.fs) :
  Calls Tryz.prog 13 #[.slice pl N p,.int .i64 cur,.agg #[.int .i64 c.base,.int .i64 c.kind,.slice j c.ds.length m,.slice i c.fs.length o],.float .f64 h] w fun e y=>((prE l cur c≠0/\e=.returned (.tuple #[.float .f64 0,.int .i64 (prE l cur c)]))\/(prE l cur c=0/\e=.returned (.tuple #[.float .f64 (deV l cur c h),.int .i64 (deE l cur c h)])))/\Below w.heap.size w y:=by
 by_cases f:prE l cur c=0
 ·have B:=prR l cur c;rw [f] at B
  have H:=(gh f).1.ok;obtain⟨d,D,J⟩:=PT (h:=h) H;refine (Gm cur c.base c.kind h c.ds.length (prV l cur c) (deV l cur c h) (deE l cur c h) pl p N j i m o c.fs.length w (fun n k=>zN l cur c pl bl t p N j i bd q m s r o n _ B (A.below k) z g v (x.below k)) (fun n k C I u=>?_)).mono ?_
  ·have:=nZ 46 _ l d (paE c h) cur c.base c.kind pl bl t p N (.slice j c.ds.length m) (.slice i c.fs.length o) (prV l cur c) n (gh f).2.2.1 Ck (NL c d h k (paE c h) j i bd q m s r o n D F I u (x.below C)) (A.below C) z g v;obtain⟨G,E⟩:=Le (l:=l) (cur:=cur) (V0:=prV l cur c) (fun e=>(J e).1)
   rw [G,E] at this
   exact this
  ·rintro e y ⟨a,b⟩;exact⟨Or.inr ⟨f,a⟩,b⟩
 ·refine (Co cur c.base c.kind (prE l cur c) h _ _ _ w f (fun n k=>tX l cur c pl bl t p N j i bd q m s r o n _ _ (prR l cur c) f (A.below k) z g v (x.below k))).mono ?_
  rintro e y ⟨a,b⟩;exact⟨Or.inl ⟨f,a⟩,b⟩
theorem NP {l:List Flw} {cur:Int} {c d:Cv} (a:prE l cur c=0) (h:prV l cur d=prV l cur c/\prE l cur d=prE l cur c):chV l cur d (prV l cur c)=0/\chE l cur d (prV l cur c)=0:=by
 obtain⟨_,_,b,_⟩:=gh a;have e:chO l cur d (prV l cur c)=0:=by unfold chO;rw [h.1,sub_self (cC b)];rfl
 unfold chV chE;rw [h.2,a,if_pos rfl,if_pos rfl,e];exact⟨by decide,by decide⟩
theorem Lh (a:World) {base d:Int} (b:af (rkT base d)):rkX base d 0=4607182418800017408:=by
 have e:opO .mul (some 0) (some (rkT base d))=some (wrd (sB 0^^sB (rkT base d)) 0):=by
  show floatBits .mul .f64 0 (rkT base d)=_
  rw [fP (by unfold af;decide) b,show aV 0=0 by decide+kernel,Nat.zero_mul];rfl
 unfold rkX;rw [e,NO a];rfl
theorem Li {f:Nat} (hn:af f) (h:f<18446744073709551616) (d:0<ae (f:Nat)):floatBits .mul .f64 f 4607182418800017408=some f:=by
 obtain⟨a,l⟩:=ru hn h d;have i:f<9223372036854775808:=by
  unfold sB at a
  simp at a
  omega
 have c:f<9218868437227405312:=by unfold af at hn;omega
 rw [fP hn (by unfold af;decide),a,show sB 4607182418800017408=false by decide]
 obtain⟨K,b⟩:∃ K:Nat,K=1074:=⟨_,rfl⟩;have j:aV 4607182418800017408=2^K:=by subst b;decide+kernel
 have k:aV f=V f:=by unfold aV;rw [Nat.mod_eq_of_lt i]
 have g:V f≠0:=by
  intro e;have:=jK c 0;rw [e,Nat.zero_mul,ie (by decide)] at this
  omega
 unfold mulR;rw [j,k,if_neg (by have:=Nat.two_pow_pos K;exact Nat.mul_ne_zero g (by omega))]
 have:=jK c K;rw [show (-1074 - (K:Int))= -2148 by rw [b];decide] at this
 rw [this];rfl
theorem oR (d:World) {c:Cv} {k:Nat} (a:c.Ok) (i:c.Fit) (b:k<c.ds.length):c.bm k 0=c.fs.getD k 0/\bmB c k 0=true:=by
 obtain⟨j,l⟩:=a.day b;have n:=a.b0;obtain⟨h,m⟩:=oP j (by omega)
 obtain⟨f,g⟩:=a.fac b;have e:c.bm k 0=c.fs.getD k 0:=by
  unfold Cv.bm rkF;rw [Lh d h,Li f (i k (by rw [a.len];exact b)) g];rfl
 refine⟨e,?_⟩
 unfold bmB;rw [e,a.rkB b];decide
theorem zV {l:List Nat} {k:Nat} (a:k<l.length):l.set k (l.getD k 0)=l:=by
 apply List.ext_getElem?;intro j;rw [List.getElem?_set]
 by_cases e:k=j
 ·subst e;rw [if_pos rfl,if_pos a,List.getD_eq_getElem?_getD,List.getElem?_eq_getElem a];rfl
 ·rw [if_neg e]
theorem Gp (d:World) {c:Cv} {k:Nat} (a:c.Ok) (e:c.Fit) (b:k<c.ds.length):c.bump k 0=c:=by
 unfold Cv.bump;rw [(oR d a e b).1,zV (by rw [a.len];exact b)]
theorem tY (b:World) {c:Cv} (a:c.Ok) (d:c.Fit):∀ k≤c.ds.length,c.parL 0 k=c.fs
 | 0,_=>rfl
 | k+1,hk=>by
  rw [Cv.parL,tY b a d k (by omega),(oR b a d (k:=k) (by omega)).1,zV (by rw [a.len];omega)]
theorem Gq (d:World) {c:Cv} (b:c.Ok) (a:c.Fit):c.para 0=c:=by
 unfold Cv.para;rw [tY d b a _ (Nat.le_refl _)]
def zW (u v:Int):Int:=aA u*aA v*((2^(aQ u+aQ v+2148).toNat:Nat):Int)
theorem Lj (u v:Int):(A.fF u v).N=zW u v:=by unfold A.fF zW;rw [Int.natCast_pow];rfl
theorem rG (base kind:Int) (pl f d:Option Addr) (N l D g F i:Nat) (w:World) :
  Calls Tryz.prog 5 #[.slice pl N l,.agg #[.int .i64 base,.int .i64 kind,.slice f D g,.slice d F i]] w fun e m=>e=.returned (.bool (decide (N<=20/\D<=8/\F<=8)))/\Below w.heap.size w m:=by
 have a:=hideS (bH w base kind (.slice f D g) (.slice d F i));have o:=a.out.t2;have n:=a.out.t3
 by_cases k:N<=20<;>by_cases j:D<=8<;>by_cases b:F<=8
 all_goals
  first | rw [decide_eq_true (⟨k,j,b⟩:N<=20/\D<=8/\F<=8)] | rw [decide_eq_false (fun h:N<=20/\D<=8/\F<=8=>by omega)]
  have c:decide ((F:Int)<=8)=decide (F<=8):=decide_eq_decide.2 (by omega)
  first | rw [decide_eq_true b] at c | rw [decide_eq_false b] at c
  go_enter Tryz.func5,Tryz.ntmps5
  go_wp2_with fail
  go_ret
  exact⟨rfl,a.out.bl⟩
def rqD:List Int:=[365,730]
def rqF:List Nat:=[4602678819172646912,4598175219545276416]
def rqC:Cv:=⟨0,2,rqD,rqF⟩
def rqL:List Flw:=[⟨365,4607182418800017408,1⟩]
abbrev rqH:Nat:=4576918229304087675
theorem gj:rqC.Ok:=⟨by decide,by decide,by decide,by decide,by decide,by decide,rfl,fun i hi=>by
 have a:i<2:=hi;rcases (show i=0\/i=1 by omega) with rfl | rfl<;>decide+kernel⟩
theorem mq:rqC.Fit:=fun i hi=>by
 have a:i<2:=hi;rcases (show i=0\/i=1 by omega) with rfl | rfl<;>decide
theorem Lk (w:World):Calls Tryz.prog 81 #[.float .f64 4602418926338704640] w fun e a=>e=.returned (.float .f64 0)/\a=w:=lK _ 0 w (qv _ (by decide)) (by decide+kernel)
theorem Ll (w:World):Calls Tryz.prog 81 #[.float .f64 4602159033504762368] w fun e a=>e=.returned (.float .f64 0)/\a=w:=lK _ 0 w (qv _ (by decide)) (by decide+kernel)
theorem PV (w:World):Calls Tryz.prog 54 #[.float .f64 13800290266158863483] w fun e a=>e=.returned (.float .f64 4607092795669978366)/\Below w.heap.size w a:=by
 have:=lM 13800290266158863483 13802842229321981950 4602418926338704640 0 0 0 13800290266158863483 13800290266158863483 4607092795669978366 0 w (by unfold U64;omega) (by decide) (by decide+kernel) (by decide+kernel) (by decide+kernel) (by decide+kernel) (by decide+kernel) (by decide+kernel) Lk (by decide+kernel) (by decide+kernel) (by decide+kernel) (by decide+kernel) (by show _=_;decide+kernel) (by show U64 _;unfold U64;omega) (by decide+kernel) (by omega) (by decide+kernel) (by decide+kernel)
 rw [show aJ (aA (4607092795669978366:Nat)) (aQ (4607092795669978366:Nat)+0)=4607092795669978366 by decide+kernel] at this
 exact this
theorem PW (w:World):Calls Tryz.prog 54 #[.float .f64 13804793865786233979] w fun e a=>e=.returned (.float .f64 4607004064304983131)/\Below w.heap.size w a:=by
 have:=lM 13804793865786233979 13807345828949352446 4602159033504762368 0 0 0 13804793865786233979 13804793865786233979 4607004064304983131 0 w (by unfold U64;omega) (by decide) (by decide+kernel) (by decide+kernel) (by decide+kernel) (by decide+kernel) (by decide+kernel) (by decide+kernel) Ll (by decide+kernel) (by decide+kernel) (by decide+kernel) (by decide+kernel) (by show _=_;decide+kernel) (by show U64 _;unfold U64;omega) (by decide+kernel) (by omega) (by decide+kernel) (by decide+kernel)
 rw [show aJ (aA (4607004064304983131:Nat)) (aQ (4607004064304983131:Nat)+0)=4607004064304983131 by decide+kernel] at this
 exact this
theorem QV (w:World):rkX 0 365 rqH=4607092795669978366:=by
 have e:opO .mul (some rqH) (some (rkT 0 365))=some 4576918229304087675:=by decide+kernel
 have a:lQ 13800290266158863483=some 4607092795669978366:=oQ (by decide) (by decide) w (PV w)
 have b:flipN 4576918229304087675=13800290266158863483:=by decide+kernel
 unfold rkX;rw [e]
 show (lQ (flipN 4576918229304087675)).getD 0=_
 rw [b,a];rfl
theorem QW (w:World):rkX 0 730 rqH=4607004064304983131:=by
 have e:opO .mul (some rqH) (some (rkT 0 730))=some 4581421828931458171:=by decide+kernel
 have a:lQ 13804793865786233979=some 4607004064304983131:=oQ (by decide) (by decide) w (PW w)
 have b:flipN 4581421828931458171=13804793865786233979:=by decide+kernel
 unfold rkX;rw [e]
 show (lQ (flipN 4581421828931458171)).getD 0=_
 rw [b,a];rfl
theorem PX (w:World):rqC.bm 0 rqH=4602589196042607870:=by
 show rkF 0 365 4602678819172646912 rqH=_
 unfold rkF;rw [QV w];decide+kernel
theorem QX (w:World):rqC.bm 1 rqH=4597996865050242139:=by
 show rkF 0 730 4598175219545276416 rqH=_
 unfold rkF;rw [QW w];decide+kernel
theorem NQ (w:World):∀ k<rqC.ds.length,bmB rqC k rqH=true:=fun k a=>by
 have b:k<2:=a;unfold bmB;rcases (show k=0\/k=1 by omega) with rfl | rfl
 ·rw [PX w];decide
 ·rw [QX w];decide
theorem Dz {d:Cv} {u:Nat} (h:d.Ok) (o:d.base=0) (j:d.ds=rqD) (p:d.fs.getD 0 0=u) (k:valF (zW 4607182418800017408 u+0)=u) (b:aM (u:Int)=true):prV rqL 1 d=u/\prE rqL 1 d=0:=by
 have e:=Fx h (i:=0) (by rw [j];decide)
 have a:d.ds.getD 0 0=365:=by rw [j];rfl
 rw [a] at e
 have q:d.V 365=u:=e.1.trans p;have r:d.E 365=0:=e.2;have hF:FineP rqL 1 d:=⟨by decide,by decide,by decide,h,fun f b _=>by
  simp only [rqL,List.mem_cons,List.not_mem_nil,or_false] at b
  subst b;exact r⟩
 have g:wsI 1 d rqL=zW 4607182418800017408 u+0:=by
  have n:ctI 1 d ⟨365,4607182418800017408,1⟩=zW 4607182418800017408 u:=by
   unfold ctI tkB;rw [o,if_pos (by decide)];unfold prI;dsimp only;rw [q,Lj];rfl
  simp only [wsI,rqL];rw [n]
 have c:=PreR.ok hF;have l:BI rqL 1 d=u:=by unfold BI;rw [g,k];unfold tldV;rw [if_pos b]
 have m:BJ rqL 1 d=0:=by unfold BJ;rw [g,k];unfold gM;rw [if_pos b]
 rw [l,m] at c
 exact QG c
abbrev rqY:Nat:=13795757939330957440
theorem rqP:prV rqL 1 rqC=4602678819172646912/\prE rqL 1 rqC=0:=Dz gj rfl rfl rfl (by decide+kernel) (by decide)
theorem Lm {d:Cv} (h:prV rqL 1 d=4602589196042607870/\prE rqL 1 d=0):rD rqL 1 d (prV rqL 1 rqC) 0=rqY/\rE rqL 1 d (prV rqL 1 rqC) 0=0:=by
 have e:chO rqL 1 d (prV rqL 1 rqC)=rqY:=by unfold chO;rw [h.1,rqP.1];decide+kernel
 unfold rD rE chV chE;rw [if_pos rfl,if_pos rfl,if_pos h.2,if_pos h.2,e];exact⟨by decide,by decide⟩
theorem Cq (w:World):(rqC.bump 0 rqH).fs.getD 0 0=4602589196042607870/\(rqC.bump 1 rqH).fs.getD 0 0=4602678819172646912/\(rqC.para rqH).fs.getD 0 0=4602589196042607870:=by
 refine⟨?_,?_,?_⟩
 ·rw [mn (by decide),if_pos rfl,PX w]
 ·rw [mn (by decide),if_neg (by decide)];rfl
 ·show (rqC.parL rqH 2).getD 0 0=_
  rw [vT rqC rqH 2 (by decide),if_pos (by decide),PX w]
theorem QH (w:World):lnV rqL 1 rqC rqH 0=rqY/\lnE rqL 1 rqC rqH 0=0/\lnV rqL 1 rqC rqH 1=0/\lnE rqL 1 rqC rqH 1=0:=by
 have f:=NQ w 0 (by decide)
 have g:=NQ w 1 (by decide)
 have h:bmE rqC 0 rqH=0:=by unfold bmE;rw [if_pos f]
 have i:bmE rqC 1 rqH=0:=by unfold bmE;rw [if_pos g]
 unfold lnV lnE;rw [h,i];obtain⟨a,b⟩:=Lm (Dz (Dv gj (by decide) f) rfl rfl (Cq w).1 (by decide+kernel) (by decide))
 have e:=Dz (Dv gj (by decide) g) rfl rfl (Cq w).2.1 (by decide+kernel) (by decide)
 obtain⟨c,d⟩:=NP rqP.2 (e.1.trans rqP.1.symm |> fun x=>⟨x,e.2.trans rqP.2.symm⟩)
 refine⟨a,b,?_,?_⟩
 ·unfold rD;rw [if_pos rfl];exact c
 ·unfold rE;rw [if_pos rfl];exact d
theorem QI (w:World):deV rqL 1 rqC rqH=rqY/\deE rqL 1 rqC rqH=0:=by
 have e:paE rqC rqH=0:=by unfold paE;rw [if_pos (NQ w)]
 unfold deV deE;rw [e];exact Lm (Dz (NF gj (NQ w)) rfl rfl (Cq w).2.2 (by decide+kernel) (by decide))
theorem NR (w:World):BmpR rqC 1 0 rqC 0:=by
 have:=BmpR.ok (c:=rqC) (h:=0) gj 1 (by decide) rfl (oR w gj mq (by decide)).2
 rw [Gp w gj mq (by decide)] at this
 exact this
theorem NS (w:World):ParR rqC 0 rqC 0:=by
 have:=ParR.ok (c:=rqC) (h:=0) gj (fun k a=>(oR w gj mq a).2)
 rw [Gq w gj mq] at this
 exact this
def akX:Obj:=.cells #[.int .i64 365,.int .i64 730] 3
def akY:Obj:=.cells #[.float .f64 4602678819172646912,.float .f64 4598175219545276416] 27
def akO:Obj:=.cells #[.int .i64 365,.float .f64 4607182418800017408,.int .i64 1] 51
structure AkB (w wr:World):Prop where
 bx:BxK wr (w.heap.size+1+1) 0 2 (.slice (some ⟨w.heap.size,0,none⟩) 2 2) (.slice (some ⟨w.heap.size+1,0,none⟩) 2 2)
 src:TFl wr (some ⟨w.heap.size,0,none⟩) (some ⟨w.heap.size+1,0,none⟩) w.heap.size 0 (w.heap.size+1) 0 rqD rqF
 bl:Below w.heap.size w wr
theorem AkB.step {w wr b:World} (h:AkB w wr) (a:Below wr.heap.size wr b):AkB w b:=⟨h.bx.step a,h.src.below a,h.bl.trans (a.mono h.bl.size)⟩
theorem ak3 (w:World):(((w.alloc akX).alloc akY).alloc au).heap[w.heap.size]? =some akX/\(((w.alloc akX).alloc akY).alloc au).heap[w.heap.size+1]? =some akY/\(((w.alloc akX).alloc akY).alloc au).heap[w.heap.size+1+1]? =some au/\Below w.heap.size w (((w.alloc akX).alloc akY).alloc au):=by
 have c:(w.alloc akX).heap.size=w.heap.size+1:=by simp
 have b:((w.alloc akX).alloc akY).heap.size=w.heap.size+1+1:=by simp
 have d:=(Below.refl (w.heap.size+1) (w.alloc akX)).alloc (by omega) akY
 have a:=(Below.refl (w.heap.size+1+1) ((w.alloc akX).alloc akY)).alloc (by omega) au
 refine⟨?_,?_,?_,(((Below.refl _ _).alloc (Nat.le_refl _) _).alloc (by omega) _).alloc (by omega) _⟩
 ·rw [a.block _ (by omega),d.block _ (by omega)];exact heap_alloc_new _ _
 ·rw [a.block _ (by omega),<- c];exact heap_alloc_new _ _
 ·rw [<- b];exact heap_alloc_new _ _
theorem PY {wr:World} {g b:Nat} (d:wr.heap[g]? =some akX) (e:wr.heap[b]? =some akY):TFl wr (some ⟨g,0,none⟩) (some ⟨b,0,none⟩) g 0 b 0 rqD rqF:=by
 unfold akX at d
 unfold akY at e
 refine⟨⟨fun _=>rfl,fun _=>(Array.getElem?_eq_some_iff.1 d).1,fun j c=>?_⟩,⟨fun _=>rfl,fun _=>(Array.getElem?_eq_some_iff.1 e).1,fun j c=>?_⟩,mq⟩
 ·have a:j<2:=c;rcases (show j=0\/j=1 by omega) with rfl | rfl
  all_goals
   simp only [World.cell?,d,Option.isSome_none,Bool.false_eq_true,if_false]
   rfl
 ·have a:j<2:=c;rcases (show j=0\/j=1 by omega) with rfl | rfl
  all_goals
   simp only [World.cell?,e,Option.isSome_none,Bool.false_eq_true,if_false]
   rfl
theorem PZ (w:World):JSrc aF (w.alloc akO) (some ⟨w.heap.size,0,none⟩) w.heap.size 0 rqL:=by
 have h:=heap_alloc_new w akO;refine⟨fun _=>rfl,fun _=>(Array.getElem?_eq_some_iff.1 h).1,fun i hi=>?_⟩
 have a:i<1:=hi;unfold akO at h
 obtain rfl:i=0:=by omega
 refine⟨?_,?_,?_⟩
 all_goals
  simp only [World.cell?,h,akO,Option.isSome_none,Bool.false_eq_true,if_false]
  rfl
theorem DA:eu rqL:=fun i=>by
 rcases (show i=0\/1<=i by omega) with rfl | h
 ·decide
 ·rw [List.getD_eq_getElem?_getD,List.getElem?_eq_none (by exact h)];decide
theorem DB (w:World):Calls Tryz.prog 6 #[] w fun e f=>e=.returned (.bool true)/\Below w.heap.size w f:=by
 obtain⟨C,u,O,N⟩:=ak3 w;obtain⟨w3,I⟩:∃ w3,((w.alloc akX).alloc akY).alloc au=w3:=⟨_,rfl⟩;rw [I] at C u O N
 unfold akX akY au at I
 obtain⟨u1,u2,u3,u4,⟨F,v,L⟩,⟨j,W,y1⟩,⟨X,Q,y2⟩,⟨Y,z3,V⟩,r,m⟩:=bB (w.heap.size+1+1) 0 2 (.slice (some ⟨w.heap.size,0,none⟩) 2 2) (.slice (some ⟨w.heap.size+1,0,none⟩) 2 2) w3 O;have HA:Hid (AkB w u4):=⟨r,PY ((m.block _ (by omega)).trans C) ((m.block _ (by omega)).trans u),N.trans (m.mono (by omega))⟩
 have HJ:=hideS (PZ u4);have l:=hideS (HA.out.step ((Below.refl _ u4).alloc (Nat.le_refl _) akO));obtain⟨w5,z⟩:∃ w5,u4.alloc akO=w5:=⟨_,rfl⟩;rw [z] at HJ l
 unfold akO at z
 obtain⟨i,am⟩:∃ i,u4.heap.size=i:=⟨_,rfl⟩;rw [am] at HJ
 have q1:(FloatKind.f64.format.order 4598175219545276416 4598175219545276416==some .eq)=true:=by kernel_rfl
 have q2:(FloatKind.f64.format.order rqY 0==some .lt)=true:=by kernel_rfl
 have q3:(FloatKind.f64.format.order 0 0==some .eq)=true:=by kernel_rfl
 have q4:(FloatKind.f64.format.order rqY rqY==some .eq)=true:=by kernel_rfl
 have U:Hid (∀ a,AkB w a->Calls Tryz.prog 18 #[.agg #[.int .i64 0,.int .i64 2,.slice (some ⟨w.heap.size,0,none⟩) 2 2,.slice (some ⟨w.heap.size+1,0,none⟩) 2 2],.int .i64 1,.float .f64 0] a fun e f=>CvO a rqC 0 e f):=fun a B=>tV rqC rqC 1 0 0 _ _ _ _ 2 _ _ 2 a (NR w) (by decide) B.src
 have ad:Hid (∀ a,AkB w a->Calls Tryz.prog 19 #[.agg #[.int .i64 0,.int .i64 2,.slice (some ⟨w.heap.size,0,none⟩) 2 2,.slice (some ⟨w.heap.size+1,0,none⟩) 2 2],.float .f64 0] a fun e f=>CvO a rqC 0 e f):=fun a B=>tW rqC rqC 0 0 _ _ _ _ 2 _ _ 2 a (NS w) (by decide) B.src
 have ab:Hid (∀ a,AkB w a->JSrc aF a (some ⟨i,0,none⟩) i 0 rqL->Calls Tryz.prog 7 #[.slice (some ⟨i,0,none⟩) 1 1,.int .i64 1,.agg #[.int .i64 0,.int .i64 2,.slice (some ⟨w.heap.size,0,none⟩) 2 2,.slice (some ⟨w.heap.size+1,0,none⟩) 2 2],.float .f64 4576918229304087675] a fun e f=>∃ g,e=.returned (.tuple #[.slice (some ⟨g,0,none⟩) 2 2,.int .i64 0])/\f.cell? ⟨g,0,none⟩=some (.float .f64 rqY)/\f.cell? ⟨g,1,none⟩=some (.float .f64 0)/\g<f.heap.size/\Below a.heap.size a f):=fun a B hj=>by
  refine (rF rqL 1 rqC rqH (some ⟨i,0,none⟩) i 0 1 1 _ _ _ _ 2 _ _ 2 a (by decide) hj rfl (by decide) DA B.src).mono ?_
  rintro e f ⟨b,hb⟩;obtain⟨a1,a2,a3,a4⟩:=QH w;rcases b with⟨hn,_⟩| ⟨_,b⟩
  ·exact absurd rqP.2 hn
  ·rcases b with⟨k,hk,hE,_⟩| ⟨_,g,G,b⟩
   ·exfalso
    have br:k<2:=hk;rcases (show k=0\/k=1 by omega) with rfl | rfl
    ·exact hE a2
    ·exact hE a4
   ·have hl:(List.range rqC.ds.length).map (lnV rqL 1 rqC rqH)=[rqY,0]:=by
     show [lnV rqL 1 rqC rqH 0,lnV rqL 1 rqC rqH 1]=_
     rw [a1,a3]
    rw [hl] at b
    obtain⟨g',c',e',hs,_⟩:=dO (xs:=[rqY,0]) b rfl (by decide)
    injection e' with j _ _;injection j with j;injection j with j;subst j;exact⟨g,G,hs.cell 0 (by decide),hs.cell 1 (by decide),hs.lt (by decide),hb⟩
 have ak:Hid (∀ a,AkB w a->JSrc aF a (some ⟨i,0,none⟩) i 0 rqL->Calls Tryz.prog 13 #[.slice (some ⟨i,0,none⟩) 1 1,.int .i64 1,.agg #[.int .i64 0,.int .i64 2,.slice (some ⟨w.heap.size,0,none⟩) 2 2,.slice (some ⟨w.heap.size+1,0,none⟩) 2 2],.float .f64 4576918229304087675] a fun e f=>e=.returned (.tuple #[.float .f64 rqY,.int .i64 0])/\Below a.heap.size a f):=fun a B hj=>by
  refine (Gn rqL 1 rqC rqH (some ⟨i,0,none⟩) i 0 1 1 _ _ _ _ 2 _ _ 2 a (by decide) hj rfl (by decide) DA B.src).mono ?_
  rintro e f ⟨b,hb⟩;obtain⟨a1,a2⟩:=QI w;rcases b with⟨hn,_⟩| ⟨_,b⟩
  ·exact absurd rqP.2 hn
  ·rw [a1,a2] at b;exact⟨b,hb⟩
 clear C u O N r m;obtain⟨D,A,P,s⟩:=l.out.bx.t
 go_enter Tryz.func6,Tryz.ntmps6
 go_wp2_with fail
 clear I F v L j W y1 X Q y2 Y z3 V z am D A P s HA;refine (U.out _ l.out).mono ?_
 intro e H b;obtain⟨gx,cx,gy,cy,G,hO⟩:=b.ok rfl;have x:e=.returned (.tuple #[.agg #[.int .i64 0,.int .i64 2,.slice (some ⟨gx,0,none⟩) 2 cx,.slice (some ⟨gy,0,none⟩) 2 cy],.int .i64 0]):=G;subst x;obtain⟨u1,u2,u3,bi,⟨F,v,L⟩,⟨j,W,y1⟩,⟨X,Q,y2⟩,⟨Y,z3,V⟩,r,m⟩:=bB H.heap.size 0 2 (.slice (some ⟨gx,0,none⟩) 2 cx) (.slice (some ⟨gy,0,none⟩) 2 cy) (H.alloc au) (heap_alloc_new _ _);have c:Below H.heap.size H bi:=((Below.refl _ H).alloc (Nat.le_refl _) au).trans m;have q:=hideS ((l.out.step b.bl).step c);have bc:=hideS ((HJ.out.below b.bl).below c);have ba:=hideS r;have Z:=hideS (hO.below c).src.y;obtain⟨w7,M⟩:∃ w7,H.alloc au=w7:=⟨_,rfl⟩;rw [M] at F v L
 unfold au at M
 obtain⟨D,A,P,s⟩:=q.out.bx.t;clear b hO m c r l U HJ G
 go_wp2_with fail
 clear M F v L j W y1 X Q y2 Y z3 V D A P s;generalize H.heap.size=gd at *
 refine (ad.out _ q.out).mono ?_
 intro e K b;obtain⟨px,dx,py,dy,G,hO⟩:=b.ok rfl;have x:e=.returned (.tuple #[.agg #[.int .i64 0,.int .i64 2,.slice (some ⟨px,0,none⟩) 2 dx,.slice (some ⟨py,0,none⟩) 2 dy],.int .i64 0]):=G;subst x;obtain⟨v1,v2,v3,v4,⟨F,v,L⟩,⟨j,W,y1⟩,⟨X,Q,y2⟩,⟨Y,z3,V⟩,r,m⟩:=bB K.heap.size 0 2 (.slice (some ⟨px,0,none⟩) 2 dx) (.slice (some ⟨py,0,none⟩) 2 dy) (K.alloc au) (heap_alloc_new _ _);have c:Below K.heap.size K v4:=((Below.refl _ K).alloc (Nat.le_refl _) au).trans m;have o:=hideS ((q.out.step b.bl).step c);have E:=hideS ((bc.out.below b.bl).below c);have T:=hideS ((ba.out.step b.bl).step c);have bb:=hideS ((Z.out.below b.bl).below c);have ai:=hideS r;obtain⟨w9,J⟩:∃ w9,K.alloc au=w9:=⟨_,rfl⟩;rw [J] at F v L
 unfold au at J
 obtain⟨D,A,P,s⟩:=o.out.bx.t;clear b hO m c r q ad bc ba Z G
 go_wp2_with fail
 clear J F v L j W y1 X Q y2 Y z3 V D A P s;generalize K.heap.size=gp at *
 refine (ab.out _ o.out E.out).mono ?_
 rintro e wa ⟨g,rfl,k0,k1,kl,h⟩;have n:=hideS (o.out.step h);have al:=hideS (E.out.below h);have bh:=hideS (T.out.step h);have R:=hideS (bb.out.below h);have S:=hideS (ai.out.step h);have HK:=hideS (And.intro k0 (And.intro k1 kl));clear h o E T bb ai ab k0 k1 kl;obtain⟨D,A,P,s⟩:=n.out.bx.t
 go_wp2_with fail
 clear D A P s;refine (ak.out _ n.out al.out).mono ?_
 rintro e wb ⟨rfl,d⟩;have bk:=hideS (n.out.step d).bl;obtain⟨_,_,_,d3⟩:=(bh.out.step d).t;obtain⟨_,_,_,p3⟩:=(S.out.step d).t;have c1:=(R.out.below d).cell 1 (by decide)
 have k0:=(d.cell (p:=⟨g,0,none⟩) HK.out.2.2).trans HK.out.1;have k1:=(d.cell (p:=⟨g,1,none⟩) HK.out.2.2).trans HK.out.2.1;have bo:wb.cell? ⟨gy,1,none⟩=some (.float .f64 4598175219545276416):=c1;clear d n al bh R S HK ak c1
 go_wp2_with fail
 go_ret
 exact⟨rfl,bk.out⟩
structure CvS (wr:World) (d:Cv) (E b k:Int) (px py:Option Addr) (nx ny gx gy:Nat):Prop where
 ok:E=0->b=d.base/\k=d.kind/\nx=d.ds.length/\ny=d.fs.length/\TFl wr px py gx 0 gy 0 d.ds d.fs
 no:E≠0->b=0/\k=0/\px=none/\py=none/\nx=0/\ny=0
theorem CvS.step {wr g:World} {d:Cv} {E b k:Int} {n i:Option Addr} {nx j m l:Nat} (h:CvS wr d E b k n i nx j m l) (o:Below wr.heap.size wr g):CvS g d E b k n i nx j m l:=
 ⟨fun e=>by obtain⟨a,b,c,d,f⟩:=h.ok e;exact⟨a,b,c,d,f.below o⟩,h.no⟩
structure DvS (wr:World) (d:Cv) (E b k:Int) (px py:Option Addr) (bx ox nx ny gy:Nat):Prop where
 ok:E=0->b=d.base/\k=d.kind/\nx=d.ds.length/\ny=d.fs.length/\CSrcD wr px py bx ox gy 0 d.ds d.fs
 no:E≠0->b=0/\k=0/\px=none/\py=none/\nx=0/\ny=0
theorem DvS.step {wr n:World} {d:Cv} {E b k:Int} {o l:Option Addr} {i j nx g m:Nat} (h:DvS wr d E b k o l i j nx g m) (p:Below wr.heap.size wr n):DvS n d E b k o l i j nx g m:=
 ⟨fun e=>by obtain⟨a,b,c,d,f⟩:=h.ok e;exact⟨a,b,c,d,f.below p⟩,h.no⟩
theorem DvO.shp {w:World} {d:Cv} {E:Int} {v:Option Addr} {i l cx:Nat} {e:Ending} {o:World} (h:DvO w d E v i l cx e o):∃ (b k:Int) (j n:Option Addr) (nx t f p m:Nat),e=.returned (.tuple #[.agg #[.int .i64 b,.int .i64 k,.slice j nx t,.slice n f p],.int .i64 E])/\DvS o d E b k j n i l nx f m/\(E=0->w.heap.size<=m):=by
 by_cases c:E=0
 ·subst c;obtain⟨q,g,u,rfl,r,s⟩:=h.ok rfl;exact⟨_,_,_,_,_,cx,_,u,g,rfl,⟨fun _=>⟨rfl,rfl,rfl,rfl,r⟩,fun a=>absurd rfl a⟩,fun _=>s⟩
 ·exact⟨0,0,none,none,0,0,0,0,0,h.bad c,⟨fun e=>absurd e c,fun _=>⟨rfl,rfl,rfl,rfl,rfl,rfl⟩⟩,fun e=>absurd e c⟩
theorem VSrc.blk {w u:World} {p:Option Addr} {g o n:Nat} {f:Nat->Value} (h:VSrc w p g o n f) (e:u.heap[g]? =w.heap[g]?):VSrc u p g o n f:=
 ⟨h.at_,fun a=>(by
  obtain⟨x,c⟩:∃ x,w.heap[g]? =some x:=⟨_,Array.getElem?_eq_getElem (h.lt a)⟩
  rw [c] at e
  exact (Array.getElem?_eq_some_iff.1 e).1),fun j b=>(by
  rw [<- h.cell j b];simp only [World.cell?,e])⟩
def erK (a b c:Int):Int:=if a=0 then (if b=0 then c else b) else a
def LsD (w:World) (n:Nat) (X:Nat->Nat) (a:Nat->Int) (e:Ending) (c:World):Prop:=
 (∃ k<n,a k≠0/\(∀ j<k,a j=0)/\e=.returned (.tuple #[.slice none 0 0,.int .i64 (a k)]))\/
 ((∀ k<n,a k=0)/\∃ p b,e=.returned (.tuple #[.slice p n b,.int .i64 0])/\c.ownsRow w.heap.size 41 1 (.slice p n b) n (((List.range n).map X).map uV))
structure LdB (w:World) (base kind:Int) (vd vf:Value) (wr:World):Prop where
 k:DxK wr w.heap.size base kind vd vf
 bl:Below w.heap.size w wr
 sz:w.heap.size+1<=wr.heap.size
theorem LdB.step {w wr b:World} {base kind:Int} {d c:Value} (h:LdB w base kind d c wr) (a:Below wr.heap.size wr b):LdB w base kind d c b:=⟨h.k.step a,h.bl.trans (a.mono h.bl.size),Nat.le_trans h.sz a.size⟩
theorem LdB.stay {w wr b:World} {base kind:Int} {d c:Value} (h:LdB w base kind d c wr) (a:Below (w.heap.size+1) wr b):LdB w base kind d c b:=⟨⟨(a.block _ (by omega)).trans h.k.blk⟩,h.bl.trans (a.mono (by omega)),Nat.le_trans h.sz a.size⟩
theorem Gr (X:Nat->Nat) (k:Nat):(List.range (k+1)).map X=(List.range k).map X++[X k]:=by rw [List.range_succ,List.map_append];rfl
theorem vZ (cur base kind:Int) (h n V0:Nat) (D:Nat->Cv) (d f g:Nat->Int) (V1 X:Nat->Nat) (pl:Option Addr) (N cl:Nat) (u A:Option Addr) (bd od s z:Nat) (w:World) (hn:n<=255)
  (HG:Hid (∀ c,Below w.heap.size w c->Calls Tryz.prog 24 #[.slice pl N cl,.int .i64 cur,.agg #[.int .i64 base,.int .i64 kind,.slice u n s,.slice A n z],.int .u64 (h:Int)] c fun e v=>e=.returned (.tuple #[.int .u64 (V0:Int),.int .i64 0])/\Below c.heap.size c v))
  (ak:Hid (∀ k<n,∀ c,Below w.heap.size w c->Calls Tryz.prog 25 #[.agg #[.int .i64 base,.int .i64 kind,.slice u n s,.slice A n z],.int .i64 (k:Nat),.int .u64 (h:Int)] c fun e v=>DvO c (D k) (d k) u bd od s e v))
  (am:Hid (∀ k<n,d k=0->∀ c b kk qx qy nx kx ny ky gy,DvS c (D k) (d k) b kk qx qy bd od nx ny gy->Below w.heap.size w c->Calls Tryz.prog 26 #[.slice pl N cl,.int .i64 cur,.agg #[.int .i64 b,.int .i64 kk,.slice qx nx kx,.slice qy ny ky]] c fun e v=>e=.returned (.tuple #[.int .u64 (V1 k:Nat),.int .i64 (f k)])/\Below c.heap.size c v))
  (ad:Hid (∀ k<n,d k=0->f k=0->∀ c,Calls Tryz.prog 27 #[.int .u64 (V1 k:Nat),.int .u64 (V0:Int)] c fun e v=>e=.returned (.tuple #[.int .u64 (X k:Nat),.int .i64 (g k)])/\Below c.heap.size c v)) :
  Calls Tryz.prog 8 #[.slice pl N cl,.int .i64 cur,.agg #[.int .i64 base,.int .i64 kind,.slice u n s,.slice A n z],.int .u64 (h:Int)] w fun e v=>LsD w n X (fun k=>erK (d k) (f k) (g k)) e v/\Below w.heap.size w v:=by
 have ab:=(Below.refl w.heap.size w).alloc (Nat.le_refl _) (.cells #[.int .i64 base,.int .i64 kind,.slice u n s,.slice A n z] 39);have m:Hid (LdB w base kind (.slice u n s) (.slice A n z) (w.alloc (.cells #[.int .i64 base,.int .i64 kind,.slice u n s,.slice A n z] 39))):=⟨Dy w _ _ _ _,ab,by simp⟩
 obtain⟨w1,R⟩:∃ w1,w.alloc (.cells #[.int .i64 base,.int .i64 kind,.slice u n s,.slice A n z] 39)=w1:=⟨_,rfl⟩;rw [R] at m
 obtain⟨t0,t1,t2,t3⟩:=m.out.k.t;clear ab
 go_enter Tryz.func8,Tryz.ntmps8
 go_wp2_with fail
 clear R t0 t1 t2 t3;refine (HG.out _ m.out.bl).mono ?_
 rintro e w2 ⟨rfl,V⟩;have T:=hideS (m.out.step V);clear V m HG
 go_wp2_with fail
 go_loopw [12,13,14,15,16,17] (fun r i _ _ _ _ wr=>∃ k:Nat,k<=n/\i=.int .i64 k/\Hid (∀ j<k,erK (d j) (f j) (g j)=0)/\Hid (wr.ownsRow (w.heap.size+1) 41 1 r k (((List.range k).map X).map uV))/\Hid (LdB w base kind (.slice u n s) (.slice A n z) wr)) (fun _ i _ _ _ _ _=>n - (intOf i).toNat)
 case atStart=>exact⟨0,Nat.zero_le _,rfl,fun j hj=>absurd hj (by omega),gF _ _,T.out⟩
 case round=>
  clear T;obtain⟨k,hk,rfl,K,HO,m⟩:=hrel;obtain⟨q0,g0,bh,rfl,_,_,_,_⟩:=bq HO.out (by simp)
  have t3:=m.out.k.t.2.2.2
  by_cases l:k<n
  ·obtain⟨t0,t1,t2,_⟩:=m.out.k.t;have l2:(k:Int)<(n:Int):=by omega
   go_wp2_with fail
   clear t0 t1 t2 t3;refine (ak.out k l _ m.out.bl).mono ?_
   intro e L ho;obtain⟨bb,bk,bo,ca,br,bv,bs,bz,ci,he,ai,_⟩:=ho.shp;subst he;obtain⟨x1,x2,x3,x4,⟨e0,z0,y0⟩,⟨e1,z1,y1⟩,⟨e2,z2,y2⟩,⟨e3,z3,y3⟩,hZ,P⟩:=jX L.heap.size bb bk (.slice bo br bv) (.slice ca bs bz) (L.alloc cY) (heap_alloc_new _ _);have B:Below L.heap.size L x4:=((Below.refl _ L).alloc (Nat.le_refl _) cY).trans P;have G:Below wr.heap.size wr x4:=ho.bl.trans (B.mono ho.bl.size);have y:=hideS (m.out.step G);have Q:=hideS (ao HO.out G);have Z:=hideS (ai.step B);obtain⟨s0,s1,s2,s3⟩:=hZ.t;obtain⟨w4,I⟩:∃ w4,L.alloc cY=w4:=⟨_,rfl⟩;rw [I] at e0 z0 y0
   unfold cY at I
   clear ai ho hZ P B G m HO ak
   by_cases p:d k=0
   ·have d1:(d k !=0)=false:=by rw [p];rfl
    go_wp2_with fail
    clear I e0 z0 y0 e1 z1 y1 e2 z2 y2 e3 z3 y3;refine (am.out k l p _ _ _ _ _ _ _ _ _ _ Z.out y.out.bl).mono ?_
    rintro e w5 ⟨rfl,C⟩;have H:=hideS (y.out.step C);have S:=hideS (ao Q.out C);clear C y Q Z am s0 s1 s2 s3
    by_cases x:f k=0
    ·have d2:(f k !=0)=false:=by rw [x];rfl
     go_wp2_with fail
     refine (ad.out k l p x _).mono ?_
     rintro e Y ⟨rfl,E⟩;have O:=hideS (H.out.step E);have ba:=hideS (ao S.out E);clear E H S ad;have q:Hid (erK (d k) (f k) (g k)=g k):=by show _=_;unfold erK;rw [if_pos p,if_pos x]
     by_cases J:g k=0
     ·have d3:(g k !=0)=false:=by rw [J];rfl
      have bc:Hid (∀ j<k+1,erK (d j) (f j) (g j)=0):=fun j hj=>by
       rcases Nat.lt_or_eq_of_le (Nat.le_of_lt_succ hj) with a | a
       ·exact K.out j a
       ·rw [a];exact q.out.trans J
      have HN:=hideS (Gr X k);have U:Hid (∀ o,(Y.alloc o).ownsRow (w.heap.size+1) 41 1 (.slice q0 k bh) k (((List.range k).map X).map uV)):=fun o=>ao ba.out ((Below.refl _ Y).alloc (Nat.le_refl _) o)
      have F:Hid (∀ o,LdB w base kind (.slice u n s) (.slice A n z) (Y.alloc o)):=fun o=>O.out.step ((Below.refl _ Y).alloc (Nat.le_refl _) o)
      clear p x J d1 d2 q K
      go_wp2_with (at_builtin;refine aH _ rfl (.tmp 65) (.tmp 67) rfl (w.heap.size+1) _ k ((List.range k).map X) rfl (U.out _) Y.heap.size (X k) rfl (by simp) (by omega) (F.out (.cells #[.int .u64 (X k:Int)] 41)).sz ?_;intro v6 w7 al W;have bi:=hideS ((F.out _).stay (aW (U.out _) W (F.out (.cells #[.int .u64 (X k:Int)] 41)).sz));have bx:=hideS al;clear al W)
      go_roundw
      case rel=>exact⟨k+1,by omega,by simp,bc,by show World.ownsRow _ _ _ _ _ _ _;rw [HN.out];exact bx.out,bi.out⟩
      case measure=>simp [intOf];omega
     ·have d3:(g k !=0)=true:=bne_iff_ne.2 J;have M:=hideS J;clear p x J d1 d2
      go_wp2_with fail
      go_ret2
      exact⟨Or.inl ⟨k,l,by show erK _ _ _≠0;rw [q.out];exact M.out,K.out,by show _=Ending.returned (.tuple #[.slice none 0 0,.int .i64 (erK (d k) (f k) (g k))]);rw [q.out];rfl⟩,O.out.bl⟩
    ·have d2:(f k !=0)=true:=bne_iff_ne.2 x;have q:Hid (erK (d k) (f k) (g k)=f k):=by show _=_;unfold erK;rw [if_pos p,if_neg x]
     have M:=hideS x;clear p x d1
     go_wp2_with fail
     go_ret2
     exact⟨Or.inl ⟨k,l,by show erK _ _ _≠0;rw [q.out];exact M.out,K.out,by show _=Ending.returned (.tuple #[.slice none 0 0,.int .i64 (erK (d k) (f k) (g k))]);rw [q.out];rfl⟩,H.out.bl⟩
   ·have d1:(d k !=0)=true:=bne_iff_ne.2 p;have q:Hid (erK (d k) (f k) (g k)=d k):=by show _=_;unfold erK;rw [if_neg p]
    have M:=hideS p;clear p
    go_wp2_with fail
    go_ret2
    exact⟨Or.inl ⟨k,l,by show erK _ _ _≠0;rw [q.out];exact M.out,K.out,by show _=Ending.returned (.tuple #[.slice none 0 0,.int .i64 (erK (d k) (f k) (g k))]);rw [q.out];rfl⟩,y.out.bl⟩
  ·obtain rfl:k=n:=by omega
   have cc:¬ (k:Int)<(k:Int):=by omega
   go_wp2_with fail
   go_ret2
   exact⟨Or.inr ⟨K.out,_,_,rfl,fX HO.out (by omega)⟩,m.out.bl⟩
theorem rK (l:List Flw) (cur:Int) (c:Cv) (pl:Option Addr) (bl H C N:Nat) (i h:Option Addr) (bd u n D v o:Nat) (w:World) (d G t:Int) (z:ChkF l d G) (s:c.Chk t) (F:JSrc aB w pl bl H l) (E:l.length=N) (J:N<=30000) (y:eu l) (A:CSrcD w i h bd u D v c.ds c.fs) :
  Calls Tryz.prog 65 #[.slice pl N C,.int .i64 cur,.agg #[.int .i64 c.base,.int .i64 c.kind,.slice i c.ds.length n,.slice h c.fs.length o]] w fun e r=>e=.returned (.int .i64 (if d=0 then (if 1<=cur/\cur<=8 then t else 140) else d))/\Below w.heap.size w r:=by
 have HK:=hideS (fW w c.base c.kind (.slice i c.ds.length n) (.slice h c.fs.length o));have g:=hideS fun b (q:Below w.heap.size w b)=>rJ l pl bl H C N d G b (F.below q) E (by omega) y z
 have m:=hideS fun b=>mr cur b
 have B:=hideS fun b (q:Below w.heap.size w b)=>dw c.base c.kind i h bd u n D v o c.ds c.fs b (A.below q) s
 clear F E y A z s;generalize Value.slice i c.ds.length n=P at *
 generalize Value.slice h c.fs.length o=R at *
 by_cases j:d=0
 ·rw [if_pos j];subst j
  by_cases f:1<=cur/\cur<=8
  ·rw [if_pos f];rw [decide_eq_true f] at m
   clear f
   go_enter Tryz.func65,Tryz.ntmps65
   go_wp2_with fail
   refine (g.out _ HK.out.bl).mono ?_
   rintro e x ⟨rfl,a⟩;have HK2:=hideS (HK.out.step a);clear a HK g;have L:=HK2.out.t0;have I:=HK2.out.t1;have M:=HK2.out.t2;have K:=HK2.out.t3
   go_wp2_with (go_at_call 106;refine (m.out _).mono ?_;rintro e r ⟨rfl,rfl⟩)
   clear L I M K;refine (B.out _ HK2.out.bl).mono ?_
   rintro e Q ⟨rfl,k⟩;have p:=hideS (HK2.out.step k).bl;clear k HK2 B
   go_wp2_with fail
   go_ret
   exact⟨rfl,p.out⟩
  ·rw [if_neg f];rw [decide_eq_false f] at m
   clear f
   go_enter Tryz.func65,Tryz.ntmps65
   go_wp2_with fail
   refine (g.out _ HK.out.bl).mono ?_
   rintro e x ⟨rfl,a⟩;have HK2:=hideS (HK.out.step a);clear a HK g
   go_wp2_with (go_at_call 106;refine (m.out _).mono ?_;rintro e r ⟨rfl,rfl⟩)
   go_ret
   exact⟨rfl,HK2.out.bl⟩
 ·rw [if_neg j];have O:(d !=0)=true:=bne_iff_ne.2 j;clear j
  go_enter Tryz.func65,Tryz.ntmps65
  go_wp2_with fail
  refine (g.out _ HK.out.bl).mono ?_
  rintro e x ⟨rfl,a⟩;have HK2:=hideS (HK.out.step a);clear a HK g
  go_wp2_with fail
  go_ret
  exact⟨rfl,HK2.out.bl⟩
structure DO (w wr:World) (bs kd:Int) (vd vf:Value) (a:A.St) (k:Nat):Prop where
 c:wr.heap[w.heap.size]? =some (.cells #[.int .i64 bs,.int .i64 kd,vd,vf] 39)
 r:wr.heap[w.heap.size+1]? =some (.cells #[.int .i64 0,.bool false,.slice none 0 0,.int .i64 0] 85)
 h:Held w wr (w.heap.size+2) a k
theorem Cs {w wr d:World} {B k:Nat} {a:A.St} (h:Held w wr B a k) (b:Below wr.heap.size wr d):Held w d B a k:=by
 obtain⟨⟨neg,v,M,e,j,g,m,i⟩,c,l,f⟩:=h;exact⟨⟨neg,v,M,e,(b.block B f).trans j,g.below b,m,i⟩,c.trans (b.mono c.size),l,Nat.lt_of_lt_of_le f b.size⟩
theorem Gt {w wr:World} {B k b:Nat} {a:A.St} (h:Held w wr B a k) (d:k<=b):Held w wr B a b:=by
 obtain⟨⟨neg,v,M,e,i,c,l,g⟩,f,j,m⟩:=h;exact⟨⟨neg,v,M,e,i,c,l,g.mono d⟩,f,j,m⟩
theorem DO.below {w wr d:World} {e g:Int} {i f:Value} {a:A.St} {k:Nat} (h:DO w wr e g i f a k) (b:Below wr.heap.size wr d):DO w d e g i f a k:=
 ⟨(b.block _ (Array.getElem?_eq_some_iff.1 h.c).1).trans h.c,(b.block _ (Array.getElem?_eq_some_iff.1 h.r).1).trans h.r,Cs h.h b⟩
theorem DO.drewN {w wr:World} {b d:Int} {e c:Value} {a:A.St} {k:Nat} (h:DO w wr b d e c a k) (n:Nat):DO w (wr.drewN n) b d e c a k:=
 h.below (MZ (Below.refl _ _) n)
theorem DO.mono {w wr:World} {b f:Int} {g e:Value} {a:A.St} {k d:Nat} (h:DO w wr b f g e a k) (i:k<=d):DO w wr b f g e a d:=⟨h.c,h.r,Gt h.h i⟩
theorem DO.t {w wr:World} {d f:Int} {g e:Value} {a:A.St} {k:Nat} (h:DO w wr d f g e a k):wr.cell? ⟨w.heap.size,0,none⟩=some (.int .i64 d)/\wr.cell? ⟨w.heap.size,1,none⟩=some (.int .i64 f)/\wr.cell? ⟨w.heap.size,2,none⟩=some g/\wr.cell? ⟨w.heap.size,3,none⟩=some e:=by
 have b:=h.c;exact⟨by simp [World.cell?,b],by simp [World.cell?,b],by simp [World.cell?,b],by simp [World.cell?,b]⟩
theorem QJ (w:World) (a c:Int) (d b:Value):DO w (((w.alloc (.cells #[.int .i64 a,.int .i64 c,d,b] 39)).alloc (.cells #[.int .i64 0,.bool false,.slice none 0 0,.int .i64 0] 85)).alloc (.cells #[.int .i64 0,.bool false,.slice none 0 0,.int .i64 0] 85)) a c d b ⟨0,0⟩ 0:=by
 have g:(w.alloc (.cells #[.int .i64 a,.int .i64 c,d,b] 39)).heap.size=w.heap.size+1:=by simp
 have e:((w.alloc (.cells #[.int .i64 a,.int .i64 c,d,b] 39)).alloc (.cells #[.int .i64 0,.bool false,.slice none 0 0,.int .i64 0] 85)).heap.size=w.heap.size+2:=by simp
 have i:=(Below.refl _ w).alloc (Nat.le_refl _) (.cells #[.int .i64 a,.int .i64 c,d,b] 39);have h:=(Below.refl _ (w.alloc (.cells #[.int .i64 a,.int .i64 c,d,b] 39))).alloc (Nat.le_refl _) (.cells #[.int .i64 0,.bool false,.slice none 0 0,.int .i64 0] 85);have f:=(Below.refl _ ((w.alloc (.cells #[.int .i64 a,.int .i64 c,d,b] 39)).alloc (.cells #[.int .i64 0,.bool false,.slice none 0 0,.int .i64 0] 85))).alloc (Nat.le_refl _) (.cells #[.int .i64 0,.bool false,.slice none 0 0,.int .i64 0] 85);refine⟨?_,?_,⟨⟨false,.slice none 0 0,0,0,?_,Or.inl ⟨rfl,_,_,rfl⟩,gu _,DV.zero (by decide) 0⟩,?_,by omega,by simp⟩⟩
 ·rw [f.block _ (by rw [e];omega),h.block _ (by rw [g];omega)];exact heap_alloc_new _ _
 ·rw [f.block _ (by rw [e];omega),<- g];exact heap_alloc_new _ _
 ·rw [<- e];exact heap_alloc_new _ _
 ·exact i.trans ((h.mono (by rw [g];omega)).trans (f.mono (by rw [e];omega)))
theorem DO.put {w wr w1:World} {m i:Int} {j o:Value} {a0 a:A.St} {x k M:Nat} {s:Int} {neg:Bool} {v:Value} {e:Int} {r:Ending} (h:DO w wr m i j o a0 x) (y:wr.heap[w.heap.size+2]? =some (.cells #[.int .i64 s,.bool neg,v,.int .i64 e] 85 (0,0))) (B:From (w.heap.size+2+1) v) (n:cj wr v M a k r w1) :
  ∃ b p l c f,r=.returned (AV (a.s:Int) b (.slice p l c) f)/\Held4 w1 (w.heap.size+2) s neg v e/\DO w (put4 w1 (w.heap.size+2) (a.s:Int) b (.slice p l c) f) m i j o a k:=by
 have d:Below wr.heap.size wr w1:=by
  obtain⟨_,_,_,_,_,_,_,_,d⟩:=n;exact d
 obtain⟨b,p,l,c,f,u,t,z⟩:=xE y B h.h.bl h.h.lo h.h.lt n;have q:=h.h.lt;have g:Below (w.heap.size+2) wr (put4 w1 (w.heap.size+2) (a.s:Int) b (.slice p l c) f):=bT (d.mono (by omega)) (Nat.le_refl _)
 exact⟨b,p,l,c,f,u,t,⟨(g.block _ (by omega)).trans h.c,(g.block _ (by omega)).trans h.r,z⟩⟩
structure DOE (w:World) (S:Int) (E:Int) (N:Nat) (e:Ending) (w':World):Prop where
 ex:∃ neg v M ee,e=.returned (.tuple #[AV 0 neg v ee,.int .i64 E])/\DN w' v M/\DV 0 neg M ee S N
 bl:Below w.heap.size w w'
theorem Gu {x y:Nat} (b:az (x:Int)=true) (a:az (y:Int)=true):A.bn x y=A.fF (x:Int) (y:Int):=by
 unfold A.bn;rw [b,a];rfl
theorem DO.tail {w wr:World} {g b:Int} {d j:Value} {S:Int} {k:Nat} (h:DO w wr g b d j ⟨0,S⟩ k):∃ neg p l c M e,Held4 wr (w.heap.size+2) 0 neg (.slice p l c) e/\Held4 wr (w.heap.size+1) 0 false (.slice none 0 0) 0/\Held4 (put4 wr (w.heap.size+1) 0 neg (.slice p l c) e) (w.heap.size+1) 0 neg (.slice p l c) e/\DN (put4 wr (w.heap.size+1) 0 neg (.slice p l c) e) (.slice p l c) M/\DV 0 neg M e S k/\Below w.heap.size w (put4 wr (w.heap.size+1) 0 neg (.slice p l c) e):=by
 obtain⟨neg,v,M,e,i,a,m,f⟩:=h.h.ex;obtain⟨p,l,c,rfl⟩:=a.shape;exact⟨neg,p,l,c,M,e,dX i,dX h.r,dX (mH h.r),lG a m (by omega),f,bT h.h.bl (by omega)⟩
theorem DO.zero {w wr:World} {b d:Int} {e c:Value} {a:A.St} {k:Nat} (h:DO w wr b d e c a k):Held4 wr (w.heap.size+1) 0 false (.slice none 0 0) 0/\Held4 (put4 wr (w.heap.size+1) 0 false (.slice none 0 0) 0) (w.heap.size+1) 0 false (.slice none 0 0) 0/\Below w.heap.size w (put4 wr (w.heap.size+1) 0 false (.slice none 0 0) 0):=
 ⟨dX h.r,dX (mH h.r),bT h.h.bl (by omega)⟩
theorem zY (l:List Flw) (cur:Int) (c:Cv) (pl:Option Addr) (bl ol cl N:Nat) (pd pf:Option Addr) (bd od cd b2 o2 cf:Nat) (w:World) (E:Int) (hE:VisR l cur c E) (hl:JSrc aB w pl bl ol l) (hN:l.length=N) (da:N<=900) (hf:eu l) (hs:CSrcD w pd pf bd od b2 o2 c.ds c.fs) (hv:c.Fit) :
  Calls Tryz.prog 44 #[.slice pl N cl,.int .i64 cur,.agg #[.int .i64 c.base,.int .i64 c.kind,.slice pd c.ds.length cd,.slice pf c.fs.length cf]] w fun e w'=>DOE w (if E=0 then wsI cur c l else 0) E N e w':=by
 obtain⟨E1,K1,h1⟩:=vG l;obtain⟨E2,h2⟩:=oJ c.base c.kind c.ds c.fs;have O:=hideS fun wx (T:Below w.heap.size w wx)=>rK l cur c pl bl ol cl N pd pf bd od cd b2 o2 cf wx E1 K1 E2 h1 h2 (hl.below T) hN (by omega) hf (hs.below T)
 have cm:=hideS fun x wx (T:Below w.heap.size w wx)=>ou c.base c.kind x (c.E x) (c.V x) pd pf bd od cd b2 o2 cf c.ds c.fs wx (hs.below T) (lU c.base c.kind c.ds c.fs x)
 have H0:=hideS (QJ w c.base c.kind (.slice pd c.ds.length cd) (.slice pf c.fs.length cf));have HE:=hideS hE;have HQ:=hideS hl;have HN:=hideS hN;have HF:=hideS hf;have HV:=hideS hv;have HP:Hid (0<N->pl=some ⟨bl,ol,none⟩):=fun h=>hl.at_ (by omega)
 have H1:=hideS h1;have H2:=hideS h2;clear hE hl hN hf hs h1 h2 hv;generalize Value.slice pd c.ds.length cd=vd at *
 generalize Value.slice pf c.fs.length cf=vf at *
 obtain⟨bs,ab⟩:∃ b,c.base=b:=⟨_,rfl⟩;obtain⟨kd,bz⟩:∃ b,c.kind=b:=⟨_,rfl⟩;rw [ab,bz] at O cm H0 ⊢
 have am:=hideS ab;clear ab bz;obtain⟨SS,ai⟩:∃ S,(if E=0 then wsI cur c l else 0)=S:=⟨_,rfl⟩
 rw [ai];have Z:=hideS ai;clear ai;obtain⟨A,o⟩:∃ A:Int,(if E1=0 then (if 1<=cur/\cur<=8 then E2 else 140) else E1)=A:=⟨_,rfl⟩
 rw [o] at O
 have HA:=hideS o;clear o;obtain⟨z1,cv⟩:∃ z1,(w.alloc (.cells #[.int .i64 bs,.int .i64 kd,vd,vf] 39)).alloc (.cells #[.int .i64 0,.bool false,.slice none 0 0,.int .i64 0] 85)=z1:=⟨_,rfl⟩
 go_enter Tryz.func44,Tryz.ntmps44
 clear cv
 go_wp2_with fail
 refine (O.out _ H0.out.h.bl).mono ?_
 rintro e w2 ⟨rfl,cq⟩;have bb:=hideS (H0.out.below cq);clear cq H0 O
 by_cases D:A=0
 ·subst D;have ci:ChkF l 0 0/\(1<=cur/\cur<=8)/\c.Ok:=by
   have o:=HA.out
   by_cases e1:E1=0
   ·subst e1;rw [if_pos rfl] at o
    obtain rfl:=jT H1.out
    by_cases X:1<=cur/\cur<=8
    ·rw [if_pos X] at o
     subst o;exact⟨H1.out,X,jR H2.out⟩
    ·rw [if_neg X] at o;cases o
   ·rw [if_neg e1] at o;exact absurd o e1
  have m:=hideS ci;clear ci HA H1 H2
  go_wp2_with fail
  go_loopw [10] (fun i wr=>∃ k:Nat,k<=N/\i=.int .i64 k/\Hid (∀ j<k,tkB cur c.base (l.getD j aD)=true->c.E (l.getD j aD).day=0)/\Hid (DO w wr bs kd vd vf ⟨0,wsI cur c (l.take k)⟩ k)) (fun i _=>N - (intOf i).toNat)
  case atStart=>exact⟨0,Nat.zero_le _,rfl,fun j hj=>by omega,bb⟩
  case round=>
   clear bb;obtain⟨k,hk,rfl,L,Q⟩:=hrel
   by_cases G:k<N
   ·obtain rfl:=HP.out (by omega)
    obtain⟨c0,c1,c2⟩:=(HQ.out.below Q.out.h.bl).cell k (by rw [HN.out];exact G)
    obtain⟨t0,t1,t2,t3⟩:=Q.out.t;have z:=hideS (qM (cur:=cur) (c:=c) (l:=l) (k:=k) (by rw [HN.out];exact G))
    have cp:=hideS ((BG m.out.1).2 k (by rw [HN.out];exact G))
    have bc:=hideS (HF.out k);obtain⟨q,hq⟩:∃ q,l.getD k aD=q:=⟨_,rfl⟩;rw [hq] at c0 c1 c2 z cp bc
    have Hq:=hideS hq;clear hq;obtain⟨Y,qa,B⟩:=q;dsimp only [aB] at c0 c1 c2 bc
    by_cases ht:B=cur/\bs<=Y
    ·obtain⟨rfl,cu⟩:=ht;have o1:(B !=B)=false:=by simp
     have o2:decide (Y<bs)=false:=decide_eq_false (by omega)
     have ba:Hid (tkB B c.base ⟨Y,qa,B⟩=true):=by show _=_;unfold tkB;rw [am.out];simp;omega
     have bk:=hideS (cm.out Y);obtain⟨FE,ad⟩:∃ x,c.E Y=x:=⟨_,rfl⟩;obtain⟨FV,bh⟩:∃ x,c.V Y=x:=⟨_,rfl⟩;rw [ad,bh] at bk
     obtain⟨yi,bi⟩:∃ yi:Int,yi=(FV:Int):=⟨_,rfl⟩;rw [<- bi] at bk
     have ct:=hideS bi;clear bi;have K:=hideS ad;have cc:=hideS bh;clear ad bh cu
     go_wp2_with fail
     go_quiet (fail)
     go_wp2_with fail
     go_region_with ((go_at_call 66;refine (bk.out _ ((Q.out.drewN _).h.bl)).mono ?_;rintro e w5 ⟨rfl,br⟩;have H5:=hideS ((Q.out.drewN _).below br);clear br))
     all_goals
      clear t0 t1 t2 t3 c0 c1 c2
      by_cases D:FE=0
      ·subst D;have u:Hid (∀ j<k+1,tkB B c.base (l.getD j aD)=true->c.E (l.getD j aD).day=0):=fun j hj hy=>by
        by_cases d:j<k
        ·exact L.out j d hy
        ·obtain rfl:j=k:=by omega
         rw [Hq.out];exact K.out
       obtain⟨H,_,_⟩:=Cv.num m.out.2.2 HV.out K.out;have al:=Cv.splV m.out.2.2 HV.out K.out;rw [cc.out] at H al
       obtain⟨c0,c1,c2⟩:=(HQ.out.below H5.out.h.bl).cell k (by rw [HN.out];exact G)
       rw [Hq.out] at c0 c1 c2
       dsimp only [aB] at c0 c1 c2
       obtain⟨neg,va,M,ee,T,J,cr,bv⟩:=H5.out.h.ex;have h4:=dX T;obtain⟨xi,P⟩:∃ xi:Int,xi=(qa:Int):=⟨_,rfl⟩;have bo:=hideS (Ob 0 neg va M ee _ k qa FV xi yi w5.drew (J.drewN 1) bv (oE (by omega)) (by rw [P];exact ag bc.out) (by rw [ct.out];exact ag H) P ct.out)
       have e3:(⟨0,wsI B c (l.take k)⟩:A.St).merge (A.bn qa FV)=⟨0,wsI B c (l.take (k+1))⟩:=by
        rw [z.out,Dt ba.out,Gu (Kj cp.out) al,zc rfl];unfold prI;rw [cc.out]
       rw [e3] at bo
       have bx:=hideS fun w1 r (y:cj w5.drew va M ⟨0,wsI B c (l.take (k+1))⟩ (k+1) r w1)=>DO.put (H5.out.drewN 1) T cr y
       obtain⟨pa,la,ca,rfl⟩:=J.shape;have q0:=h4.c0;have q1:=h4.c1;have q2:=h4.c2;have q3:=h4.c3;rw [<- P] at c1
       clear H al T J cr bv h4 e3 P c0 c2 ba z
       go_wp2_with fail
       go_region_with ((go_at_call 67;refine bo.out.mono ?_;intro r w1 y;obtain⟨cy,p4,l4,c4,W,rfl,I,hH⟩:=bx.out w1 r y;have HH:=hideS hH;have k0:=I.c0;have k1:=I.c1;have k2:=I.c2;have k3:=I.c3;have l0:=I.f0;have l1:=I.f1;have l2:=I.f2;have l3:=I.f3;clear y hH I))
       all_goals
        go_wp2_with fail
        go_roundw
        case rel=>exact⟨k+1,by omega,by simp,u,HH⟩
        case measure=>simp [intOf];omega
      ·have U:Hid (E=FE):=bN HE.out (.fac m.out.1 m.out.2.1 m.out.2.2 k (by rw [HN.out];exact G) (by rw [Hq.out];exact ba.out) FE (by rw [Hq.out];exact K.out) D L.out)
       have d1:(FE !=0)=true:=bne_iff_ne.2 D;have Hz:=hideS D;clear D;obtain⟨f,g,p⟩:=H5.out.zero;have r0:=f.c0;have r1:=f.c1;have r2:=f.c2;have r3:=f.c3;have y0:=f.f0;have y1:=f.f1;have y2:=f.f2;have y3:=f.f3;have a:=hideS p;obtain⟨R,s⟩:∃ R,put4 w5 (w.heap.size+1) 0 false (.slice none 0 0) 0=R:=⟨_,rfl⟩;rw [s] at g a
       unfold put4 at s
       have p0:=g.c0;have p1:=g.c1;have p2:=g.c2;have p3:=g.c3;clear f g p
       go_wp2_with fail
       refine bodyPost_ret (v:=.tuple #[AV 0 false (.slice none 0 0) 0,.int .i64 FE]) (by simp [results,Tryz.results44,go_sem,p0,p1,p2,p3]) rfl ?_
       exact⟨⟨false,_,0,0,by rw [U.out],Or.inl ⟨rfl,_,_,rfl⟩,by rw [<- Z.out,U.out,if_neg Hz.out];exact DV.zero (by decide) N⟩,a.out⟩
    ·have cs:Hid (∀ n,DO w (wr.drewN n) bs kd vd vf ⟨0,wsI cur c (l.take (k+1))⟩ (k+1)):=fun n=>by
      rw [z.out,Ki (by unfold tkB;rw [am.out];simp;omega),Int.add_zero]
      exact (Q.out.mono (by omega)).drewN n
     have u:Hid (∀ j<k+1,tkB cur c.base (l.getD j aD)=true->c.E (l.getD j aD).day=0):=fun j hj hy=>by
      by_cases d:j<k
      ·exact L.out j d hy
      ·obtain rfl:j=k:=by omega
       rw [Hq.out] at hy
       unfold tkB at hy
       rw [am.out] at hy
       simp at hy;omega
     by_cases ak:B=cur
     ·subst ak;have o1:(B !=B)=false:=by simp
      have o2:decide (Y<bs)=true:=decide_eq_true (by omega)
      clear ht z Q
      go_wp2_with fail
      go_quiet (fail)
      clear t0 t1 t2 t3 c0 c1 c2
      go_wp2_with fail
      go_roundw
      case rel=>exact⟨k+1,by omega,by simp,u,cs.out _⟩
      case measure=>simp [intOf];omega
     ·have o1:(B !=cur)=true:=bne_iff_ne.2 ak;clear ht z Q ak
      go_wp2_with fail
      go_quiet (fail)
      clear t0 t1 t2 t3 c0 c1 c2
      go_wp2_with fail
      go_roundw
      case rel=>exact⟨k+1,by omega,by simp,u,cs.out _⟩
      case measure=>simp [intOf];omega
   ·obtain rfl:k=N:=by omega
    have U:Hid (E=0):=bN HE.out (.ok m.out.1 m.out.2.1 m.out.2.2 (fun i hi=>L.out i (by rw [HN.out] at hi;exact hi)))
    have cx:Hid (wsI cur c (l.take k)=wsI cur c l):=by show _=_;rw [<- HN.out,List.take_length]
    obtain⟨neg,p4,l4,c4,M4,W,C,f,g,J,F,p⟩:=Q.out.tail;have a0:=C.c0;have a1:=C.c1;have a2:=C.c2;have a3:=C.c3;have r0:=f.c0;have r1:=f.c1;have r2:=f.c2;have r3:=f.c3;have y0:=f.f0;have y1:=f.f1;have y2:=f.f2;have y3:=f.f3;have a:=hideS (And.intro J (And.intro F p));obtain⟨R,s⟩:∃ R,put4 wr (w.heap.size+1) 0 neg (.slice p4 l4 c4) W=R:=⟨_,rfl⟩;rw [s] at g a
    unfold put4 at s
    have p0:=g.c0;have p1:=g.c1;have p2:=g.c2;have p3:=g.c3;clear C f g J F p
    go_wp2_with fail
    refine bodyPost_ret (v:=.tuple #[AV 0 neg (.slice p4 l4 c4) W,.int .i64 0]) (by simp [results,Tryz.results44,go_sem,p0,p1,p2,p3]) rfl ?_
    exact⟨⟨neg,_,M4,W,by rw [U.out],a.out.1,by rw [<- Z.out,U.out,if_pos rfl,<- cx.out];exact a.out.2.1⟩,a.out.2.2⟩
 ·have U:Hid (E=A):=by
   show _=_
   have o:=HA.out
   by_cases e1:E1=0
   ·subst e1;rw [if_pos rfl] at o
    have hK:=jT H1.out;subst hK
    by_cases X:1<=cur/\cur<=8
    ·rw [if_pos X] at o
     subst o;exact bN HE.out (.curve H1.out X E2 H2.out D)
    ·rw [if_neg X] at o
     rw [<- o];exact bN HE.out (.cur H1.out X)
   ·rw [if_neg e1] at o
    rw [<- o];exact bN HE.out (.flow E1 K1 H1.out e1)
  have d1:(A !=0)=true:=bne_iff_ne.2 D;have Hz:=hideS D;clear D;obtain⟨neg,p4,l4,c4,M4,W,C,f,g,J,F,p⟩:=bb.out.tail;have a0:=C.c0;have a1:=C.c1;have a2:=C.c2;have a3:=C.c3;have r0:=f.c0;have r1:=f.c1;have r2:=f.c2;have r3:=f.c3;have y0:=f.f0;have y1:=f.f1;have y2:=f.f2;have y3:=f.f3;have a:=hideS (And.intro J (And.intro F p));obtain⟨R,s⟩:∃ R,put4 w2 (w.heap.size+1) 0 neg (.slice p4 l4 c4) W=R:=⟨_,rfl⟩;rw [s] at g a
  unfold put4 at s
  have p0:=g.c0;have p1:=g.c1;have p2:=g.c2;have p3:=g.c3;clear C f g J F p
  go_wp2_with fail
  refine bodyPost_ret (v:=.tuple #[AV 0 neg (.slice p4 l4 c4) W,.int .i64 A]) (by simp [results,Tryz.results44,go_sem,p0,p1,p2,p3]) rfl ?_
  exact⟨⟨neg,_,M4,W,by rw [U.out],a.out.1,by rw [<- Z.out,U.out,if_neg Hz.out];exact a.out.2.1.mono (Nat.zero_le _)⟩,a.out.2.2⟩
end Go.Proofs.YtfdddijdjpijbaaGreat
