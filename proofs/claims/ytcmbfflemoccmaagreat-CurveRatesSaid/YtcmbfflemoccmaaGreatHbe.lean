/-  -/
import Derived.Test.YtcmbfflemoccmaaGreatHbd
import Derived.Test.YtcmbfflemoccmaaGreatHbc
import Derived.Test.YtcmbfflemoccmaaGreatHau
import Derived.Test.YtcmbfflemoccmaaGreatHar
import Derived.Test.YtcmbfflemoccmaaGreatHat
import Derived.Deep.RegionHeld3
import Derived.Test.YtcmbfflemoccmaaGreatHal
import Derived.Test.YtcmbfflemoccmaaGreatHbb
import Derived.Test.YtcmbfflemoccmaaGreatHay
import Derived.Test.YtcmbfflemoccmaaGreatNFrac
namespace Go.Proofs.YtcmbfflemoccmaaGreat
open Go.RowKit

theorem Ib {a b:Int} (h:eZ a b=true) (hb:ah b=true):ah a=true:=by
 unfold eZ at h
 rw [Bool.or_eq_true] at h
 rcases h with h | h
 ·rw [of_decide_eq_true h];exact hb
 ·exact (Bool.and_eq_true_iff.1 h).1

structure ExpR (x:Nat) (o:Option Nat):Prop where
 prog:∀ w,Calls Tryz.prog 127 #[.float .f64 x] w fun e w'=>∃ y,e=.returned (.float .f64 y)∧(Ag o y∧y<18446744073709551616)∧Below w.heap.size w w'
 doc:nB 61 (x:Int) (cn o)
 nan:ah (x:Int)=true→o=none
 num:ah (x:Int)=false→∃ y,o=some y∧y≤9218868437227405312
theorem Ic (x:Nat):∃ o,x<18446744073709551616→ExpR x o:=by
 by_cases h:x<18446744073709551616
 ·obtain⟨y,z,hb,h1,h2⟩:=Eg x (x:Int) rfl (ag h)
  have hy:y<18446744073709551616:=by have:=hb.uy.2;omega
  cases hn:ah (x:Int) with
  | true=>
   have hz:=h1 hn
   have hny:ah (y:Int)=true:=Ib hb.same (by rw [hz];decide)
   exact⟨none,fun _=>⟨fun w=>(hb.prog w).mono fun _ _ ⟨a,b⟩=>⟨y,a,⟨⟨hny,hy⟩,hy⟩,b⟩,fun w=>(hb.doc w).mono fun _ _ ⟨a,b⟩=>⟨by rw [a,hz];rfl,b⟩,fun _=>rfl,fun a=>by rw [hn] at a;cases a⟩⟩
  | false=>
   obtain⟨h3,h4⟩:=h2 hn
   exact⟨some y,fun _=>⟨fun w=>(hb.prog w).mono fun _ _ ⟨a,b⟩=>⟨y,a,⟨rfl,hy⟩,b⟩,fun w=>(hb.doc w).mono fun _ _ ⟨a,b⟩=>⟨by rw [a,h4];rfl,b⟩,fun a=>(by rw [hn] at a;cases a),fun _=>⟨y,rfl,h3⟩⟩⟩
 ·exact⟨none,fun a=>absurd a h⟩
noncomputable def Ek (x:Nat):Option Nat:=Classical.choose (Ic x)
theorem cE {x:Nat} (h:x<18446744073709551616):ExpR x (Ek x):=Classical.choose_spec (Ic x) h
noncomputable def xw (o:Option Nat):Option Nat:=o.bind Ek
theorem Ct {o:Option Nat} {x:Nat} (h:Ag o x) (hx:x<18446744073709551616):xw o=Ek x:=by
 cases o with
 | none=>rw [(cE hx).nan (cg h).1];rfl
 | some r=>rw [bC h];rfl

structure LnR (x:Nat) (o:Option Nat):Prop where
 prog:∀ w,Calls Tryz.prog 128 #[.float .f64 x] w fun e w'=>∃ y,e=.returned (.float .f64 y)∧(Ag o y∧y<18446744073709551616)∧Below w.heap.size w w'
 doc:nB 62 (x:Int) (cn o)
 lt:cn o<18446744073709551616
 nan:ah (x:Int)=true→o=none
 fin:af x→sB x=false→x % 9223372036854775808≠0→∃ y,o=some y∧af y
theorem LL (x:Nat):∃ o,x<18446744073709551616→LnR x o:=by
 by_cases h:x<18446744073709551616
 ·obtain⟨o,hb⟩:=Hz x (x:Int) rfl (ag h)
  refine⟨o,fun _=>⟨fun w=>(hb.prog w).mono ?_,hb.doc,hb.lt,hb.nan,hb.fin⟩⟩
  rintro _ w' ⟨y,rfl,hag,hbb⟩
  exact⟨y,rfl,⟨hag,NH hag fun q hq=>by have:=hb.lt;rw [hq,ap] at this;exact this⟩,hbb⟩
 ·exact⟨none,fun a=>absurd a h⟩
noncomputable def lnF (x:Nat):Option Nat:=Classical.choose (LL x)
theorem ew {x:Nat} (h:x<18446744073709551616):LnR x (lnF x):=Classical.choose_spec (LL x) h
noncomputable def xx (o:Option Nat):Option Nat:=o.bind lnF
theorem Cu {o:Option Nat} {x:Nat} (h:Ag o x) (hx:x<18446744073709551616):xx o=lnF x:=by
 cases o with
 | none=>rw [(ew hx).nan (cg h).1];rfl
 | some r=>rw [bC h];rfl

def AgU (o:Option Nat) (x:Nat):Prop:=Ag o x∧x<18446744073709551616
theorem aq {x:Nat} (h:x<18446744073709551616):AgU (some x) x:=⟨rfl,h⟩
theorem AgU.u {o:Option Nat} {x:Nat} (h:AgU o x):U64 (x:Int):=ag h.2
def xy (o:Option Nat):Option Nat:=o.map flipN
theorem Id {x:Nat} (h:x<18446744073709551616):ah (flipN x:Int)=ah (x:Int):=by
 obtain⟨_,h2,_⟩:=cS h
 unfold ah
 rw [dr,dr,h2]
theorem lk {o:Option Nat} {x:Nat} (h:AgU o x):AgU (xy o) (flipN x):=by
 refine⟨?_,(cS h.2).1⟩
 cases o with
 | none=>exact⟨by rw [Id h.2];exact (cg h.1).1,(cS h.2).1⟩
 | some r=>rw [bC h.1];exact rfl
theorem ll {x:Nat} (h:x<18446744073709551616):Op.negFloat .f64 x=flipN x:=(show Op.negFloat .f64 x=x^^^9223372036854775808 from rfl).trans (rY h)

theorem Cv {o o':Option Nat} {x y:Nat} (h:AgU o x) (h':AgU o' y):∃ z:Nat,kA 75 x y z∧AgU (opO .mul o o') z:=
 ⟨cn (floatBits .mul .f64 x y),fun w=>dI x y x y w rfl rfl h.u h'.u,by rw [fK h.1 h'.1];exact mQ _,mP (by simp) _ _⟩
theorem uv {o o':Option Nat} {x y:Nat} (h:AgU o x) (h':AgU o' y):∃ z:Nat,kA 69 x y z∧AgU (opO .sub o o') z:=
 ⟨cn (floatBits .sub .f64 x y),fun w=>kq x y x y w rfl rfl h.u h'.u,by rw [fK h.1 h'.1];exact mQ _,mP (by simp) _ _⟩
theorem jF {o o':Option Nat} {x y:Nat} (h:AgU o x) (h':AgU o' y):∃ z:Nat,kA 68 x y z∧AgU (opO .quo o o') z:=
 ⟨cn (floatBits .quo .f64 x y),fun w=>fG x y x y w rfl rfl h.u h'.u,by rw [fK h.1 h'.1];exact mQ _,mP (by simp) _ _⟩
theorem Ie {o:Option Nat} {x:Nat} (h:AgU o x):∃ z:Nat,nB 74 x z∧AgU (xy o) z:=
 ⟨flipN x,fun w=>(fF x x (flipN x) w rfl h.u rfl).mono fun _ _ ⟨a,b⟩=>⟨a,by rw [← b];exact Below.refl _ _⟩,lk h⟩
theorem KP {o:Option Nat} {x:Nat} (h:AgU o x):∃ z:Nat,nB 61 x z∧AgU (xw o) z:=by
 have hs:=cE h.2
 refine⟨cn (Ek x),hs.doc,?_,?_⟩
 ·rw [Ct h.1 h.2];exact mQ _
 ·cases hn:ah (x:Int) with
  | true=>rw [hs.nan hn,jx];omega
  | false=>
   obtain⟨y,e,hy⟩:=hs.num hn
   rw [e,ap];omega
theorem MM {o:Option Nat} {x:Nat} (h:AgU o x):∃ z:Nat,nB 62 x z∧AgU (xx o) z:=by
 have hs:=ew h.2
 exact⟨cn (lnF x),hs.doc,by rw [Cu h.1 h.2];exact mQ _,hs.lt⟩

theorem pW {o:Option Nat} {x:Nat} (h:AgU o x) (w:World):Calls Tryz.prog 127 #[.float .f64 x] w fun e w'=>∃ y,e=.returned (.float .f64 y)∧AgU (xw o) y∧Below w.heap.size w w':=by
 rw [Ct h.1 h.2];exact (cE h.2).prog w
theorem uA {o:Option Nat} {x:Nat} (h:AgU o x) (w:World):Calls Tryz.prog 128 #[.float .f64 x] w fun e w'=>∃ y,e=.returned (.float .f64 y)∧AgU (xx o) y∧Below w.heap.size w w':=by
 rw [Cu h.1 h.2];exact (ew h.2).prog w
theorem bF (op:BinOp) (ho:op=.add∨op=.sub∨op=.mul∨op=.quo) (t:TypeId) {o o':Option Nat} {x y:Nat} (h:AgU o x) (h':AgU o' y) (w:World):∃ r,(∃ q,(binOp op t (.float .f64 x) (.float .f64 y)).run Tryz.prog w=.ok (.float .f64 r) (w.drewN q))∧AgU (opO op o o') r:=by
 obtain⟨r,hr,g⟩:=cZ op ho t x y w
 rw [← fK h.1 h'.1] at g
 refine⟨r,hr,g,?_⟩
 cases e:opO op o o' with
 | none=>rw [e] at g;exact (cg g).2
 | some q=>rw [e] at g;rw [bC g];rw [fK h.1 h'.1] at e;exact eo ho e
end Go.Proofs.YtcmbfflemoccmaaGreat
namespace Go.Proofs.YtcmbfflemoccmaaGreat
open Go.RowKit

set_option maxHeartbeats 400000 in
theorem sJ (x:Nat) (w:World) (h:U64 x) :
  Calls Tryz.prog 88 #[.float .f64 x] w fun e w'=>e=.returned (.bool (finB (x:Int)))∧w'=w:=by
 have H1:=hideS fun w=>bu x w h
 cases hn:ah (x:Int) with
 | true=>
  rw [hn] at H1
  rw [nY hn]
  clear h hn
  go_enter Tryz.func88,Tryz.ntmps88
  go_wp2_with fail
  refine (H1.out _).mono ?_
  rintro e w' ⟨rfl,rfl⟩
  go_wp2_with fail
  go_ret
  exact⟨rfl,rfl⟩
 | false=>
  have H2:=hideS fun w=>pO x _ w h (Aj hn)
  rw [hn] at H1
  clear h hn
  generalize finB (x:Int)=b at *
  cases b
  all_goals
   go_enter Tryz.func88,Tryz.ntmps88
   go_wp2_with fail
   refine (H1.out _).mono ?_
   rintro e w' ⟨rfl,rfl⟩
   go_wp2_with fail
   refine (H2.out _).mono ?_
   rintro e w' ⟨rfl,rfl⟩
   go_wp2_with fail
   go_ret
   exact⟨rfl,rfl⟩

theorem sK:ae ((0:Nat):Int)=0:=by decide
theorem NL {x:Nat} (h:U64 (x:Int)):(FloatKind.f64.format.order x 0==some .gt)=ltB 0 (x:Int):=by
 cases hn:ah (x:Int) with
 | true=>
  rw [bN hn]
  unfold ltB
  rw [hn];rfl
 | false=>
  rw [iB h (by unfold U64;omega) hn (by decide),sK]
  unfold ltB
  rw [hn,show ah 0=false by decide,show ae 0=0 by decide];rfl

set_option maxHeartbeats 400000 in
theorem ce (x:Nat) (w:World) (h:U64 x) :
  Calls Tryz.prog 53 #[.float .f64 x] w fun e w'=>e=.returned (.bool (aT (x:Int)))∧w'=w:=by
 have H1:=hideS fun w=>sJ x w h
 have hg:=NL h
 unfold aT
 clear h
 generalize finB (x:Int)=b at *
 generalize ltB 0 (x:Int)=c at *
 cases b<;>cases c
 all_goals
  go_enter Tryz.func53,Tryz.ntmps53
  go_wp2_with fail
  refine (H1.out _).mono ?_
  rintro e w' ⟨rfl,rfl⟩
  go_wp2_with fail
  go_ret
  exact⟨rfl,rfl⟩

def enyN (x:Nat):Nat:=if finB (x:Int)=true then x else 0
theorem sL (x:Nat):(enyN x:Int)=kc (x:Int):=by unfold enyN kc;split<;>rfl

set_option maxHeartbeats 400000 in
theorem pX (x:Nat) (w:World) (h:U64 x) :
  Calls Tryz.prog 54 #[.float .f64 x] w fun e w'=>e=.returned (.tuple #[.float .f64 (enyN x),.int .i64 (dz (x:Int))])∧w'=w:=by
 have H1:=hideS fun w=>sJ x w h
 unfold enyN dz
 clear h
 generalize finB (x:Int)=b at *
 cases b
 all_goals
  go_enter Tryz.func54,Tryz.ntmps54
  go_wp2_with fail
  refine (H1.out _).mono ?_
  rintro e w' ⟨rfl,rfl⟩
  go_wp2_with fail
  go_ret2
  exact⟨rfl,rfl⟩
theorem If {o:Option Nat} {x y:Nat} (h:Ag o x) (h':Ag o y):enyN x=enyN y∧dz (x:Int)=dz (y:Int):=by
 cases o with
 | none=>
  unfold enyN dz
  rw [nY (cg h).1,nY (cg h').1]
  exact⟨rfl,rfl⟩
 | some r=>rw [bC h,bC h'];exact⟨rfl,rfl⟩

def endN (x:Nat):Nat:=if finB (x:Int)=true∧szI (x:Int)≠0 then x else 0
end Go.Proofs.YtcmbfflemoccmaaGreat
namespace Go.Proofs.YtcmbfflemoccmaaGreat
open Go.RowKit

def leB:Option Nat→Bool
 | some r=>!ah (r:Int)&&decide (ae (r:Int)≤0)
 | none=>false
theorem yq (r:Nat):leB (some r)=(!ah (r:Int)&&decide (ae (r:Int)≤0)):=rfl
theorem ID {o:Option Nat} {b:Nat} (h:AgU o b):∃ l e,(FloatKind.f64.format.order b 0==some .lt)=l∧(FloatKind.f64.format.order b 0==some .eq)=e∧(l||e)=leB o:=by
 refine⟨_,_,rfl,rfl,?_⟩
 cases hn:ah (b:Int) with
 | true=>
  rw [bN hn]
  cases o with
  | none=>rfl
  | some r=>
   have e:=bC h.1
   rw [← e,yq,hn];rfl
 | false=>
  cases o with
  | none=>rw [(cg h.1).1] at hn;cases hn
  | some r=>
   have e:=bC h.1
   rw [← e,yq,hn,jo h.u (by unfold U64;omega) hn (by decide),eM h.u (by unfold U64;omega) hn (by decide),sK]
   by_cases c:ae (b:Int)<0
   ·rw [decide_eq_true c];simp;omega
   ·rw [decide_eq_false c]
    by_cases d:ae (b:Int)=0
    ·rw [decide_eq_true d];simp;omega
    ·rw [decide_eq_false d];simp;omega
abbrev one64:Nat:=4607182418800017408
theorem cw {w w':World} (h:Below w.heap.size w w') (q:Nat):Below w.heap.size w (w'.drewN q):=⟨h.os,h.tape,h.output,h.size,h.block⟩

def MZ (r t:Nat):Option Nat:=opO .add (some one64) (opO .mul (some r) (some t))
def EG (r t:Nat):Option Nat:=if leB (MZ r t)=true then some 0 else opO .quo (some one64) (MZ r t)

set_option maxHeartbeats 800000 in
theorem nL (r t:Nat) (w:World) (hr:r<18446744073709551616) (ht:t<18446744073709551616) :
  Calls Tryz.prog 89 #[.float .f64 r,.float .f64 t] w fun e w'=>∃ f,e=.returned (.float .f64 f)∧AgU (EG r t) f∧Below w.heap.size w w':=by
 obtain⟨m,⟨q1,r1⟩,g1⟩:=bF .mul (by simp) 38 (aq hr) (aq ht) w
 obtain⟨b,⟨q2,r2⟩,g2⟩:=bF .add (by simp) 38 (aq (show one64<18446744073709551616 by decide)) g1 (w.drewN q1)
 obtain⟨f,⟨q3,r3⟩,g3⟩:=bF .quo (by simp) 38 (aq (show one64<18446744073709551616 by decide)) g2 ((w.drewN q1).drewN q2)
 obtain⟨l,e,o1,o2,hle⟩:=ID (o:=MZ r t) g2
 have G0:Hid ((l||e)=true→AgU (EG r t) 0):=fun h=>by
  unfold EG
  rw [if_pos (by rw [← hle];exact h)];exact⟨rfl,by decide⟩
 have G3:Hid ((l||e)=false→AgU (EG r t) f):=fun h=>by
  unfold EG
  rw [if_neg (by rw [← hle,h];decide)];exact g3
 have HB:Hid (∀ q,Below w.heap.size w (w.drewN q)):=cw (Below.refl _ _)
 rw [World.drewN_drewN] at r3
 clear g1 g2 g3 hle hr ht
 cases l<;>cases e
 all_goals
  go_enter Tryz.func89,Tryz.ntmps89
  go_wp2_with fail
  go_ret
  first | exact⟨_,rfl,G0.out rfl,HB.out _⟩| exact⟨_,rfl,G3.out rfl,HB.out _⟩

def Na (f t:Nat):Option Nat:=opO .quo (opO .sub (opO .quo (some one64) (some f)) (some one64)) (some t)
set_option maxHeartbeats 800000 in
theorem qk (f t:Nat) (w:World) (hf:f<18446744073709551616) (ht:t<18446744073709551616) :
  Calls Tryz.prog 90 #[.float .f64 f,.float .f64 t] w fun e w'=>∃ r,e=.returned (.float .f64 r)∧AgU (Na f t) r∧Below w.heap.size w w':=by
 obtain⟨m,⟨q1,r1⟩,g1⟩:=bF .quo (by simp) 38 (aq (show one64<18446744073709551616 by decide)) (aq hf) w
 obtain⟨b,⟨q2,r2⟩,g2⟩:=bF .sub (by simp) 38 g1 (aq (show one64<18446744073709551616 by decide)) (w.drewN q1)
 obtain⟨y,⟨q3,r3⟩,g3⟩:=bF .quo (by simp) 38 g2 (aq ht) ((w.drewN q1).drewN q2)
 have G3:Hid (AgU (Na f t) y):=g3
 have HB:Hid (∀ q,Below w.heap.size w (w.drewN q)):=cw (Below.refl _ _)
 rw [World.drewN_drewN] at r3
 clear g1 g2 g3 hf ht
 go_enter Tryz.func90,Tryz.ntmps90
 go_wp2_with fail
 go_ret
 exact⟨_,rfl,G3.out,HB.out _⟩

noncomputable def NP (r t:Nat):Option Nat:=xw (xy (opO .mul (some r) (some t)))
theorem ls (w:World) (x:Nat):(Op.unary .neg (.float .f64 x)).run Tryz.prog w=.ok (.float .f64 (Op.negFloat .f64 x)) w:=rfl
set_option maxHeartbeats 800000 in
theorem rC (r t:Nat) (w:World) (hr:r<18446744073709551616) (ht:t<18446744073709551616) :
  Calls Tryz.prog 92 #[.float .f64 r,.float .f64 t] w fun e w'=>∃ f,e=.returned (.float .f64 f)∧AgU (NP r t) f∧Below w.heap.size w w':=by
 obtain⟨m,⟨q1,r1⟩,g1⟩:=bF .mul (by simp) 38 (aq hr) (aq ht) w
 have hneg:=ls
 have hfl:=ll g1.2
 have HE:=hideS fun w=>pW (lk g1) w
 generalize flipN m=n at *
 have HB:Hid (Below w.heap.size w (w.drewN q1)):=cw (Below.refl _ _) q1
 clear g1 hr ht
 go_enter Tryz.func92,Tryz.ntmps92
 go_wp2_with fail
 refine (HE.out _).mono ?_
 rintro e w1 ⟨y,rfl,hy,hb⟩
 have B1:=hideS (HB.out.trans (hb.mono HB.out.size))
 have Y:=hideS hy
 clear hb hy
 go_wp2_with fail
 go_ret
 exact⟨_,rfl,Y.out,B1.out⟩

noncomputable def Nb (f t:Nat):Option Nat:=opO .quo (xy (xx (some f))) (some t)
set_option maxHeartbeats 800000 in
theorem uN (f t:Nat) (w:World) (hf:f<18446744073709551616) (ht:t<18446744073709551616) :
  Calls Tryz.prog 93 #[.float .f64 f,.float .f64 t] w fun e w'=>∃ r,e=.returned (.float .f64 r)∧AgU (Nb f t) r∧Below w.heap.size w w':=by
 have HL:=hideS fun w=>uA (aq hf) w
 have hneg:=ls
 have HT:=hideS ht
 clear ht
 go_enter Tryz.func93,Tryz.ntmps93
 go_wp2_with fail
 refine (HL.out _).mono ?_
 rintro e w1 ⟨y,rfl,hy,hb⟩
 have B1:=hideS hb
 have hfl:=ll hy.2
 have hn:=lk hy
 clear hb hy
 generalize flipN y=n at *
 obtain⟨r,⟨q1,r1⟩,g1⟩:=bF .quo (by simp) 38 hn (aq HT.out) w1
 have G1:Hid (AgU (Nb f t) r):=g1
 clear g1 hn
 go_wp2_with fail
 go_ret
 exact⟨_,rfl,G1.out,cw B1.out q1⟩
end Go.Proofs.YtcmbfflemoccmaaGreat
namespace Go.Proofs.YtcmbfflemoccmaaGreat
open Go.RowKit

def KV (m r:Nat):Option Nat:=opO .add (some one64) (opO .quo (some r) (some m))
noncomputable def EH (m r t:Nat):Option Nat:=if leB (KV m r)=true then some 0 else xw (xy (opO .mul (opO .mul (some m) (some t)) (xx (KV m r))))
set_option maxRecDepth 10000 in
set_option maxHeartbeats 3200000 in
theorem rD (m r t p g:Nat) (w:World) (hm:m<18446744073709551616) (hr:r<18446744073709551616) (hp:floatBits .mul .f64 m t=some p) (hc:w.cell? ⟨g,0,none⟩=some (.float .f64 m)) (hg:g<w.heap.size) :
  Calls Tryz.prog 126 #[.float .f64 r,.float .f64 t,.pointer (some ⟨g,0,none⟩)] w fun e w'=>∃ f,e=.returned (.float .f64 f)∧AgU (EH m r t) f∧Below w.heap.size w w':=by
 obtain⟨d,⟨q1,r1⟩,g1⟩:=bF .quo (by simp) 38 (aq hr) (aq hm) w
 obtain⟨b,⟨q2,r2⟩,g2⟩:=bF .add (by simp) 38 (aq (show one64<18446744073709551616 by decide)) g1 (w.drewN q1)
 obtain⟨l,e,o1,o2,hle⟩:=ID (o:=KV m r) g2
 have hpr:=fun w=>run_float_arith (P:=Tryz.prog) w .mul 38 .f64 _ _ _ hp
 have hp64:p<18446744073709551616:=eo (by simp) hp
 have hpo:opO .mul (some m) (some t)=some p:=hp
 have HL:=hideS fun w=>uA g2 w
 have G0:Hid ((l||e)=true→AgU (EH m r t) 0):=fun h=>by
  unfold EH
  rw [if_pos (by rw [← hle];exact h)];exact⟨rfl,by decide⟩
 have G3:Hid ((l||e)=false→EH m r t=xw (xy (opO .mul (some p) (xx (KV m r))))):=fun h=>by
  unfold EH
  rw [if_neg (by rw [← hle,h];decide),hpo]
 have HP:=hideS hp64
 have hneg:=ls
 have HB:Hid (∀ q,Below w.heap.size w (w.drewN q)):=cw (Below.refl _ _)
 have HG:=hideS hg
 clear g1 g2 hle hr hm hp hp64 hpo hg
 cases l<;>cases e
 case true.true | true.false | false.true=>
  go_enter Tryz.func126,Tryz.ntmps126
  go_wp2_with fail
  go_ret
  exact⟨_,rfl,G0.out rfl,HB.out _⟩
 case false.false=>
  rw [World.drewN_drewN] at *
  go_enter Tryz.func126,Tryz.ntmps126
  go_wp2_with fail
  obtain⟨w1,hw1⟩:∃ w1,w.drewN (q1+q2)=w1:=⟨_,rfl⟩
  have hc1:w1.cell? ⟨g,0,none⟩=some (.float .f64 m):=by rw [← hw1];exact hc
  have B1:Hid (Below w.heap.size w w1):=by rw [← hw1];exact HB.out _
  have L1:Hid (g<w1.heap.size):=by rw [← hw1];exact HG.out
  rw [hw1]
  clear hw1 r1 r2 hc
  have K1:=hideS hc1
  go_region_with (first
   | ((go_at_call 128;(with_reducible refine (HL.out _).mono ?_);rintro e w3 ⟨y,rfl,hy,hb3⟩;have B3:=hideS (Below.trans (show Below w.heap.size w w1.drew from cw B1.out 1) (hb3.mono B1.out.size));have K3:Hid (w3.cell? ⟨g,0,none⟩=some (.float .f64 m)):=(hb3.cell (p:=⟨g,0,none⟩) L1.out).trans K1.out;have k3:=K3.out;have L3:Hid (g<w3.heap.size):=Nat.lt_of_lt_of_le L1.out hb3.size;obtain⟨s,⟨q4,r4⟩,g4⟩:=bF .mul (by simp) 38 (aq HP.out) hy w3;have hfl:=ll g4.2;have HE:=hideS fun w=>pW (lk g4) w;clear hb3 hy g4;generalize flipN s=n at hfl HE))
   | ((go_at_call 127;(with_reducible refine (HE.out _).mono ?_);rintro e w5 ⟨f,rfl,hf,hb5⟩;have B5:=hideS (Below.trans (cw B3.out q4) (hb5.mono B3.out.size));have k5:w5.cell? ⟨g,0,none⟩=some (.float .f64 m):=(hb5.cell (p:=⟨g,0,none⟩) L3.out).trans K3.out;have F5:=hideS hf;clear hb5 hf)))
  all_goals
   go_wp2_with fail
   go_ret
   exact⟨_,rfl,by rw [G3.out rfl];exact F5.out,B5.out⟩

noncomputable def KW (m f t:Nat):Option Nat:=opO .mul (some m) (opO .sub (xw (opO .quo (xy (xx (some f))) (opO .mul (some m) (some t)))) (some one64))

set_option maxRecDepth 10000 in
set_option maxHeartbeats 3200000 in
theorem uO (m f t p g:Nat) (w:World) (hm:m<18446744073709551616) (hf:f<18446744073709551616) (hp:floatBits .mul .f64 m t=some p) (hc:w.cell? ⟨g,0,none⟩=some (.float .f64 m)) (hg:g<w.heap.size) :
  Calls Tryz.prog 129 #[.float .f64 f,.float .f64 t,.pointer (some ⟨g,0,none⟩)] w fun e w'=>∃ r,e=.returned (.float .f64 r)∧AgU (KW m f t) r∧Below w.heap.size w w':=by
 have hpr:=fun w=>run_float_arith (P:=Tryz.prog) w .mul 38 .f64 _ _ _ hp
 have hp64:p<18446744073709551616:=eo (by simp) hp
 have hpo:opO .mul (some m) (some t)=some p:=hp
 have HL:=hideS fun w=>uA (aq hf) w
 have G3:Hid (KW m f t=opO .mul (some m) (opO .sub (xw (opO .quo (xy (xx (some f))) (some p))) (some one64))):=by
  show _=_
  unfold KW
  rw [hpo]
 have HP:=hideS hp64
 have HM:=hideS hm
 have hneg:=ls
 have L1:=hideS hg
 have K1:=hideS hc
 have B1:Hid (Below w.heap.size w w.drew):=cw (Below.refl _ _) 1
 clear hf hp hp64 hpo hg hm
 go_enter Tryz.func129,Tryz.ntmps129
 go_wp2_with fail
 go_region_with (first
  | ((go_at_call 128;(with_reducible refine (HL.out _).mono ?_);rintro e w3 ⟨y,rfl,hy,hb3⟩;have B3:=hideS (Below.trans B1.out (hb3.mono B1.out.size));have K3:Hid (w3.cell? ⟨g,0,none⟩=some (.float .f64 m)):=(hb3.cell (p:=⟨g,0,none⟩) L1.out).trans K1.out;have k3:=K3.out;have L3:Hid (g<w3.heap.size):=Nat.lt_of_lt_of_le L1.out hb3.size;have hfl:=ll hy.2;have hny:=lk hy;clear hb3 hy;generalize flipN y=n at hfl hny;obtain⟨s,⟨q4,r4⟩,g4⟩:=bF .quo (by simp) 38 hny (aq HP.out) w3;have HE:=hideS fun w=>pW g4 w;clear hny g4))
  | ((go_at_call 127;(with_reducible refine (HE.out _).mono ?_);rintro e w5 ⟨x,rfl,hx,hb5⟩;have B5:=hideS (Below.trans (cw B3.out q4) (hb5.mono B3.out.size));have k5:w5.cell? ⟨g,0,none⟩=some (.float .f64 m):=(hb5.cell (p:=⟨g,0,none⟩) L3.out).trans K3.out;obtain⟨d,⟨q6,r6⟩,g6⟩:=bF .sub (by simp) 38 hx (aq (show one64<18446744073709551616 by decide)) w5;obtain⟨r,⟨q7,r7⟩,g7⟩:=bF .mul (by simp) 38 (aq HM.out) g6 (w5.drewN q6);have F7:=hideS g7;clear hb5 hx g6 g7)))
 all_goals
  go_wp2_with fail
  go_ret
  exact⟨_,rfl,by rw [G3.out];exact F7.out,cw B5.out _⟩
end Go.Proofs.YtcmbfflemoccmaaGreat
namespace Go.Proofs.YtcmbfflemoccmaaGreat
open Go.RowKit

def mW (k:Int):Nat:=if k=2 then 4607182418800017408 else if k=3 then 4611686018427387904 else if k=4 then 4616189618054758400 else 4622945017495814144
noncomputable def KX (k:Int) (r t:Nat):Option Nat:=if k=1 then EG r t else if k=6 then NP r t else EH (mW k) r t
noncomputable def AM (k:Int) (f t:Nat):Option Nat:=if k=1 then Na f t else if k=6 then Nb f t else KW (mW k) f t
theorem IE (k:Int):mW k<18446744073709551616:=by unfold mW;split<;>(try split)<;>(try split)<;>decide
theorem jH (n:Int) (u:Nat) (h:fi n=u) (h0: -9223372036854775808≤n) (h1:n≤9223372036854775807):nC 72 n (u:Int):=fun w=>by
 have:=co n w h0 h1
 rw [h] at this;exact this
theorem oa:nC 72 1048576 4697254411347427328:=jH 1048576 4697254411347427328 (by decide+kernel) (by decide) (by decide)
theorem yr:nC 72 0 ((0:Nat):Int):=jH 0 0 (by decide+kernel) (by decide) (by decide)
theorem EI {k:Int} (h:2≤k∧k≤5):nC 72 (lO k) (mW k:Int):=by
 rcases (show k=2∨k=3∨k=4∨k=5 by omega) with rfl | rfl | rfl | rfl
 ·exact jH 1 4607182418800017408 (by decide+kernel) (by decide) (by decide)
 ·exact jH 2 4611686018427387904 (by decide+kernel) (by decide) (by decide)
 ·exact jH 4 4616189618054758400 (by decide+kernel) (by decide) (by decide)
 ·exact jH 12 4622945017495814144 (by decide+kernel) (by decide) (by decide)
theorem lu:AgU (some one64) 4607182418800017408:=aq (by decide)
def Oj (k:Int) (f t z:Nat):Prop:=∀ w,Calls Tryz.prog 44 #[.int .i64 k,.int .u64 f,.int .u64 t] w fun e w'=>e=.returned (.tuple #[.int .u64 (kc (z:Int)),.int .i64 (dz (z:Int))])∧Below w.heap.size w w'
theorem IF {k:Int} {f t:Nat} (hk:1≤k∧k≤6) (hf:f<18446744073709551616) (ht:t<18446744073709551616) (ask:lj (f:Int) (t:Int)=true):∃ z:Nat,AgU (AM k f t) z∧Oj k f t z:=by
 have uf:=ag hf
 have ut:=ag ht
 obtain⟨l,s1,g1⟩:=MM (aq hf)
 obtain⟨n,s2,g2⟩:=Ie g1
 unfold AM
 by_cases k1:k=1
 ·subst k1
  rw [if_pos rfl]
  obtain⟨q,s3,g3⟩:=jF lu (aq hf)
  obtain⟨d,s4,g4⟩:=uv g3 lu
  obtain⟨r,s5,g5⟩:=jF g4 (aq ht)
  exact⟨r,g5,fun w=>nI f t _ l n q d r w uf ut ask oa s1 s2 yr s3 s4 s5 g5.u⟩
 rw [if_neg k1]
 by_cases k6:k=6
 ·subst k6
  rw [if_pos rfl]
  obtain⟨r,s3,g3⟩:=jF g2 (aq ht)
  exact⟨r,g3,fun w=>rm f t _ l n r w uf ut ask oa s1 s2 yr s3 g3.u⟩
 rw [if_neg k6]
 have hk2:2≤k∧k≤5:=by omega
 have HM:=EI hk2
 have hm:=IE k
 generalize mW k=mm at *
 obtain⟨p,s3,g3⟩:=Cv (aq hm) (aq ht)
 obtain⟨q,s4,g4⟩:=jF g2 g3
 obtain⟨x,s5,g5⟩:=KP g4
 obtain⟨d,s6,g6⟩:=uv g5 lu
 obtain⟨r,s7,g7⟩:=Cv (aq hm) g6
 exact⟨r,g7,fun w=>pU k f t mm l n p q x d r w uf ut ask oa s1 s2 hk2 HM s3 s4 s5 s6 s7 g7.u⟩

def KY (a b c:Nat):Option Nat:=opO .quo (opO .sub (opO .quo (some a) (some b)) (some one64)) (some c)

theorem AN {a b c:Nat} (ha:a<18446744073709551616) (hb:b<18446744073709551616) (hc:c<18446744073709551616) (ask:(aT (a:Int)&&aT (b:Int)&&aT (c:Int))=true):∃ z:Nat,AgU (KY a b c) z∧∀ w,Calls Tryz.prog 43 #[.int .u64 a,.int .u64 b,.int .u64 c] w fun e w'=>e=.returned (.tuple #[.int .u64 (kc (z:Int)),.int .i64 (dz (z:Int))])∧Below w.heap.size w w':=by
 obtain⟨q,s3,g3⟩:=jF (aq ha) (aq hb)
 obtain⟨d,s4,g4⟩:=uv g3 lu
 obtain⟨r,s5,g5⟩:=jF g4 (aq hc)
 exact⟨r,g5,fun w=>ro a b c q d r w (ag ha) (ag hb) (ag hc) ask s3 s4 s5 g5.u⟩
end Go.Proofs.YtcmbfflemoccmaaGreat
namespace Go.Proofs.YtcmbfflemoccmaaGreat
open Go.RowKit

def jZ (X Y:Nat):Nat:=(70 - (bl X:Int)+(bl Y:Int)).toNat
def nr (P Q:Int):Int:=if P=0 then 0 else bJ (decide (P<0)) (P.natAbs*2^jZ P.natAbs Q.natAbs / Q.natAbs) (0 - (jZ P.natAbs Q.natAbs:Int) - 0) (decide (0<nd (P.natAbs*2^jZ P.natAbs Q.natAbs % Q.natAbs)))

set_option maxHeartbeats 400000 in
theorem rJ (nx ny:Bool) (vx vy:Value) (ex ey:Int) (w:World) (hX:DN w vx 0) :
  Calls Tryz.prog 65 #[.agg #[.bool nx,vx,.int .i64 ex],.agg #[.bool ny,vy,.int .i64 ey]] w fun x w'=>x=.returned (.int .u64 0)∧Below w.heap.size w w':=by
 have HB0:Hid (Below w.heap.size w (boxN (boxN w nx vx ex) ny vy ey)):=(ax w nx vx ex).trans ((ax (boxN w nx vx ex) ny vy ey).mono (by simp))
 have HZr:=aa fun w' (hb:Below w.heap.size w w')=>aQ nx vx ex 0 true w' (hX.below hb) rfl
 clear hX
 go_enter Tryz.func65,Tryz.ntmps65
 go_wp2_with fail
 refine (HZr.out _ HB0.out).mono ?_
 rintro x w1 ⟨rfl,hb1⟩
 have HB1:=aa (HB0.out.trans (hb1.mono HB0.out.size))
 clear hb1
 go_wp2_with fail
 go_ret
 exact⟨rfl,HB1.out⟩

theorem EQ (P Q:Int) (ny:Bool) (vx vy:Value) (w:World) (hX:DN w vx P.natAbs) (hY:DN w vy Q.natAbs) (hP: -1000000000≤P) (hP':P≤1000000000) (hQ:0<Q) (hQ':Q≤1000000000) :
  Calls Tryz.prog 65 #[.agg #[.bool (decide (P<0)),vx,.int .i64 0],.agg #[.bool ny,vy,.int .i64 0]] w fun x w'=>x=.returned (.int .u64 (nr P Q))∧Below w.heap.size w w':=by
 unfold nr
 by_cases h0:P=0
 ·subst h0
  rw [if_pos rfl]
  exact rJ _ ny vx vy 0 0 w hX
 ·rw [if_neg h0]
  have h1:nd P.natAbs≤1:=bM (by simp;omega)
  have h2:nd Q.natAbs≤1:=bM (by simp;omega)
  exact iZ _ ny _ vx vy 0 0 _ P.natAbs Q.natAbs (jZ P.natAbs Q.natAbs) _ w hX hY (by omega) (by omega) (by omega) (by omega) (by omega) (by omega) (by omega) (by omega) (by unfold jZ;omega) rfl rfl rfl

def Two (b:Nat) (P Q:Int) (w:World):Prop:=w.cell? ⟨b,0,none⟩=some (.int .i64 P)∧w.cell? ⟨b,1,none⟩=some (.int .i64 Q)
theorem Two.below {w w':World} {b s:Nat} {P Q:Int} (h:Two b P Q w) (hb:Below s w w') (hs:b<s):Two b P Q w':=
 ⟨(hb.cell (p:=⟨b,0,none⟩) hs).trans h.1,(hb.cell (p:=⟨b,1,none⟩) hs).trans h.2⟩
theorem Ng {w w1:World} {P Q:Int} (h:Below w.heap.size w w1) :
  ∃ wa,w1.alloc (.cells #[.int .i64 P,.int .i64 Q] 112)=wa∧Hid (Two w1.heap.size P Q wa)∧Hid (w1.heap.size<wa.heap.size)∧Hid (Below w.heap.size w wa):=
 ⟨_,rfl,⟨(lG h).1,(lG h).2.1⟩,(by show w1.heap.size<_;simp),(lG h).2.2⟩

set_option maxHeartbeats 3200000 in
theorem Bf (kind W a b P Q:Int) (v:Value) (w:World) (hP: -1000000000≤P) (hP':P≤1000000000) (hQ:0<Q) (hQ':Q≤1000000000)
  (HF:Hid (∀ wx,Below w.heap.size w wx→Calls Tryz.prog 64 #[.int .i64 kind,.agg #[.int .i64 W,v],.int .i64 a,.int .i64 b] wx fun e w'=>e=.returned (.tuple #[.agg #[.int .i64 P,.int .i64 Q],.int .i64 0])∧Below wx.heap.size wx w')) :
  Calls Tryz.prog 42 #[.int .i64 kind,.agg #[.int .i64 W,v],.int .i64 a,.int .i64 b] w fun e w'=>e=.returned (.tuple #[.int .u64 (nr P Q),.int .i64 0])∧Below w.heap.size w w':=by
 have HB0:Hid (Below w.heap.size w (w.alloc (.cells #[.int .i64 W,v] 44))):=(Below.refl w.heap.size w).alloc (Nat.le_refl _) _
 have H1:=hideS fun wx=>jv P wx (by omega) (by omega)
 have H2:=hideS fun wx=>jv Q wx (by omega) (by omega)
 have H3:=hideS fun ny vx vy wx hX hY=>EQ P Q ny vx vy wx hX hY hP hP' hQ hQ'
 clear hP hP' hQ hQ'
 unfold dE at H1 H2
 generalize nr P Q=R at *
 generalize decide (P<0)=np at *
 generalize decide (Q<0)=nq at *
 generalize P.natAbs=X at *
 generalize Q.natAbs=Y at *
 go_enter Tryz.func42,Tryz.ntmps42
 go_wp2_with fail
 refine (HF.out _ HB0.out).mono ?_
 rintro e w1 ⟨rfl,hb1⟩
 have HB1:=hideS (HB0.out.trans (hb1.mono (by simp)))
 clear hb1
 go_wp2_with fail
 obtain⟨wa,hwa,HS1,hz,HBa⟩:=Ng (P:=P) (Q:=Q) HB1.out
 rw [hwa]
 clear hwa
 generalize w1.heap.size=b at *
 go_region_held3 (fun w'=>w'.cell? ⟨b,0,none⟩=some (.int .i64 P)∧w'.cell? ⟨b,1,none⟩=some (.int .i64 Q)) (first | exact HS1.out | exact HS2.out | exact HS3.out | exact HS4.out | go_keep) (first | ((go_at_call_of 66 (Value.int IntKind.i64 P);refine (H1.out _).mono ?_;rintro e w2 ⟨vx,rfl,hdx,hb2⟩;obtain⟨px,lx,cx,rfl⟩:=du hdx;have HB2:=hideS (HBa.out.drew.trans (hb2.mono HBa.out.drew.size));have HS2:=hideS (Two.below (w:=wa.drew) HS1.out hb2 hz.out);have hz2:=hideS (Nat.lt_of_lt_of_le hz.out hb2.size);have HDx:=hideS hdx;clear hb2 hdx)) | ((go_at_call_of 66 (Value.int IntKind.i64 Q);refine (H2.out _).mono ?_;rintro e w3 ⟨vy,rfl,hdy,hb3⟩;obtain⟨py,ly,cy,rfl⟩:=du hdy;have HB3:=hideS (HB2.out.trans (hb3.mono HB2.out.size));have HS3:=hideS (Two.below HS2.out hb3 hz2.out);have hz3:=hideS (Nat.lt_of_lt_of_le hz2.out hb3.size);have HDx3:=hideS (HDx.out.below hb3);have HDy:=hideS hdy;clear hb3 hdy)) | ((go_at_call 65;refine (H3.out _ _ _ _ HDx3.out HDy.out).mono ?_;rintro e w4 ⟨rfl,hb4⟩;have HB4:=hideS (HB3.out.trans (hb4.mono HB3.out.size));have HS4:=hideS (Two.below HS3.out hb4 hz3.out);clear hb4)))
 all_goals
  go_wp2_with fail
  go_ret2
  exact⟨rfl,HB4.out⟩
end Go.Proofs.YtcmbfflemoccmaaGreat
namespace Go.Proofs.YtcmbfflemoccmaaGreat
open Go.RowKit

def qx (X Y:Nat):Nat:=nearR (aG X Y 200) (-1 - ((200:Nat):Int))
theorem yK {X Y:Nat} (hX:X≠0) (hY:Y≠0) (hY':Y≤1000000000):jZ X Y≤200∧54+Y.log2≤X.log2+jZ X Y:=by
 have h1:=eE hX
 have h2:=eE hY
 have h3:Y.log2<30:=(Nat.log2_lt hY).2 (by omega)
 unfold jZ
 omega
theorem IT {P Q:Int} (h0:P≠0) (hQ:0<Q) (hQ':Q≤1000000000):nr P Q=gA (decide (P<0))+(qx P.natAbs Q.natAbs:Int):=by
 have hX:P.natAbs≠0:=by omega
 have hY:Q.natAbs≠0:=by omega
 have hY':Q.natAbs≤1000000000:=by omega
 unfold nr qx
 rw [if_neg h0]
 generalize P.natAbs=X at *
 generalize Q.natAbs=Y at *
 obtain⟨k1,k2⟩:=yK hX hY hY'
 generalize jZ X Y=k at *
 have hb:=iY hX hY k2
 rw [ks _ _ _ hb.1,← iX (p:=-1) (by omega) k1 hb.2]
 have e:2*(X*2^k / Y)+(if decide (0<nd (X*2^k % Y))=true then 1 else 0)=aG X Y k:=by
  unfold aG
  congr 1
  by_cases hr:X*2^k % Y=0
  ·rw [hr];rfl
  ·have:=dl hr
   rw [if_neg hr,if_pos (decide_eq_true (show 0<nd (X*2^k % Y) from this))]
 rw [e,show (0:Int) - (k:Int) - 0 - 1= -1 - (k:Int) by omega]
theorem ER {X Y:Nat} (h:X≤1000000000):qx X Y<9218868437227405312:=by
 unfold qx
 have h1:aG X Y 200≤1*2^232:=by
  unfold aG
  have h2:X*2^200 / Y≤X*2^200:=Nat.div_le_self _ _
  have h3:X*2^200≤1073741824*2^200:=Nat.mul_le_mul_right _ (by omega)
  rw [show (1073741824:Nat)*2^200=2^230 by decide] at h3
  split<;>omega
 refine Nat.lt_of_le_of_lt (bV _ h1) ?_
 rw [show (-1:Int) - ((200:Nat):Int)=31 - ((232:Nat):Int) by decide,aU (by decide)]
 decide
end Go.Proofs.YtcmbfflemoccmaaGreat
namespace Go.Proofs.YtcmbfflemoccmaaGreat
open Go.RowKit

theorem yL (X Y a k:Nat):aG (X*2^a) Y k=aG X Y (a+k):=by
 unfold aG
 rw [Nat.mul_assoc,← Nat.pow_add]
theorem ns (X Y k c:Nat) (hc:0<c):aG (X*c) (Y*c) k=aG X Y k:=by
 unfold aG
 rw [show X*c*2^k=X*2^k*c by rw [Nat.mul_assoc,Nat.mul_comm c,← Nat.mul_assoc],Nat.mul_div_mul_right _ _ hc,Nat.mul_mod_mul_right]
 have:(X*2^k % Y*c=0)↔(X*2^k % Y=0):=by
  rw [Nat.mul_eq_zero];omega
 simp only [this]
theorem ES {A B X Y p q m t:Nat} (hA:A*2^p=X*2^t) (hB:B*2^q=Y*2^t):aG A B (p+m)=aG X Y (q+m):=by
 rw [← yL A B p m,hA,← ns _ B m (2^q) (Nat.two_pow_pos _),hB,show X*2^t*2^q=X*2^q*2^t by rw [Nat.mul_assoc,Nat.mul_comm (2^t),← Nat.mul_assoc],ns _ _ _ _ (Nat.two_pow_pos _),yL]
theorem ET {x y X Y:Nat} (hx:af x) (hy:af y) (hX:aV x=X*2^1074) (hY:aV y=Y*2^1074) (hX0:X≠0) (hY0:Y≠0) (hY':Y≤1000000000) :
  floatBits .quo .f64 x y=some (wrd (sB x^^sB y) (qx X Y)):=by
 have px:=Nat.two_pow_pos 1074
 have h0:x % 9223372036854775808≠0:=by
  intro h
  unfold aV at hX
  rw [h,bf] at hX
  have:=Nat.mul_pos (show 0<X by omega) px
  omega
 have h1:y % 9223372036854775808≠0:=by
  intro h
  unfold aV at hY
  rw [h,bf] at hY
  have:=Nat.mul_pos (show 0<Y by omega) px
  omega
 unfold aV V at hX hY
 have mx:=fD h0
 have my:=fD h1
 have lx:=mI (x % 9223372036854775808)
 have ly:=mI (y % 9223372036854775808)
 have hl:(mg (y % 9223372036854775808)).log2<53:=(Nat.log2_lt my).2 (by omega)
 rw [jy hx hy h0 h1 rfl rfl rfl rfl (k:=pl (x % 9223372036854775808)+300) (by omega),ES hX hY]
 obtain⟨k1,k2⟩:=yK hX0 hY0 hY'
 have hb:=iY hX0 hY0 k2
 have e1:=iX (X:=X) (Y:=Y) (p:=-1) (by omega) (show jZ X Y≤pl (y % 9223372036854775808)+300 by omega) hb.2
 have e2:=iX (X:=X) (Y:=Y) (p:=-1) (by omega) k1 hb.2
 unfold qx
 rw [← e2,e1]
 congr 3
 omega
end Go.Proofs.YtcmbfflemoccmaaGreat
namespace Go.Proofs.YtcmbfflemoccmaaGreat
open Go.RowKit

theorem nA (m:Int):floatOfInt .f64 m=fi m:=by
 show Ieee.double.nearest (decide (m<0)) m.natAbs 0=_
 unfold fi aJ
 by_cases h0:m=0
 ·subst h0;rfl
 ·rw [if_neg h0,bU _ (by omega)]
  by_cases hn:m<0
  ·simp only [hn,decide_true,if_true];rw [gz]
  ·simp only [hn,decide_false,if_false];rw [gW]
theorem Jn {m:Int} {K:Nat} (hK:K=1074) (h1: -1000000000≤m) (h2:m≤1000000000):af (fi m)∧aV (fi m)=m.natAbs*2^K∧sB (fi m)=decide (m<0)∧fi m<18446744073709551616:=by
 obtain⟨a,b,c,d⟩:=mN (m:=m) hK (by omega) (by omega)
 refine⟨b,?_,c,d⟩
 unfold aV
 have hn:(vI (fi m)).natAbs=V (fi m % 9223372036854775808):=by
  unfold vI
  split<;>simp
 rw [← hn,a,Int.natAbs_mul,Int.natAbs_natCast]
def yW (P Q:Int):Nat:=if P=0 then 0 else wrd (decide (P<0)) (qx P.natAbs Q.natAbs)
theorem Jo {P Q:Int} (h1: -1000000000≤P) (h2:P≤1000000000) (h3:0<Q) (h4:Q≤1000000000):floatBits .quo .f64 (fi P) (fi Q)=some (yW P Q):=by
 obtain⟨K,hK⟩:∃ K:Nat,K=1074:=⟨_,rfl⟩
 obtain⟨a1,a2,a3,_⟩:=Jn (m:=P) hK h1 h2
 obtain⟨b1,b2,b3,_⟩:=Jn (m:=Q) hK (by omega) h4
 have hs:decide (Q<0)=false:=decide_eq_false (by omega)
 have hp:=Nat.two_pow_pos K
 unfold yW
 by_cases h0:P=0
 ·rw [if_pos h0]
  subst h0
  have hq:fi Q % 9223372036854775808≠0:=fun e=>by
   unfold aV at b2
   rw [e,bf] at b2
   have:=Nat.mul_pos (show 0<Q.natAbs by omega) hp
   omega
  rw [show fi 0=0 from JU,oX (by rfl) b1 hq,b3,hs]
  rfl
 ·rw [if_neg h0]
  subst hK
  rw [ET a1 b1 a2 b2 (by omega) (by omega) (by omega),a3,b3,hs]
  simp
theorem Nj {P Q:Int} (hQ:0<Q) (hQ':Q≤1000000000):nr P Q=(yW P Q:Int):=by
 unfold yW
 by_cases h0:P=0
 ·rw [if_pos h0];unfold nr;rw [if_pos h0];rfl
 ·rw [if_neg h0,IT h0 hQ hQ']
  unfold gA wrd
  by_cases hn:P<0
  ·simp [hn]
  ·simp [hn]
theorem LR {P Q:Int} (h1: -1000000000≤P) (h2:P≤1000000000):yW P Q<18446744073709551616:=by
 unfold yW
 have:=ER (X:=P.natAbs) (Y:=Q.natAbs) (by omega)
 split
 ·decide
 ·unfold wrd;split<;>omega

set_option maxHeartbeats 800000 in
theorem za (kind W a b P Q:Int) (v:Value) (w:World) (h1: -1000000000≤P) (h2:P≤1000000000) (h3:0<Q) (h4:Q≤1000000000) (H:Hid (FracH w kind W a b P Q 0 v)) :
  Calls Tryz.prog 35 #[.int .i64 kind,.agg #[.int .i64 W,v],.int .i64 a,.int .i64 b] w fun e w'=>e=.returned (.tuple #[.float .f64 (yW P Q),.int .i64 0])∧Below w.heap.size w w':=by
 have HB:=hideS (bW w W v)
 have f1:=nA P
 have f2:=nA Q
 have hq:=Jo h1 h2 h3 h4
 unfold FracH at H
 clear h1 h2 h3 h4
 generalize yW P Q=R at *
 generalize fi P=X at *
 generalize fi Q=Y at *
 have hr:=fun wx=>run_float_arith (P:=Tryz.prog) wx .quo 38 .f64 X Y R hq
 clear hq
 go_enter Tryz.func35,Tryz.ntmps35
 go_wp2_with (go_at_call 52;refine (H.out _ HB.out).mono ?_;rintro e w1 ⟨rfl,hb⟩)
 go_ret2
 exact⟨rfl,HB.out.trans (hb.mono HB.out.size)⟩
set_option maxHeartbeats 800000 in
theorem Fb (kind W a b E:Int) (v:Value) (w:World) (hE:E≠0) (H:Hid (FracH w kind W a b 0 0 E v)) :
  Calls Tryz.prog 35 #[.int .i64 kind,.agg #[.int .i64 W,v],.int .i64 a,.int .i64 b] w fun e w'=>e=.returned (.tuple #[.float .f64 0,.int .i64 E])∧Below w.heap.size w w':=by
 have HB:=hideS (bW w W v)
 have hE':(E !=0)=true:=bne_iff_ne.2 hE
 unfold FracH at H
 clear hE
 go_enter Tryz.func35,Tryz.ntmps35
 go_wp2_with (go_at_call 52;refine (H.out _ HB.out).mono ?_;rintro e w1 ⟨rfl,hb⟩)
 go_ret2
 exact⟨rfl,HB.out.trans (hb.mono HB.out.size)⟩
def Od (w:World) (kind W a b:Int) (R:Nat) (E:Int) (v:Value):Prop:=∀ wx,Below w.heap.size w wx→Calls Tryz.prog 35 #[.int .i64 kind,.agg #[.int .i64 W,v],.int .i64 a,.int .i64 b] wx fun e w'=>e=.returned (.tuple #[.float .f64 R,.int .i64 E])∧Below wx.heap.size wx w'
theorem FracH.later {w wx:World} {kind W a b P Q E:Int} {v:Value} (h:FracH w kind W a b P Q E v) (hb:Below w.heap.size w wx):FracH wx kind W a b P Q E v:=fun wy hy=>h wy (hb.trans (hy.mono hb.size))
theorem Jp {kind:Int}:0<cj kind∧cj kind≤1000000000:=by
 unfold cj
 split
 ·decide
 ·split
  ·decide
  ·split<;>decide
theorem FracR.bd {kind W a b P Q E:Int} {rs:List Rul} (h:FracR kind W a b rs P Q E): -1000000000≤P∧P≤1000000000∧(E=0→0<Q∧Q≤1000000000)∧(E≠0→P=0∧Q=0):=by
 cases h with
 | fine hk hk' ha hb h6=>
  have:=IS (opB W rs) (kind:=kind) ha hb
  exact⟨this.1,this.2,fun _=>Jp,fun c=>absurd rfl c⟩
 | kind h=>exact⟨by decide,by decide,fun c=>absurd c (by decide),fun _=>⟨rfl,rfl⟩⟩
 | cal A B h6 h hA=>exact⟨by decide,by decide,fun c=>absurd c hA,fun _=>⟨rfl,rfl⟩⟩
 | day hk hk' h h6=>exact⟨by decide,by decide,fun c=>absurd c (by decide),fun _=>⟨rfl,rfl⟩⟩
theorem FracR.year {kind W a b P Q E:Int} {rs:List Rul} (h:FracR kind W a b rs P Q E) (p:Option Addr) (bb off c:Nat) (w:World) (hs:RSrc w p bb off rs) (hl:rs.length≤9223372036854775807):Od w kind W a b (yW P Q) E (.slice p rs.length c):=fun wx hbx=>by
 have hp:=(h.prog p bb off c w hs hl).later hbx
 obtain⟨b1,b2,b3,b4⟩:=h.bd
 by_cases hE:E=0
 ·subst hE
  exact za kind W a b P Q _ wx b1 b2 (b3 rfl).1 (b3 rfl).2 hp
 ·obtain⟨rfl,rfl⟩:=b4 hE
  exact Fb kind W a b E _ wx hE hp
def Oe (w:World) (kind W a b R E:Int) (v:Value):Prop:=∀ wx,Below w.heap.size w wx→Calls Tryz.prog 42 #[.int .i64 kind,.agg #[.int .i64 W,v],.int .i64 a,.int .i64 b] wx fun e w'=>e=.returned (.tuple #[.int .u64 R,.int .i64 E])∧Below wx.heap.size wx w'
theorem FracR.err {kind W a b P Q E:Int} {rs:List Rul} (h:FracR kind W a b rs P Q E):0≤E∧E≤100:=by
 cases h with
 | fine hk hk' ha hb h6=>exact⟨by decide,by decide⟩
 | kind h=>exact⟨by decide,by decide⟩
 | cal A B h6 h hA=>cases h<;>exact⟨by decide,by decide⟩
 | day hk hk' h h6=>exact⟨by decide,by decide⟩
theorem FracR.refY {kind W a b P Q E:Int} {rs:List Rul} (h:FracR kind W a b rs P Q E) (p:Option Addr) (bb off c:Nat) (w:World) (hs:RSrc w p bb off rs) (hl:rs.length≤1000000):Oe w kind W a b (yW P Q:Int) E (.slice p rs.length c):=fun wx hbx=>by
 have hp:LQ wx kind W a b P Q E (.slice p rs.length c):=h.ref p bb off c wx (hs.below hbx) hl
 obtain⟨b1,b2,b3,b4⟩:=h.bd
 obtain⟨e1,e2⟩:=h.err
 by_cases hE:E=0
 ·subst hE
  rw [← Nj (b3 rfl).1 (b3 rfl).2]
  exact Bf kind W a b P Q _ wx b1 b2 (b3 rfl).1 (b3 rfl).2 hp
 ·obtain⟨rfl,rfl⟩:=b4 hE
  exact yJ kind W a b E _ wx (by omega) e2 hp
end Go.Proofs.YtcmbfflemoccmaaGreat
