/-  -/
import Derived.Test.YtkcnkhdbojdhgaaGreatHaw
import Derived.Test.YtkcnkhdbojdhgaaGreatHav
import Derived.Test.YtkcnkhdbojdhgaaGreatHal
import Derived.Test.YtkcnkhdbojdhgaaGreatHaj
import Derived.Test.YtkcnkhdbojdhgaaGreatHat
namespace Go.Proofs.YtkcnkhdbojdhgaaGreat
open Go.RowKit

theorem Dz {a b:Int} (h:dB a b=true) (hb:ag b=true):ag a=true:=by
 unfold dB at h
 rw [Bool.or_eq_true] at h
 rcases h with h | h
 ·rw [of_decide_eq_true h];exact hb
 ·exact (Bool.and_eq_true_iff.1 h).1

structure ExpR (x:Nat) (o:Option Nat):Prop where
 prog:∀ w,Calls Tryz.prog 271 #[.float .f64 x] w fun e w'=>∃ y,e=.returned (.float .f64 y)∧(Ag o y∧y<18446744073709551616)∧Below w.heap.size w w'
 doc:IP 139 (x:Int) (cn o)
 nan:ag (x:Int)=true→o=none
 num:ag (x:Int)=false→∃ y,o=some y∧y≤9218868437227405312
theorem DA (x:Nat):∃ o,x<18446744073709551616→ExpR x o:=by
 by_cases h:x<18446744073709551616
 ·obtain⟨y,z,hb,h1,h2⟩:=Am x (x:Int) rfl (ah h)
  have hy:y<18446744073709551616:=by have:=hb.uy.2;omega
  cases hn:ag (x:Int) with
  | true=>
   have hz:=h1 hn
   have hny:ag (y:Int)=true:=Dz hb.same (by rw [hz];decide)
   exact⟨none,fun _=>⟨fun w=>(hb.prog w).mono fun _ _ ⟨a,b⟩=>⟨y,a,⟨⟨hny,hy⟩,hy⟩,b⟩,fun w=>(hb.doc w).mono fun _ _ ⟨a,b⟩=>⟨by rw [a,hz];rfl,b⟩,fun _=>rfl,fun a=>by rw [hn] at a;cases a⟩⟩
  | false=>
   obtain⟨h3,h4⟩:=h2 hn
   exact⟨some y,fun _=>⟨fun w=>(hb.prog w).mono fun _ _ ⟨a,b⟩=>⟨y,a,⟨rfl,hy⟩,b⟩,fun w=>(hb.doc w).mono fun _ _ ⟨a,b⟩=>⟨by rw [a,h4];rfl,b⟩,fun a=>(by rw [hn] at a;cases a),fun _=>⟨y,rfl,h3⟩⟩⟩
 ·exact⟨none,fun a=>absurd a h⟩
noncomputable def In (x:Nat):Option Nat:=Classical.choose (DA x)
theorem dz {x:Nat} (h:x<18446744073709551616):ExpR x (In x):=Classical.choose_spec (DA x) h
structure LnR (x:Nat) (o:Option Nat):Prop where
 prog:∀ w,Calls Tryz.prog 272 #[.float .f64 x] w fun e w'=>∃ y,e=.returned (.float .f64 y)∧(Ag o y∧y<18446744073709551616)∧Below w.heap.size w w'
 doc:IP 140 (x:Int) (cn o)
 lt:cn o<18446744073709551616
 nan:ag (x:Int)=true→o=none
 fin:af x→sB x=false→x % 9223372036854775808≠0→∃ y,o=some y∧af y
theorem GT (x:Nat):∃ o,x<18446744073709551616→LnR x o:=by
 by_cases h:x<18446744073709551616
 ·obtain⟨o,hb⟩:=Dy x (x:Int) rfl (ah h)
  refine⟨o,fun _=>⟨fun w=>(hb.prog w).mono ?_,hb.doc,hb.lt,hb.nan,hb.fin⟩⟩
  rintro _ w' ⟨y,rfl,hag,hbb⟩
  exact⟨y,rfl,⟨hag,Jf hag fun q hq=>by have:=hb.lt;rw [hq,aq] at this;exact this⟩,hbb⟩
 ·exact⟨none,fun a=>absurd a h⟩
noncomputable def lnF (x:Nat):Option Nat:=Classical.choose (GT x)
theorem gF {x:Nat} (h:x<18446744073709551616):LnR x (lnF x):=Classical.choose_spec (GT x) h
def AgU (o:Option Nat) (x:Nat):Prop:=Ag o x∧x<18446744073709551616
theorem eY {x:Nat} (h:x<18446744073709551616):AgU (some x) x:=⟨rfl,h⟩
theorem AgU.u {o:Option Nat} {x:Nat} (h:AgU o x):U64 (x:Int):=ah h.2
theorem Ge {o o':Option Nat} {x y:Nat} (h:AgU o x) (h':AgU o' y):∃ z:Nat,IQ 47 x y z∧AgU (opO .mul o o') z:=
 ⟨cn (floatBits .mul .f64 x y),fun w=>cR x y x y w rfl rfl h.u h'.u,by rw [eC h.1 h'.1];exact sn _,ma (by simp) _ _⟩
theorem Gf {o o':Option Nat} {x y:Nat} (h:AgU o x) (h':AgU o' y):∃ z:Nat,IQ 46 x y z∧AgU (opO .add o o') z:=
 ⟨cn (floatBits .add .f64 x y),fun w=>cS x y x y w rfl rfl h.u h'.u,by rw [eC h.1 h'.1];exact sn _,ma (by simp) _ _⟩
theorem yr (op:BinOp) (ho:op=.add∨op=.sub∨op=.mul∨op=.quo) (t:TypeId) {o o':Option Nat} {x y:Nat} (h:AgU o x) (h':AgU o' y) (w:World):∃ r,(∃ q,(binOp op t (.float .f64 x) (.float .f64 y)).run Tryz.prog w=.ok (.float .f64 r) (w.drewN q))∧AgU (opO op o o') r:=by
 obtain⟨r,hr,g⟩:=cC op ho t x y w
 rw [← eC h.1 h'.1] at g
 refine⟨r,hr,g,?_⟩
 cases e:opO op o o' with
 | none=>rw [e] at g;exact (dp g).2
 | some q=>rw [e] at g;rw [ch g];rw [eC h.1 h'.1] at e;exact dL ho e
end Go.Proofs.YtkcnkhdbojdhgaaGreat
namespace Go.Proofs.YtkcnkhdbojdhgaaGreat
open Go.RowKit

def endN (x:Nat):Nat:=if bf (x:Int)=true∧szI (x:Int)≠0 then x else 0
end Go.Proofs.YtkcnkhdbojdhgaaGreat
namespace Go.Proofs.YtkcnkhdbojdhgaaGreat
open Go.RowKit

theorem uP {w w':World} {nx:Bool} {vx:Value} {ex:Int} (hb:Below (w.heap.size+2) (boxN (boxN w nx vx ex) false (.slice none 0 0) 0) w') :
  (w'.frozen? ⟨w.heap.size,0,none⟩=false)∧(w'.frozen? ⟨w.heap.size+1,0,none⟩=false∧w'.frozen? ⟨w.heap.size+1,1,none⟩=false∧w'.frozen? ⟨w.heap.size+1,2,none⟩=false):=by
 have hs:w.heap.size+1<w.heap.size+2:=by omega
 have hs0:w.heap.size<w.heap.size+2:=by omega
 have h:=(qk (boxN w nx vx ex) false (.slice none 0 0) 0).2
 rw [show (boxN w nx vx ex).heap.size=w.heap.size+1 by simp] at h
 have h0:=(qk w nx vx ex).2.1
 have hb2:=ao (boxN w nx vx ex) false (.slice none 0 0) 0
 exact⟨((hb.frozen (p:=⟨w.heap.size,0,none⟩) hs0).trans (hb2.frozen (p:=⟨w.heap.size,0,none⟩) (by simp))).trans h0,(hb.frozen (p:=⟨w.heap.size+1,0,none⟩) hs).trans h.1,(hb.frozen (p:=⟨w.heap.size+1,1,none⟩) hs).trans h.2.1,(hb.frozen (p:=⟨w.heap.size+1,2,none⟩) hs).trans h.2.2⟩

def jL (neg:Bool) (N:Nat):Bool:=if N=0 then neg else !neg
theorem GH (neg:Bool) (N:Nat):sg (jL neg N) N= - sg neg N:=by
 unfold jL
 by_cases h:N=0
 ·rw [if_pos h,h];cases neg<;>rfl
 ·rw [if_neg h];cases neg<;>simp [sg]

set_option maxHeartbeats 1600000 in
theorem ED (neg:Bool) (v:Value) (e:Int) (N:Nat) (w:World) (h:DN w v N) :
  Calls Tryz.prog 160 #[.agg #[.bool neg,v,.int .i64 e]] w fun x w'=>x=.returned (.agg #[.bool (jL neg N),v,.int .i64 e])∧DN w' v N∧Below w.heap.size w w':=by
 obtain⟨p,c,rfl⟩:=h.form
 generalize nd N=l at *
 have HB0:Hid (Below w.heap.size w (boxN (boxN w neg (.slice p l c) e) false (.slice none 0 0) 0)):=(ao w neg (.slice p l c) e).trans ((ao (boxN w neg (.slice p l c) e) false (.slice none 0 0) 0).mono (by simp))
 have HZ:=aa (cN w neg (.slice p l c) e false (.slice none 0 0) 0)
 have H60:=aa (jc w neg (.slice p l c) e false (.slice none 0 0) 0)
 have H1:=aa (h.below HB0.out)
 have HDN:=aa fun w' (hb:Below w.heap.size w w')=>h.below hb
 clear h
 have h9:w.heap.size≤w.heap.size+1:=by omega
 unfold jL
 by_cases h0:N=0
 ·subst h0
  rw [if_pos rfl]
  go_enter Tryz.func160,Tryz.ntmps160
  go_wp2_with fail
  refine (aJ _ _ _ 0 true _ H1.out rfl).mono ?_
  rintro x w1 ⟨rfl,hb1⟩
  have HB1:Hid (Below (w.heap.size+2) (boxN (boxN w neg (.slice p l c) e) false (.slice none 0 0) 0) w1):=hb1.mono (by rw [HZ.out];omega)
  obtain⟨c0,c1,c2,c3,c4,c5⟩:=H60.out.below hb1 (by rw [HZ.out];omega)
  obtain⟨q0,f0,f1,f2⟩:=uP HB1.out
  have HB:Hid (Below w.heap.size w (((w1.setCell ⟨w.heap.size+1,0,none⟩ (.bool neg)).setCell ⟨w.heap.size+1,1,none⟩ (.slice p l c)).setCell ⟨w.heap.size+1,2,none⟩ (.int .i64 e))):=(((HB0.out.trans (HB1.out.mono (by omega))).setCell h9 _).setCell h9 _).setCell h9 _
  clear hb1
  go_wp2_with fail
  refine bodyPost_ret (v:=.agg #[.bool neg,.slice p l c,.int .i64 e]) (by simp [results,Tryz.results160,go_sem,c3,c4,c5]) rfl ⟨rfl,HDN.out _ HB.out,?_⟩
  exact HB.out
 ·rw [if_neg h0]
  have HN:=aa h0
  clear h0
  go_enter Tryz.func160,Tryz.ntmps160
  go_wp2_with fail
  refine (aJ _ _ _ N false _ H1.out (decide_eq_false HN.out)).mono ?_
  rintro x w1 ⟨rfl,hb1⟩
  have HB1:Hid (Below (w.heap.size+2) (boxN (boxN w neg (.slice p l c) e) false (.slice none 0 0) 0) w1):=hb1.mono (by rw [HZ.out];omega)
  obtain⟨c0,c1,c2,c3,c4,c5⟩:=H60.out.below hb1 (by rw [HZ.out];omega)
  obtain⟨q0,f0,f1,f2⟩:=uP HB1.out
  have HB:Hid (Below w.heap.size w ((((w1.setCell ⟨w.heap.size,0,none⟩ (.bool !neg)).setCell ⟨w.heap.size+1,0,none⟩ (.bool !neg)).setCell ⟨w.heap.size+1,1,none⟩ (.slice p l c)).setCell ⟨w.heap.size+1,2,none⟩ (.int .i64 e))):=((((HB0.out.trans (HB1.out.mono (by omega))).setCell (Nat.le_refl _) _).setCell h9 _).setCell h9 _).setCell h9 _
  clear hb1
  go_wp2_with fail
  refine bodyPost_ret (v:=.agg #[.bool !neg,.slice p l c,.int .i64 e]) (by simp [results,Tryz.results160,go_sem,c3,c4,c5]) rfl ⟨rfl,HDN.out _ HB.out,?_⟩
  exact HB.out

end Go.Proofs.YtkcnkhdbojdhgaaGreat
