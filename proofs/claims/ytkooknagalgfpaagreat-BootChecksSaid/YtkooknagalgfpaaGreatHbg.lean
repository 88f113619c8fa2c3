/-  -/
import Derived.Test.YtkooknagalgfpaaGreatHav
import Derived.Test.YtkooknagalgfpaaGreatHao
import Derived.Test.YtkooknagalgfpaaGreatHal
import Derived.Test.YtkooknagalgfpaaGreatHbd
import Derived.Test.YtkooknagalgfpaaGreatHbe
import Derived.Test.YtkooknagalgfpaaGreatHax
namespace Go.Proofs.YtkooknagalgfpaaGreat
open Go.RowKit

def kj (base:Int) (q:Quo):Spc:=⟨base,q.fin,q.n,3,1,0,0,0⟩
inductive CutR (base:Int) (q:Quo):Int→List Int→Prop
 | dep (h:q.kind=1):CutR base q 0 [base,q.fin]
 | long (K:Nat) (h:q.kind=2) (hK:DatR (kj base q) K) (hl:1200≤K):CutR base q 81 []
 | swap (K:Nat) (h:q.kind=2) (hK:DatR (kj base q) K) (hl:K<1200):CutR base q 0 (lY (kj base q) (jK (kj base q) K))
structure OkQ (base:Int) (q:Quo):Prop where
 kd:q.kind=1∧q.n=0∨q.kind=2∧1≤q.n∧q.n≤120
 fn:finB (dblW q.rate:Nat)=true
 c1:1≤q.count
 c6:q.count≤6
 b0:0≤base
 lt:base<q.fin
 hi:q.fin≤109572
theorem Ms {q:Quo} (h:iJ q=false):(q.kind=1∧q.n=0∨q.kind=2∧1≤q.n∧q.n≤120)∧finB (dblW q.rate:Nat)=true:=by
 unfold iJ at h
 simp only [Bool.or_eq_false_iff,Bool.and_eq_false_iff,Bool.not_eq_false',decide_eq_false_iff_not,Decidable.not_not] at h
 obtain⟨⟨⟨h1,h2⟩,h3⟩,h4⟩:=h
 refine⟨?_,h4⟩
 rcases h1 with h1 | h1
 ·exact Or.inl ⟨h1,h2.resolve_left (fun c=>c h1)⟩
 ·have:=h3.resolve_left (fun c=>c h1)
  exact Or.inr ⟨h1,by omega,by omega⟩
theorem Mt {base last:Int} {q:Quo} (h:bN q last=0) (b0:0≤base) (hl:base≤last):OkQ base q:=by
 unfold bN at h
 cases hb:iJ q with
 | true=>rw [hb,if_pos rfl] at h;omega
 | false=>
  rw [hb,if_neg (by simp)] at h
  obtain⟨h1,h2⟩:=Ms hb
  by_cases c:q.count<1∨6<q.count
  ·rw [if_pos c] at h;omega
  ·rw [if_neg c] at h
   by_cases d:q.fin≤last∨109572<q.fin
   ·rw [if_pos d] at h;omega
   ·exact⟨h1,h2,by omega,by omega,b0,by omega,by omega⟩
theorem Mu {base:Int} {q:Quo} (h:OkQ base q):bN q base=0:=by
 have hb:iJ q=false:=by
  unfold iJ
  simp only [Bool.or_eq_false_iff,Bool.and_eq_false_iff,Bool.not_eq_false',decide_eq_false_iff_not,Decidable.not_not]
  have:=h.fn
  refine⟨⟨⟨?_,?_⟩,?_⟩,this⟩ <;>rcases h.kd with⟨a,b⟩| ⟨a,b,c⟩ <;>omega
 unfold bN
 have:=h.c1;have:=h.c6;have:=h.lt;have:=h.hi
 rw [hb,if_neg (by simp),if_neg (by omega),if_neg (by omega)]
theorem uK {base:Int} {q:Quo} (h:OkQ base q) (hk:q.kind=2):SpcOk (kj base q):=by
 have:=h.b0;have:=h.lt;have:=h.hi
 have hn:1≤q.n∧q.n≤120:=by rcases h.kd with⟨a,b⟩| ⟨a,b,c⟩ <;>omega
 unfold kj
 constructor<;>(try unfold ag)<;>dsimp only<;>omega
theorem Mv {base:Int} {q:Quo} (h:OkQ base q):∃ E L,CutR base q E L:=by
 rcases h.kd with⟨a,_⟩| ⟨a,_⟩
 ·exact⟨_,_,.dep a⟩
 ·obtain⟨K,hK⟩:=Oz (uK h a)
  by_cases hl:K<1200
  ·exact⟨_,_,.swap K a hK hl⟩
  ·exact⟨_,_,.long K a hK (by omega)⟩
structure CutF (base:Int) (q:Quo) (n:Nat) (L:List Int):Prop where
 len:L.length=n+1
 lo:1≤n
 hi:n≤1201
 fst:L.getD 0 0=base
 lst:L.getD n 0=q.fin
 up:∀ i<n,L.getD i 0<L.getD (i+1) 0
 day:∀ i≤n,ag (L.getD i 0)
theorem Mw {base:Int} {q:Quo} {L:List Int} (h:OkQ base q) (hc:CutR base q 0 L):∃ n,CutF base q n L:=by
 have h0:=h.b0;have h1:=h.lt;have h2:=h.hi
 generalize hz:(0:Int)=z at hc
 cases hc with
 | dep hk=>
  refine⟨1,rfl,by omega,by omega,rfl,rfl,fun i hi=>?_,fun i hi=>?_⟩
  ·obtain rfl:i=0:=by omega
   exact h1
  ·rcases (show i=0∨i=1 by omega) with rfl | rfl
   ·show ag base;unfold ag;omega
   ·show ag q.fin;unfold ag;omega
 | long K hk hK hl=>omega
 | swap K hk hK hl=>
  have ok:=uK h hk
  have hC:=GN (kj base q) K
  refine⟨jK (kj base q) K+1,BZ _ _,by omega,by omega,rfl,kP _ _,fun i hi=>OC ok hK hC hi,fun i hi=>Ly ok hK hC (by omega)⟩
theorem CutF.le {base:Int} {q:Quo} {n:Nat} {L:List Int} (h:CutF base q n L):∀ d i,i+d≤n→L.getD i 0≤L.getD (i+d) 0
 | 0,i,_=>Int.le_refl _
 | d+1,i,hi=>by
  have:=h.le d i (by omega)
  have:=h.up (i+d) (by omega)
  rw [show i+(d+1)=i+d+1 by omega];omega
theorem CutF.in_ {base:Int} {q:Quo} {n i:Nat} {L:List Int} (h:CutF base q n L) (hi:i≤n):base≤L.getD i 0∧L.getD i 0≤q.fin:=by
 have a:=h.le i 0 (by omega)
 have b:=h.le (n - i) i (by omega)
 rw [Nat.zero_add,h.fst] at a
 rw [show i+(n - i)=n by omega,h.lst] at b
 exact⟨a,b⟩
noncomputable def rX (W:Int) (rs:List Rul) (q:Quo) (a b:Int):Nat:=yW (eO (opB W rs) q.count a b) (cZ q.count)
theorem In {base W a b:Int} {rs:List Rul} {q:Quo} (h:OkQ base q) (hC:OkC W rs) (ha:ag a) (hb:ag b):FracR q.count W a b rs (eO (opB W rs) q.count a b) (cZ q.count) 0:=.fine h.c1 h.c6 ha hb (fun _=>hC)
theorem Ck (W:Int) (rs:List Rul) (q:Quo) {a b:Int} (ha:ag a) (hb:ag b):rX W rs q a b<18446744073709551616∧rX W rs q a b % 9223372036854775808<9218868437227405312:=by
 obtain⟨h1,h2⟩:=wZ (opB W rs) (kind:=q.count) ha hb
 unfold rX
 refine⟨Qg h1 h2,?_⟩
 unfold yW
 split
 ·decide
 ·have:=sV (X:=(eO (opB W rs) q.count a b).natAbs) (Y:=(cZ q.count).natAbs) (by omega)
  rw [kI _ (by omega)];exact this
noncomputable def uL (W:Int) (rs:List Rul) (q:Quo) (a b:Int):Nat:=mulR (sB (dblW q.rate)^^sB (rX W rs q a b)) (aV (dblW q.rate)*aV (rX W rs q a b))
theorem sY {u:Nat} (h:finB (u:Nat)=true):u % 9223372036854775808<9218868437227405312:=by
 unfold finB szI at h
 have:=of_decide_eq_true h
 omega
theorem Az (W:Int) (rs:List Rul) {q:Quo} {a b:Int} (hq:finB (dblW q.rate:Nat)=true) (ha:ag a) (hb:ag b):floatBits .mul .f64 (dblW q.rate) (rX W rs q a b)=some (uL W rs q a b):=gB (sY hq) (Ck W rs q ha hb).2
noncomputable def bY (W:Int) (rs:List Rul) (q:Quo) (L:List Int) (j:Nat):Itr:=⟨L.getD (j+1) 0,uL W rs q (L.getD j 0) (L.getD (j+1) 0)⟩
noncomputable def pV (W:Int) (rs:List Rul) (q:Quo) (L:List Int) (n:Nat):List Itr:=(List.range n).map (bY W rs q L)
theorem Io (W:Int) (rs:List Rul) (q:Quo) (L:List Int) (n:Nat):(pV W rs q L n).length=n:=by unfold pV;simp
theorem Ej (W:Int) (rs:List Rul) (q:Quo) (L:List Int) (n:Nat):pV W rs q L (n+1)=pV W rs q L n++[bY W rs q L n]:=by
 unfold pV;rw [List.range_succ,List.map_append];rfl
theorem Mx (W:Int) (rs:List Rul) (q:Quo) (L:List Int) {n j:Nat} (h:j<n):(pV W rs q L n).getD j Lt=bY W rs q L j:=by
 unfold pV;simp [List.getD,h]
end Go.Proofs.YtkooknagalgfpaaGreat
namespace Go.Proofs.YtkooknagalgfpaaGreat
open Go.RowKit

def slB (a b:Nat):Nat:=if (ltB 0 (a:Nat)&&ltB 0 (b:Nat))||(ltB (a:Nat) 0&&ltB (b:Nat) 0) then dx 4611686018427387904 (ko (dx 4607182418800017408 a) (dx 4607182418800017408 b)) else 0
def gk (xs:List Int) (ys:List Nat):Nat→List Nat
 | 0=>[bL xs ys 0]
 | k+1=>gk xs ys k++[slB (bL xs ys k) (bL xs ys (k+1))]
def dZ (xs:List Int) (ys:List Nat) (n:Nat):List Nat:=if n=1 then [0] else gk xs ys (n - 2)++[bL xs ys (n - 2)]
theorem jy (xs:List Int) (ys:List Nat):∀ k,(gk xs ys k).length=k+1
 | 0=>rfl
 | k+1=>by show (gk xs ys k++[_]).length=_;rw [List.length_append,jy xs ys k];rfl
theorem qg (xs:List Int) (ys:List Nat) (k:Nat):gk xs ys (k+1)=gk xs ys k++[slB (bL xs ys k) (bL xs ys (k+1))]:=rfl
inductive SlO (a b:Nat):Nat→Prop
 | up (h1:ltB 0 (a:Nat)=true) (h2:ltB 0 (b:Nat)=true):SlO a b (dx 4611686018427387904 (ko (dx 4607182418800017408 a) (dx 4607182418800017408 b)))
 | down1 (h1:ltB 0 (a:Nat)=false) (h3:ltB (a:Nat) 0=true) (h4:ltB (b:Nat) 0=true):SlO a b (dx 4611686018427387904 (ko (dx 4607182418800017408 a) (dx 4607182418800017408 b)))
 | flat1 (h1:ltB 0 (a:Nat)=false) (h3:ltB (a:Nat) 0=true) (h4:ltB (b:Nat) 0=false):SlO a b 0
 | flat2 (h1:ltB 0 (a:Nat)=false) (h3:ltB (a:Nat) 0=false):SlO a b 0
 | flat3 (h1:ltB 0 (a:Nat)=true) (h2:ltB 0 (b:Nat)=false) (h3:ltB (a:Nat) 0=false):SlO a b 0
theorem Iw {u v:Int} (h:ltB u v=true):ltB v u=false:=by
 unfold ltB at h ⊢
 simp only [Bool.and_eq_true,Bool.not_eq_true',decide_eq_true_eq] at h
 rw [h.1.1,h.1.2]
 simp
 omega
theorem OS (a b:Nat):SlO a b (slB a b):=by
 unfold slB
 cases h1:ltB 0 (a:Nat)
 ·cases h3:ltB (a:Nat) 0
  ·simp;exact .flat2 h1 h3
  ·cases h4:ltB (b:Nat) 0
   ·simp;exact .flat1 h1 h3 h4
   ·simp;exact .down1 h1 h3 h4
 ·have h3:=Iw h1
  cases h2:ltB 0 (b:Nat)
  ·rw [h3];simp;exact .flat3 h1 h2 h3
  ·simp;exact .up h1 h2
end Go.Proofs.YtkooknagalgfpaaGreat
namespace Go.Proofs.YtkooknagalgfpaaGreat
open Go.RowKit

def heldN (v a b:Nat):Nat:=(eo (v:Nat) (a:Nat) (b:Nat)).toNat
theorem gX {v a b:Nat} (hv:v<18446744073709551616) (ha:a<18446744073709551616) (hb:b<18446744073709551616):((heldN v a b:Nat):Int)=eo (v:Nat) (a:Nat) (b:Nat):=by
 have:=(xS (bH hv) (bH ha) (bH hb)).1
 unfold heldN;omega
theorem qh {v a b:Nat} (hv:v<18446744073709551616) (ha:a<18446744073709551616) (hb:b<18446744073709551616):heldN v a b<18446744073709551616:=by
 have:=xS (bH hv) (bH ha) (bH hb)
 have e:=gX hv ha hb
 have:=this.2
 omega
def ptP (h d a b:Nat):Nat:=heldN (ko a (dx (rY d h) (fi 3))) a b
def ptQ (h d b p:Nat):Nat:=heldN (qe b (dx (rY d h) (fi 3))) p b
def ptL (xs:List Int) (ys:List Nat) (k:Nat):List Nat:=
 [ys.getD k 0,ptP (fi (xs.getD (k+1) 0 - xs.getD k 0)) ((dZ xs ys xs.length).getD k 0) (ys.getD k 0) (ys.getD (k+1) 0),ptQ (fi (xs.getD (k+1) 0 - xs.getD k 0)) ((dZ xs ys xs.length).getD (k+1) 0) (ys.getD (k+1) 0) (ptP (fi (xs.getD (k+1) 0 - xs.getD k 0)) ((dZ xs ys xs.length).getD k 0) (ys.getD k 0) (ys.getD (k+1) 0)),ys.getD (k+1) 0]
end Go.Proofs.YtkooknagalgfpaaGreat
