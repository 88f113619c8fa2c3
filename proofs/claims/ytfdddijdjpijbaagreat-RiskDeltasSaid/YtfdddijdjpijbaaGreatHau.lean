/-  -/
import Derived.Test.YtfdddijdjpijbaaGreatHar
import Derived.Laws.AppendOwnNone
import Derived.OwnWalk
import Derived.WalkKit
import Derived.Handy
import Derived.Test.YtfdddijdjpijbaaGreatRows
import Derived.ProofKit
import Derived.OpenShut
import Derived.Carry
import Derived.Deep.Slices
import Derived.SizedLaws
set_option maxRecDepth 100000
namespace Go.Proofs.YtfdddijdjpijbaaGreat
open Go.RowKit
theorem vA:(Tryz.prog.info? 41).map (fun i=>(i.zero,i.size,i.bytes))=some (some (.int .u64 0),1,8):=by kernel_rfl
structure USrc (w:World) (p:Option Addr) (b off:Nat) (xs:List Nat):Prop where
 at_:0<xs.length->p=some ⟨b,off,none⟩
 lt:0<xs.length->b<w.heap.size
 cell:∀ j,j<xs.length->w.cell? ⟨b,off+j,none⟩=some (.int .u64 (xs.getD j 0:Nat))
theorem USrc.below {w a:World} {p:Option Addr} {b off:Nat} {xs:List Nat} (h:USrc w p b off xs) (c:Below w.heap.size w a):USrc a p b off xs:=
 ⟨h.at_,fun e=>Nat.lt_of_lt_of_le (h.lt e) c.size,fun j d=>(c.cell (p:=⟨b,off+j,none⟩) (h.lt (by omega))).trans (h.cell j d)⟩
theorem bq {w:World} {base n:Nat} {v:Value} {xs:List Nat} (h:w.ownsRow base 41 1 v n (xs.map uV)) (hn:xs.length=n) :
  ∃ p g c,v=.slice p n c/\USrc w p g 0 xs/\base<=g/\n<=c/\c<=maxLen:=by
 rcases h.2 with⟨rfl,rfl⟩| ⟨g,d,f,rfl,e,j,b,a,l,k⟩
 ·exact⟨none,base,0,rfl,⟨fun h=>by omega,fun h=>by omega,fun i hi=>by omega⟩,Nat.le_refl _,Nat.le_refl _,Nat.zero_le _⟩
 ·refine⟨_,g,d,rfl,⟨fun _=>rfl,fun _=>(Array.getElem?_eq_some_iff.1 j).1,fun i hi=>?_⟩,e,b,a⟩
  rw [Nat.zero_add,World.ownsRow.cellAt h i (by omega),List.getElem?_map,List.getD_eq_getElem?_getD,List.getElem?_eq_getElem hi];rfl
theorem qe (w:World) (base:Nat):w.ownsRow base 41 1 (.slice none 0 0) 0 (([]:List Nat).map uV):=⟨rfl,Or.inl ⟨rfl,rfl⟩⟩
theorem aq {w d:World} {base n:Nat} {v:Value} {xs:List Nat} (h:w.ownsRow base 41 1 v n (xs.map uV)) (e:Below w.heap.size w d):d.ownsRow base 41 1 v n (xs.map uV):=by
 refine⟨h.1,?_⟩
 rcases h.2 with f | ⟨g,c,b,rfl,i,a,rest⟩
 ·exact .inl f
 ·exact .inr ⟨g,c,b,rfl,i,by rw [e.block g (Array.getElem?_eq_some_iff.1 a).1];exact a,rest⟩
theorem xI (w:World) (x:Nat):(w.alloc (.cells #[.int .u64 (x:Int)] 41)).ownsRow w.heap.size 41 1 (.slice (some ⟨w.heap.size,0,none⟩) 1 1) 1 ([x].map uV):=
 ⟨rfl,.inr ⟨w.heap.size,1,#[.int .u64 (x:Int)],rfl,Nat.le_refl _,heap_alloc_new w _,Nat.le_refl _,by unfold maxLen;omega,rfl,rfl⟩⟩
theorem be {w b:World} {v:Value} {B n:Nat} {xs:List Value} (i:w.ownsRow B 41 1 v n xs) (h:w.grownBy b v.ownBlock) (f:B<=w.heap.size):Below B w b:=
 (Below.refl B w).grown h f (fun k c=>by
  rcases i.2 with⟨rfl,_⟩| ⟨g,e,d,rfl,a,_⟩
  ·cases c
  ·obtain rfl:g=k:=by simpa [Value.ownBlock] using c
   exact a)
theorem aO (w:World) {d:Array Oper} {rest:List Oper} {o:Oper} {a:Act} {Q:Exit->Act->World->Prop} (l:o.guard=none) (s x:Operand)
  (C:o.op=.call { callee:=.builtin .append,args:=#[s,x],argTypes:=#[33,33] })
  (base:Nat) (v:Value) (n:Nat) (xs:List Nat) (B:a.eval s=v) (e:w.ownsRow base 41 1 v n (xs.map uV))
  (g:Nat) (z:Nat) (y:a.eval x=.slice (some ⟨g,0,none⟩) 1 1) (hc:w.cell? ⟨g,0,none⟩=some (.int .u64 (z:Int))) (hn:n<=17592186044415) (b:base<=w.heap.size)
  (h:∀ f c,c.ownsRow base 41 1 f (n+1) ((xs++[z]).map uV)->w.grownBy c v.ownBlock->wpList Tryz.prog d Q rest (a.put o.dst f) c):wpList Tryz.prog d Q (o::rest) a w:=by
 obtain⟨r,hi,i,k,m⟩:=info_parts vA;refine wpList_append_own w l s x 33 C base 41 r (.int .u64 0) 1 8 Tryz.underlying33 hi i k m rfl (by decide) v n (xs.map uV) B e ⟨g,0,none⟩ 1 1 [uV z] y rfl ?_ (fun u q=>by rw [List.mem_singleton] at q;rw [q];rfl) (by unfold maxLen;omega) (by omega) b ?_
 ·intro j u p;cases j with
  | zero=>
   have:uV z=u:=Option.some.inj p;rw [<- this,Addr.add_lit];exact hc
  | succ j=>cases p
 ·intro f c A t _;refine h f c ?_ t
  rw [List.map_append];exact A
theorem jx:(Tryz.prog.info? 27).map (fun i=>(i.zero,i.size,i.bytes))=some (some (.float .f64 0),1,8):=by kernel_rfl
structure FlSrc (w:World) (p:Option Addr) (b off:Nat) (xs:List Nat):Prop where
 at_:0<xs.length->p=some ⟨b,off,none⟩
 lt:0<xs.length->b<w.heap.size
 cell:∀ j,j<xs.length->w.cell? ⟨b,off+j,none⟩=some (.float .f64 (xs.getD j 0))
theorem FlSrc.below {w a:World} {p:Option Addr} {b off:Nat} {xs:List Nat} (h:FlSrc w p b off xs) (c:Below w.heap.size w a):FlSrc a p b off xs:=
 ⟨h.at_,fun e=>Nat.lt_of_lt_of_le (h.lt e) c.size,fun j d=>(c.cell (p:=⟨b,off+j,none⟩) (h.lt (by omega))).trans (h.cell j d)⟩
theorem FQ {w:World} {base n:Nat} {v:Value} {xs:List Nat} (h:w.ownsRow base 27 1 v n (xs.map fV)) (hn:xs.length=n) :
  ∃ p g c,v=.slice p n c/\FlSrc w p g 0 xs/\base<=g/\n<=c/\c<=maxLen:=by
 rcases h.2 with⟨rfl,rfl⟩| ⟨g,d,f,rfl,e,j,b,a,l,k⟩
 ·exact⟨none,base,0,rfl,⟨fun h=>by omega,fun h=>by omega,fun i hi=>by omega⟩,Nat.le_refl _,Nat.le_refl _,Nat.zero_le _⟩
 ·refine⟨_,g,d,rfl,⟨fun _=>rfl,fun _=>(Array.getElem?_eq_some_iff.1 j).1,fun i hi=>?_⟩,e,b,a⟩
  rw [Nat.zero_add,World.ownsRow.cellAt h i (by omega),List.getElem?_map,List.getD_eq_getElem?_getD,List.getElem?_eq_getElem hi];rfl
structure Flw where
 (day:Int) (am:Nat) (cur:Int)
def aC:Flw:=⟨0,0,0⟩
def aF (a:Nat):Value:=.float .f64 a
def aB (a:Nat):Value:=.int .u64 (a:Int)
structure FCells (mk:Nat->Value) (w:World) (b o:Nat) (f:Flw):Prop where
 c0:w.cell? ⟨b,o,none⟩=some (.int .i64 f.day)
 c1:w.cell? ⟨b,o+1,none⟩=some (mk f.am)
 c2:w.cell? ⟨b,o+2,none⟩=some (.int .i64 f.cur)
theorem FCells.below {e:Nat->Value} {w d:World} {B b o:Nat} {f:Flw} (h:FCells e w b o f) (a:Below B w d) (c:b<B):FCells e d b o f:=
 ⟨(a.cell (p:=⟨b,o,none⟩) c).trans h.c0,(a.cell (p:=⟨b,o+1,none⟩) c).trans h.c1,(a.cell (p:=⟨b,o+2,none⟩) c).trans h.c2⟩
structure JSrc (mk:Nat->Value) (w:World) (p:Option Addr) (b off:Nat) (l:List Flw):Prop where
 at_:0<l.length->p=some ⟨b,off,none⟩
 lt:0<l.length->b<w.heap.size
 cell:∀ i,i<l.length->FCells mk w b (off+i*3) (l.getD i aC)
theorem JSrc.below {c:Nat->Value} {w a:World} {p:Option Addr} {b off:Nat} {l:List Flw} (h:JSrc c w p b off l) (d:Below w.heap.size w a):JSrc c a p b off l:=
 ⟨h.at_,fun f=>Nat.lt_of_lt_of_le (h.lt f) d.size,fun j e=>(h.cell j e).below d (h.lt (by omega))⟩
theorem JSrc.stay {c:Nat->Value} {w a:World} {B:Nat} {p:Option Addr} {b off:Nat} {l:List Flw} (h:JSrc c w p b off l) (d:Below B w a) (g:0<l.length->b<B):JSrc c a p b off l:=
 ⟨h.at_,fun f=>Nat.lt_of_lt_of_le (h.lt f) d.size,fun j e=>(h.cell j e).below d (g (by omega))⟩
def flC (a:Nat->Value) (r:Flw):List Value:=[.int .i64 r.day,a r.am,.int .i64 r.cur]
def gC (a:Nat->Value):List Flw->List Value
 | []=>[]
 | r::l=>flC a r++gC a l
theorem qX (a:Nat->Value):∀ l:List Flw,(gC a l).length=l.length*3
 | []=>rfl
 | r::l=>by rw [gC,List.length_append,qX a l,List.length_cons];show 3+_=_;omega
theorem nW (c:Nat->Value):∀ a b:List Flw,gC c (a++b)=gC c a++gC c b
 | [],_=>rfl
 | r::a,b=>by rw [List.cons_append,gC,gC,nW c a b,List.append_assoc]
theorem zo (a:Nat->Value):∀ (l:List Flw) (i j:Nat),i<l.length->j<3->(gC a l)[i*3+j]? =(flC a (l.getD i aC))[j]?
 | [],i,j,h,_=>by simp at h
 | r::l,0,j,_,hj=>by
  rw [gC,Nat.zero_mul,Nat.zero_add,List.getElem?_append_left (by show j<3;exact hj)];rfl
 | r::l,i+1,j,h,hj=>by
  rw [gC,List.getElem?_append_right (by show 3<=_;omega),show (i+1)*3+j - (flC a r).length=i*3+j by show _ - 3=_;omega,zo a l i j (by simpa using h) hj]
  rfl
theorem zp {b:Nat->Value} (c:∀ a,(b a).oneCell'=true):∀ (l:List Flw),∀ u ∈ gC b l,u.oneCell'=true
 | [],u,h=>by cases h
 | r::l,u,h=>by
  rw [gC,List.mem_append] at h
  rcases h with h | h
  ·simp only [flC,List.mem_cons,List.not_mem_nil,or_false] at h
   rcases h with rfl | rfl | rfl
   ·rfl
   ·exact c _
   ·rfl
  ·exact zp c l u h
theorem zq {b:Nat->Value} {w:World} {base n:Nat} {e:TypeId} {v:Value} {l:List Flw} (h:w.ownsRow base e 3 v n (gC b l)) (hn:l.length=n) :
  ∃ p g c,v=.slice p n c/\JSrc b w p g 0 l/\base<=g/\n<=c/\c<=maxLen:=by
 rcases h.2 with⟨rfl,rfl⟩| ⟨g,k,q,rfl,o,r,f,d,t,s⟩
 ·refine⟨none,base,0,rfl,⟨fun h=>by omega,fun h=>by omega,fun i hi=>by omega⟩,Nat.le_refl _,Nat.le_refl _,Nat.zero_le _⟩
 ·refine⟨_,g,k,rfl,⟨fun _=>rfl,fun _=>(Array.getElem?_eq_some_iff.1 r).1,fun i hi=>?_⟩,o,f,d⟩
  have a:∀ j<3,w.cell? ⟨g,0+i*3+j,none⟩=(flC b (l.getD i aC))[j]? :=fun j m=>by
   rw [<- zo b l i j hi m,show 0+i*3+j=i*3+j by omega]
   exact World.ownsRow.cellAt h (i*3+j) (by omega)
  exact⟨a 0 (by omega),a 1 (by omega),a 2 (by omega)⟩
theorem Kx (a:Nat->Value) (w:World) (base:Nat) (e:TypeId):w.ownsRow base e 3 (.slice none 0 0) 0 (gC a []):=⟨rfl,Or.inl ⟨rfl,rfl⟩⟩
theorem BY {w d:World} {base n:Nat} {e:TypeId} {v:Value} {xs:List Value} (h:w.ownsRow base e 3 v n xs) (f:Below w.heap.size w d):d.ownsRow base e 3 v n xs:=by
 refine⟨h.1,?_⟩
 rcases h.2 with i | ⟨g,c,b,rfl,j,a,rest⟩
 ·exact .inl i
 ·exact .inr ⟨g,c,b,rfl,j,by rw [f.block g (Array.getElem?_eq_some_iff.1 a).1];exact a,rest⟩
theorem wE {w b:World} {v:Value} {B n:Nat} {e:TypeId} {xs:List Value} (j:w.ownsRow B e 3 v n xs) (i:w.grownBy b v.ownBlock) (h:B<=w.heap.size):Below B w b:=
 (Below.refl B w).grown i h (fun k c=>by
  rcases j.2 with⟨rfl,_⟩| ⟨g,f,d,rfl,a,_⟩
  ·cases c
  ·obtain rfl:g=k:=by simpa [Value.ownBlock] using c
   exact a)
theorem Nz:(Tryz.prog.info? 68).map (fun i=>(i.zero,i.size,i.bytes))=some (some (.agg #[.int .i64 0,aB 0,.int .i64 0]),3,24):=by kernel_rfl
end Go.Proofs.YtfdddijdjpijbaaGreat
namespace Go.Proofs.YtfdddijdjpijbaaGreat
open Go.ChangeShapes Go.WideShapes Go.ChangeAt Go.RowKit
theorem nr:Tryz.prog.cellsOf 3=1:=by kernel_rfl
theorem Gk:Tryz.prog.cellsOf 27=1:=by kernel_rfl
theorem Cb:Tryz.prog.cellsOf 23=1:=by kernel_rfl
theorem Cc:Tryz.prog.cellsOf 24=1:=by kernel_rfl
theorem Gl:Tryz.prog.bytesOf 3=8:=by kernel_rfl
theorem Gm:Tryz.prog.bytesOf 27=8:=by kernel_rfl
def Cd (n:Int):Prop:=-9223372036854775808<=n/\n<=9223372036854775807
theorem kW {n:Int} (h:(Lit.int .i64 n).wf=true):Cd n:=by
 simp only [Lit.wf,IntKind.min,IntKind.max,IntKind.signed,IntKind.bits] at h
 simp at h
 unfold Cd;omega
def KJ:Value->Int
 | .int _ n=>n
 | _=>0
def KK:Value->Nat
 | .float _ b=>b
 | _=>0
theorem ND {H:Type} {enc:TypeId×Value->H} {P:Program} {w:World} {base n:Nat} {a:Nat->Bool} {c:Bool} {e:TypeId} {v:Value} {x:DataW H×List MemPlace} (f:P.underlying e=some (.float .f64)) (h:DataW.trod enc P w base a c n e [v]=some x) :
  ∃ b,v=.float .f64 b/\b<18446744073709551616:=by
 cases n with
 | zero=>simp [DataW.trod] at h
 | succ n=>
  cases v with
  | float k b=>
   simp only [DataW.trod,f] at h
   by_cases d:k=.f64/\(Lit.float .f64 b).wf=true
   ·obtain⟨rfl,d⟩:=d;exact⟨b,rfl,by simpa [Lit.wf] using d⟩
   ·rw [if_neg d] at h;cases h
  | _=>simp [DataW.trod,f] at h
theorem sM {H:Type} {enc:TypeId×Value->H} {W:World} {o:Nat} {v:Value} {x:DataW H×List MemPlace} (h:DataW.trod enc Tryz.prog W 0 (fun _=>true) true o 23 [v]=some x) :
  ∃ p c d,v=.slice p c d/\c<=d/\d<=maxLen/\(d=0\/d*8 ∈ x.1.weights Tryz.prog 23)/\∃ b off xs,xs.length=c/\VSrc W p b off c (xV xs)/\∀ i<c,Cd (xs.getD i 0):=by
 rcases Go.Deep.open_slice1 Tryz.underlying23 nr h with⟨f,_⟩| ⟨a,c,d,m,n,V,D,F,f,_,w,B,l,t,C⟩
 ·obtain rfl:=(List.cons.inj f).1;exact⟨none,0,0,rfl,Nat.le_refl _,Nat.zero_le _,Or.inl rfl,0,0,[],rfl,⟨fun h=>by simp at h,fun h=>by simp at h,fun j q=>by simp at q⟩,fun i hi=>by simp at hi⟩
 ·obtain rfl:=(List.cons.inj f).1;simp only [if_true] at l
  subst l;obtain⟨b,off,e⟩:=a;refine⟨_,c,m,rfl,w,B,Or.inr (by rw [t];simp only [DataW.weights,Tryz.underlying23,List.length_map,List.length_range,Gl,Nat.add_sub_cancel' w];exact List.mem_cons_self),?_⟩
  have k:∀ i,i<c->W.cell? (Addr.add ⟨b,off,e⟩ i)=some (.int .i64 (KJ (V i)))/\Cd (KJ (V i)):=fun i hi=>by
   obtain⟨r,g⟩:=C i (by omega)
   obtain⟨z,A,_,E⟩:=DataW.trod_int Tryz.underlying3 g;rw [(List.cons.inj A).1] at r ⊢
   exact⟨r,kW E⟩
  have u:∀ i,i<c->((List.range c).map fun i=>KJ (V i)).getD i 0=KJ (V i):=fun i hi=>by simp [List.getD,hi]
  refine⟨b,off,(List.range c).map fun i=>KJ (V i),by simp,⟨fun s=>?_,fun s=>?_,fun j q=>?_⟩,fun i hi=>by rw [u i hi];exact (k i hi).2⟩
  ·have g:=World.cell?_spot (k 0 s).1
   rw [show e=none by simpa [Addr.add] using g]
  ·have y:=World.block_lt_of_cell? _ _ (k 0 s).1
   simpa [Addr.add] using y
  ·have r:=(k j q).1;have g:e=none:=by simpa [Addr.add] using World.cell?_spot (k 0 (by omega)).1
   subst g;unfold xV;rw [u j q,<- r,Addr.add_lit]
theorem sN {H:Type} {enc:TypeId×Value->H} {W:World} {o:Nat} {v:Value} {x:DataW H×List MemPlace} (h:DataW.trod enc Tryz.prog W 0 (fun _=>true) true o 24 [v]=some x) :
  ∃ p c d,v=.slice p c d/\c<=d/\d<=maxLen/\(d=0\/d*8 ∈ x.1.weights Tryz.prog 24)/\∃ b off ys,ys.length=c/\VSrc W p b off c (flV ys)/\∀ i<c,ys.getD i 0<18446744073709551616:=by
 rcases Go.Deep.open_slice1 Tryz.underlying24 Gk h with⟨f,_⟩| ⟨a,c,d,m,n,V,D,F,f,_,y,C,l,t,E⟩
 ·obtain rfl:=(List.cons.inj f).1;exact⟨none,0,0,rfl,Nat.le_refl _,Nat.zero_le _,Or.inl rfl,0,0,[],rfl,⟨fun h=>by simp at h,fun h=>by simp at h,fun j q=>by simp at q⟩,fun i hi=>by simp at hi⟩
 ·obtain rfl:=(List.cons.inj f).1;simp only [if_true] at l
  subst l;obtain⟨b,off,e⟩:=a;refine⟨_,c,m,rfl,y,C,Or.inr (by rw [t];simp only [DataW.weights,Tryz.underlying24,List.length_map,List.length_range,Gm,Nat.add_sub_cancel' y];exact List.mem_cons_self),?_⟩
  have k:∀ i,i<c->W.cell? (Addr.add ⟨b,off,e⟩ i)=some (.float .f64 (KK (V i)))/\KK (V i)<18446744073709551616:=fun i hi=>by
   obtain⟨r,g⟩:=E i (by omega)
   obtain⟨z,B,u⟩:=ND Tryz.underlying27 g;rw [B] at r ⊢
   exact⟨r,u⟩
  have w:∀ i,i<c->((List.range c).map fun i=>KK (V i)).getD i 0=KK (V i):=fun i hi=>by simp [List.getD,hi]
  refine⟨b,off,(List.range c).map fun i=>KK (V i),by simp,⟨fun s=>?_,fun s=>?_,fun j q=>?_⟩,fun i hi=>by rw [w i hi];exact (k i hi).2⟩
  ·have g:=World.cell?_spot (k 0 s).1
   rw [show e=none by simpa [Addr.add] using g]
  ·have A:=World.block_lt_of_cell? _ _ (k 0 s).1
   simpa [Addr.add] using A
  ·have r:=(k j q).1;have g:e=none:=by simpa [Addr.add] using World.cell?_spot (k 0 (by omega)).1
   subst g;unfold flV;rw [w j q,<- r,Addr.add_lit]
theorem Ma:Tryz.prog.cellsOf 26=4:=by kernel_rfl
theorem CX {H:Type} {enc:TypeId×Value->H} {W:World} {base:Nat} {v:Value} {d:DataW H} {ps:List MemPlace} (f:Value.okWide Tryz.prog W .any base 26 v) (h:DataW.Trod enc Tryz.prog W 0 (fun _=>true) true 26 v d ps) :
  ∃ (o kind:Int) (x q:Option Addr) (g cx k cy:Nat),v=.agg #[.int .i64 o,.int .i64 kind,.slice x g cx,.slice q k cy]/\Cd o/\Cd kind/\g<=cx/\cx<=maxLen/\k<=cy/\cy<=maxLen/\(cx=0\/cx*8 ∈ d.weights Tryz.prog 26)/\(cy=0\/cy*8 ∈ d.weights Tryz.prog 26)/\(∃ b off xs,xs.length=g/\VSrc W x b off g (xV xs)/\∀ i<g,Cd (xs.getD i 0))/\∃ b off ys,ys.length=k/\VSrc W q b off k (flV ys)/\∀ i<k,ys.getD i 0<18446744073709551616:=by
 obtain⟨R,rfl,I⟩:=okWide_struct Tryz.underlying26 f;obtain⟨N,L⟩:=h;obtain⟨xs,m,_,K,E,n,a⟩:=DataW.trod_struct Tryz.underlying26 L;rw [Ma] at E
 have F:xs.length=4:=n;obtain⟨l⟩:=R;have e:(Value.agg ⟨l⟩).cells.toList=l:=rfl;rw [e] at E a
 have r:DataW.trod enc Tryz.prog W 0 (fun _=>true) true m 3 ((l.drop 0).take (Tryz.prog.cellsOf 3))=xs[0]? :=a 0 _ rfl
 have s:DataW.trod enc Tryz.prog W 0 (fun _=>true) true m 3 ((l.drop 1).take (Tryz.prog.cellsOf 3))=xs[1]? :=a 1 _ rfl
 have u:DataW.trod enc Tryz.prog W 0 (fun _=>true) true m 23 ((l.drop 2).take (Tryz.prog.cellsOf 23))=xs[2]? :=a 2 _ rfl
 have w:DataW.trod enc Tryz.prog W 0 (fun _=>true) true m 24 ((l.drop 3).take (Tryz.prog.cellsOf 24))=xs[3]? :=a 3 _ rfl
 rw [nr,List.getElem?_eq_getElem (by omega)] at r
 rw [nr,List.getElem?_eq_getElem (by omega)] at s
 rw [Cb,List.getElem?_eq_getElem (by omega)] at u
 rw [Cc,List.getElem?_eq_getElem (by omega)] at w
 have C:d=.agg (xs.map (·.1)):=congrArg Prod.fst K;have M:∀ (i:Nat) (p:TypeId) (hi:i<xs.length),([3,3,23,24]:List TypeId)[i]? =some p->∀ c,c ∈ xs[i].1.weights Tryz.prog p->c ∈ d.weights Tryz.prog 26:=fun i p hi J c Y=>by
  rw [C];simp only [DataW.weights,Tryz.underlying26];exact DataW.weights_mem_each (j:=i) (t:=p) (d:=xs[i].1) J (by rw [List.getElem?_map,List.getElem?_eq_getElem hi];rfl) c Y
 clear a I L f e
 match l,E,r,s,u,w with
 | [x0,x1,x2,x3],_,r,s,u,w=>
  have z:DataW.trod enc Tryz.prog W 0 (fun _=>true) true m 3 [x0]=some xs[0]:=r
  have y:DataW.trod enc Tryz.prog W 0 (fun _=>true) true m 3 [x1]=some xs[1]:=s
  have A:DataW.trod enc Tryz.prog W 0 (fun _=>true) true m 23 [x2]=some xs[2]:=u
  have G:DataW.trod enc Tryz.prog W 0 (fun _=>true) true m 24 [x3]=some xs[3]:=w
  obtain⟨o,D,_,B⟩:=DataW.trod_int Tryz.underlying3 z;obtain rfl:x0=.int .i64 o:=(List.cons.inj D).1;obtain⟨kind,P,_,Z⟩:=DataW.trod_int Tryz.underlying3 y;obtain rfl:x1=.int .i64 kind:=(List.cons.inj P).1;obtain⟨x,g,cx,rfl,Q,T,V,O⟩:=sM (v:=x2) A;obtain⟨q,k,cy,rfl,X,S,U,b3⟩:=sN (v:=x3) G;exact⟨o,kind,x,q,g,cx,k,cy,rfl,kW B,kW Z,Q,T,X,S,V.imp_right (M 2 _ (by omega) rfl _),U.imp_right (M 3 _ (by omega) rfl _),O,b3⟩
end Go.Proofs.YtfdddijdjpijbaaGreat
