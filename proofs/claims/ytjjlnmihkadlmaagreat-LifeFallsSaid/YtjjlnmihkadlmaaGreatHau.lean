/-  -/
import Derived.Test.YtjjlnmihkadlmaaGreatHar
import Derived.Test.YtjjlnmihkadlmaaGreatRows
import Derived.ProofKit
import Derived.OpenShut
import Derived.Carry
import Derived.Deep.Slices
import Derived.SizedLaws
namespace Go.Proofs.YtjjlnmihkadlmaaGreat
open Go.ChangeShapes Go.WideShapes Go.ChangeAt Go.RowKit

theorem Dj:laidOutB Tryz.prog=true:=by kernel_rfl
theorem jZ:Tryz.prog.cellsOf 3=1:=by kernel_rfl
theorem zY:Tryz.prog.cellsOf 54=1:=by kernel_rfl
theorem wj:Tryz.prog.cellsOf 40=1:=by kernel_rfl
theorem wk:Tryz.prog.cellsOf 41=1:=by kernel_rfl
theorem zZ:Tryz.prog.bytesOf 3=8:=by kernel_rfl
theorem Aa:Tryz.prog.bytesOf 54=8:=by kernel_rfl
def qM (n:Int):Prop:=-9223372036854775808≤n∧n≤9223372036854775807
theorem fK {n:Int} (h:(Lit.int .i64 n).wf=true):qM n:=by
 simp only [Lit.wf,IntKind.min,IntKind.max,IntKind.signed,IntKind.bits] at h
 simp at h
 unfold qM;omega
def Dk:Value→Int
 | .int _ n=>n
 | _=>0
def Dl:Value→Nat
 | .float _ b=>b
 | _=>0
theorem Fl {H:Type} {enc:TypeId×Value→H} {P:Program} {w:World} {base n:Nat} {spare:Nat→Bool} {held:Bool} {e:TypeId} {v:Value} {x:DataW H×List MemPlace} (ht:P.underlying e=some (.float .f64)) (h:DataW.trod enc P w base spare held n e [v]=some x) :
  ∃ b,v=.float .f64 b∧b<18446744073709551616:=by
 cases n with
 | zero=>simp [DataW.trod] at h
 | succ n=>
  cases v with
  | float k b=>
   simp only [DataW.trod,ht] at h
   by_cases hw:k=.f64∧(Lit.float .f64 b).wf=true
   ·obtain⟨rfl,hw⟩:=hw
    exact⟨b,rfl,by simpa [Lit.wf] using hw⟩
   ·rw [if_neg hw] at h;cases h
  | _=>simp [DataW.trod,ht] at h
theorem nK {H:Type} {enc:TypeId×Value→H} {W:World} {fuel:Nat} {v:Value} {x:DataW H×List MemPlace} (h:DataW.trod enc Tryz.prog W 0 (fun _=>true) true fuel 40 [v]=some x) :
  ∃ p len cap,v=.slice p len cap∧len≤cap∧cap≤maxLen∧(cap=0∨cap*8 ∈ x.1.weights Tryz.prog 40)∧∃ b off xs,xs.length=len∧VSrc W p b off len (xV xs)∧∀ i<len,qM (xs.getD i 0):=by
 rcases Go.Deep.open_slice1 Tryz.underlying40 jZ h with⟨hcs,_⟩| ⟨a,len,cap,m,n,V,D,Pl,hcs,_,hl,hm,hmm,hxx,hc⟩
 ·obtain rfl:=(List.cons.inj hcs).1
  exact⟨none,0,0,rfl,Nat.le_refl _,Nat.zero_le _,Or.inl rfl,0,0,[],rfl,⟨fun h=>by simp at h,fun h=>by simp at h,fun j hj=>by simp at hj⟩,fun i hi=>by simp at hi⟩
 ·obtain rfl:=(List.cons.inj hcs).1
  simp only [if_true] at hmm
  subst hmm
  obtain⟨b,off,spot⟩:=a
  refine⟨_,len,m,rfl,hl,hm,Or.inr (by rw [hxx];simp only [DataW.weights,Tryz.underlying40,List.length_map,List.length_range,zZ,Nat.add_sub_cancel' hl];exact List.mem_cons_self),?_⟩
  have hv:∀ i,i<len→W.cell? (Addr.add ⟨b,off,spot⟩ i)=some (.int .i64 (Dk (V i)))∧qM (Dk (V i)):=fun i hi=>by
   obtain⟨h1,h2⟩:=hc i (by omega)
   obtain⟨z,hz,_,hw⟩:=DataW.trod_int Tryz.underlying3 h2
   rw [(List.cons.inj hz).1] at h1 ⊢
   exact⟨h1,fK hw⟩
  have hg:∀ i,i<len→((List.range len).map fun i=>Dk (V i)).getD i 0=Dk (V i):=fun i hi=>by simp [List.getD,hi]
  refine⟨b,off,(List.range len).map fun i=>Dk (V i),by simp,⟨fun h0=>?_,fun h0=>?_,fun j hj=>?_⟩,fun i hi=>by rw [hg i hi];exact (hv i hi).2⟩
  ·have h2:=World.cell?_spot (hv 0 h0).1
   rw [show spot=none by simpa [Addr.add] using h2]
  ·have h3:=World.block_lt_of_cell? _ _ (hv 0 h0).1
   simpa [Addr.add] using h3
  ·have h1:=(hv j hj).1
   have h2:spot=none:=by simpa [Addr.add] using World.cell?_spot (hv 0 (by omega)).1
   subst h2
   unfold xV
   rw [hg j hj,← h1,Addr.add_lit]
theorem nL {H:Type} {enc:TypeId×Value→H} {W:World} {fuel:Nat} {v:Value} {x:DataW H×List MemPlace} (h:DataW.trod enc Tryz.prog W 0 (fun _=>true) true fuel 41 [v]=some x) :
  ∃ p len cap,v=.slice p len cap∧len≤cap∧cap≤maxLen∧(cap=0∨cap*8 ∈ x.1.weights Tryz.prog 41)∧∃ b off ys,ys.length=len∧VSrc W p b off len (flV ys)∧∀ i<len,ys.getD i 0<18446744073709551616:=by
 rcases Go.Deep.open_slice1 Tryz.underlying41 zY h with⟨hcs,_⟩| ⟨a,len,cap,m,n,V,D,Pl,hcs,_,hl,hm,hmm,hxx,hc⟩
 ·obtain rfl:=(List.cons.inj hcs).1
  exact⟨none,0,0,rfl,Nat.le_refl _,Nat.zero_le _,Or.inl rfl,0,0,[],rfl,⟨fun h=>by simp at h,fun h=>by simp at h,fun j hj=>by simp at hj⟩,fun i hi=>by simp at hi⟩
 ·obtain rfl:=(List.cons.inj hcs).1
  simp only [if_true] at hmm
  subst hmm
  obtain⟨b,off,spot⟩:=a
  refine⟨_,len,m,rfl,hl,hm,Or.inr (by rw [hxx];simp only [DataW.weights,Tryz.underlying41,List.length_map,List.length_range,Aa,Nat.add_sub_cancel' hl];exact List.mem_cons_self),?_⟩
  have hv:∀ i,i<len→W.cell? (Addr.add ⟨b,off,spot⟩ i)=some (.float .f64 (Dl (V i)))∧Dl (V i)<18446744073709551616:=fun i hi=>by
   obtain⟨h1,h2⟩:=hc i (by omega)
   obtain⟨z,hz,hz2⟩:=Fl Tryz.underlying54 h2
   rw [hz] at h1 ⊢
   exact⟨h1,hz2⟩
  have hg:∀ i,i<len→((List.range len).map fun i=>Dl (V i)).getD i 0=Dl (V i):=fun i hi=>by simp [List.getD,hi]
  refine⟨b,off,(List.range len).map fun i=>Dl (V i),by simp,⟨fun h0=>?_,fun h0=>?_,fun j hj=>?_⟩,fun i hi=>by rw [hg i hi];exact (hv i hi).2⟩
  ·have h2:=World.cell?_spot (hv 0 h0).1
   rw [show spot=none by simpa [Addr.add] using h2]
  ·have h3:=World.block_lt_of_cell? _ _ (hv 0 h0).1
   simpa [Addr.add] using h3
  ·have h1:=(hv j hj).1
   have h2:spot=none:=by simpa [Addr.add] using World.cell?_spot (hv 0 (by omega)).1
   subst h2
   unfold flV
   rw [hg j hj,← h1,Addr.add_lit]
end Go.Proofs.YtjjlnmihkadlmaaGreat
namespace Go.Proofs.YtjjlnmihkadlmaaGreat
open Go.ChangeShapes Go.WideShapes Go.ChangeAt Go.RowKit

theorem DI:Tryz.prog.cellsOf 43=4:=by kernel_rfl
set_option maxRecDepth 100000 in
theorem wH {H:Type} {enc:TypeId×Value→H} {W:World} {base:Nat} {v:Value} {d:DataW H} {ps:List MemPlace} (hval:Value.okWide Tryz.prog W .any base 43 v) (h:DataW.Trod enc Tryz.prog W 0 (fun _=>true) true 43 v d ps) :
  ∃ (bs kind:Int) (px py:Option Addr) (lx cx ly cy:Nat),v=.agg #[.int .i64 bs,.int .i64 kind,.slice px lx cx,.slice py ly cy]∧qM bs∧qM kind∧lx≤cx∧cx≤maxLen∧ly≤cy∧cy≤maxLen∧(cx=0∨cx*8 ∈ d.weights Tryz.prog 43)∧(cy=0∨cy*8 ∈ d.weights Tryz.prog 43)∧(∃ b off xs,xs.length=lx∧VSrc W px b off lx (xV xs)∧∀ i<lx,qM (xs.getD i 0))∧∃ b off ys,ys.length=ly∧VSrc W py b off ly (flV ys)∧∀ i<ly,ys.getD i 0<18446744073709551616:=by
 obtain⟨cs,rfl,hcs⟩:=okWide_struct Tryz.underlying43 hval
 obtain⟨fuel,hf⟩:=h
 obtain⟨xs,m,_,hdd,hl,hlen,hfl⟩:=DataW.trod_struct Tryz.underlying43 hf
 rw [DI] at hl
 have hlen3:xs.length=4:=hlen
 obtain⟨l⟩:=cs
 have e:(Value.agg ⟨l⟩).cells.toList=l:=rfl
 rw [e] at hl hfl
 have e0:DataW.trod enc Tryz.prog W 0 (fun _=>true) true m 3 ((l.drop 0).take (Tryz.prog.cellsOf 3))=xs[0]? :=hfl 0 _ rfl
 have e1:DataW.trod enc Tryz.prog W 0 (fun _=>true) true m 3 ((l.drop 1).take (Tryz.prog.cellsOf 3))=xs[1]? :=hfl 1 _ rfl
 have e2:DataW.trod enc Tryz.prog W 0 (fun _=>true) true m 40 ((l.drop 2).take (Tryz.prog.cellsOf 40))=xs[2]? :=hfl 2 _ rfl
 have e3:DataW.trod enc Tryz.prog W 0 (fun _=>true) true m 41 ((l.drop 3).take (Tryz.prog.cellsOf 41))=xs[3]? :=hfl 3 _ rfl
 rw [jZ,List.getElem?_eq_getElem (by omega)] at e0
 rw [jZ,List.getElem?_eq_getElem (by omega)] at e1
 rw [wj,List.getElem?_eq_getElem (by omega)] at e2
 rw [wk,List.getElem?_eq_getElem (by omega)] at e3
 have hdx:d=.agg (xs.map (·.1)):=congrArg Prod.fst hdd
 have wt:∀ (i:Nat) (ty:TypeId) (hi:i<xs.length),([3,3,40,41]:List TypeId)[i]? =some ty→∀ c,c ∈ xs[i].1.weights Tryz.prog ty→c ∈ d.weights Tryz.prog 43:=fun i ty hi hty c hc=>by
  rw [hdx]
  simp only [DataW.weights,Tryz.underlying43]
  exact DataW.weights_mem_each (j:=i) (t:=ty) (d:=xs[i].1) hty (by rw [List.getElem?_map,List.getElem?_eq_getElem hi];rfl) c hc
 clear hfl hcs hf hval e
 match l,hl,e0,e1,e2,e3 with
 | [x0,x1,x2,x3],_,e0,e1,e2,e3=>
  have e0':DataW.trod enc Tryz.prog W 0 (fun _=>true) true m 3 [x0]=some xs[0]:=e0
  have e1':DataW.trod enc Tryz.prog W 0 (fun _=>true) true m 3 [x1]=some xs[1]:=e1
  have e2':DataW.trod enc Tryz.prog W 0 (fun _=>true) true m 40 [x2]=some xs[2]:=e2
  have e3':DataW.trod enc Tryz.prog W 0 (fun _=>true) true m 41 [x3]=some xs[3]:=e3
  obtain⟨bs,hx0,_,hw0⟩:=DataW.trod_int Tryz.underlying3 e0'
  obtain rfl:x0=.int .i64 bs:=(List.cons.inj hx0).1
  obtain⟨kind,hx,_,hw⟩:=DataW.trod_int Tryz.underlying3 e1'
  obtain rfl:x1=.int .i64 kind:=(List.cons.inj hx).1
  obtain⟨px,lx,cx,rfl,a1,a2,a4,a3⟩:=nK (v:=x2) e2'
  obtain⟨py,ly,cy,rfl,b1,b2,b4,b3⟩:=nL (v:=x3) e3'
  exact⟨bs,kind,px,py,lx,cx,ly,cy,rfl,fK hw0,fK hw,a1,a2,b1,b2,a4.imp_right (wt 2 _ (by omega) rfl _),b4.imp_right (wt 3 _ (by omega) rfl _),a3,b3⟩
theorem pc {H:Type} {ts:List TypeId} {ds:List (DataW H)} (h:(DataW.weightsEach Tryz.prog ts ds).all (·≤reachBytes)=true) {j c:Nat} {d:DataW H} (ht:ts[j]? =some 43) (hd:ds[j]? =some d) (hc:c=0∨c*8 ∈ d.weights Tryz.prog 43):c≤17592186043904:=by
 rcases hc with rfl | hc
 ·exact Nat.zero_le _
 ·have h1:=of_decide_eq_true (List.all_eq_true.1 h _ (DataW.weights_mem_each ht hd _ hc))
  have h2:reachBytes=140737488351232:=by decide
  omega
end Go.Proofs.YtjjlnmihkadlmaaGreat
