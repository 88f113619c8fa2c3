/-  -/
import Derived.Test.YtjjlnmihkadlmaaGreatHak
import Derived.Test.YtjjlnmihkadlmaaGreatRows
import Derived.ProofKit
import Derived.OpenShut
import Derived.Carry
import Derived.Deep.Slices
import Derived.SizedLaws
namespace Go.Proofs.YtjjlnmihkadlmaaGreat
open Go.ChangeShapes Go.WideShapes Go.ChangeAt Go.RowKit

theorem zc:Tryz.prog.cellsOf 3=1:=by kernel_rfl
theorem zd:Tryz.prog.bytesOf 3=8:=by kernel_rfl
def Cs (n:Int):Prop:=-9223372036854775808≤n∧n≤9223372036854775807
theorem vw {n:Int} (h:(Lit.int .i64 n).wf=true):Cs n:=by
 simp only [Lit.wf,IntKind.min,IntKind.max,IntKind.signed,IntKind.bits] at h
 simp at h
 unfold Cs;omega
def Ct:Value→Int
 | .int _ n=>n
 | _=>0
theorem ni {H:Type} {enc:TypeId×Value→H} {W:World} {fuel:Nat} {v:Value} {x:DataW H×List MemPlace} (h:DataW.trod enc Tryz.prog W 0 (fun _=>true) true fuel 40 [v]=some x) :
  ∃ p len cap,v=.slice p len cap∧len≤cap∧cap≤maxLen∧(cap=0∨cap*8 ∈ x.1.weights Tryz.prog 40)∧∃ b off xs,xs.length=len∧VSrc W p b off len (xV xs)∧∀ i<len,Cs (xs.getD i 0):=by
 rcases Go.Deep.open_slice1 Tryz.underlying40 zc h with⟨hcs,_⟩| ⟨a,len,cap,m,n,V,D,Pl,hcs,_,hl,hm,hmm,hxx,hc⟩
 ·obtain rfl:=(List.cons.inj hcs).1
  exact⟨none,0,0,rfl,Nat.le_refl _,Nat.zero_le _,Or.inl rfl,0,0,[],rfl,⟨fun h=>by simp at h,fun h=>by simp at h,fun j hj=>by simp at hj⟩,fun i hi=>by simp at hi⟩
 ·obtain rfl:=(List.cons.inj hcs).1
  simp only [if_true] at hmm
  subst hmm
  obtain⟨b,off,spot⟩:=a
  refine⟨_,len,m,rfl,hl,hm,Or.inr (by rw [hxx];simp only [DataW.weights,Tryz.underlying40,List.length_map,List.length_range,zd,Nat.add_sub_cancel' hl];exact List.mem_cons_self),?_⟩
  have hv:∀ i,i<len→W.cell? (Addr.add ⟨b,off,spot⟩ i)=some (.int .i64 (Ct (V i)))∧Cs (Ct (V i)):=fun i hi=>by
   obtain⟨h1,h2⟩:=hc i (by omega)
   obtain⟨z,hz,_,hw⟩:=DataW.trod_int Tryz.underlying3 h2
   rw [(List.cons.inj hz).1] at h1 ⊢
   exact⟨h1,vw hw⟩
  have hg:∀ i,i<len→((List.range len).map fun i=>Ct (V i)).getD i 0=Ct (V i):=fun i hi=>by simp [List.getD,hi]
  refine⟨b,off,(List.range len).map fun i=>Ct (V i),by simp,⟨fun h0=>?_,fun h0=>?_,fun j hj=>?_⟩,fun i hi=>by rw [hg i hi];exact (hv i hi).2⟩
  ·have h2:=World.cell?_spot (hv 0 h0).1
   rw [show spot=none by simpa [Addr.add] using h2]
  ·have h3:=World.block_lt_of_cell? _ _ (hv 0 h0).1
   simpa [Addr.add] using h3
  ·have h1:=(hv j hj).1
   have h2:spot=none:=by simpa [Addr.add] using World.cell?_spot (hv 0 (by omega)).1
   subst h2
   unfold xV
   rw [hg j hj,← h1,Addr.add_lit]
end Go.Proofs.YtjjlnmihkadlmaaGreat
