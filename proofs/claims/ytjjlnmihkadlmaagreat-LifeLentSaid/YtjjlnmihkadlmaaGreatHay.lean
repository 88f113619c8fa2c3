/-  -/
import Derived.Test.YtjjlnmihkadlmaaGreatHar
import Derived.Test.YtjjlnmihkadlmaaGreatRows
import Derived.ProofKit
import Derived.OpenShut
import Derived.Carry
import Derived.Deep.Slices
import Derived.SizedLaws
namespace Go.Proofs.YtjjlnmihkadlmaaGreat
open Go.ChangeShapes Go.WideShapes Go.ChangeAt Go.RowKit

theorem Dx:laidOutB Tryz.prog=true:=by kernel_rfl
theorem uh:Tryz.prog.cellsOf 77=3:=by kernel_rfl
theorem Ai:Tryz.prog.cellsOf 3=1:=by kernel_rfl
theorem Aj:Tryz.prog.cellsOf 54=1:=by kernel_rfl
theorem Dy:Tryz.prog.bytesOf 77=24:=by kernel_rfl
def wH (n:Int):Prop:=-9223372036854775808≤n∧n≤9223372036854775807
theorem ef {n:Int} (h:(Lit.int .i64 n).wf=true):wH n:=by
 simp only [Lit.wf,IntKind.min,IntKind.max,IntKind.signed,IntKind.bits] at h
 simp at h
 unfold wH;omega
theorem Fv {H:Type} {enc:TypeId×Value→H} {P:Program} {w:World} {base n:Nat} {spare:Nat→Bool} {held:Bool} {e:TypeId} {v:Value} {x:DataW H×List MemPlace} (ht:P.underlying e=some (.float .f64)) (h:DataW.trod enc P w base spare held n e [v]=some x) :
  ∃ b,v=.float .f64 b∧b<18446744073709551616:=by
 cases n with
 | zero=>simp [DataW.trod] at h
 | succ n=>
  cases v with
  | float k b=>
   simp only [DataW.trod,ht] at h
   by_cases hw:k=.f64∧(Lit.float .f64 b).wf=true
   ·obtain⟨rfl,hw⟩:=hw
    exact⟨b,rfl,by simpa [Lit.wf] using hw⟩
   ·rw [if_neg hw] at h;cases h
  | _=>simp [DataW.trod,ht] at h
structure FlwI (f:Flw):Prop where
 (day:wH f.day) (cur:wH f.cur) (am:f.am<18446744073709551616)
theorem wI {H:Type} {enc:TypeId×Value→H} {w:World} {base n:Nat} {spare:Nat→Bool} {held:Bool} {cs:List Value} {x:DataW H×List MemPlace} (h:DataW.trod enc Tryz.prog w base spare held n 77 cs=some x) :
  ∃ f:Flw,cs[0]? =some (.int .i64 f.day)∧cs[1]? =some (.float .f64 f.am)∧cs[2]? =some (.int .i64 f.cur)∧FlwI f:=by
 obtain⟨xs,m,_,_,hl,hlen,hf⟩:=DataW.trod_struct Tryz.underlying77 h
 rw [uh] at hl
 have hlen3:xs.length=3:=hlen
 have e0:DataW.trod enc Tryz.prog w base spare held m 3 ((cs.drop 0).take (Tryz.prog.cellsOf 3))=xs[0]? :=hf 0 _ rfl
 have e1:DataW.trod enc Tryz.prog w base spare held m 54 ((cs.drop 1).take (Tryz.prog.cellsOf 54))=xs[1]? :=hf 1 _ rfl
 have e2:DataW.trod enc Tryz.prog w base spare held m 3 ((cs.drop 2).take (Tryz.prog.cellsOf 3))=xs[2]? :=hf 2 _ rfl
 rw [Ai,List.getElem?_eq_getElem (by omega)] at e0 e2
 rw [Aj,List.getElem?_eq_getElem (by omega)] at e1
 clear hf h
 match cs,hl,e0,e1,e2 with
 | [x0,x1,x2],_,e0,e1,e2=>
  have e0':DataW.trod enc Tryz.prog w base spare held m 3 [x0]=some xs[0]:=e0
  have e1':DataW.trod enc Tryz.prog w base spare held m 54 [x1]=some xs[1]:=e1
  have e2':DataW.trod enc Tryz.prog w base spare held m 3 [x2]=some xs[2]:=e2
  obtain⟨d,hd,_,hwd⟩:=DataW.trod_int Tryz.underlying3 e0'
  obtain⟨c,hc,_,hwc⟩:=DataW.trod_int Tryz.underlying3 e2'
  obtain⟨a,ha,hlt⟩:=Fv Tryz.underlying54 e1'
  obtain rfl:x0=.int .i64 d:=(List.cons.inj hd).1
  obtain rfl:x2=.int .i64 c:=(List.cons.inj hc).1
  subst ha
  exact⟨⟨d,a,c⟩,rfl,rfl,rfl,⟨ef hwd,ef hwc,hlt⟩⟩

theorem rf {H:Type} {enc:TypeId×Value→H} {W:World} {fuel:Nat} {v:Value} {x:DataW H×List MemPlace} (h:DataW.trod enc Tryz.prog W 0 (fun _=>true) true fuel 22 [v]=some x) :
  ∃ p len cap,v=.slice p len cap∧len≤cap∧cap≤maxLen∧(cap=0∨cap*24 ∈ x.1.weights Tryz.prog 22)∧∃ b off l,l.length=len∧JSrc aF W p b off l∧∀ f ∈ l,FlwI f:=by
 rcases Go.Deep.open_slice Tryz.underlying22 h with⟨hcs,_⟩| ⟨a,len,cap,m,n,D,Pl,hcs,_,hl,hm,hmm,hxx,hc⟩
 ·obtain rfl:=(List.cons.inj hcs).1
  exact⟨none,0,0,rfl,Nat.le_refl _,Nat.zero_le _,Or.inl rfl,0,0,[],rfl,⟨fun h=>by simp at h,fun h=>by simp at h,fun j hj=>by simp at hj⟩,fun r hr=>by simp at hr⟩
 ·obtain rfl:=(List.cons.inj hcs).1
  simp only [if_true] at hmm
  subst hmm
  obtain⟨b,off,spot⟩:=a
  refine⟨_,len,m,rfl,hl,hm,Or.inr (by rw [hxx];simp only [DataW.weights,Tryz.underlying22,List.length_map,List.length_range,Dy,Nat.add_sub_cancel' hl];exact List.mem_cons_self),?_⟩
  rw [uh] at hc
  have hv:∀ i,i<len→∃ f:Flw,W.cell? (Addr.add (Addr.add ⟨b,off,spot⟩ (i*3)) 0)=some (.int .i64 f.day)∧W.cell? (Addr.add (Addr.add ⟨b,off,spot⟩ (i*3)) 1)=some (.float .f64 f.am)∧W.cell? (Addr.add (Addr.add ⟨b,off,spot⟩ (i*3)) 2)=some (.int .i64 f.cur)∧FlwI f:=fun i hi=>by
   obtain⟨cs',h1,h2⟩:=hc i (by omega)
   obtain⟨_,_,hcell⟩:=World.cells?_some h1
   obtain⟨f,g0,g1,g2,gi⟩:=wI h2
   exact⟨f,(hcell 0 (by omega)).trans g0,(hcell 1 (by omega)).trans g1,(hcell 2 (by omega)).trans g2,gi⟩
  obtain⟨F,hF⟩:∃ F:Nat→Flw,∀ i,i<len→W.cell? (Addr.add (Addr.add ⟨b,off,spot⟩ (i*3)) 0)=some (.int .i64 (F i).day)∧W.cell? (Addr.add (Addr.add ⟨b,off,spot⟩ (i*3)) 1)=some (.float .f64 (F i).am)∧W.cell? (Addr.add (Addr.add ⟨b,off,spot⟩ (i*3)) 2)=some (.int .i64 (F i).cur)∧FlwI (F i):=by
   refine⟨fun i=>if hi:i<len then (hv i hi).choose else ak,fun i hi=>?_⟩
   dsimp only
   rw [dif_pos hi]
   exact (hv i hi).choose_spec
  have hg:∀ i,i<len→((List.range len).map F).getD i ak=F i:=fun i hi=>by simp [List.getD,hi]
  have hsp:0<len→spot=none:=fun h0=>by
   have h2:=World.cell?_spot (hF 0 h0).1
   simpa [Addr.add] using h2
  refine⟨b,off,(List.range len).map F,by simp,⟨fun h0=>?_,fun h0=>?_,fun j hj=>?_⟩,fun r hr=>?_⟩
  ·rw [hsp (by simpa using h0)]
  ·have h3:=World.block_lt_of_cell? _ _ (hF 0 (by simpa using h0)).1
   simpa [Addr.add] using h3
  ·have hj':j<len:=by simpa using hj
   have hs:=hsp (by omega)
   subst hs
   rw [hg j hj']
   obtain⟨a0,a1,a2,_⟩:=hF j hj'
   rw [Addr.add_lit,Addr.add_lit] at a0 a1 a2
   exact⟨a0,a1,a2⟩
  ·obtain⟨i,hi,rfl⟩:=List.mem_map.1 hr
   exact (hF i (by simpa using hi)).2.2.2
theorem FlwI.fit {l:List Flw} (h:∀ f ∈ l,FlwI f):dm l:=fun i=>by
 by_cases hi:i<l.length
 ·rw [List.getD_eq_getElem?_getD,List.getElem?_eq_getElem hi]
  exact (h _ (List.getElem_mem hi)).am
 ·rw [List.getD_eq_getElem?_getD,List.getElem?_eq_none (by omega)]
  decide
theorem wJ {H:Type} {ts:List TypeId} {ds:List (DataW H)} (h:(DataW.weightsEach Tryz.prog ts ds).all (·≤reachBytes)=true) {j c:Nat} {d:DataW H} (ht:ts[j]? =some 22) (hd:ds[j]? =some d) (hc:c=0∨c*24 ∈ d.weights Tryz.prog 22):c*24≤140737488355328:=by
 rcases hc with rfl | hc
 ·exact Nat.zero_le _
 ·have h1:=of_decide_eq_true (List.all_eq_true.1 h _ (DataW.weights_mem_each ht hd _ hc))
  have h2:reachBytes=140737488351232:=by decide
  omega
end Go.Proofs.YtjjlnmihkadlmaaGreat
namespace Go.Proofs.YtjjlnmihkadlmaaGreat
open Go.ChangeShapes Go.WideShapes Go.ChangeAt Go.RowKit

theorem DB {H:Type} {enc:TypeId×Value→H} {W:World} {fuel len cap:Nat} {p:Option Addr} {x:DataW H×List MemPlace} (h:DataW.trod enc Tryz.prog W 0 (fun _=>true) true fuel 22 [.slice p len cap]=some x) (hp:p=none):len=0∧cap=0:=by
 rcases Go.Deep.open_slice Tryz.underlying22 h with⟨hcs,_⟩| ⟨a,len',cap',m,n',D,Pl,hcs,_,_,_,_,_,_⟩
 ·have:=(List.cons.inj hcs).1
  cases this
  exact⟨rfl,rfl⟩
 ·have:=(List.cons.inj hcs).1
  subst hp
  cases this
end Go.Proofs.YtjjlnmihkadlmaaGreat
