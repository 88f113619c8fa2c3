/-  -/
import Derived.Test.YtfdddijdjpijbaaGreatHax
import Derived.Test.YtfdddijdjpijbaaGreatRows
import Derived.ProofKit
import Derived.OpenShut
import Derived.Carry
import Derived.Deep.Slices
import Derived.SizedLaws
namespace Go.Proofs.YtfdddijdjpijbaaGreat
open Go.ChangeShapes Go.WideShapes Go.ChangeAt Go.RowKit
theorem AA:laidOutB Tryz.prog=true:=by kernel_rfl
theorem AB:Tryz.prog.cellsOf 51=3:=by kernel_rfl
theorem GZ:Tryz.prog.cellsOf 3=1:=by kernel_rfl
theorem Ha:Tryz.prog.cellsOf 27=1:=by kernel_rfl
theorem LX:Tryz.prog.bytesOf 51=24:=by kernel_rfl
def LY (n:Int):Prop:=-9223372036854775808<=n/\n<=9223372036854775807
theorem kZ {n:Int} (h:(Lit.int .i64 n).wf=true):LY n:=by
 simp only [Lit.wf,IntKind.min,IntKind.max,IntKind.signed,IntKind.bits] at h
 simp at h
 unfold LY;omega
theorem OA {H:Type} {enc:TypeId×Value->H} {P:Program} {w:World} {base n:Nat} {a:Nat->Bool} {c:Bool} {e:TypeId} {v:Value} {x:DataW H×List MemPlace} (f:P.underlying e=some (.float .f64)) (h:DataW.trod enc P w base a c n e [v]=some x) :
  ∃ b,v=.float .f64 b/\b<18446744073709551616:=by
 cases n with
 | zero=>simp [DataW.trod] at h
 | succ n=>
  cases v with
  | float k b=>
   simp only [DataW.trod,f] at h
   by_cases d:k=.f64/\(Lit.float .f64 b).wf=true
   ·obtain⟨rfl,d⟩:=d;exact⟨b,rfl,by simpa [Lit.wf] using d⟩
   ·rw [if_neg d] at h;cases h
  | _=>simp [DataW.trod,f] at h
structure FlwI (f:Flw):Prop where
 (day:LY f.day) (cur:LY f.cur) (am:f.am<18446744073709551616)
theorem CV {H:Type} {enc:TypeId×Value->H} {w:World} {base n:Nat} {b:Nat->Bool} {e:Bool} {cs:List Value} {x:DataW H×List MemPlace} (h:DataW.trod enc Tryz.prog w base b e n 51 cs=some x) :
  ∃ f:Flw,cs[0]? =some (.int .i64 f.day)/\cs[1]? =some (.float .f64 f.am)/\cs[2]? =some (.int .i64 f.cur)/\FlwI f:=by
 obtain⟨g,m,_,_,y,i,j⟩:=DataW.trod_struct Tryz.underlying51 h;rw [AB] at y
 have u:g.length=3:=i;have k:DataW.trod enc Tryz.prog w base b e m 3 ((cs.drop 0).take (Tryz.prog.cellsOf 3))=g[0]? :=j 0 _ rfl;have l:DataW.trod enc Tryz.prog w base b e m 27 ((cs.drop 1).take (Tryz.prog.cellsOf 27))=g[1]? :=j 1 _ rfl;have o:DataW.trod enc Tryz.prog w base b e m 3 ((cs.drop 2).take (Tryz.prog.cellsOf 3))=g[2]? :=j 2 _ rfl;rw [GZ,List.getElem?_eq_getElem (by omega)] at k o
 rw [Ha,List.getElem?_eq_getElem (by omega)] at l
 clear j h
 match cs,y,k,l,o with
 | [x0,x1,x2],_,k,l,o=>
  have s:DataW.trod enc Tryz.prog w base b e m 3 [x0]=some g[0]:=k;have q:DataW.trod enc Tryz.prog w base b e m 27 [x1]=some g[1]:=l;have t:DataW.trod enc Tryz.prog w base b e m 3 [x2]=some g[2]:=o;obtain⟨d,z,_,r⟩:=DataW.trod_int Tryz.underlying3 s;obtain⟨c,A,_,v⟩:=DataW.trod_int Tryz.underlying3 t;obtain⟨a,B,p⟩:=OA Tryz.underlying27 q;obtain rfl:x0=.int .i64 d:=(List.cons.inj z).1;obtain rfl:x2=.int .i64 c:=(List.cons.inj A).1;subst B;exact⟨⟨d,a,c⟩,rfl,rfl,rfl,⟨kZ r,kZ v,p⟩⟩
theorem wT {H:Type} {enc:TypeId×Value->H} {W:World} {u:Nat} {v:Value} {x:DataW H×List MemPlace} (h:DataW.trod enc Tryz.prog W 0 (fun _=>true) true u 22 [v]=some x) :
  ∃ p c g,v=.slice p c g/\c<=g/\g<=maxLen/\(g=0\/g*24 ∈ x.1.weights Tryz.prog 22)/\∃ b off l,l.length=c/\JSrc aF W p b off l/\∀ f ∈ l,FlwI f:=by
 rcases Go.Deep.open_slice Tryz.underlying22 h with⟨k,_⟩| ⟨a,c,g,m,n,D,U,k,_,G,P,t,z,I⟩
 ·obtain rfl:=(List.cons.inj k).1;exact⟨none,0,0,rfl,Nat.le_refl _,Nat.zero_le _,Or.inl rfl,0,0,[],rfl,⟨fun h=>by simp at h,fun h=>by simp at h,fun j w=>by simp at w⟩,fun r A=>by simp at A⟩
 ·obtain rfl:=(List.cons.inj k).1;simp only [if_true] at t
  subst t;obtain⟨b,off,d⟩:=a;refine⟨_,c,m,rfl,G,P,Or.inr (by rw [z];simp only [DataW.weights,Tryz.underlying22,List.length_map,List.length_range,LX,Nat.add_sub_cancel' G];exact List.mem_cons_self),?_⟩
  rw [AB] at I
  have C:∀ i,i<c->∃ f:Flw,W.cell? (Addr.add (Addr.add ⟨b,off,d⟩ (i*3)) 0)=some (.int .i64 f.day)/\W.cell? (Addr.add (Addr.add ⟨b,off,d⟩ (i*3)) 1)=some (.float .f64 f.am)/\W.cell? (Addr.add (Addr.add ⟨b,off,d⟩ (i*3)) 2)=some (.int .i64 f.cur)/\FlwI f:=fun i hi=>by
   obtain⟨L,M,y⟩:=I i (by omega)
   obtain⟨_,_,e⟩:=World.cells?_some M
   obtain⟨f,N,T,Q,S⟩:=CV y;exact⟨f,(e 0 (by omega)).trans N,(e 1 (by omega)).trans T,(e 2 (by omega)).trans Q,S⟩
  obtain⟨F,hF⟩:∃ F:Nat->Flw,∀ i,i<c->W.cell? (Addr.add (Addr.add ⟨b,off,d⟩ (i*3)) 0)=some (.int .i64 (F i).day)/\W.cell? (Addr.add (Addr.add ⟨b,off,d⟩ (i*3)) 1)=some (.float .f64 (F i).am)/\W.cell? (Addr.add (Addr.add ⟨b,off,d⟩ (i*3)) 2)=some (.int .i64 (F i).cur)/\FlwI (F i):=by
   refine⟨fun i=>if hi:i<c then (C i hi).choose else aC,fun i hi=>?_⟩
   dsimp only;rw [dif_pos hi];exact (C i hi).choose_spec
  have O:∀ i,i<c->((List.range c).map F).getD i aC=F i:=fun i hi=>by simp [List.getD,hi]
  have o:0<c->d=none:=fun s=>by
   have y:=World.cell?_spot (hF 0 s).1
   simpa [Addr.add] using y
  refine⟨b,off,(List.range c).map F,by simp,⟨fun s=>?_,fun s=>?_,fun j w=>?_⟩,fun r A=>?_⟩
  ·rw [o (by simpa using s)]
  ·have K:=World.block_lt_of_cell? _ _ (hF 0 (by simpa using s)).1
   simpa [Addr.add] using K
  ·have q:j<c:=by simpa using w
   have R:=o (by omega)
   subst R;rw [O j q];obtain⟨E,J,B,_⟩:=hF j q;rw [Addr.add_lit,Addr.add_lit] at E J B
   exact⟨E,J,B⟩
  ·obtain⟨i,hi,rfl⟩:=List.mem_map.1 A;exact (hF i (by simpa using hi)).2.2.2
theorem FlwI.fit {l:List Flw} (h:∀ f ∈ l,FlwI f):dB l:=fun i=>by
 by_cases hi:i<l.length
 ·rw [List.getD_eq_getElem?_getD,List.getElem?_eq_getElem hi]
  exact (h _ (List.getElem_mem hi)).am
 ·rw [List.getD_eq_getElem?_getD,List.getElem?_eq_none (by omega)]
  decide
theorem CW {H:Type} {a:List TypeId} {b:List (DataW H)} (h:(DataW.weightsEach Tryz.prog a b).all (·<=reachBytes)=true) {j c:Nat} {d:DataW H} (f:a[j]? =some 22) (e:b[j]? =some d) (hc:c=0\/c*24 ∈ d.weights Tryz.prog 22):c*24<=140737488355328:=by
 rcases hc with rfl | hc
 ·exact Nat.zero_le _
 ·have i:=of_decide_eq_true (List.all_eq_true.1 h _ (DataW.weights_mem_each f e _ hc));have g:reachBytes=140737488351232:=by decide
  omega
end Go.Proofs.YtfdddijdjpijbaaGreat
