/-  -/
import Derived.Test.YtfdddijdjpijbaaGreatWRiskLadders
import Derived.Test.YtfdddijdjpijbaaGreatFFlw
import Derived.Test.YtfdddijdjpijbaaGreatHau
set_option maxRecDepth 100000
namespace Go.Proofs.YtfdddijdjpijbaaGreat
open Go.ChangeShapes Go.WideShapes Go.ChangeAt Go.RowKit
theorem oz:ownKnob Tryz.prog.godebug=none:=by kernel_rfl
theorem kU (os:Os) (c:os.Started) (H:Type) (enc:TypeId×Value->H) :
  ReturnsInHanded {} Tryz.checked os 3 .any (Rows.riskLaddersSpec.pre6 enc Tryz.prog Tryz.f3 Rows.riskLaddersRow.domain false) (Rows.riskLaddersSpec.post enc Tryz.prog Tryz.f3 false true false false):=by
 refine returnsInHanded_of_change_sized (C:=Tryz.checked) oz c (by kernel_rfl) Tryz.func3
  (ChangeSpec.witness6 (enc:=enc) (C:=Tryz.checked) false ⟨#[],#[.slice none 0 0,.int .i64 0,.agg #[.int .i64 0,.int .i64 0,.slice none 0 0,.slice none 0 0],.float .f64 0],[]⟩ 8 (by kernel_rfl) (by kernel_rfl) (by kernel_rfl) (by kernel_rfl)) ?_
 intro W base b ds gs J d hW bs g _;have a:∀ (j:Nat) t v,Tryz.f3.params[j]? =some t->b[j]? =some v->Value.okWide Tryz.prog W .any base t v:=d;have w:(DataW.weightsEach Tryz.prog (Tryz.f3.params.toList++Rows.riskLaddersSpec.plain.varTypes Tryz.prog) (ds++gs)).all (·<=reachBytes)=true:=g;have f:=hW;obtain⟨p,q,y,hV,rfl,cf,cv⟩:=hW;have hA:DataW.TrodAll enc Tryz.prog W 0 (fun _=>true) true Tryz.f3.params.toList b.toList ds p:=y
 rw [Tryz.params3] at hA a w
 obtain⟨v0,cl,d0,bx,p0,q0,N,rfl,rfl,h0,r0⟩:=trodAll_cons hA;obtain⟨v1,bv,d1,bz,p1,q1,rfl,rfl,rfl,h1,r1⟩:=trodAll_cons r0;obtain⟨v2,cp,d2,cd,p2,q2,rfl,rfl,rfl,h2,r2⟩:=trodAll_cons r1;obtain⟨v3,cq,d3,cr,p3,q3,rfl,rfl,rfl,h3,r3⟩:=trodAll_cons r2;obtain⟨rfl,rfl,rfl⟩:=trodAll_nil r3;obtain rfl:b=#[v0,v1,v2,v3]:=by cases b;simp_all
 obtain⟨rfl,rfl⟩:=trodVars_none hV;obtain⟨s,al,D,rfl⟩:=okWide_slice Tryz.underlying22 (a 0 22 v0 rfl rfl);have Y:=h0;obtain⟨cc,Z⟩:=h0;obtain⟨_,_,_,T,br,bi,O,S,V,l0,n,I,A⟩:=wg (v:=.slice s al D) Z;injection T with F z m;subst F z m;have cs:=Cu w (j:=0) rfl rfl O;obtain⟨a1,rfl,rfl,rfl,w1⟩:=open_int Tryz.underlying3 (a 1 3 v1 rfl rfl) h1;have U:=h2;obtain⟨Q,k,X,P,ca,M,ct,am,rfl,bo,cm,bk,ba,bb,bh,cu,ci,⟨ak,ai,L,r,G,bc⟩,⟨ab,ad,K,l,E,B⟩⟩:=Cx (a 2 26 v2 rfl rfl) h2;obtain⟨x3,rfl,rfl,rfl,w3⟩:=open_float Tryz.underlying27 (a 3 27 v3 rfl rfl) h3;clear y d g;simp only [List.append_nil] at f
 have o:∀ x ∈ p0,x.block<W.heap.size:=fun x R=>by simpa using f.lt x (by simp [R])
 have u:∀ x ∈ p2,x.block<W.heap.size:=fun x R=>by simpa using f.lt x (by simp [R])
 subst n;subst r l;have i:=nr s S V D l0 a1 X P ak ai M ab ad am ⟨Q,k,L,K⟩ x3 W I (FlwI.fit A) (by omega) (kT w1) ⟨G,E,B⟩ (by simpa [Lit.wf] using w3)
 refine i.mono fun e W' ⟨he,hg⟩=>?_
 subst he;exact⟨_,rfl,_,_,_,[],_,[],f,(trodAll_cons_mk (shut_bool Tryz.underlying4 _) trodAll_mk0),(trodAll_cons_mk (Below.trod zZ (by kernel_rfl) (of_decide_eq_true (by kernel_rfl)) Y hg o) (trodAll_cons_mk (shut_int Tryz.underlying3 w1) (trodAll_cons_mk (Below.trod zZ (by kernel_rfl) (of_decide_eq_true (by kernel_rfl)) U hg u) (trodAll_cons_mk (shut_float Tryz.underlying27 w3) trodAll_mk0)))),rfl,hg.frame _,fun h=>by cases h⟩
end Go.Proofs.YtfdddijdjpijbaaGreat
