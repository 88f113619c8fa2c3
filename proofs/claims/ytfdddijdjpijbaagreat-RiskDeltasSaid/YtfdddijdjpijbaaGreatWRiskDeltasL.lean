/-  -/
import Derived.Test.YtfdddijdjpijbaaGreatWRiskDeltas
import Derived.Test.YtfdddijdjpijbaaGreatFFlw
import Derived.Test.YtfdddijdjpijbaaGreatHau
set_option maxRecDepth 100000
namespace Go.Proofs.YtfdddijdjpijbaaGreat
open Go.ChangeShapes Go.WideShapes Go.ChangeAt Go.RowKit
theorem sc:ownKnob Tryz.prog.godebug=none:=by kernel_rfl
theorem mF (os:Os) (d:os.Started) (H:Type) (enc:TypeId×Value->H) :
  ReturnsInHanded {} Tryz.checked os 4 .any (Rows.riskDeltasSpec.pre6 enc Tryz.prog Tryz.f4 Rows.riskDeltasRow.domain false) (Rows.riskDeltasSpec.post enc Tryz.prog Tryz.f4 false true false false):=by
 refine returnsInHanded_of_change_sized (C:=Tryz.checked) sc d (by kernel_rfl) Tryz.func4
  (ChangeSpec.witness6 (enc:=enc) (C:=Tryz.checked) false ⟨#[],#[.slice none 0 0,.int .i64 0,.agg #[.int .i64 0,.int .i64 0,.slice none 0 0,.slice none 0 0],.float .f64 0],[]⟩ 8 (by kernel_rfl) (by kernel_rfl) (by kernel_rfl) (by kernel_rfl)) ?_
 intro W base b ds gs J c hW bk g _;have a:∀ (j:Nat) t v,Tryz.f4.params[j]? =some t->b[j]? =some v->Value.okWide Tryz.prog W .any base t v:=c;have l:(DataW.weightsEach Tryz.prog (Tryz.f4.params.toList++Rows.riskDeltasSpec.plain.varTypes Tryz.prog) (ds++gs)).all (·<=reachBytes)=true:=g;have f:=hW;obtain⟨p,q,B,hV,rfl,cd,bz⟩:=hW;have hA:DataW.TrodAll enc Tryz.prog W 0 (fun _=>true) true Tryz.f4.params.toList b.toList ds p:=B
 rw [Tryz.params4] at hA a l
 obtain⟨v0,cm,d0,cs,p0,q0,ad,rfl,rfl,h0,r0⟩:=trodAll_cons hA;obtain⟨v1,cv,d1,ca,p1,q1,rfl,rfl,rfl,h1,r1⟩:=trodAll_cons r0;obtain⟨v2,bx,d2,ci,p2,q2,rfl,rfl,rfl,h2,r2⟩:=trodAll_cons r1;obtain⟨v3,cl,d3,cu,p3,q3,rfl,rfl,rfl,h3,r3⟩:=trodAll_cons r2;obtain⟨rfl,rfl,rfl⟩:=trodAll_nil r3;obtain rfl:b=#[v0,v1,v2,v3]:=by cases b;simp_all
 obtain⟨rfl,rfl⟩:=trodVars_none hV;obtain⟨E,Q,I,rfl⟩:=okWide_slice Tryz.underlying22 (a 0 22 v0 rfl rfl);have P:=h0;obtain⟨ct,K⟩:=h0;obtain⟨_,_,_,ai,ba,bh,V,Y,ab,l0,m,o,r⟩:=wT (v:=.slice E Q I) K;injection ai with D y F;subst D y F;have cq:=CW l (j:=0) rfl rfl V;obtain⟨a1,rfl,rfl,rfl,w1⟩:=open_int Tryz.underlying3 (a 1 3 v1 rfl rfl) h1;have U:=h2;obtain⟨N,k,ac,M,cf,al,cr,Z,rfl,bi,cc,bb,bc,br,bo,cp,bv,⟨L,am,X,G,w,bs⟩,⟨O,T,as,n,z,s⟩⟩:=CX (a 2 26 v2 rfl rfl) h2;obtain⟨x3,rfl,rfl,rfl,w3⟩:=open_float Tryz.underlying27 (a 3 27 v3 rfl rfl) h3;clear B c g;simp only [List.append_nil] at f
 have u:∀ x ∈ p0,x.block<W.heap.size:=fun x S=>by simpa using f.lt x (by simp [S])
 have A:∀ x ∈ p2,x.block<W.heap.size:=fun x S=>by simpa using f.lt x (by simp [S])
 subst m;subst G n;have i:=oN E Y ab I l0 a1 ac M L am al O T Z ⟨N,k,X,as⟩ x3 W o (FlwI.fit r) (by omega) (kZ w1) ⟨w,z,s⟩ (by simpa [Lit.wf] using w3)
 refine i.mono fun e W' ⟨he,R⟩=>?_
 subst he;exact⟨_,rfl,_,_,_,[],_,[],f,(trodAll_cons_mk (shut_bool Tryz.underlying4 _) trodAll_mk0),(trodAll_cons_mk (Below.trod AA (by kernel_rfl) (of_decide_eq_true (by kernel_rfl)) P R u) (trodAll_cons_mk (shut_int Tryz.underlying3 w1) (trodAll_cons_mk (Below.trod AA (by kernel_rfl) (of_decide_eq_true (by kernel_rfl)) U R A) (trodAll_cons_mk (shut_float Tryz.underlying27 w3) trodAll_mk0)))),rfl,R.frame _,fun h=>by cases h⟩
end Go.Proofs.YtfdddijdjpijbaaGreat
