/-  -/
import Derived.Test.YtfdddijdjpijbaaGreatWRiskLadders
import Derived.Test.YtfdddijdjpijbaaGreatFFlw
import Derived.Test.YtfdddijdjpijbaaGreatHau
set_option maxRecDepth 100000
namespace Go.Proofs.YtfdddijdjpijbaaGreat
open Go.ChangeShapes Go.WideShapes Go.ChangeAt Go.RowKit
theorem oz:ownKnob Tryz.prog.godebug=none:=by kernel_rfl
theorem kU (os:Os) (d:os.Started) (H:Type) (enc:TypeId×Value->H) :
  ReturnsInHanded {} Tryz.checked os 3 .any (Rows.riskLaddersSpec.pre6 enc Tryz.prog Tryz.f3 Rows.riskLaddersRow.domain false) (Rows.riskLaddersSpec.post enc Tryz.prog Tryz.f3 false true false false):=by
 refine returnsInHanded_of_change_sized (C:=Tryz.checked) oz d (by kernel_rfl) Tryz.func3
  (ChangeSpec.witness6 (enc:=enc) (C:=Tryz.checked) false ⟨#[],#[.slice none 0 0,.int .i64 0,.agg #[.int .i64 0,.int .i64 0,.slice none 0 0,.slice none 0 0],.float .f64 0],[]⟩ 8 (by kernel_rfl) (by kernel_rfl) (by kernel_rfl) (by kernel_rfl)) ?_
 intro W base b ds gs J c hW ba g _;have a:∀ (j:Nat) t v,Tryz.f3.params[j]? =some t->b[j]? =some v->Value.okWide Tryz.prog W .any base t v:=c;have l:(DataW.weightsEach Tryz.prog (Tryz.f3.params.toList++Rows.riskLaddersSpec.plain.varTypes Tryz.prog) (ds++gs)).all (·<=reachBytes)=true:=g;have f:=hW;obtain⟨p,q,m,hV,rfl,cm,ca⟩:=hW;have hA:DataW.TrodAll enc Tryz.prog W 0 (fun _=>true) true Tryz.f3.params.toList b.toList ds p:=m
 rw [Tryz.params3] at hA a l
 obtain⟨v0,bz,d0,cr,p0,q0,N,rfl,rfl,h0,r0⟩:=trodAll_cons hA;obtain⟨v1,cs,d1,cc,p1,q1,rfl,rfl,rfl,h1,r1⟩:=trodAll_cons r0;obtain⟨v2,bs,d2,ci,p2,q2,rfl,rfl,rfl,h2,r2⟩:=trodAll_cons r1;obtain⟨v3,cf,d3,cl,p3,q3,rfl,rfl,rfl,h3,r3⟩:=trodAll_cons r2;obtain⟨rfl,rfl,rfl⟩:=trodAll_nil r3;obtain rfl:b=#[v0,v1,v2,v3]:=by cases b;simp_all
 obtain⟨rfl,rfl⟩:=trodVars_none hV;obtain⟨w,O,B,rfl⟩:=okWide_slice Tryz.underlying22 (a 0 22 v0 rfl rfl);have S:=h0;obtain⟨cd,Z⟩:=h0;obtain⟨_,_,_,R,bk,bc,ac,ak,K,l0,r,A,u⟩:=wg (v:=.slice w O B) Z;injection R with I s F;subst I s F;have bx:=Cu l (j:=0) rfl rfl ac;obtain⟨a1,rfl,rfl,rfl,w1⟩:=open_int Tryz.underlying3 (a 1 3 v1 rfl rfl) h1;have Q:=h2;obtain⟨ad,k,U,Y,bo,P,cq,ai,rfl,bh,cp,bi,as,am,bb,br,bv,⟨T,M,ab,E,G,al⟩,⟨L,X,V,o,z,y⟩⟩:=Cx (a 2 26 v2 rfl rfl) h2;obtain⟨x3,rfl,rfl,rfl,w3⟩:=open_float Tryz.underlying27 (a 3 27 v3 rfl rfl) h3;clear m c g;simp only [List.append_nil] at f
 have D:∀ x ∈ p0,x.block<W.heap.size:=fun x hx=>by simpa using f.lt x (by simp [hx])
 have n:∀ x ∈ p2,x.block<W.heap.size:=fun x hx=>by simpa using f.lt x (by simp [hx])
 subst r;subst E o;have i:=nr w ak K B l0 a1 U Y T M P L X ai ⟨ad,k,ab,V⟩ x3 W A (FlwI.fit u) (by omega) (kT w1) ⟨G,z,y⟩ (by simpa [Lit.wf] using w3)
 refine i.mono fun e W' ⟨he,hg⟩=>?_
 subst he;exact⟨_,rfl,_,_,_,[],_,[],f,(trodAll_cons_mk (shut_bool Tryz.underlying4 _) trodAll_mk0),(trodAll_cons_mk (Below.trod zZ (by kernel_rfl) (of_decide_eq_true (by kernel_rfl)) S hg D) (trodAll_cons_mk (shut_int Tryz.underlying3 w1) (trodAll_cons_mk (Below.trod zZ (by kernel_rfl) (of_decide_eq_true (by kernel_rfl)) Q hg n) (trodAll_cons_mk (shut_float Tryz.underlying27 w3) trodAll_mk0)))),rfl,hg.frame _,fun h=>by cases h⟩
end Go.Proofs.YtfdddijdjpijbaaGreat
