/-  -/
import Derived.Test.YtfdddijdjpijbaaGreatWRiskDeltas
import Derived.Test.YtfdddijdjpijbaaGreatFFlw
import Derived.Test.YtfdddijdjpijbaaGreatHau
set_option maxRecDepth 100000
namespace Go.Proofs.YtfdddijdjpijbaaGreat
open Go.ChangeShapes Go.WideShapes Go.ChangeAt Go.RowKit
theorem sc:ownKnob Tryz.prog.godebug=none:=by kernel_rfl
theorem mF (os:Os) (c:os.Started) (H:Type) (enc:TypeId×Value->H) :
  ReturnsInHanded {} Tryz.checked os 4 .any (Rows.riskDeltasSpec.pre6 enc Tryz.prog Tryz.f4 Rows.riskDeltasRow.domain false) (Rows.riskDeltasSpec.post enc Tryz.prog Tryz.f4 false true false false):=by
 refine returnsInHanded_of_change_sized (C:=Tryz.checked) sc c (by kernel_rfl) Tryz.func4
  (ChangeSpec.witness6 (enc:=enc) (C:=Tryz.checked) false ⟨#[],#[.slice none 0 0,.int .i64 0,.agg #[.int .i64 0,.int .i64 0,.slice none 0 0,.slice none 0 0],.float .f64 0],[]⟩ 8 (by kernel_rfl) (by kernel_rfl) (by kernel_rfl) (by kernel_rfl)) ?_
 intro W base b ds gs J d hW bo g _;have a:∀ (j:Nat) t v,Tryz.f4.params[j]? =some t->b[j]? =some v->Value.okWide Tryz.prog W .any base t v:=d;have r:(DataW.weightsEach Tryz.prog (Tryz.f4.params.toList++Rows.riskDeltasSpec.plain.varTypes Tryz.prog) (ds++gs)).all (·<=reachBytes)=true:=g;have f:=hW;obtain⟨p,q,u,hV,rfl,ca,cr⟩:=hW;have hA:DataW.TrodAll enc Tryz.prog W 0 (fun _=>true) true Tryz.f4.params.toList b.toList ds p:=u
 rw [Tryz.params4] at hA a r
 obtain⟨v0,cv,d0,cc,p0,q0,K,rfl,rfl,h0,r0⟩:=trodAll_cons hA;obtain⟨v1,cm,d1,cs,p1,q1,rfl,rfl,rfl,h1,r1⟩:=trodAll_cons r0;obtain⟨v2,cd,d2,cl,p2,q2,rfl,rfl,rfl,h2,r2⟩:=trodAll_cons r1;obtain⟨v3,cy,d3,bz,p3,q3,rfl,rfl,rfl,h3,r3⟩:=trodAll_cons r2;obtain⟨rfl,rfl,rfl⟩:=trodAll_nil r3;obtain rfl:b=#[v0,v1,v2,v3]:=by cases b;simp_all
 obtain⟨rfl,rfl⟩:=trodVars_none hV;obtain⟨y,Z,n,rfl⟩:=okWide_slice Tryz.underlying22 (a 0 22 v0 rfl rfl);have N:=h0;obtain⟨cp,O⟩:=h0;obtain⟨_,_,_,al,bk,bc,S,Y,ai,l0,o,m,s⟩:=wT (v:=.slice y Z n) O;injection al with I B w;subst I B w;have cu:=CW r (j:=0) rfl rfl S;obtain⟨a1,rfl,rfl,rfl,w1⟩:=open_int Tryz.underlying3 (a 1 3 v1 rfl rfl) h1;have V:=h2;obtain⟨am,i,ad,ab,cx,M,cf,bb,rfl,bi,ct,br,bv,bh,bx,ci,cq,⟨Q,ba,L,D,z,bs⟩,⟨P,U,X,G,E,F⟩⟩:=CX (a 2 26 v2 rfl rfl) h2;obtain⟨x3,rfl,rfl,rfl,w3⟩:=open_float Tryz.underlying27 (a 3 27 v3 rfl rfl) h3;clear u d g;simp only [List.append_nil] at f
 have A:∀ x ∈ p0,x.block<W.heap.size:=fun x R=>by simpa using f.lt x (by simp [R])
 have l:∀ x ∈ p2,x.block<W.heap.size:=fun x R=>by simpa using f.lt x (by simp [R])
 subst o;subst D G;have k:=oN y Y ai n l0 a1 ad ab Q ba M P U bb ⟨am,i,L,X⟩ x3 W m (FlwI.fit s) (by omega) (kZ w1) ⟨z,E,F⟩ (by simpa [Lit.wf] using w3)
 refine k.mono fun e W' ⟨he,T⟩=>?_
 subst he;exact⟨_,rfl,_,_,_,[],_,[],f,(trodAll_cons_mk (shut_bool Tryz.underlying4 _) trodAll_mk0),(trodAll_cons_mk (Below.trod AA (by kernel_rfl) (of_decide_eq_true (by kernel_rfl)) N T A) (trodAll_cons_mk (shut_int Tryz.underlying3 w1) (trodAll_cons_mk (Below.trod AA (by kernel_rfl) (of_decide_eq_true (by kernel_rfl)) V T l) (trodAll_cons_mk (shut_float Tryz.underlying27 w3) trodAll_mk0)))),rfl,T.frame _,fun h=>by cases h⟩
end Go.Proofs.YtfdddijdjpijbaaGreat
