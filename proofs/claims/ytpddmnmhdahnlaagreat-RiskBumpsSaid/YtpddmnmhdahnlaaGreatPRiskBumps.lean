/- The statement of RiskBumps: for every input the law answers true, and what it was handed reads as before. -/
import Derived.Test.YtpddmnmhdahnlaaGreatWRiskBumps
import Derived.Test.YtpddmnmhdahnlaaGreatFFlw
import Derived.Test.YtpddmnmhdahnlaaGreatHav
namespace Go.Proofs.YtpddmnmhdahnlaaGreat
open Go.ChangeShapes Go.WideShapes Go.ChangeAt Go.RowKit

theorem qB:ownKnob Tryz.prog.godebug=none:=by kernel_rfl

set_option maxRecDepth 100000 in
theorem lD (os:Os) (started:os.Started) (H:Type) (enc:TypeId×Value→H) :
  ReturnsInHanded {} Tryz.checked os 3 .any (Rows.riskBumpsSpec.pre6 enc Tryz.prog Tryz.f3 Rows.riskBumpsRow.domain false) (Rows.riskBumpsSpec.post enc Tryz.prog Tryz.f3 false true false false):=by
 refine returnsInHanded_of_change_sized (C:=Tryz.checked) qB started (by kernel_rfl) Tryz.func3
  (ChangeSpec.witness6 (enc:=enc) (C:=Tryz.checked) false ⟨#[],#[.agg #[.int .i64 0,.int .i64 0,.slice none 0 0,.slice none 0 0],.int .i64 0,.float .f64 0],[]⟩ 8 (by kernel_rfl) (by kernel_rfl) (by kernel_rfl) (by kernel_rfl)) ?_
 intro W base args ds gs before hval0 hW hcnd hsz0 _
 have hval:∀ (j:Nat) t v,Tryz.f3.params[j]? =some t→args[j]? =some v→Value.okWide Tryz.prog W .any base t v:=hval0
 have hsz:(DataW.weightsEach Tryz.prog (Tryz.f3.params.toList++Rows.riskBumpsSpec.plain.varTypes Tryz.prog) (ds++gs)).all (·≤reachBytes)=true:=hsz0
 have hW':=hW
 obtain⟨p,q,hA0,hV,rfl,hfz,hnd⟩:=hW
 have hA:DataW.TrodAll enc Tryz.prog W 0 (fun _=>true) true Tryz.f3.params.toList args.toList ds p:=hA0
 rw [Tryz.params3] at hA hval hsz
 obtain⟨v0,vs0,d0,ds0,p0,q0,hargs,rfl,rfl,h0,r0⟩:=trodAll_cons hA
 obtain⟨v1,vs1,d1,ds1,p1,q1,rfl,rfl,rfl,h1,r1⟩:=trodAll_cons r0
 obtain⟨v2,vs2,d2,ds2,p2,q2,rfl,rfl,rfl,h2,r2⟩:=trodAll_cons r1
 obtain⟨rfl,rfl,rfl⟩:=trodAll_nil r2
 obtain rfl:args=#[v0,v1,v2]:=by cases args;simp_all
 obtain⟨rfl,rfl⟩:=trodVars_none hV
 have hq0:=h0
 obtain⟨bs0,kind0,px0,py0,lx0,cx0,ly0,cy0,rfl,hbs0,hk0,hlx0,hcx0,hly0,hcy0,wx0,wy0,⟨bx0,ox0,xs0,hxl0,hxs0,hxI0⟩,⟨b20,oy0,ys0,hyl0,hys0,hyI0⟩⟩:=zH (hval 0 25 v0 rfl rfl) h0
 obtain⟨a1,rfl,rfl,rfl,w1⟩:=open_int Tryz.underlying3 (hval 1 3 v1 rfl rfl) h1
 obtain⟨x2,rfl,rfl,rfl,w2⟩:=open_float Tryz.underlying26 (hval 2 26 v2 rfl rfl) h2
 clear hA0 hval0 hsz0
 simp only [List.append_nil] at hW'
 have hlt0:∀ x ∈ p0,x.block<W.heap.size:=fun x hx=>by simpa using hW'.lt x (by simp [hx])
 subst hxl0 hyl0
 have hwalk:=pM px0 py0 bx0 ox0 cx0 b20 oy0 cy0 ⟨bs0,kind0,xs0,ys0⟩ a1 x2 W ⟨hxs0,hys0,hyI0⟩ (zG w1) (by simpa [Lit.wf] using w2)
 refine hwalk.mono fun e W' ⟨he,hg⟩=>?_
 subst he
 exact⟨_,rfl,_,_,_,[],_,[],hW',(trodAll_cons_mk (shut_bool Tryz.underlying4 _) trodAll_mk0),(trodAll_cons_mk (Below.trod Hv (by kernel_rfl) (of_decide_eq_true (by kernel_rfl)) hq0 hg hlt0) (trodAll_cons_mk (shut_int Tryz.underlying3 w1) (trodAll_cons_mk (shut_float Tryz.underlying26 w2) trodAll_mk0))),rfl,hg.frame _,fun h=>by cases h⟩

theorem riskBumps_holds:Rows.RiskBumpsSaid:=
 OpenClaim.holds_of_wide 3 Tryz.f3 rfl rfl rfl rfl rfl rfl rfl ⟨rfl,rfl,rfl,rfl,rfl⟩ rfl rfl rfl rfl rfl (by kernel_rfl) Tryz.func3 (by kernel_rfl)
  (of_decide_eq_true (by kernel_rfl)) (by unfold Func.isWrapper;rw [if_neg (by decide+kernel)];exact⟨rfl,rfl⟩)
  (fun os started H enc _=>lD os started H enc)
#print axioms riskBumps_holds
end Go.Proofs.YtpddmnmhdahnlaaGreat
