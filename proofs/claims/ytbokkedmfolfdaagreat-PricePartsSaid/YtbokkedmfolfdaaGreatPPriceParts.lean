/- The statement of PriceParts: for every input the law answers true, and what it was handed reads as before. -/
import Derived.Test.YtbokkedmfolfdaaGreatWPricePartsW
import Derived.Test.YtbokkedmfolfdaaGreatFFlw
import Derived.Test.YtbokkedmfolfdaaGreatHan
namespace Go.Proofs.YtbokkedmfolfdaaGreat
open Go.ChangeShapes Go.WideShapes Go.ChangeAt Go.RowKit

theorem jl:ownKnob Tryz.prog.godebug=none:=by kernel_rfl

set_option maxRecDepth 100000 in
theorem fh (os:Os) (started:os.Started) (H:Type) (enc:TypeId×Value→H) :
  ReturnsInHanded {} Tryz.checked os 3 .any (Rows.pricePartsSpec.pre6 enc Tryz.prog Tryz.f3 Rows.pricePartsRow.domain false) (Rows.pricePartsSpec.post enc Tryz.prog Tryz.f3 false true false false):=by
 refine returnsInHanded_of_change_sized (C:=Tryz.checked) jl started (by kernel_rfl) Tryz.func3
  (ChangeSpec.witness6 (enc:=enc) (C:=Tryz.checked) false ⟨#[],#[.slice none 0 0,.slice none 0 0,.slice none 0 0,.int .i64 0,.agg #[.int .i64 0,.int .i64 0,.slice none 0 0,.slice none 0 0]],[]⟩ 8 (by kernel_rfl) (by kernel_rfl) (by kernel_rfl) (by kernel_rfl)) ?_
 intro W base args ds gs before hval0 hW hcnd hsz0 _
 have hval:∀ (j:Nat) t v,Tryz.f3.params[j]? =some t→args[j]? =some v→Value.okWide Tryz.prog W .any base t v:=hval0
 have hsz:(DataW.weightsEach Tryz.prog (Tryz.f3.params.toList++Rows.pricePartsSpec.plain.varTypes Tryz.prog) (ds++gs)).all (·≤reachBytes)=true:=hsz0
 have hW':=hW
 obtain⟨p,q,hA0,hV,rfl,hfz,hnd⟩:=hW
 have hA:DataW.TrodAll enc Tryz.prog W 0 (fun _=>true) true Tryz.f3.params.toList args.toList ds p:=hA0
 rw [Tryz.params3] at hA hval hsz
 obtain⟨v0,vs0,d0,ds0,p0,q0,hargs,rfl,rfl,h0,r0⟩:=trodAll_cons hA
 obtain⟨v1,vs1,d1,ds1,p1,q1,rfl,rfl,rfl,h1,r1⟩:=trodAll_cons r0
 obtain⟨v2,vs2,d2,ds2,p2,q2,rfl,rfl,rfl,h2,r2⟩:=trodAll_cons r1
 obtain⟨v3,vs3,d3,ds3,p3,q3,rfl,rfl,rfl,h3,r3⟩:=trodAll_cons r2
 obtain⟨v4,vs4,d4,ds4,p4,q4,rfl,rfl,rfl,h4,r4⟩:=trodAll_cons r3
 obtain⟨rfl,rfl,rfl⟩:=trodAll_nil r4
 obtain rfl:args=#[v0,v1,v2,v3,v4]:=by cases args;simp_all
 obtain⟨rfl,rfl⟩:=trodVars_none hV
 obtain⟨pf0,lf0,cf0,rfl⟩:=okWide_slice Tryz.underlying22 (hval 0 22 v0 rfl rfl)
 have hq0:=h0
 obtain⟨fu0,hf0⟩:=h0
 obtain⟨_,_,_,hv0,hlf0,hmf0,wf0,bf0,of0,l0,hll0,hls0,hlI0⟩:=fg (v:=.slice pf0 lf0 cf0) hf0
 injection hv0 with e1q0 e2q0 e3q0
 subst e1q0 e2q0 e3q0
 have rf0:=jh hsz (j:=0) rfl rfl wf0
 obtain⟨pf1,lf1,cf1,rfl⟩:=okWide_slice Tryz.underlying22 (hval 1 22 v1 rfl rfl)
 have hq1:=h1
 obtain⟨fu1,hf1⟩:=h1
 obtain⟨_,_,_,hv1,hlf1,hmf1,wf1,bf1,of1,l1,hll1,hls1,hlI1⟩:=fg (v:=.slice pf1 lf1 cf1) hf1
 injection hv1 with e1q1 e2q1 e3q1
 subst e1q1 e2q1 e3q1
 have rf1:=jh hsz (j:=1) rfl rfl wf1
 obtain⟨pp2,lp2,cp2,rfl⟩:=okWide_slice Tryz.underlying23 (hval 2 23 v2 rfl rfl)
 have hq2:=h2
 obtain⟨fu2,hf2⟩:=h2
 obtain⟨_,_,_,hv2,hlp2,hmp2,_,bp2,op2,xp2,hpl2,hps2,hpI2⟩:=dT (v:=.slice pp2 lp2 cp2) hf2
 injection hv2 with e1q2 e2q2 e3q2
 subst e1q2 e2q2 e3q2
 obtain⟨a3,rfl,rfl,rfl,w3⟩:=open_int Tryz.underlying3 (hval 3 3 v3 rfl rfl) h3
 have hq4:=h4
 obtain⟨bs4,kind4,px4,py4,lx4,cx4,ly4,cy4,rfl,hbs4,hk4,hlx4,hcx4,hly4,hcy4,wx4,wy4,⟨bx4,ox4,xs4,hxl4,hxs4,hxI4⟩,⟨b24,oy4,ys4,hyl4,hys4,hyI4⟩⟩:=oX (hval 4 26 v4 rfl rfl) h4
 clear hA0 hval0 hsz0
 simp only [List.append_nil] at hW'
 have hlt0:∀ x ∈ p0,x.block<W.heap.size:=fun x hx=>by simpa using hW'.lt x (by simp [hx])
 have hlt1:∀ x ∈ p1,x.block<W.heap.size:=fun x hx=>by simpa using hW'.lt x (by simp [hx])
 have hlt2:∀ x ∈ p2,x.block<W.heap.size:=fun x hx=>by simpa using hW'.lt x (by simp [hx])
 have hlt4:∀ x ∈ p4,x.block<W.heap.size:=fun x hx=>by simpa using hW'.lt x (by simp [hx])
 subst hll0
 subst hll1
 subst hpl2
 subst hxl4 hyl4
 have hwalk:=gC pf0 bf0 of0 cf0 l0 pf1 bf1 of1 cf1 l1 pp2 bp2 op2 cp2 xp2 a3 px4 py4 bx4 ox4 cx4 b24 oy4 cy4 ⟨bs4,kind4,xs4,ys4⟩ W hls0 (FlwI.fit hlI0) (by omega) hls1 (FlwI.fit hlI1) (by omega) hps2 (by unfold maxLen at hmp2;omega) ⟨hxs4,hys4,hyI4⟩ (fun e=>qe hf0 e) (fun e=>qe hf1 e)
 refine hwalk.mono fun e W' ⟨he,hg⟩=>?_
 subst he
 exact⟨_,rfl,_,_,_,[],_,[],hW',(trodAll_cons_mk (shut_bool Tryz.underlying4 _) trodAll_mk0),(trodAll_cons_mk (Below.trod fe (by kernel_rfl) (of_decide_eq_true (by kernel_rfl)) hq0 hg hlt0) (trodAll_cons_mk (Below.trod fe (by kernel_rfl) (of_decide_eq_true (by kernel_rfl)) hq1 hg hlt1) (trodAll_cons_mk (Below.trod fe (by kernel_rfl) (of_decide_eq_true (by kernel_rfl)) hq2 hg hlt2) (trodAll_cons_mk (shut_int Tryz.underlying3 w3) (trodAll_cons_mk (Below.trod fe (by kernel_rfl) (of_decide_eq_true (by kernel_rfl)) hq4 hg hlt4) trodAll_mk0))))),rfl,hg.frame _,fun h=>by cases h⟩

theorem priceParts_holds:Rows.PricePartsSaid:=
 OpenClaim.holds_of_wide 3 Tryz.f3 rfl rfl rfl rfl rfl rfl rfl ⟨rfl,rfl,rfl,rfl,rfl⟩ rfl rfl rfl rfl rfl (by kernel_rfl) Tryz.func3 (by kernel_rfl)
  (of_decide_eq_true (by kernel_rfl)) (by unfold Func.isWrapper;rw [if_neg (by decide+kernel)];exact⟨rfl,rfl⟩)
  (fun os started H enc _=>fh os started H enc)
#print axioms priceParts_holds
end Go.Proofs.YtbokkedmfolfdaaGreat
