/-  -/
import Derived.Test.YtkooknagalgfpaaGreatHaj
import Derived.Test.YtkooknagalgfpaaGreatHaw
import Derived.Laws.EntriesVeiled
import Derived.Test.YtkooknagalgfpaaGreatHav
import Derived.Test.YtkooknagalgfpaaGreatRows
import Derived.ProofKit
import Derived.OpenShut
import Derived.Carry
import Derived.Deep.Slices
import Derived.SizedLaws
import Derived.Test.YtkooknagalgfpaaGreatHap
import Derived.Test.YtkooknagalgfpaaGreatHax
import Derived.Deep.RegionLaw
import Derived.Laws.AppendOwnNone
import Derived.OwnWalk
namespace Go.Proofs.YtkooknagalgfpaaGreat
open Go.RowKit

def FnC (fN:Nat) (cap:Array Value) (F:Nat→Option Int) (R S:Int) (I:Nat→World→Prop):Prop:=
 ∀ (a:Nat) (r:Int) (k:Nat) (wr:World),k<100→Gd a r→R≤r→r≤S→I k wr→Calls Tryz.prog fN (#[.float .f64 a]++cap) wr fun e w'=>∃ v:Nat,e=.returned (.float .f64 v)∧U64 (v:Int)∧rkO v=F a∧I (k+1) w'

theorem PF {a b:Nat} {r s:Int} (h:Gd a r) (h':Gd b s) (w:World) :
  Calls Tryz.prog 143 #[.float .f64 a,.float .f64 b] w fun e w'=>e=.returned (.tuple #[.float .f64 (mdN a b),.bool true])∧w=w':=by
 have:=Oq a b a b w rfl rfl h.u h'.u
 rw [(No h h').2] at this
 exact this.mono fun _ _ ⟨p,q⟩=>⟨p,q.symm⟩

set_option maxHeartbeats 1600000 in
theorem FC (fN:Nat) (cap:Array Value) (F:Nat→Option Int) (R S:Int) (I:Nat→World→Prop) (up:Bool) (lo hi:Nat) (X N K:Nat) (E:Int) (w:World) (hK:K≤30) (hE:∀ args w,(callFunc fN args).run Tryz.prog w=.ok (.enter fN args) w) (hF:FnC fN cap F R S I) (hB:BisS F up R S X N E 64 lo hi 0 R S) (hI:I K w) :
  Calls Tryz.prog 95 #[.func (.func fN) #[] cap,.float .f64 lo,.float .f64 hi,.bool up] w fun e w'=>e=.returned (.tuple #[.float .f64 X,.int .i64 N,.int .i64 E])∧I (K+N) w':=by
 have HF:=hideS hF
 have HB:=hideS hB
 have HI:=hideS hI
 clear hF hB hI
 go_enter Tryz.func95,Tryz.ntmps95
 go_wp2_with fail
 go_loopw [1,2,9] (fun p q n wr=>∃ (f a b k:Nat) (r s:Int),k≤64∧p=.float .f64 a∧q=.float .f64 b∧n=.int .i64 k∧Hid (BisS F up R S X N E f a b k r s)∧Hid (I (K+k) wr)) (fun _ _ n _=>64 - (intOf n).toNat)
 case atStart=>exact⟨64,lo,hi,0,R,S,by omega,rfl,rfl,rfl,HB,HI⟩
 case round=>
  clear HB HI
  obtain⟨f,a,b,k,r,s,hk,rfl,rfl,rfl,HB,HI⟩:=hrel
  have HM:=hideS (PF HB.out.ga HB.out.gb)
  have oe:=bK HB.out.md.u HB.out.ga.u HB.out.md.n HB.out.ga.n
  rw [HB.out.md.e,HB.out.ga.e] at oe
  by_cases hm:(r+s) / 2=r
  ·rw [decide_eq_true hm] at oe
   have HE:=hideS (HB.out.stop hm)
   generalize mdN a b=c at *
   clear HB hm
   go_wp2_with (go_at_call 143;refine (HM.out _).mono ?_;rintro e w' ⟨rfl,rfl⟩)
   go_ret3
   obtain⟨rfl,rfl,rfl⟩:=HE.out
   exact⟨rfl,HI.out⟩
  ·rw [decide_eq_false hm] at oe
   have HC:=hideS (HF.out (mdN a b) _ (K+k) wr (by have:=HB.out.few;omega) HB.out.md (by have:=HB.out.lo;have:=HB.out.lt;omega) (by have:=HB.out.hi;have:=HB.out.lt;omega) HI.out)
   have HX:=hideS hm
   have HU:=hideS HB.out.md.u
   clear hm HI
   obtain⟨c,hc⟩:∃ c,c=mdN a b:=⟨_,rfl⟩
   have Hc:=hideS hc
   rw [← hc] at oe HM HC
   clear hc
   go_wp2_with (go_at_call 143;refine (HM.out _).mono ?_;rintro e w' ⟨rfl,rfl⟩)
   refine HC.out.mono ?_
   rintro e w1 ⟨v,rfl,hv,hr,hi1⟩
   have HV:=hideS hv
   have HR:=hideS hr
   have HI:=hideS hi1
   have HN:=hideS fun w=>aE v w hv
   clear hv hr hi1 HC HM oe
   cases hn:af (v:Int) with
   | true=>
    rw [hn] at HN
    have HE:=hideS (HB.out.nan HX.out (by rw [← Hc.out,← HR.out];exact oD hn))
    clear hn
    go_wp2_with (go_at_call 94;refine (HN.out _).mono ?_;rintro e w' ⟨rfl,rfl⟩)
    go_ret3
    obtain⟨rfl,rfl,rfl⟩:=HE.out
    exact⟨rfl,HI.out⟩
   | false=>
    rw [hn] at HN
    have hr2:=HR.out
    rw [lM hn] at hr2
    have o1:=bK (b:=0) HV.out (by unfold U64;omega) hn (by decide)
    have o2:=cI (b:=0) HV.out (by unfold U64;omega) hn (by decide)
    rw [show aa ((0:Nat):Int)=0 from by decide] at o1 o2
    clear hn HR HV
    generalize aa (v:Int)=y at *
    have HR:=hideS hr2
    clear hr2
    by_cases y0:y=0
    ·rw [decide_eq_true y0] at o1
     have HE:=hideS (HB.out.zero HX.out (by rw [← Hc.out,← HR.out,y0]))
     rw [← Hc.out] at HE
     clear y0 o2
     go_wp2_with (go_at_call 94;refine (HN.out _).mono ?_;rintro e w' ⟨rfl,rfl⟩)
     go_ret3
     obtain⟨rfl,rfl,rfl⟩:=HE.out
     exact⟨rfl,HI.out⟩
    ·rw [decide_eq_false y0] at o1
     by_cases hu:upB y=up
     ·obtain⟨g,hg,h2⟩:=HB.out.low HX.out (by rw [← Hc.out,← HR.out]) y0 hu
      have HB2:=hideS h2
      have hfew:=h2.few
      rw [← Hc.out] at HB2
      have ou:((FloatKind.f64.format.order v 0==some .gt)==up)=true:=by rw [o2];exact beq_iff_eq.2 hu
      clear o2 hu h2 hg y0
      go_wp2_with (go_at_call 94;refine (HN.out _).mono ?_;rintro e w' ⟨rfl,rfl⟩)
      go_roundw
      case rel=>exact⟨g,c,b,k+1,_,s,by omega,rfl,rfl,by simp,HB2,HI⟩
      case measure=>simp [intOf];omega
     ·obtain⟨g,hg,h2⟩:=HB.out.high HX.out (by rw [← Hc.out,← HR.out]) y0 hu
      have HB2:=hideS h2
      have hfew:=h2.few
      rw [← Hc.out] at HB2
      have ou:((FloatKind.f64.format.order v 0==some .gt)==up)=false:=by rw [o2];exact beq_eq_false_iff_ne.2 hu
      clear o2 hu h2 hg y0
      go_wp2_with (go_at_call 94;refine (HN.out _).mono ?_;rintro e w' ⟨rfl,rfl⟩)
      go_roundw
      case rel=>exact⟨g,a,c,k+1,r,_,by omega,rfl,rfl,by simp,HB2,HI⟩
      case measure=>simp [intOf];omega
end Go.Proofs.YtkooknagalgfpaaGreat
namespace Go.Proofs.YtkooknagalgfpaaGreat
open Go.RowKit

theorem Np (F:Nat) (cap:Array Value) (w:World):(binOp .eql 57 (.func (.func F) #[] cap) .nilFunc).run Tryz.prog w=.ok (.bool false) w:=by kernel_rfl
set_option maxHeartbeats 400000 in
theorem rl (x:Nat) (w:World) (h:U64 x) :
  Calls Tryz.prog 93 #[.float .f64 x] w fun e w'=>e=.returned (.bool (finB (x:Int)))∧w'=w:=by
 have H1:=hideS fun w=>aE x w h
 cases hn:af (x:Int) with
 | true=>
  rw [hn] at H1
  rw [CX hn]
  clear h hn
  go_enter Tryz.func93,Tryz.ntmps93
  go_wp2_with fail
  refine (H1.out _).mono ?_
  rintro e w' ⟨rfl,rfl⟩
  go_wp2_with fail
  go_ret
  exact⟨rfl,rfl⟩
 | false=>
  have H2:=hideS fun w=>kq x _ w h (vA hn)
  rw [hn] at H1
  clear h hn
  generalize finB (x:Int)=b at *
  cases b
  all_goals
   go_enter Tryz.func93,Tryz.ntmps93
   go_wp2_with fail
   refine (H1.out _).mono ?_
   rintro e w' ⟨rfl,rfl⟩
   go_wp2_with fail
   refine (H2.out _).mono ?_
   rintro e w' ⟨rfl,rfl⟩
   go_wp2_with fail
   go_ret
   exact⟨rfl,rfl⟩
def Nq (lo hi:Nat):Bool:=finB (lo:Int)&&finB (hi:Int)&&decide (aa (lo:Int)<aa (hi:Int))
theorem Di {x:Nat} (h:finB (x:Int)=true):af (x:Int)=false:=by
 unfold finB at h;unfold af
 have:=of_decide_eq_true h
 exact decide_eq_false (by omega)
theorem Nr {lo hi:Nat} (hl:U64 (lo:Int)) (hh:U64 (hi:Int)) (h:Nq lo hi=true):Gd lo (aa (lo:Int))∧Gd hi (aa (hi:Int))∧aa (lo:Int)<aa (hi:Int):=by
 unfold Nq at h
 rw [Bool.and_eq_true,Bool.and_eq_true] at h
 exact⟨⟨hl,Di h.1.1,rfl⟩,⟨hh,Di h.1.2,rfl⟩,of_decide_eq_true h.2⟩
theorem tU {a b:Nat} (ha:U64 a) (hb:U64 b) (hna:af a=false) (hnb:af b=false):((FloatKind.f64.format.order a b==some .gt)||(FloatKind.f64.format.order a b==some .eq))=!decide (aa a<aa b):=by
 rw [cI ha hb hna hnb,bK ha hb hna hnb]
 by_cases c:aa a<aa b
 ·rw [decide_eq_true c,decide_eq_false (by omega),decide_eq_false (by omega)];rfl
 ·rw [decide_eq_false c]
  by_cases d:aa a=aa b
  ·rw [decide_eq_true d];simp
  ·rw [decide_eq_true (show aa b<aa a by omega)];rfl

def gz (F:Nat→Option Int) (lo hi:Nat):Nat×Nat×Int:=
 match F lo with
 | none=>(0,1,91)
 | some a=>match F hi with
  | none=>(0,2,91)
  | some b=>if a=0 then (lo,2,0) else if b=0 then (hi,2,0) else if upB a=upB b then (0,2,120) else ((bis F (upB a) 64 lo hi).1,2+(bis F (upB a) 64 lo hi).2.1,(bis F (upB a) 64 lo hi).2.2)
theorem vL {F:Nat→Option Int} {lo hi:Nat} (h:F lo=none):gz F lo hi=(0,1,91):=by unfold gz;rw [h]
theorem rp {F:Nat→Option Int} {lo hi:Nat} {a:Int} (h:F lo=some a) (h2:F hi=none):gz F lo hi=(0,2,91):=by unfold gz;rw [h];show (match F hi with | none=>_ | some b=>_)=_;rw [h2]
theorem jz {F:Nat→Option Int} {lo hi:Nat} {a b:Int} (h:F lo=some a) (h2:F hi=some b):gz F lo hi=if a=0 then (lo,2,0) else if b=0 then (hi,2,0) else if upB a=upB b then (0,2,120) else ((bis F (upB a) 64 lo hi).1,2+(bis F (upB a) 64 lo hi).2.1,(bis F (upB a) 64 lo hi).2.2):=by unfold gz;rw [h];show (match F hi with | none=>_ | some b=>_)=_;rw [h2]
theorem Ns (F:Nat→Option Int) (up:Bool):∀ (f a b:Nat),(bis F up f a b).2.1≤f:=by
 intro f
 induction f with
 | zero=>intro a b;exact Nat.le_refl _
 | succ f ih=>
  intro a b
  by_cases hm:aa (mdN a b:Int)=aa (a:Int)
  ·rw [rg hm];exact Nat.zero_le _
  ·cases hF:F (mdN a b) with
   | none=>rw [vJ hm hF];show 1≤f+1;omega
   | some y=>
    by_cases y0:y=0
    ·subst y0;rw [rh hm hF];show 1≤f+1;omega
    ·by_cases hu:upB y=up
     ·rw [vK hm hF y0 hu];have:=ih (mdN a b) b;show _+1≤f+1;omega
     ·rw [rj hm hF y0 hu];have:=ih a (mdN a b);show _+1≤f+1;omega

set_option maxHeartbeats 3200000 in
theorem Nt (fN:Nat) (cap:Array Value) (F:Nat→Option Int) (I:Nat→World→Prop) (lo hi X N K:Nat) (E:Int) (w:World) (hK:K≤20) (hE:∀ args w,(callFunc fN args).run Tryz.prog w=.ok (.enter fN args) w) (hl:U64 (lo:Int)) (hh:U64 (hi:Int)) (hb:Nq lo hi=true) (hF:FnC fN cap F (aa (lo:Int)) (aa (hi:Int)) I) (hI:I K w) (hV:gz F lo hi=(X,N,E)) :
  Calls Tryz.prog 53 #[.func (.func fN) #[] cap,.float .f64 lo,.float .f64 hi] w fun e w'=>e=.returned (.tuple #[.float .f64 X,.int .i64 N,.int .i64 E])∧I (K+N) w':=by
 have hq:=Np
 have H1:=hideS fun w=>rl lo w hl
 have H2:=hideS fun w=>rl hi w hh
 obtain⟨gl,gh,hlt⟩:=Nr hl hh hb
 unfold Nq at hb
 rw [Bool.and_eq_true,Bool.and_eq_true] at hb
 rw [hb.1.1] at H1
 rw [hb.1.2] at H2
 have o:=tU hl hh gl.n gh.n
 rw [hb.2] at o
 have GL:=hideS gl
 have GH:=hideS gh
 have HV:=hideS hV
 have HF:=hideS hF
 have HLT:=hideS hlt
 have HC1:=hideS (hF lo _ K w (by omega) gl (Int.le_refl _) (by omega) hI)
 clear hb hl hh gl gh hlt hF hI hV
 go_enter Tryz.func53,Tryz.ntmps53
 go_wp2_with fail
 refine (H1.out _).mono ?_
 rintro e w' ⟨rfl,rfl⟩
 go_wp2_with fail
 refine (H2.out _).mono ?_
 rintro e w' ⟨rfl,rfl⟩
 go_wp2_with fail
 refine HC1.out.mono ?_
 rintro e w1 ⟨a,rfl,hu1,hr1,hi1⟩
 have HN1:=hideS fun w=>aE a w hu1
 have HI1:=hideS hi1
 have HU1:=hideS hu1
 have HR1:=hideS hr1
 clear hu1 hr1 hi1 HC1 H1 H2 o
 cases hn:af (a:Int) with
 | true=>
  rw [hn] at HN1
  have HE:=hideS (vL (hi:=hi) (HR1.out.symm.trans (oD hn)))
  clear hn
  go_wp2_with fail
  refine (HN1.out _).mono ?_
  rintro e w' ⟨rfl,rfl⟩
  go_wp2_with fail
  go_ret3
  have e3:=HE.out
  rw [HV.out] at e3
  injection e3 with e1 e2
  injection e2 with e2 e3
  subst e1 e2 e3
  exact⟨rfl,HI1.out⟩
 | false=>
  rw [hn] at HN1
  have hr1:=HR1.out
  rw [lM hn] at hr1
  have o1:=bK (b:=0) HU1.out (by unfold U64;omega) hn (by decide)
  have o2:=cI (b:=0) HU1.out (by unfold U64;omega) hn (by decide)
  rw [show aa ((0:Nat):Int)=0 from by decide] at o1 o2
  have HR1:=hideS hr1
  clear hn hr1 HU1
  generalize aa (a:Int)=y at *
  have HC2:=hideS (HF.out hi _ (K+1) w1 (by omega) GH.out (by have:=HLT.out;omega) (Int.le_refl _) HI1.out)
  go_wp2_with fail
  refine (HN1.out _).mono ?_
  rintro e w' ⟨rfl,rfl⟩
  go_wp2_with fail
  refine HC2.out.mono ?_
  rintro e w2 ⟨b,rfl,hu2,hr2,hi2⟩
  have HN2:=hideS fun w=>aE b w hu2
  have HI2:=hideS hi2
  have HU2:=hideS hu2
  have HR2:=hideS hr2
  clear hu2 hr2 hi2 HC2 HI1
  cases hm:af (b:Int) with
  | true=>
   rw [hm] at HN2
   have HE:=hideS (rp HR1.out.symm (HR2.out.symm.trans (oD hm)))
   clear hm
   go_wp2_with fail
   refine (HN2.out _).mono ?_
   rintro e w' ⟨rfl,rfl⟩
   go_wp2_with fail
   go_ret3
   have e3:=HE.out
   rw [HV.out] at e3
   injection e3 with e1 e2
   injection e2 with e2 e3
   subst e1 e2 e3
   exact⟨rfl,HI2.out⟩
  | false=>
   rw [hm] at HN2
   have hr2:=HR2.out
   rw [lM hm] at hr2
   have o3:=bK (b:=0) HU2.out (by unfold U64;omega) hm (by decide)
   have o4:=cI (b:=0) HU2.out (by unfold U64;omega) hm (by decide)
   rw [show aa ((0:Nat):Int)=0 from by decide] at o3 o4
   have HR2:=hideS hr2
   clear hm hr2 HU2
   generalize aa (b:Int)=z at *
   have HE:=hideS (jz HR1.out.symm HR2.out.symm)
   by_cases y0:y=0
   ·rw [if_pos y0] at HE
    rw [decide_eq_true y0] at o1
    clear y0 o2 o3 o4
    go_wp2_with fail
    refine (HN2.out _).mono ?_
    rintro e w' ⟨rfl,rfl⟩
    go_wp2_with fail
    go_ret3
    have e3:=HE.out
    rw [HV.out] at e3
    injection e3 with e1 e2
    injection e2 with e2 e3
    subst e1 e2 e3
    exact⟨rfl,HI2.out⟩
   ·rw [if_neg y0] at HE
    rw [decide_eq_false y0] at o1
    by_cases z0:z=0
    ·rw [if_pos z0] at HE
     rw [decide_eq_true z0] at o3
     clear y0 z0 o2 o4
     go_wp2_with fail
     refine (HN2.out _).mono ?_
     rintro e w' ⟨rfl,rfl⟩
     go_wp2_with fail
     go_ret3
     have e3:=HE.out
     rw [HV.out] at e3
     injection e3 with e1 e2
     injection e2 with e2 e3
     subst e1 e2 e3
     exact⟨rfl,HI2.out⟩
    ·rw [if_neg z0] at HE
     rw [decide_eq_false z0] at o3
     clear y0 z0
     have o5:((FloatKind.f64.format.order a 0==some .gt)==(FloatKind.f64.format.order b 0==some .gt))=decide (upB y=upB z):=by
      rw [o2,o4];unfold upB
      cases decide (0<y)<;>cases decide (0<z)<;>rfl
     have o6:(FloatKind.f64.format.order a 0==some .gt)=upB y:=o2
     clear o2 o4
     by_cases hu:upB y=upB z
     ·rw [if_pos hu] at HE
      rw [decide_eq_true hu] at o5
      clear hu o6
      go_wp2_with fail
      refine (HN2.out _).mono ?_
      rintro e w' ⟨rfl,rfl⟩
      go_wp2_with fail
      go_ret3
      have e3:=HE.out
      rw [HV.out] at e3
      injection e3 with e1 e2
      injection e2 with e2 e3
      subst e1 e2 e3
      exact⟨rfl,HI2.out⟩
     ·rw [if_neg hu] at HE
      rw [decide_eq_false hu,o6] at o5
      have hcnt:=Ns F (upB y) 64 lo hi
      have HH:=hideS (FC fN cap F _ _ I (upB y) lo hi _ _ (K+1+1) _ w2 (by omega) hE HF.out (BM F (upB y) GL.out GH.out HLT.out) HI2.out)
      clear hu
      generalize bis F (upB y) 64 lo hi=B at *
      obtain⟨B1,B2,B3⟩:=B
      generalize upB y=up at *
      go_wp2_with fail
      refine (HN2.out _).mono ?_
      rintro e w' ⟨rfl,rfl⟩
      go_wp2_with fail
      refine HH.out.mono ?_
      rintro e w3 ⟨rfl,hi3⟩
      have HI3:=hideS hi3
      clear hi3
      go_wp2_with fail
      go_ret3
      have e3:=HE.out
      rw [HV.out] at e3
      injection e3 with e1 e2
      injection e2 with e2 e3
      subst e1 e2 e3
      exact⟨by simp,by have:=HI3.out;rw [show K+(2+B2)=K+1+1+B2 by omega];exact this⟩
end Go.Proofs.YtkooknagalgfpaaGreat
namespace Go.Proofs.YtkooknagalgfpaaGreat
open Go.RowKit

end Go.Proofs.YtkooknagalgfpaaGreat
namespace Go.Proofs.YtkooknagalgfpaaGreat
open Go.RowKit

theorem Ge {a b:Nat} (ha:U64 a) (hb:U64 b) (hna:af a=false) (hnb:af b=false):((FloatKind.f64.format.order a b==some .lt)||(FloatKind.f64.format.order a b==some .eq))=decide (aa a≤aa b):=by
 rw [eA ha hb hna hnb,bK ha hb hna hnb]
 by_cases c:aa a<aa b
 ·rw [decide_eq_true c,decide_eq_true (show aa a≤aa b by omega)];rfl
 ·rw [decide_eq_false c]
  by_cases d:aa a=aa b
  ·rw [decide_eq_true d,decide_eq_true (show aa a≤aa b by omega)];rfl
  ·rw [decide_eq_false d,decide_eq_false (show ¬ aa a≤aa b by omega)];rfl
theorem QL {X:Nat} {x:Int} (g:Gd X x) (h:x+1≤9218868437227405312):Gd (upI (X:Int) 1).toNat (x+1):=by
 have hlo:=g.lo
 have ew:wrap64 (x+1)=x+1:=by unfold wrap64;omega
 have ho:atOk (x+1)=true:=(fW _).2 ⟨by omega,h⟩
 have e:upI (X:Int) 1=atI (x+1):=by
  unfold upI
  rw [g.n,g.e,ew,ho]
  rfl
 have hu:=Cl (x+1)
 have ec:((atI (x+1)).toNat:Int)=atI (x+1):=Int.toNat_of_nonneg hu.1
 rw [e]
 exact⟨by rw [ec];exact hu,by rw [ec];exact Bh ho,by rw [ec];exact CW ho⟩
end Go.Proofs.YtkooknagalgfpaaGreat
namespace Go.Proofs.YtkooknagalgfpaaGreat
open Go.ChangeShapes Go.WideShapes Go.ChangeAt Go.RowKit

def QH (n:Int):Prop:=-9223372036854775808≤n∧n≤9223372036854775807
theorem rC {n:Int} (h:(Lit.int .i64 n).wf=true):QH n:=by
 simp only [Lit.wf,IntKind.min,IntKind.max,IntKind.signed,IntKind.bits] at h
 simp at h
 unfold QH;omega
end Go.Proofs.YtkooknagalgfpaaGreat
namespace Go.Proofs.YtkooknagalgfpaaGreat
open Go.ChangeShapes Go.WideShapes Go.ChangeAt Go.RowKit

theorem zT:Tryz.prog.cellsOf 45=5:=by kernel_rfl
theorem KV:Tryz.prog.cellsOf 43=1:=by kernel_rfl
theorem KW {H:Type} {enc:TypeId×Value→H} {P:Program} {w:World} {base n:Nat} {spare:Nat→Bool} {held:Bool} {e:TypeId} {v:Value} {x:DataW H×List MemPlace} (ht:P.underlying e=some (.float .f32)) (h:DataW.trod enc P w base spare held n e [v]=some x) :
  ∃ b,v=.float .f32 b∧b<4294967296:=by
 cases n with
 | zero=>simp [DataW.trod] at h
 | succ n=>
  cases v with
  | float k b=>
   simp only [DataW.trod,ht] at h
   by_cases hw:k=.f32∧(Lit.float .f32 b).wf=true
   ·obtain⟨rfl,hw⟩:=hw
    exact⟨b,rfl,by simpa [Lit.wf] using hw⟩
   ·rw [if_neg hw] at h;cases h
  | _=>simp [DataW.trod,ht] at h
def NS:Value→Nat
 | .float _ b=>b
 | _=>0
def KX (f:Nat→Value):Quo:=⟨fP (f 0),fP (f 1),fP (f 2),fP (f 3),NS (f 4)⟩
structure QuoI (q:Quo):Prop where
 (kind:I64 q.kind) (fin:I64 q.fin) (count:I64 q.count) (n:I64 q.n) (rate:q.rate<4294967296)

theorem zU {H:Type} {enc:TypeId×Value→H} {w:World} {base n:Nat} {spare:Nat→Bool} {held:Bool} {cs:List Value} {x:DataW H×List MemPlace} (h:DataW.trod enc Tryz.prog w base spare held n 45 cs=some x) :
  (∀ j<4,∃ z,cs[j]? =some (.int .i64 z)∧I64 z)∧∃ b,cs[4]? =some (.float .f32 b)∧b<4294967296:=by
 obtain⟨xs,m,_,_,hl,hlen,hf⟩:=DataW.trod_struct Tryz.underlying45 h
 rw [zT] at hl
 have hlen5:xs.length=5:=hlen
 have one:∀ j,j<cs.length→(cs.drop j).take 1=[cs.getD j (.int .i64 0)]:=fun j hj=>by
  rw [List.drop_eq_getElem_cons hj,List.take_succ_cons,List.take_zero,List.getD_eq_getElem?_getD,List.getElem?_eq_getElem hj];rfl
 have key:∀ j<4,DataW.trod enc Tryz.prog w base spare held m 3 ((cs.drop j).take 1)=xs[j]? :=fun j hj=>by
  have e0:DataW.trod enc Tryz.prog w base spare held m 3 ((cs.drop 0).take (Tryz.prog.cellsOf 3))=xs[0]? :=hf 0 _ rfl
  rw [dv] at e0
  have e1:DataW.trod enc Tryz.prog w base spare held m 3 ((cs.drop 1).take (Tryz.prog.cellsOf 3))=xs[1]? :=hf 1 _ rfl
  rw [dv] at e1
  have e2:DataW.trod enc Tryz.prog w base spare held m 3 ((cs.drop 2).take (Tryz.prog.cellsOf 3))=xs[2]? :=hf 2 _ rfl
  rw [dv] at e2
  have e3:DataW.trod enc Tryz.prog w base spare held m 3 ((cs.drop 3).take (Tryz.prog.cellsOf 3))=xs[3]? :=hf 3 _ rfl
  rw [dv] at e3
  rcases (show j=0∨j=1∨j=2∨j=3 by omega) with rfl | rfl | rfl | rfl
  ·exact e0
  ·exact e1
  ·exact e2
  ·exact e3
 have key4:DataW.trod enc Tryz.prog w base spare held m 43 ((cs.drop 4).take 1)=xs[4]? :=by
  have e4:DataW.trod enc Tryz.prog w base spare held m 43 ((cs.drop 4).take (Tryz.prog.cellsOf 43))=xs[4]? :=hf 4 _ rfl
  rw [KV] at e4
  exact e4
 refine⟨fun j hj=>?_,?_⟩
 ·have e:=key j hj
  rw [List.getElem?_eq_getElem (by omega)] at e
  obtain⟨z,hz,_,hw⟩:=DataW.trod_int Tryz.underlying3 e
  refine⟨z,?_,mW hw⟩
  have hj':j<cs.length:=by omega
  rw [List.drop_eq_getElem_cons hj',List.take_succ_cons,List.take_zero] at hz
  rw [List.getElem?_eq_getElem hj']
  exact congrArg some (List.cons.inj hz).1
 ·have hj':4<cs.length:=by omega
  rw [List.getElem?_eq_getElem (by omega),one 4 hj'] at key4
  obtain⟨b,hb,hlt⟩:=KW Tryz.underlying43 key4
  refine⟨b,?_,hlt⟩
  rw [List.getD_eq_getElem?_getD,List.getElem?_eq_getElem hj'] at hb
  rw [List.getElem?_eq_getElem hj']
  exact congrArg some hb

theorem sD {H:Type} {enc:TypeId×Value→H} {W:World} {fuel:Nat} {v:Value} {x:DataW H×List MemPlace} (h:DataW.trod enc Tryz.prog W 0 (fun _=>true) true fuel 25 [v]=some x) :
  ∃ p len cap,v=.slice p len cap∧len≤cap∧cap≤maxLen∧∃ b off qs,qs.length=len∧QSrc W p b off qs∧∀ q ∈ qs,QuoI q:=by
 rcases Go.Deep.open_slice Tryz.underlying25 h with⟨hcs,_⟩| ⟨a,len,cap,m,n,D,Pl,hcs,_,hl,hm,hmm,_,hc⟩
 ·obtain rfl:=(List.cons.inj hcs).1
  exact⟨none,0,0,rfl,Nat.le_refl _,Nat.zero_le _,0,0,[],rfl,⟨fun h=>by simp at h,fun h=>by simp at h,fun j hj=>by simp at hj⟩,fun r hr=>by simp at hr⟩
 ·obtain rfl:=(List.cons.inj hcs).1
  simp only [if_true] at hmm
  subst hmm
  obtain⟨b,off,spot⟩:=a
  refine⟨_,len,m,rfl,hl,hm,?_⟩
  rw [zT] at hc
  have hv:∀ i,i<len→∃ f:Nat→Value,(∀ j<4,∃ z,f j=.int .i64 z∧I64 z∧W.cell? (Addr.add (Addr.add ⟨b,off,spot⟩ (i*5)) j)=some (.int .i64 z))∧∃ r,f 4=.float .f32 r∧r<4294967296∧W.cell? (Addr.add (Addr.add ⟨b,off,spot⟩ (i*5)) 4)=some (.float .f32 r):=fun i hi=>by
   obtain⟨cs',h1,h2⟩:=hc i (by omega)
   obtain⟨_,_,hcell⟩:=World.cells?_some h1
   obtain⟨hr,r,hr4,hrl⟩:=zU h2
   refine⟨fun j=>cs'.getD j (.int .i64 0),fun j hj=>?_,r,?_,hrl,(hcell 4 (by omega)).trans hr4⟩
   ·obtain⟨z,hz,hz2⟩:=hr j hj
    refine⟨z,?_,hz2,(hcell j (by omega)).trans hz⟩
    show cs'.getD j _=_
    rw [List.getD_eq_getElem?_getD,hz];rfl
   ·show cs'.getD 4 _=_
    rw [List.getD_eq_getElem?_getD,hr4];rfl
  have hv2:∃ F:Nat→Nat→Value,∀ i,i<len→(∀ j<4,W.cell? (Addr.add (Addr.add ⟨b,off,spot⟩ (i*5)) j)=some (.int .i64 (fP (F i j)))∧I64 (fP (F i j)))∧W.cell? (Addr.add (Addr.add ⟨b,off,spot⟩ (i*5)) 4)=some (.float .f32 (NS (F i 4)))∧NS (F i 4)<4294967296:=by
   refine⟨fun i=>if hi:i<len then (hv i hi).choose else fun _=>.int .i64 0,fun i hi=>?_⟩
   dsimp only
   rw [dif_pos hi]
   obtain⟨h1,r,h2,h3,h4⟩:=(hv i hi).choose_spec
   refine⟨fun j hj=>?_,?_⟩
   ·obtain⟨z,hz,hz2,hz3⟩:=h1 j hj
    rw [hz];exact⟨hz3,hz2⟩
   ·rw [h2];exact⟨h4,h3⟩
  obtain⟨F,hF⟩:=hv2
  have hg:∀ i,i<len→((List.range len).map fun i=>KX (F i)).getD i au=KX (F i):=fun i hi=>by simp [List.getD,hi]
  have hsp:0<len→spot=none:=fun h0=>by
   have h2:=World.cell?_spot ((hF 0 h0).1 0 (by omega)).1
   simpa [Addr.add] using h2
  refine⟨b,off,(List.range len).map fun i=>KX (F i),by simp,⟨fun h0=>?_,fun h0=>?_,fun j hj=>?_⟩,fun r hr=>?_⟩
  ·rw [hsp (by simpa using h0)]
  ·have h1:=((hF 0 (by simpa using h0)).1 0 (by omega)).1
   have h3:=World.block_lt_of_cell? _ _ h1
   simpa [Addr.add] using h3
  ·have hj':j<len:=by simpa using hj
   have hs:=hsp (by omega)
   subst hs
   rw [hg j hj']
   have e:∀ k<4,W.cell? ⟨b,off+j*5+k,none⟩=some (.int .i64 (fP (F j k))):=fun k hk=>by
    have h1:=((hF j hj').1 k hk).1
    rw [Addr.add_lit,Addr.add_lit] at h1
    exact h1
   have e4:W.cell? ⟨b,off+j*5+4,none⟩=some (.float .f32 (NS (F j 4))):=by
    have h1:=(hF j hj').2.1
    rw [Addr.add_lit,Addr.add_lit] at h1
    exact h1
   exact⟨e 0 (by omega),e 1 (by omega),e 2 (by omega),e 3 (by omega),e4⟩
  ·obtain⟨i,hi,rfl⟩:=List.mem_map.1 hr
   have hi':i<len:=by simpa using hi
   have e:∀ k<4,I64 (fP (F i k)):=fun k hk=>((hF i hi').1 k hk).2
   exact⟨e 0 (by omega),e 1 (by omega),e 2 (by omega),e 3 (by omega),(hF i hi').2.2⟩
end Go.Proofs.YtkooknagalgfpaaGreat
namespace Go.Proofs.YtkooknagalgfpaaGreat
open Go.RowKit

theorem jQ (W:World) (cs:Array Value) (t:TypeId) (k:Nat):(W.alloc (.cells cs t)).cell? ⟨W.heap.size,k,none⟩=cs[k]? :=by simp
end Go.Proofs.YtkooknagalgfpaaGreat
namespace Go.Proofs.YtkooknagalgfpaaGreat
open Go.RowKit

end Go.Proofs.YtkooknagalgfpaaGreat
namespace Go.Proofs.YtkooknagalgfpaaGreat
open Go.RowKit

def kV (x:Int):Value:=.int .i64 x
theorem rv:(Tryz.prog.info? 3).map (fun i=>(i.zero,i.size,i.bytes))=some (some (.int .i64 0),1,8):=by kernel_rfl
theorem FF (w:World) {ops:Array Oper} {rest:List Oper} {o:Oper} {a:Act} {Q:Exit→Act→World→Prop} (hgd:o.guard=none) (s x:Operand)
  (ho:o.op=.call { callee:=.builtin .append,args:=#[s,x],argTypes:=#[39,39] })
  (base:Nat) (v:Value) (n:Nat) (xs:List Nat) (hs:a.eval s=v) (hown:w.ownsRow base 49 1 v n (xs.map uV))
  (b off c m:Nat) (ys:List Nat) (hx:a.eval x=.slice (some ⟨b,off,none⟩) m c) (hm:ys.length=m) (hsrc:∀ j<m,w.cell? ⟨b,off+j,none⟩=some (yV ys j)) (hn:n≤100000) (hm2:m≤100000) (hbase:base≤w.heap.size)
  (h:∀ v' w',w'.ownsRow base 49 1 v' (n+m) ((xs++ys).map uV)→w.grownBy w' v.ownBlock→wpList Tryz.prog ops Q rest (a.put o.dst v') w'):wpList Tryz.prog ops Q (o::rest) a w:=by
 obtain⟨i0,hi,hz0,hz1,hz2⟩:=info_parts MI
 refine wpList_append_own w hgd s x 39 ho base 49 i0 (.int .u64 0) 1 8 Tryz.underlying39 hi hz0 hz1 hz2 rfl (by decide) v n (xs.map uV) hs hown ⟨b,off,none⟩ m c (ys.map uV) hx (by rw [List.length_map,hm,Nat.mul_one]) ?_ (fun u hu=>by obtain⟨z,_,rfl⟩:=List.mem_map.1 hu;rfl) (by unfold maxLen;omega) (by omega) hbase ?_
 ·intro j u hj
  have hj1:j<ys.length:=by
   have:=(List.getElem?_eq_some_iff.1 hj).1
   simpa using this
  rw [Addr.add_lit,hsrc j (by omega)]
  rw [List.getElem?_map,List.getElem?_eq_getElem hj1] at hj
  have hu:uV ys[j]=u:=Option.some.inj hj
  rw [← hu]
  show some (Value.int .u64 (ys.getD j 0:Nat))=_
  rw [List.getD_eq_getElem?_getD,List.getElem?_eq_getElem hj1];rfl
 ·intro v' w' h1 h2 _
  refine h v' w' ?_ h2
  rw [List.map_append];exact h1
theorem mN (w:World) {ops:Array Oper} {rest:List Oper} {o:Oper} {a:Act} {Q:Exit→Act→World→Prop} (hgd:o.guard=none) (s x:Operand)
  (ho:o.op=.call { callee:=.builtin .append,args:=#[s,x],argTypes:=#[33,33] })
  (base:Nat) (v:Value) (n:Nat) (xs:List Nat) (hs:a.eval s=v) (hown:w.ownsRow base 46 1 v n (xs.map fV))
  (b off c m:Nat) (ys:List Nat) (hx:a.eval x=.slice (some ⟨b,off,none⟩) m c) (hm:ys.length=m) (hsrc:∀ j<m,w.cell? ⟨b,off+j,none⟩=some (flV ys j)) (hn:n≤100000) (hm2:m≤100000) (hbase:base≤w.heap.size)
  (h:∀ v' w',w'.ownsRow base 46 1 v' (n+m) ((xs++ys).map fV)→w.grownBy w' v.ownBlock→wpList Tryz.prog ops Q rest (a.put o.dst v') w'):wpList Tryz.prog ops Q (o::rest) a w:=by
 obtain⟨i0,hi,hz0,hz1,hz2⟩:=info_parts qW
 refine wpList_append_own w hgd s x 33 ho base 46 i0 (.float .f64 0) 1 8 Tryz.underlying33 hi hz0 hz1 hz2 rfl (by decide) v n (xs.map fV) hs hown ⟨b,off,none⟩ m c (ys.map fV) hx (by rw [List.length_map,hm,Nat.mul_one]) ?_ (fun u hu=>by obtain⟨z,_,rfl⟩:=List.mem_map.1 hu;rfl) (by unfold maxLen;omega) (by omega) hbase ?_
 ·intro j u hj
  have hj1:j<ys.length:=by
   have:=(List.getElem?_eq_some_iff.1 hj).1
   simpa using this
  rw [Addr.add_lit,hsrc j (by omega)]
  rw [List.getElem?_map,List.getElem?_eq_getElem hj1] at hj
  have hu:fV ys[j]=u:=Option.some.inj hj
  rw [← hu]
  show some (Value.float .f64 (ys.getD j 0))=_
  rw [List.getD_eq_getElem?_getD,List.getElem?_eq_getElem hj1];rfl
 ·intro v' w' h1 h2 _
  refine h v' w' ?_ h2
  rw [List.map_append];exact h1
theorem aL {t:TypeId} {w w':World} {base n:Nat} {v:Value} {xs:List Value} (h:w.ownsRow base t 1 v n xs) (hb:Below w.heap.size w w'):w'.ownsRow base t 1 v n xs:=by
 refine⟨h.1,?_⟩
 rcases h.2 with hn | ⟨g,cap,cur,rfl,hg,hgg,rest⟩
 ·exact .inl hn
 ·exact .inr ⟨g,cap,cur,rfl,hg,by rw [hb.block g (Array.getElem?_eq_some_iff.1 hgg).1];exact hgg,rest⟩
theorem aT {t:TypeId} {w w':World} {v:Value} {B n:Nat} {xs:List Value} (ho:w.ownsRow B t 1 v n xs) (hg:w.grownBy w' v.ownBlock) (hB:B≤w.heap.size):Below B w w':=
 (Below.refl B w).grown hg hB (fun k hk=>by
  rcases ho.2 with⟨rfl,_⟩| ⟨g,cap,cur,rfl,hbg,_⟩
  ·cases hk
  ·obtain rfl:g=k:=by simpa [Value.ownBlock] using hk
   exact hbg)
theorem aS {t:TypeId} {w:World} {base n b j:Nat} {v:Value} {xs:List Value} (h:w.ownsRow base t 1 v n xs) (hb:b<base) (x:Value):(w.setCell ⟨b,j,none⟩ x).ownsRow base t 1 v n xs:=by
 refine⟨h.1,?_⟩
 rcases h.2 with hn | ⟨g,cap,cur,rfl,hg,hgg,rest⟩
 ·exact .inl hn
 ·exact .inr ⟨g,cap,cur,rfl,hg,by rw [Below.heap_setCell w ⟨b,j,none⟩ x g (by show g≠b;omega)];exact hgg,rest⟩
theorem gB {t:TypeId} {w:World} {base base' n:Nat} {v:Value} {xs:List Value} (h:w.ownsRow base t 1 v n xs) (hb:base'≤base):w.ownsRow base' t 1 v n xs:=by
 refine⟨h.1,?_⟩
 rcases h.2 with hn | ⟨g,cap,cur,e,hg,rest⟩
 ·exact .inl hn
 ·exact .inr ⟨g,cap,cur,e,Nat.le_trans hb hg,rest⟩
theorem lO (w:World) (x:Int) (t:TypeId):∀ j<1,(w.alloc (.cells #[.int .i64 x] t)).cell? ⟨w.heap.size,0+j,none⟩=some (xV [x] j):=fun j hj=>by
 obtain rfl:j=0:=by omega
 exact jQ w _ _ 0
theorem oF (w:World) (x:Nat) (t:TypeId):∀ j<1,(w.alloc (.cells #[.float .f64 x] t)).cell? ⟨w.heap.size,0+j,none⟩=some (flV [x] j):=fun j hj=>by
 obtain rfl:j=0:=by omega
 exact jQ w _ _ 0
theorem dt {w:World} {base n:Nat} {v:Value} {xs:List Int} (h:w.ownsRow base 3 1 v n (xs.map kV)) (hn:xs.length=n) (h0:0<n):∃ g c,v=.slice (some ⟨g,0,none⟩) n c∧VSrc w (some ⟨g,0,none⟩) g 0 n (xV xs)∧base≤g∧n≤c∧c≤maxLen:=by
 rcases h.2 with⟨rfl,rfl⟩| ⟨g,cap,cur,rfl,hg,hh,hnc,hcm,hsz,htk⟩
 ·omega
 ·refine⟨g,cap,rfl,⟨fun _=>rfl,fun _=>(Array.getElem?_eq_some_iff.1 hh).1,fun i hi=>?_⟩,hg,hnc,hcm⟩
  rw [Nat.zero_add,World.ownsRow.cellAt h i (by omega),List.getElem?_map]
  show Option.map kV xs[i]? =some (Value.int .i64 (xs.getD i 0))
  rw [List.getD_eq_getElem?_getD,List.getElem?_eq_getElem (by omega)];rfl
theorem bO {w:World} {base n:Nat} {v:Value} {xs:List Nat} (h:w.ownsRow base 46 1 v n (xs.map fV)) (hn:xs.length=n) (h0:0<n):∃ g c,v=.slice (some ⟨g,0,none⟩) n c∧VSrc w (some ⟨g,0,none⟩) g 0 n (flV xs)∧base≤g∧n≤c∧c≤maxLen:=by
 obtain⟨p,g,c,e,hs,a,b,d⟩:=Fs h hn
 have hp:=hs.at_ (by omega)
 subst hp
 exact⟨g,c,e,⟨fun _=>rfl,fun _=>hs.lt (by omega),fun j hj=>hs.cell j (by omega)⟩,a,b,d⟩
end Go.Proofs.YtkooknagalgfpaaGreat
namespace Go.Proofs.YtkooknagalgfpaaGreat
open Go.RowKit

end Go.Proofs.YtkooknagalgfpaaGreat
namespace Go.Proofs.YtkooknagalgfpaaGreat
open Go.RowKit

end Go.Proofs.YtkooknagalgfpaaGreat
namespace Go.Proofs.YtkooknagalgfpaaGreat
open Go.RowKit

end Go.Proofs.YtkooknagalgfpaaGreat
