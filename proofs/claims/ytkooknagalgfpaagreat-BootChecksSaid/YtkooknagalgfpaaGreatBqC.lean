/-  -/
import Derived.Test.YtkooknagalgfpaaGreatHba
namespace Go.Proofs.YtkooknagalgfpaaGreat
open Go.RowKit

theorem KN (w:World) (W:Int) (v:Value):Below w.heap.size w (w.alloc (.cells #[.int .i64 W,v] 24)):=(Below.refl _ _).alloc (Nat.le_refl _) _

set_option maxRecDepth 20000 in
set_option maxHeartbeats 1600000 in
theorem dX (base kind W A B E K:Int) (v vq:Value) (w:World) (hE:(base<0∨109572<base)∧E=51∧K= -1∨(0≤base∧base≤109572∧(kind<1∨4<kind))∧E=90∧K= -1∨(0≤base∧base≤109572∧1≤kind∧kind≤4∧A≠0)∧E=A∧K= -1)
  (HC:Hid (∀ wx,Below w.heap.size w wx→Calls Tryz.prog 25 #[.agg #[.int .i64 W,v]] wx fun e w'=>e=.returned (.tuple #[.int .i64 A,.int .i64 B])∧Below wx.heap.size wx w')) :
  Calls Tryz.prog 11 #[.int .i64 base,.int .i64 kind,.agg #[.int .i64 W,v],vq] w fun e w'=>e=.returned (.tuple #[.int .i64 E,.int .i64 K])∧Below w.heap.size w w':=by
 have H0:=hideS (KN w W v)
 rcases hE with⟨h,rfl,rfl⟩| ⟨⟨b0,b1,h⟩,rfl,rfl⟩| ⟨⟨b0,b1,k1,k4,h⟩,hEA,rfl⟩
 ·rcases (show base<0∨(¬ base<0∧109572<base) by omega) with h1 | ⟨h1,h2⟩
  ·have d1:decide (base<0)=true:=decide_eq_true h1
   clear h h1 HC
   go_enter Tryz.func11,Tryz.ntmps11
   go_wp2_with fail
   go_ret2
   exact⟨rfl,H0.out⟩
  ·have d1:decide (base<0)=false:=decide_eq_false h1
   have d2:decide (109572<base)=true:=decide_eq_true h2
   clear h h1 h2 HC
   go_enter Tryz.func11,Tryz.ntmps11
   go_wp2_with fail
   go_ret2
   exact⟨rfl,H0.out⟩
 ·have d1:decide (base<0)=false:=decide_eq_false (by omega)
  have d2:decide (109572<base)=false:=decide_eq_false (by omega)
  rcases (show kind<1∨(¬ kind<1∧4<kind) by omega) with h1 | ⟨h1,h2⟩
  ·have d3:decide (kind<1)=true:=decide_eq_true h1
   clear h h1 HC b0 b1
   go_enter Tryz.func11,Tryz.ntmps11
   go_wp2_with fail
   go_ret2
   exact⟨rfl,H0.out⟩
  ·have d3:decide (kind<1)=false:=decide_eq_false h1
   have d4:decide (4<kind)=true:=decide_eq_true h2
   clear h h1 h2 HC b0 b1
   go_enter Tryz.func11,Tryz.ntmps11
   go_wp2_with fail
   go_ret2
   exact⟨rfl,H0.out⟩
 ·have d1:decide (base<0)=false:=decide_eq_false (by omega)
  have d2:decide (109572<base)=false:=decide_eq_false (by omega)
  have d3:decide (kind<1)=false:=decide_eq_false (by omega)
  have d4:decide (4<kind)=false:=decide_eq_false (by omega)
  have d5:(A !=0)=true:=bne_iff_ne.2 h
  have hEA':=hEA.symm
  subst hEA'
  clear b0 b1 k1 k4 h hEA
  go_enter Tryz.func11,Tryz.ntmps11
  go_wp2_with fail
  refine (HC.out _ H0.out).mono ?_
  rintro e w1 ⟨rfl,hb1⟩
  have H1:=hideS (H0.out.trans (hb1.mono H0.out.size))
  clear hb1
  go_wp2_with fail
  go_ret2
  exact⟨rfl,H1.out⟩

set_option maxRecDepth 20000 in
set_option maxHeartbeats 3200000 in
theorem fx (base kind W B E K:Int) (v:Value) (pq:Option Addr) (bq oq cq N:Nat) (qs:List Quo) (w:World) (b0:0≤base) (b1:base≤109572) (k1:1≤kind) (k4:kind≤4) (hq:QSrc w pq bq oq qs) (hN:qs.length=N) (hN2:N≤9223372036854775807) (hr:∀ i<N,(qs.getD i aF).rate<4294967296)
  (hE:64<N∧E=2∧K= -1∨N=0∧E=100∧K= -1∨1≤N∧N≤64∧QuoR base qs E K)
  (HC:Hid (∀ wx,Below w.heap.size w wx→Calls Tryz.prog 25 #[.agg #[.int .i64 W,v]] wx fun e w'=>e=.returned (.tuple #[.int .i64 0,.int .i64 B])∧Below wx.heap.size wx w')) :
  Calls Tryz.prog 11 #[.int .i64 base,.int .i64 kind,.agg #[.int .i64 W,v],.slice pq N cq] w fun e w'=>e=.returned (.tuple #[.int .i64 E,.int .i64 K])∧Below w.heap.size w w':=by
 have H0:=hideS (KN w W v)
 have d1:decide (base<0)=false:=decide_eq_false (by omega)
 have d2:decide (109572<base)=false:=decide_eq_false (by omega)
 have d3:decide (kind<1)=false:=decide_eq_false (by omega)
 have d4:decide (4<kind)=false:=decide_eq_false (by omega)
 have HQ:=hideS hq
 have HN:=hideS hN
 have HR:=hideS hr
 clear b0 b1 k1 k4 hq hN hr
 rcases hE with⟨h,rfl,rfl⟩| ⟨h,rfl,rfl⟩| ⟨lo,hi,hQ⟩
 ·have d5:decide ((64:Int)<(N:Int))=true:=decide_eq_true (by omega)
  clear h
  go_enter Tryz.func11,Tryz.ntmps11
  go_wp2_with fail
  refine (HC.out _ H0.out).mono ?_
  rintro e w1 ⟨rfl,hb1⟩
  have H1:=hideS (H0.out.trans (hb1.mono H0.out.size))
  clear hb1
  go_wp2_with fail
  go_ret2
  exact⟨rfl,H1.out⟩
 ·subst h
  go_enter Tryz.func11,Tryz.ntmps11
  go_wp2_with fail
  refine (HC.out _ H0.out).mono ?_
  rintro e w1 ⟨rfl,hb1⟩
  have H1:=hideS (H0.out.trans (hb1.mono H0.out.size))
  clear hb1
  go_wp2_with fail
  go_ret2
  exact⟨rfl,H1.out⟩
 ·obtain rfl:=HQ.out.at_ (by rw [HN.out];omega)
  have HQR:=hideS hQ
  have d5:decide ((64:Int)<(N:Int))=false:=decide_eq_false (by omega)
  have d6:((N:Int)==0)=false:=beq_eq_false_iff_ne.2 (by omega)
  clear hQ
  go_enter Tryz.func11,Tryz.ntmps11
  go_wp2_with fail
  refine (HC.out _ H0.out).mono ?_
  rintro e w1 ⟨rfl,hb1⟩
  have H1:=hideS (H0.out.trans (hb1.mono H0.out.size))
  clear hb1 HC H0
  go_wp2_with fail
  go_loopw [12,13,14] (fun last i _ wr=>∃ (k:Nat) (lv:Int),k≤N∧i=.int .i64 k∧last=.int .i64 lv∧Hid (lv=cU base qs k)∧Hid (∀ j<k,bN (qs.getD j aF) (cU base qs j)=0)∧Hid (Below w.heap.size w wr)) (fun _ i _ _=>N - (intOf i).toNat)
  case atStart=>exact⟨0,base,Nat.zero_le _,rfl,rfl,rfl,fun j hj=>by omega,H1⟩
  case round=>
   clear H1
   obtain⟨k,lv,hk,rfl,rfl,HL,HFi,HB⟩:=hrel
   by_cases hlt:k<N
   ·obtain⟨c0,c1,c2,c3,c4⟩:=(HQ.out.below HB.out).cell k (by rw [HN.out];exact hlt)
    have HFt:=hideS fun wx=>vZ (qs.getD k aF) lv wx (HR.out k hlt)
    rw [HL.out] at HFt
    obtain⟨F,hF⟩:∃ F,bN (qs.getD k aF) (cU base qs k)=F:=⟨_,rfl⟩
    rw [hF,← HL.out] at HFt
    have HF:=hideS hF
    have HNx:Hid (cU base qs (k+1)=(qs.getD k aF).fin):=rfl
    generalize (qs.getD k aF).kind=qk at *
    generalize hqf:(qs.getD k aF).fin=qf at *
    have HQf:=hideS hqf
    clear hqf
    generalize (qs.getD k aF).count=qc at *
    generalize (qs.getD k aF).n=qn at *
    generalize (qs.getD k aF).rate=qr at *
    clear hF
    by_cases hz:F=0
    ·have HFi2:Hid (∀ j<k+1,bN (qs.getD j aF) (cU base qs j)=0):=fun j hj=>by
      by_cases c:j<k
      ·exact HFi.out j c
      ·obtain rfl:j=k:=by omega
       rw [HF.out];exact hz
     subst hz
     go_wp2_with fail
     refine (HFt.out _).mono ?_
     rintro e w2 ⟨rfl,hb2⟩
     have HB2:=hideS (HB.out.trans (hb2.mono HB.out.size))
     obtain⟨g0,g1,g2,g3,g4⟩:=(HQ.out.below HB2.out).cell k (by rw [HN.out];exact hlt)
     rw [HQf.out] at g1
     clear hb2 g0 g2 g3 g4 c0 c1 c2 c3 c4
     go_wp2_with fail
     go_roundw
     case rel=>exact⟨k+1,qf,by omega,by simp,rfl,HNx.out.symm,HFi2,HB2⟩
     case measure=>simp [intOf];omega
    ·have hEK:F=E∧(k:Int)=K:=fy (.bad k (by rw [HN.out];exact hlt) F HF.out hz HFi.out) HQR.out
     have HEK:=hideS hEK
     have d7:(F !=0)=true:=bne_iff_ne.2 hz
     clear hz hEK
     go_wp2_with fail
     refine (HFt.out _).mono ?_
     rintro e w2 ⟨rfl,hb2⟩
     have HB2:=hideS (HB.out.trans (hb2.mono HB.out.size))
     clear hb2
     go_wp2_with fail
     go_ret2
     obtain⟨rfl,rfl⟩:=HEK.out
     exact⟨rfl,HB2.out⟩
   ·obtain rfl:k=N:=by omega
    have hEK:(0:Int)=E∧(0:Int)=K:=fy (.fine (by rw [HN.out];exact HFi.out)) HQR.out
    have HEK:=hideS hEK
    clear hEK
    go_wp2_with fail
    go_ret2
    obtain⟨rfl,rfl⟩:=HEK.out
    exact⟨rfl,HB.out⟩

theorem rF (base kind W A B E K:Int) (p pq:Option Addr) (b off c bq oq cq:Nat) (rs:List Rul) (qs:List Quo) (w:World) (hA:ChkR W rs A B) (hs:RSrc w p b off rs) (hl:rs.length≤1000000) (hq:QSrc w pq bq oq qs) (hqN:qs.length≤9223372036854775807) (hr:∀ i<qs.length,(qs.getD i aF).rate<4294967296) (hE:Chk13 base kind A qs E K) :
  Calls Tryz.prog 11 #[.int .i64 base,.int .i64 kind,.agg #[.int .i64 W,.slice p rs.length c],.slice pq qs.length cq] w fun e w'=>e=.returned (.tuple #[.int .i64 E,.int .i64 K])∧Below w.heap.size w w':=by
 have HC:Hid (∀ wx,Below w.heap.size w wx→Calls Tryz.prog 25 #[.agg #[.int .i64 W,.slice p rs.length c]] wx fun e w'=>e=.returned (.tuple #[.int .i64 A,.int .i64 B])∧Below wx.heap.size wx w'):=fun wx hb=>uu W p b off c rs A B wx hA (hs.below hb) hl
 cases hE with
 | base h=>exact dX base kind W A B _ _ _ _ w (Or.inl ⟨h,rfl,rfl⟩) HC
 | kind b0 b1 h=>exact dX base kind W A B _ _ _ _ w (Or.inr (Or.inl ⟨⟨b0,b1,h⟩,rfl,rfl⟩)) HC
 | cal b0 b1 k1 k4 h=>exact dX base kind W A B _ _ _ _ w (Or.inr (Or.inr ⟨⟨b0,b1,k1,k4,h⟩,rfl,rfl⟩)) HC
 | long b0 b1 k1 k4 a0 h=>subst a0;exact fx base kind W B _ _ _ pq bq oq cq _ qs w b0 b1 k1 k4 hq rfl hqN hr (Or.inl ⟨h,rfl,rfl⟩) HC
 | none b0 b1 k1 k4 a0 h=>subst a0;exact fx base kind W B _ _ _ pq bq oq cq _ qs w b0 b1 k1 k4 hq rfl hqN hr (Or.inr (Or.inl ⟨h,rfl,rfl⟩)) HC
 | quo b0 b1 k1 k4 a0 lo hi _ _ h=>subst a0;exact fx base kind W B _ _ _ pq bq oq cq _ qs w b0 b1 k1 k4 hq rfl hqN hr (Or.inr (Or.inr ⟨lo,hi,h⟩)) HC
end Go.Proofs.YtkooknagalgfpaaGreat
