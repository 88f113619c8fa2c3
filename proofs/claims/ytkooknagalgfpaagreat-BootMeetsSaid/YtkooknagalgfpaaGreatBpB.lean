/-  -/
import Derived.Test.YtkooknagalgfpaaGreatHbp
namespace Go.Proofs.YtkooknagalgfpaaGreat
open Go.RowKit

theorem mR {base kind A E K:Int} {qs:List Quo} (h:Chk13 base kind A qs E K):∃ F,FrmR base kind A qs.length F∧(F≠0∧E=F∧K= -1∨F=0∧0≤base∧base≤109572∧1≤kind∧kind≤4∧A=0∧1≤qs.length∧qs.length≤64∧QuoR base qs E K):=by
 cases h with
 | base h=>exact⟨_,.base h,Or.inl ⟨by decide,rfl,rfl⟩⟩
 | kind b0 b1 h=>exact⟨_,.kind b0 b1 h,Or.inl ⟨by decide,rfl,rfl⟩⟩
 | cal b0 b1 k1 k4 h=>exact⟨_,.cal b0 b1 k1 k4 h,Or.inl ⟨h,rfl,rfl⟩⟩
 | long b0 b1 k1 k4 a0 h=>exact⟨_,.long b0 b1 k1 k4 a0 h,Or.inl ⟨by decide,rfl,rfl⟩⟩
 | none b0 b1 k1 k4 a0 h=>exact⟨_,.none b0 b1 k1 k4 a0 h,Or.inl ⟨by decide,rfl,rfl⟩⟩
 | quo b0 b1 k1 k4 a0 lo hi _ _ h=>exact⟨_,.ok b0 b1 k1 k4 a0 lo hi,Or.inr ⟨rfl,b0,b1,k1,k4,a0,lo,hi,h⟩⟩
theorem zI {base:Int} {qs:List Quo} (b0:0≤base) (b1:base≤109572):∀ k,(∀ j<k,dw (qs.getD j au) (dV base qs j)=0)→0≤dV base qs k∧dV base qs k≤109572
 | 0,_=>⟨b0,b1⟩
 | k+1,h=>by
  have h1:=zI b0 b1 k (fun j hj=>h j (by omega))
  have h2:=h k (by omega)
  show 0≤(qs.getD k au).fin∧(qs.getD k au).fin≤109572
  unfold dw at h2
  split at h2
  ·omega
  split at h2
  ·omega
  split at h2
  ·omega
  ·omega
set_option maxHeartbeats 1600000 in
theorem BX (base kind W A B E:Int) (v:Value) (p:Option Addr) (N cq:Nat) (w:World) (h:FrmR base kind A N E) (hE:E≠0)
  (HC:Hid (∀ wx,Below w.heap.size w wx→Calls Tryz.prog 47 #[.agg #[.int .i64 W,v]] wx fun e w'=>e=.returned (.tuple #[.int .i64 A,.int .i64 B])∧Below wx.heap.size wx w')) :
  Calls Tryz.prog 10 #[.int .i64 base,.int .i64 kind,.agg #[.int .i64 W,v],.slice p N cq] w fun e w'=>e=.returned (.tuple #[.int .i64 E,.int .i64 (-1)])∧Below w.heap.size w w':=by
 have H0:=hideS (Kw w W v)
 have HF:=hideS fun wx hb=>rE base kind W A B E v N wx h (fun wy hy=>HC.out wy ((hb:Below w.heap.size w wx).trans (hy.mono hb.size)))
 have d1:(E !=0)=true:=bne_iff_ne.2 hE
 clear h HC hE
 go_enter Tryz.func10,Tryz.ntmps10
 go_wp2_with fail
 refine (HF.out _ H0.out).mono ?_
 rintro e w1 ⟨rfl,hb1⟩
 have H1:=hideS (H0.out.trans (hb1.mono H0.out.size))
 clear hb1
 go_wp2_with fail
 go_ret2
 exact⟨rfl,H1.out⟩

set_option maxRecDepth 20000 in
set_option maxHeartbeats 3200000 in
theorem BY (base kind W B E K:Int) (v:Value) (pq:Option Addr) (bq oq cq N:Nat) (qs:List Quo) (w:World) (h:FrmR base kind 0 N 0) (b0:0≤base) (b1:base≤109572) (hq:QSrc w pq bq oq qs) (hN:qs.length=N) (lo:1≤N) (hi:N≤64) (hQ:QuoR base qs E K)
  (HC:Hid (∀ wx,Below w.heap.size w wx→Calls Tryz.prog 47 #[.agg #[.int .i64 W,v]] wx fun e w'=>e=.returned (.tuple #[.int .i64 0,.int .i64 B])∧Below wx.heap.size wx w')) :
  Calls Tryz.prog 10 #[.int .i64 base,.int .i64 kind,.agg #[.int .i64 W,v],.slice pq N cq] w fun e w'=>e=.returned (.tuple #[.int .i64 E,.int .i64 K])∧Below w.heap.size w w':=by
 have H0:=hideS (Kw w W v)
 have HF:=hideS fun wx hb=>rE base kind W 0 B 0 v N wx h (fun wy hy=>HC.out wy ((hb:Below w.heap.size w wx).trans (hy.mono hb.size)))
 obtain rfl:=hq.at_ (by omega)
 have HQ:=hideS hq
 have HN:=hideS hN
 have HQR:=hideS hQ
 have HD:=hideS fun k hk=>zI (qs:=qs) b0 b1 k hk
 clear h HC hq hN hQ b0 b1
 go_enter Tryz.func10,Tryz.ntmps10
 go_wp2_with fail
 refine (HF.out _ H0.out).mono ?_
 rintro e w1 ⟨rfl,hb1⟩
 have H1:=hideS (H0.out.trans (hb1.mono H0.out.size))
 clear hb1 HF H0
 go_wp2_with fail
 go_loopw [11,27] (fun last i wr=>∃ (k:Nat) (lv:Int),k≤N∧i=.int .i64 k∧last=.int .i64 lv∧Hid (lv=dV base qs k)∧Hid (∀ j<k,dw (qs.getD j au) (dV base qs j)=0)∧Hid (Below w.heap.size w wr)) (fun _ i _=>N - (intOf i).toNat)
 case atStart=>exact⟨0,base,Nat.zero_le _,rfl,rfl,rfl,fun j hj=>by omega,H1⟩
 case round=>
  clear H1
  obtain⟨k,lv,hk,rfl,rfl,HL,HFi,HB⟩:=hrel
  by_cases hlt:k<N
  ·obtain⟨c0,c1,c2,c3,c4⟩:=(HQ.out.below HB.out).cell k (by rw [HN.out];exact hlt)
   obtain⟨dl,dh⟩:=HD.out k HFi.out
   rw [← HL.out] at dl dh
   have HFt:=hideS fun wx=>Kv (qs.getD k au) lv wx dl dh
   rw [HL.out] at HFt
   obtain⟨F,hF⟩:∃ F,dw (qs.getD k au) (dV base qs k)=F:=⟨_,rfl⟩
   rw [hF,← HL.out] at HFt
   have HF:=hideS hF
   have HQB:=hideS (zB wr (qs.getD k au))
   obtain⟨⟨z0,z1,z2,z3,z4⟩,fz⟩:=nQ wr
   have y0:=fz 0
   have y1:=fz 1
   have y2:=fz 2
   have y3:=fz 3
   have y4:=fz 4
   clear fz
   have HNx:Hid (dV base qs (k+1)=(qs.getD k au).fin):=rfl
   obtain⟨q,hq⟩:∃ q,qs.getD k au=q:=⟨_,rfl⟩
   rw [hq] at HFt HQB HNx c0 c1 c2 c3 c4
   clear hF dl dh hq
   obtain⟨qk,qf,qc,qn,qr⟩:=q
   dsimp only at *
   obtain⟨w2,hw2⟩:∃ w2,wr.alloc cF=w2:=⟨_,rfl⟩
   rw [hw2] at z0 z1 z2 z3 z4 y0 y1 y2 y3 y4 HQB
   unfold cF at hw2
   obtain⟨w3,hw3⟩:∃ w3,FJ w2 wr.heap.size ⟨qk,qf,qc,qn,qr⟩=w3:=⟨_,rfl⟩
   rw [hw3] at HQB
   unfold FJ at hw3
   dsimp only at hw3
   have t0:=HQB.out.t0
   have t1:=HQB.out.t1
   have t2:=HQB.out.t2
   have t3:=HQB.out.t3
   have t4:=HQB.out.t4
   dsimp only at t0 t1 t2 t3 t4
   have hst:=tV
   by_cases hz:F=0
   ·have HFi2:Hid (∀ j<k+1,dw (qs.getD j au) (dV base qs j)=0):=fun j hj=>by
     by_cases c:j<k
     ·exact HFi.out j c
     ·obtain rfl:j=k:=by omega
      rw [HF.out];exact hz
    subst hz
    go_wp2_with fail
    clear hst hw2 hw3 z0 z1 z2 z3 z4 y0 y1 y2 y3 y4 t0 t1 t2 t3 t4
    refine (HFt.out _).mono ?_
    rintro e w4 ⟨rfl,hb2⟩
    have HB2:=hideS (HB.out.trans ((HQB.out.step hb2).bl.mono HB.out.size))
    have g1:=(HQB.out.step hb2).t1
    clear hb2 c0 c1 c2 c3 c4
    go_wp2_with fail
    go_roundw
    case rel=>exact⟨k+1,qf,by omega,by simp,rfl,HNx.out.symm,HFi2,HB2⟩
    case measure=>simp [intOf];omega
   ·have hEK:F=E∧(k:Int)=K:=nl (.bad k (by rw [HN.out];exact hlt) F HF.out hz HFi.out) HQR.out
    have HEK:=hideS hEK
    have d7:(F !=0)=true:=bne_iff_ne.2 hz
    clear hz hEK
    go_wp2_with fail
    clear hst hw2 hw3 z0 z1 z2 z3 z4 y0 y1 y2 y3 y4 t0 t1 t2 t3 t4
    refine (HFt.out _).mono ?_
    rintro e w4 ⟨rfl,hb2⟩
    have HB2:=hideS (HB.out.trans ((HQB.out.step hb2).bl.mono HB.out.size))
    clear hb2
    go_wp2_with fail
    go_ret2
    obtain⟨rfl,rfl⟩:=HEK.out
    exact⟨rfl,HB2.out⟩
  ·obtain rfl:k=N:=by omega
   have hEK:(0:Int)=E∧(0:Int)=K:=nl (.fine (by rw [HN.out];exact HFi.out)) HQR.out
   have HEK:=hideS hEK
   clear hEK
   go_wp2_with fail
   go_ret2
   obtain⟨rfl,rfl⟩:=HEK.out
   exact⟨rfl,HB.out⟩
theorem kt (base kind W A B E K:Int) (p pq:Option Addr) (b off c bq oq cq:Nat) (rs:List Rul) (qs:List Quo) (w:World) (hA:ChkR W rs A B) (hs:RSrc w p b off rs) (hl:rs.length≤9223372036854775807) (hq:QSrc w pq bq oq qs) (hE:Chk13 base kind A qs E K) :
  Calls Tryz.prog 10 #[.int .i64 base,.int .i64 kind,.agg #[.int .i64 W,.slice p rs.length c],.slice pq qs.length cq] w fun e w'=>e=.returned (.tuple #[.int .i64 E,.int .i64 K])∧Below w.heap.size w w':=by
 have HC:Hid (∀ wx,Below w.heap.size w wx→Calls Tryz.prog 47 #[.agg #[.int .i64 W,.slice p rs.length c]] wx fun e w'=>e=.returned (.tuple #[.int .i64 A,.int .i64 B])∧Below wx.heap.size wx w'):=fun wx hb=>js W p b off c rs A B wx hA (hs.below hb) hl
 obtain⟨F,hF,⟨h0,rfl,rfl⟩| ⟨rfl,b0,b1,k1,k4,rfl,lo,hi,hQ⟩⟩:=mR hE
 ·exact BX base kind W A B E _ pq qs.length cq w hF h0 HC
 ·exact BY base kind W B E K _ pq bq oq cq qs.length qs w hF b0 b1 hq rfl lo hi hQ HC
end Go.Proofs.YtkooknagalgfpaaGreat
