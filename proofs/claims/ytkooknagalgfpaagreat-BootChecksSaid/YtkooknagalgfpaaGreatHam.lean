/-  -/
import Derived.Test.YtkooknagalgfpaaGreatHal
import Derived.Laws.BitsAllLaws
import Derived.Laws.Bits64b
import Derived.BigQuiet
namespace Go.Proofs.YtkooknagalgfpaaGreat
open Go.RowKit

theorem bE {B:Nat} {w w2:World} {n:Nat} (hb:Below B w w2):Below B w (w2.drewN n):=⟨hb.os,hb.tape,hb.output,hb.size,hb.block⟩
def GR:Array Value:=#[.int .i64 0,.int .i64 31,.int .i64 29,.int .i64 31,.int .i64 30,.int .i64 31,.int .i64 30,.int .i64 31,.int .i64 31,.int .i64 30,.int .i64 31,.int .i64 30,.int .i64 31]
theorem ar {w:World} (o:Obj) (p:Addr) (h:p.block<w.heap.size):(w.alloc o).cell? p=w.cell? p:=((Below.refl _ w).alloc (Nat.le_refl _) o).cell h
theorem cb {w:World} {v:Value} (cs:Array Value) (t:TypeId) (k:Nat) (h:cs[k]? =some v) {o:Obj}:((w.alloc o).alloc (.cells cs t)).cell? ⟨w.heap.size+1,k,none⟩=some v:=by
 rw [show w.heap.size+1=(w.alloc o).heap.size by simp]
 simp [h]
theorem gc (W:World) (cs:Array Value) (t:TypeId) (k:Nat):(W.alloc (.cells cs t)).cell? ⟨W.heap.size,k,none⟩=cs[k]? :=by simp
theorem DG {w:World} {v:Option Value} (cs:Array Value) (t:TypeId) (o o':Obj) {k:Nat} (h:cs[k]? =v):(((w.alloc o).alloc o').alloc (.cells cs t)).cell? ⟨w.heap.size+1+1,k,none⟩=v:=by
 have e:=gc ((w.alloc o).alloc o') cs t k
 rw [show ((w.alloc o).alloc o').heap.size=w.heap.size+1+1 by simp] at e
 rw [e,h]
theorem iP (w:World) (kind mon day nth wd off fr to mv:Int):∃ wq,
  ((w.alloc (.cells #[.int .i64 kind,.int .i64 mon,.int .i64 day,.int .i64 nth,.int .i64 wd,.int .i64 off,.int .i64 fr,.int .i64 to,.int .i64 mv] 90)).alloc (.cells #[.int .i64 kind,.int .i64 mon,.int .i64 day,.int .i64 0,.int .i64 0,.int .i64 0,.int .i64 fr,.int .i64 to,.int .i64 mv] 90)).alloc (.cells #[.int .i64 0,.int .i64 31,.int .i64 29,.int .i64 31,.int .i64 30,.int .i64 31,.int .i64 30,.int .i64 31,.int .i64 31,.int .i64 30,.int .i64 31,.int .i64 30,.int .i64 31] 3)=wq∧
  Hid (Below w.heap.size w wq)∧
  wq.cell? ⟨w.heap.size,0,none⟩=some (.int .i64 kind)∧wq.cell? ⟨w.heap.size,1,none⟩=some (.int .i64 mon)∧wq.cell? ⟨w.heap.size,2,none⟩=some (.int .i64 day)∧wq.cell? ⟨w.heap.size,3,none⟩=some (.int .i64 nth)∧wq.cell? ⟨w.heap.size,4,none⟩=some (.int .i64 wd)∧wq.cell? ⟨w.heap.size,5,none⟩=some (.int .i64 off)∧wq.cell? ⟨w.heap.size,6,none⟩=some (.int .i64 fr)∧wq.cell? ⟨w.heap.size,7,none⟩=some (.int .i64 to)∧wq.cell? ⟨w.heap.size,8,none⟩=some (.int .i64 mv)∧
  wq.cell? ⟨w.heap.size+1,0,none⟩=some (.int .i64 kind)∧wq.cell? ⟨w.heap.size+1,1,none⟩=some (.int .i64 mon)∧wq.cell? ⟨w.heap.size+1,2,none⟩=some (.int .i64 day)∧wq.cell? ⟨w.heap.size+1,3,none⟩=some (.int .i64 0)∧wq.cell? ⟨w.heap.size+1,4,none⟩=some (.int .i64 0)∧wq.cell? ⟨w.heap.size+1,5,none⟩=some (.int .i64 0)∧wq.cell? ⟨w.heap.size+1,6,none⟩=some (.int .i64 fr)∧wq.cell? ⟨w.heap.size+1,7,none⟩=some (.int .i64 to)∧wq.cell? ⟨w.heap.size+1,8,none⟩=some (.int .i64 mv)∧
  Hid (∀ k<13,wq.cell? ⟨w.heap.size+1+1,k,none⟩=GR[k]?):=by
 refine⟨_,rfl,(((Below.refl w.heap.size w).alloc (Nat.le_refl _) _).alloc (by simp) _).alloc (by simp;omega) _,?_⟩
 refine⟨by rw [ar _ _ (by simp;omega),ar _ _ (by simp)];simp,by rw [ar _ _ (by simp;omega),ar _ _ (by simp)];simp,by rw [ar _ _ (by simp;omega),ar _ _ (by simp)];simp,by rw [ar _ _ (by simp;omega),ar _ _ (by simp)];simp,by rw [ar _ _ (by simp;omega),ar _ _ (by simp)];simp,by rw [ar _ _ (by simp;omega),ar _ _ (by simp)];simp,by rw [ar _ _ (by simp;omega),ar _ _ (by simp)];simp,by rw [ar _ _ (by simp;omega),ar _ _ (by simp)];simp,by rw [ar _ _ (by simp;omega),ar _ _ (by simp)];simp,by rw [ar _ _ (by simp)];exact cb _ _ 0 (by simp),by rw [ar _ _ (by simp)];exact cb _ _ 1 (by simp),by rw [ar _ _ (by simp)];exact cb _ _ 2 (by simp),by rw [ar _ _ (by simp)];exact cb _ _ 3 (by simp),by rw [ar _ _ (by simp)];exact cb _ _ 4 (by simp),by rw [ar _ _ (by simp)];exact cb _ _ 5 (by simp),by rw [ar _ _ (by simp)];exact cb _ _ 6 (by simp),by rw [ar _ _ (by simp)];exact cb _ _ 7 (by simp),by rw [ar _ _ (by simp)];exact cb _ _ 8 (by simp),fun k hk=>?_⟩
 rcases (show k=0∨k=1∨k=2∨k=3∨k=4∨k=5∨k=6∨k=7∨k=8∨k=9∨k=10∨k=11∨k=12 by omega) with rfl | rfl | rfl | rfl | rfl | rfl | rfl | rfl | rfl | rfl | rfl | rfl | rfl<;>exact DG _ _ _ _ (by simp [GR])

set_option maxRecDepth 10000 in
set_option maxHeartbeats 3200000 in
theorem wW (mon day nth wd off fr to mv:Int) (w:World) (h:kQ fr to mv) (hz:¬ (nth=0∧wd=0∧off=0)) :
  Calls Tryz.prog 50 #[.agg #[.int .i64 1,.int .i64 mon,.int .i64 day,.int .i64 nth,.int .i64 wd,.int .i64 off,.int .i64 fr,.int .i64 to,.int .i64 mv]] w fun e w'=>e=.returned (.bool false)∧Below w.heap.size w w':=by
 have HI:=hideS (fun (n lo hi:Int) (wx:World)=>bX n lo hi wx)
 have ia:=hideS (fun wx=>HI.out fr 1900 2199 wx)
 have ib:=hideS (fun wx=>HI.out to fr 2199 wx)
 have ic:=hideS (fun wx=>HI.out mv 0 2 wx)
 rw [decide_eq_true ⟨h.1,h.2.1⟩] at ia
 rw [decide_eq_true ⟨h.2.2.1,h.2.2.2.1⟩] at ib
 rw [decide_eq_true ⟨h.2.2.2.2.1,h.2.2.2.2.2⟩] at ic
 clear h
 have hz':(nth≠0)∨(nth=0∧wd≠0)∨(nth=0∧wd=0∧off≠0):=by omega
 clear hz
 go_enter Tryz.func50,Tryz.ntmps50
 go_wp2_with (first | (go_at_call_of 49 (Value.int IntKind.i64 1900);refine (ia.out _).mono ?_;rintro e w1 ⟨rfl,rfl⟩) | (go_at_call_of 49 (Value.int IntKind.i64 2199);refine (ib.out _).mono ?_;rintro e w1 ⟨rfl,rfl⟩) | (go_at_call_of 49 (Value.int IntKind.i64 2);refine (ic.out _).mono ?_;rintro e w1 ⟨rfl,rfl⟩))
 obtain⟨wq,hwq,HB,x0,x1,x2,x3,x4,x5,x6,x7,x8,z0,z1,z2,z3,z4,z5,z6,z7,z8,HM⟩:=iP w 1 mon day nth wd off fr to mv
 rw [hwq]
 clear hwq
 rcases hz' with a | ⟨rfl,a⟩| ⟨rfl,rfl,a⟩
 all_goals
  go_quiet (fail)
  go_wp2_with fail
  go_ret
  exact⟨rfl,bE HB.out⟩

set_option maxRecDepth 10000 in
set_option maxHeartbeats 3200000 in
theorem wX (mon day fr to mv:Int) (w:World) (h:kQ fr to mv) (hz:¬ (1≤mon∧mon≤12)) :
  Calls Tryz.prog 50 #[.agg #[.int .i64 1,.int .i64 mon,.int .i64 day,.int .i64 0,.int .i64 0,.int .i64 0,.int .i64 fr,.int .i64 to,.int .i64 mv]] w fun e w'=>e=.returned (.bool false)∧Below w.heap.size w w':=by
 have HI:=hideS (fun (n lo hi:Int) (wx:World)=>bX n lo hi wx)
 have ia:=hideS (fun wx=>HI.out fr 1900 2199 wx)
 have ib:=hideS (fun wx=>HI.out to fr 2199 wx)
 have ic:=hideS (fun wx=>HI.out mv 0 2 wx)
 rw [decide_eq_true ⟨h.1,h.2.1⟩] at ia
 rw [decide_eq_true ⟨h.2.2.1,h.2.2.2.1⟩] at ib
 rw [decide_eq_true ⟨h.2.2.2.2.1,h.2.2.2.2.2⟩] at ic
 clear h
 have im:=hideS (fun wx=>HI.out mon 1 12 wx)
 rw [decide_eq_false hz] at im
 clear hz
 go_enter Tryz.func50,Tryz.ntmps50
 go_wp2_with (first | (go_at_call_of 49 (Value.int IntKind.i64 1900);refine (ia.out _).mono ?_;rintro e w1 ⟨rfl,rfl⟩) | (go_at_call_of 49 (Value.int IntKind.i64 2199);refine (ib.out _).mono ?_;rintro e w1 ⟨rfl,rfl⟩) | (go_at_call_of 49 (Value.int IntKind.i64 2);refine (ic.out _).mono ?_;rintro e w1 ⟨rfl,rfl⟩))
 obtain⟨wq,hwq,HB,x0,x1,x2,x3,x4,x5,x6,x7,x8,z0,z1,z2,z3,z4,z5,z6,z7,z8,HM⟩:=iP w 1 mon day 0 0 0 fr to mv
 rw [hwq]
 clear hwq
 go_quiet ((go_at_call 49;exact Calls.quiet_of_same (im.out _)))
 go_wp2_with fail
 go_ret
 exact⟨rfl,bE HB.out⟩

theorem Lz {m:Int} (h1:1≤m) (h2:m≤12):GR[m.toNat]? =some (.int .i64 (fX m)):=by
 rcases month_cases h1 h2 with rfl | rfl | rfl | rfl | rfl | rfl | rfl | rfl | rfl | rfl | rfl | rfl<;>rfl

set_option maxRecDepth 10000 in
set_option maxHeartbeats 3200000 in
theorem wY (mon day fr to mv:Int) (w:World) (h:kQ fr to mv) (hm1:1≤mon) (hm2:mon≤12) :
  Calls Tryz.prog 50 #[.agg #[.int .i64 1,.int .i64 mon,.int .i64 day,.int .i64 0,.int .i64 0,.int .i64 0,.int .i64 fr,.int .i64 to,.int .i64 mv]] w fun e w'=>e=.returned (.bool (decide (1≤day∧day≤fX mon)))∧Below w.heap.size w w':=by
 have HI:=hideS (fun (n lo hi:Int) (wx:World)=>bX n lo hi wx)
 have ia:=hideS (fun wx=>HI.out fr 1900 2199 wx)
 have ib:=hideS (fun wx=>HI.out to fr 2199 wx)
 have ic:=hideS (fun wx=>HI.out mv 0 2 wx)
 rw [decide_eq_true ⟨h.1,h.2.1⟩] at ia
 rw [decide_eq_true ⟨h.2.2.1,h.2.2.2.1⟩] at ib
 rw [decide_eq_true ⟨h.2.2.2.2.1,h.2.2.2.2.2⟩] at ic
 clear h
 have im:=hideS (fun wx=>HI.out mon 1 12 wx)
 rw [decide_eq_true ⟨hm1,hm2⟩] at im
 have id:=hideS (fun wx=>HI.out day 1 (fX mon) wx)
 have hcell:=Lz hm1 hm2
 have ht:mon.toNat<13:=by omega
 generalize decide (1≤day∧day≤fX mon)=R at *
 generalize fX mon=L at *
 obtain⟨k,hk⟩:∃ k:Nat,mon=k:=⟨mon.toNat,by omega⟩
 have hkt:mon.toNat=k:=by omega
 rw [hkt] at hcell ht
 clear hkt
 go_enter Tryz.func50,Tryz.ntmps50
 have HK:=hideS hk
 clear hk
 go_wp2_with (first | (go_at_call_of 49 (Value.int IntKind.i64 1900);refine (ia.out _).mono ?_;rintro e w1 ⟨rfl,rfl⟩) | (go_at_call_of 49 (Value.int IntKind.i64 2199);refine (ib.out _).mono ?_;rintro e w1 ⟨rfl,rfl⟩) | (go_at_call_of 49 (Value.int IntKind.i64 2);refine (ic.out _).mono ?_;rintro e w1 ⟨rfl,rfl⟩))
 obtain⟨wq,hwq,HB,x0,x1,x2,x3,x4,x5,x6,x7,x8,z0,z1,z2,z3,z4,z5,z6,z7,z8,HM⟩:=iP w 1 mon day 0 0 0 fr to mv
 rw [hwq]
 clear hwq
 have hc:=(HM.out k ht).trans hcell
 obtain rfl:=HK.out
 clear hcell HM
 go_quiet (first | (go_at_call_of 49 (Value.int IntKind.i64 12);exact Calls.quiet_of_same (im.out _)) | (go_at_call 49;exact Calls.quiet_of_same (id.out _)))
 go_wp2_with fail
 go_ret
 exact⟨rfl,bE HB.out⟩

theorem Ab (r:Rul) (w:World) :
  Calls Tryz.prog 50 #[.agg #[.int .i64 r.kind,.int .i64 r.mon,.int .i64 r.day,.int .i64 r.nth,.int .i64 r.wd,.int .i64 r.off,.int .i64 r.fr,.int .i64 r.to,.int .i64 r.mv]] w fun e w'=>e=.returned (.bool (bD r))∧Below w.heap.size w w':=by
 obtain⟨kind,mon,day,nth,wd,off,fr,to,mv⟩:=r
 dsimp only
 by_cases k4:kind=4
 ·subst k4;exact wU mon day nth wd off fr to mv w
 ·by_cases hr:kQ fr to mv
  ·by_cases k1:kind=1
   ·subst k1
    rw [PU hr]
    by_cases hz:nth=0∧wd=0∧off=0
    ·obtain⟨rfl,rfl,rfl⟩:=hz
     by_cases hm:1≤mon∧mon≤12
     ·rw [show decide ((0:Int)=0∧(0:Int)=0∧(0:Int)=0∧1≤mon∧mon≤12∧1≤day∧day≤fX mon)=decide (1≤day∧day≤fX mon) from decide_eq_decide.2 (by omega)]
      exact wY mon day fr to mv w hr hm.1 hm.2
     ·rw [decide_eq_false (fun a=>hm ⟨a.2.2.2.1,a.2.2.2.2.1⟩)]
      exact wX mon day fr to mv w hr hm
    ·rw [decide_eq_false (fun a=>hz ⟨a.1,a.2.1,a.2.2.1⟩)]
     exact wW mon day nth wd off fr to mv w hr hz
   ·exact wV kind mon day nth wd off fr to mv w k1 k4 hr
  ·exact Aa kind mon day nth wd off fr to mv w k4 hr
end Go.Proofs.YtkooknagalgfpaaGreat
namespace Go.Proofs.YtkooknagalgfpaaGreat
open Go.RowKit

end Go.Proofs.YtkooknagalgfpaaGreat
namespace Go.Proofs.YtkooknagalgfpaaGreat
open Go.RowKit

set_option maxHeartbeats 1600000 in
theorem jP (W:Int) (p:Option Addr) (b off c:Nat) (rs:List Rul) (K:Nat) (A B:Int) (w:World) (w0:0≤W∧W≤126) (hs:RSrc w p b off rs) (hl:rs.length≤64) (hK:K≤rs.length) (hf:∀ j<K,bD (rs.getD j dT)=true)
  (hE:(K=rs.length∧A=0∧B=0)∨(K<rs.length∧bD (rs.getD K dT)=false∧A=60∧B=K)) :
  Calls Tryz.prog 25 #[.agg #[.int .i64 W,.slice p rs.length c]] w fun e w'=>e=.returned (.tuple #[.int .i64 A,.int .i64 B])∧Below w.heap.size w w':=by
 have hi:=fun wx=>bX W 0 126 wx
 rw [decide_eq_true w0] at hi
 have HI:=hideS hi
 clear hi w0
 have HS:=hideS hs
 have HF:=hideS hf
 have HE:=hideS hE
 clear hs hf hE
 obtain⟨N,hN⟩:∃ N,rs.length=N:=⟨_,rfl⟩
 have HN:=hideS hN
 rw [hN] at hl hK ⊢
 rw [hN] at HE
 clear hN
 go_enter Tryz.func25,Tryz.ntmps25
 go_wp2_with (go_at_call 49;refine (HI.out _).mono ?_;rintro e w1 ⟨rfl,rfl⟩)
 have HB0:Hid (CBox w W (.slice p N c) (w.alloc (.cells #[.int .i64 W,.slice p N c] 24))):=Below.refl _ _
 go_loopw [4] (fun i wr=>∃ (k:Nat),k≤K∧i=.int .i64 k∧Hid (CBox w W (.slice p N c) wr)) (fun i _=>N - (intOf i).toNat)
 case atStart=>exact⟨0,by omega,rfl,HB0⟩
 case round=>
  obtain⟨k,hk,rfl,HB⟩:=hrel
  obtain⟨c0,c1⟩:=DF HB.out
  by_cases hlt:k<N
  ·have hx:k<rs.length:=by rw [HN.out];exact hlt
   obtain rfl:=HS.out.at_ (by omega)
   have hrc:=(HS.out.cell k hx).below HB.out.below (HS.out.lt (by omega))
   obtain⟨r,hr⟩:∃ r,rs.getD k dT=r:=⟨_,rfl⟩
   rw [hr] at hrc
   have HRk:=hideS hr
   clear hr hx
   obtain⟨g0,g1,g2,g3,g4,g5,g6,g7,g8⟩:=hrc
   have hft:=fun wx=>Ab r wx
   by_cases hkK:k<K
   ·have e1:=HF.out k hkK
    rw [HRk.out] at e1
    rw [e1] at hft
    have HFt:=hideS hft
    clear hft e1
    obtain⟨kind,mon,day,nth,wd,offs,fr,to,mv⟩:=r
    dsimp only at *
    go_wp2_with (go_at_call 50;refine (HFt.out _).mono ?_;rintro e w2 ⟨rfl,hb2⟩;have HB2:=hideS (HB.out.step hb2);clear hb2)
    go_roundw
    case rel=>exact⟨k+1,by omega,by go_num,HB2⟩
    case measure=>simp [intOf];omega
   ·obtain rfl:k=K:=by omega
    have hEE:bD r=false∧A=60∧B=k:=by
     rcases HE.out with⟨a,_⟩| ⟨_,a,b⟩
     ·omega
     ·rw [HRk.out] at a;exact⟨a,b⟩
    rw [hEE.1] at hft
    have HFt:=hideS hft
    have HA:=hideS hEE.2
    clear hft hEE
    obtain⟨kind,mon,day,nth,wd,offs,fr,to,mv⟩:=r
    dsimp only at *
    go_wp2_with (go_at_call 50;refine (HFt.out _).mono ?_;rintro e w2 ⟨rfl,hb2⟩;have HB2:=hideS (HB.out.step hb2);clear hb2)
    go_ret2
    obtain⟨rfl,rfl⟩:=HA.out
    exact⟨rfl,HB2.out.below⟩
  ·have HA:Hid (A=0∧B=0):=by
    rcases HE.out with⟨_,a⟩| ⟨a,_⟩
    ·exact a
    ·omega
   have hge:¬ (k:Int)<N:=by omega
   go_wp2_with fail
   go_ret2
   obtain⟨rfl,rfl⟩:=HA.out
   exact⟨rfl,HB.out.below⟩

set_option maxHeartbeats 400000 in
theorem uu (W:Int) (p:Option Addr) (b off c:Nat) (rs:List Rul) (A B:Int) (w:World) (h:ChkR W rs A B) (hs:RSrc w p b off rs) (hl:rs.length≤1000000) :
  Calls Tryz.prog 25 #[.agg #[.int .i64 W,.slice p rs.length c]] w fun e w'=>e=.returned (.tuple #[.int .i64 A,.int .i64 B])∧Below w.heap.size w w':=by
 cases h with
 | long h=>
  generalize rs.length=N at *
  have h':(64:Int)<N:=by omega
  clear hs h
  go_enter Tryz.func25,Tryz.ntmps25
  go_wp2_with fail
  go_ret2
  exact⟨rfl,(Below.refl w.heap.size w).alloc (Nat.le_refl _) _⟩
 | week h h2=>
  have hi:=fun wx=>bX W 0 126 wx
  rw [decide_eq_false h2] at hi
  have HI:=hideS hi
  generalize rs.length=N at *
  have h':¬ (64:Int)<N:=by omega
  clear hs h hi h2
  go_enter Tryz.func25,Tryz.ntmps25
  go_wp2_with (go_at_call 49;refine (HI.out _).mono ?_;rintro e w1 ⟨rfl,rfl⟩)
  go_ret2
  exact⟨rfl,(Below.refl w.heap.size w).alloc (Nat.le_refl _) _⟩
 | rule k h1 h2 h3 h4 h5=>exact jP W p b off c rs k 60 k w h2 hs h1 (by omega) h5 (Or.inr ⟨h3,h4,rfl,rfl⟩)
 | ok h=>exact jP W p b off c rs rs.length 0 0 w ⟨h.w0,h.w1⟩ hs h.len (Nat.le_refl _) (fun j hj=>h.fit _ (kL hj)) (Or.inl ⟨rfl,rfl,rfl⟩)
end Go.Proofs.YtkooknagalgfpaaGreat
namespace Go.Proofs.YtkooknagalgfpaaGreat
open Go.RowKit

end Go.Proofs.YtkooknagalgfpaaGreat
namespace Go.Proofs.YtkooknagalgfpaaGreat
open Go.RowKit

end Go.Proofs.YtkooknagalgfpaaGreat
namespace Go.Proofs.YtkooknagalgfpaaGreat
open Go.RowKit

end Go.Proofs.YtkooknagalgfpaaGreat
namespace Go.Proofs.YtkooknagalgfpaaGreat
open Go.RowKit

end Go.Proofs.YtkooknagalgfpaaGreat
namespace Go.Proofs.YtkooknagalgfpaaGreat
open Go.RowKit

end Go.Proofs.YtkooknagalgfpaaGreat
namespace Go.Proofs.YtkooknagalgfpaaGreat
open Go.RowKit

noncomputable def moD (n:Int):Int:=moI n - 12*yrI n
noncomputable def daD (n:Int):Int:=n - nyI (yrI n) - cp (yrI n) (moD n)+1
theorem nX {n y m d:Int} (h:IsD n y m d):yrI n=y∧moD n=m∧daD n=d:=by
 have e1:=sM h
 have e2:moD n=m:=by unfold moD;rw [PS h,e1];omega
 refine⟨e1,e2,?_⟩
 unfold daD
 rw [e1,e2]
 have:=h.2
 unfold ax at this
 omega
noncomputable def ip (op:Int→Bool) (kind a b:Int):Int:=
 if kind=1∨kind=2 then b - a else if kind=3 then pe (yrI b) b - pe (yrI a) a else if kind=6 then (cntN op a (b - a).toNat:Nat) else pc kind (yrI a) (moD a) (daD a) (yrI b) (moD b) (daD b)
def cZ (kind:Int):Int:=if kind=2 then 365 else if kind=3 then 133590 else if kind=6 then 252 else 360

end Go.Proofs.YtkooknagalgfpaaGreat
namespace Go.Proofs.YtkooknagalgfpaaGreat
open Go.RowKit

def Ac (a b:Int):Prop:=¬ (ag a∧ag b)
end Go.Proofs.YtkooknagalgfpaaGreat
namespace Go.Proofs.YtkooknagalgfpaaGreat
open Go.RowKit

end Go.Proofs.YtkooknagalgfpaaGreat
namespace Go.Proofs.YtkooknagalgfpaaGreat
open Go.RowKit

theorem kR (op:Int→Bool) {kind a b:Int} (ha:ag a) (hb:ag b) (hab:a≤b): -1000000000≤ip op kind a b∧ip op kind a b≤1000000000:=by
 obtain⟨ya,ma,da,hA⟩:=cW ha.1 ha.2
 obtain⟨yb,mb,db,hB⟩:=cW hb.1 hb.2
 obtain⟨e1,e2,e3⟩:=nX hA
 obtain⟨f1,f2,f3⟩:=nX hB
 unfold ip
 rw [e1,e2,e3,f1,f2,f3]
 have ra:=hA.year
 have rb:=hB.year
 obtain⟨⟨a1,a2,a3,a4,a5,a6⟩,_⟩:=hA
 obtain⟨⟨b1,b2,b3,b4,b5,b6⟩,_⟩:=hB
 have la:=gD ya ma
 have lb:=gD yb mb
 have c:=GA op a (b - a).toNat
 have xa:=GP (y:=ya) (n:=a) a1 (by omega) ra.1 (by omega)
 have xb:=GP (y:=yb) (n:=b) b1 (by omega) rb.1 (by omega)
 obtain⟨a7,a8⟩:=ha
 obtain⟨b7,b8⟩:=hb
 split
 ·omega
 ·split
  ·omega
  ·split
   ·omega
   ·unfold pc
    split<;>omega
noncomputable def eO (op:Int→Bool) (kind a b:Int):Int:=if b<a then -ip op kind b a else ip op kind a b
theorem wZ (op:Int→Bool) {kind a b:Int} (ha:ag a) (hb:ag b): -1000000000≤eO op kind a b∧eO op kind a b≤1000000000:=by
 unfold eO
 split
 ·have:=kR op (kind:=kind) hb ha (by omega);omega
 ·exact kR op ha hb (by omega)
end Go.Proofs.YtkooknagalgfpaaGreat
namespace Go.Proofs.YtkooknagalgfpaaGreat
open Go.RowKit

end Go.Proofs.YtkooknagalgfpaaGreat
namespace Go.Proofs.YtkooknagalgfpaaGreat
open Go.RowKit

end Go.Proofs.YtkooknagalgfpaaGreat
namespace Go.Proofs.YtkooknagalgfpaaGreat
open Go.RowKit

open Classical in
noncomputable def bZ (r:Rul) (y:Int):Option Int:=if r.kind=4 then (if yrI r.day=y then some r.day else none) else nh r y
noncomputable def mkB (W:Int) (r:Rul) (y n:Int):Bool:=(bZ r y).map (fun g=>mvI W g r.mv)==some n
noncomputable def mkT (W:Int) (r:Rul) (Y n:Int):Nat→Bool
 | 0=>false
 | t+1=>mkT W r Y n t||mkB W r (Y - 1+t) n
noncomputable def mkK (W:Int) (rs:List Rul) (Y n:Int):Nat→Bool
 | 0=>false
 | k+1=>mkK W rs Y n k||mkT W (rs.getD k dT) Y n 3

theorem LY {W n:Int} (h0:0≤W) (h1:W≤126):mvI W n 0=n:=by
 obtain⟨u,d,hu⟩:=oV h0 h1 n
 rw [wN hu];unfold cD;rw [if_pos (Or.inl rfl)]
theorem LZ {W:Int} {r:Rul} {Y n:Int} (h0:0≤W) (h1:W≤126) (hf:bD r=true) (hy:yrI n=Y):mkT W r Y n 3=Lr W r n Y:=by
 show (((false||mkB W r (Y - 1+((0:Nat):Int)) n)||mkB W r (Y - 1+((1:Nat):Int)) n)||mkB W r (Y - 1+((2:Nat):Int)) n)=_
 rw [show Y - 1+((0:Nat):Int)=Y - 1 by omega,show Y - 1+((1:Nat):Int)=Y by omega,show Y - 1+((2:Nat):Int)=Y+1 by omega,Bool.false_or]
 unfold Lr
 by_cases k4:r.kind=4
 ·rw [if_pos k4]
  have hmv:r.mv=0:=by
   rcases fit_cases hf with⟨_,_,_,a⟩| ⟨_,⟨a,_⟩| ⟨a,_⟩| ⟨a,_⟩⟩
   ·exact a
   ·omega
   ·omega
   ·omega
  have key:∀ y,mkB W r y n=(decide (yrI r.day=y)&&(r.day==n)):=fun y=>by
   unfold mkB bZ
   rw [if_pos k4]
   by_cases e:yrI r.day=y
   ·rw [if_pos e,Option.map_some,hmv,LY h0 h1,decide_eq_true e,Bool.true_and];rfl
   ·rw [if_neg e,decide_eq_false e,Bool.false_and];rfl
  rw [key,key,key]
  by_cases e:r.day=n
  ·rw [e,hy,decide_eq_true (rfl:Y=Y)]
   simp
  ·rw [beq_eq_false_iff_ne.2 e]
   simp
 ·rw [if_neg k4]
  have key:∀ y,mkB W r y n=(Gz W r y==some n):=fun y=>by
   unfold mkB bZ Gz
   rw [if_neg k4]
  rw [key,key,key]
theorem Ma {W:Int} {rs:List Rul} {Y n:Int} (h0:0≤W) (h1:W≤126) (hf:∀ r ∈ rs,bD r=true) (hy:yrI n=Y):mkK W rs Y n rs.length=uq W rs n Y:=by
 have key:∀ k,k≤rs.length→mkK W rs Y n k=(rs.take k).any fun r=>Lr W r n Y:=fun k=>by
  induction k with
  | zero=>intro _;rfl
  | succ k ih=>
   intro hk
   have e:rs[k]? =some (rs.getD k dT):=by simp [List.getD,List.getElem?_eq_getElem (show k<rs.length by omega)]
   show (mkK W rs Y n k||mkT W (rs.getD k dT) Y n 3)=_
   rw [ih (by omega),LZ h0 h1 (hf _ (kL (by omega))) hy,List.take_add_one,e,List.any_append]
   simp
 rw [key _ (Nat.le_refl _),List.take_length]
 rfl
theorem NT {n Y:Int} (y0:1900≤Y) (y1:Y≤2199) (h:nyI Y≤n) (h':n<nyI (Y+1)):yrI n=Y:=by
 have a:=dI (y:=1900) (z:=Y) (by omega) y0
 have b:=dI (y:=Y+1) (z:=2200) (by omega) (by omega)
 rw [oS] at a
 rw [ul] at b
 obtain⟨y,m,d,hd⟩:=cW (n:=n) (by omega) (by omega)
 rw [sM hd]
 have hy:=hd.year
 have h0:=hd.1.1
 rcases Int.lt_trichotomy y Y with e | e | e
 ·have:=dI (y:=y+1) (z:=Y) (by omega) (by omega);omega
 ·exact e
 ·have:=dI (y:=Y+1) (z:=y) (by omega) (by omega);omega
theorem PZ {n:Int} (hn:ag n):1900≤yrI n∧yrI n≤2199∧nyI (yrI n)≤n∧n<nyI (yrI n+1):=by
 obtain⟨y,m,d,hd⟩:=cW hn.1 hn.2
 rw [sM hd]
 exact⟨hd.1.1,hd.1.2.1,hd.year⟩
theorem Ec (Y:Int):ax Y 1 1=nyI Y:=by unfold ax;rw [eD];omega
theorem Hr {Y:Int} (h:1900≤Y):ax Y 12 31=nyI (Y+1) - 1:=by
 have e:=fW (y:=Y) (m:=12) (by omega) (by omega)
 rw [show (12+1:Int)=13 by decide,kK] at e
 have e2:bn Y 12=31:=by unfold bn;rw [if_neg (by decide),if_neg (by decide)]
 rw [kJ h]
 unfold ax
 omega
theorem Au {Y:Int} (y0:1900≤Y) (y1:Y≤2199):okD Y 1 1:=⟨y0,y1,by decide,by decide,by decide,by have:=cV Y 1;omega⟩
theorem Hs {Y:Int} (y0:1900≤Y) (y1:Y≤2199):okD Y 12 31:=⟨y0,y1,by decide,by decide,by decide,by unfold bn;rw [if_neg (by decide),if_neg (by decide)];decide⟩
theorem Ht {W:Int} {r:Rul} {y n:Int} (h:bZ r y=none):mkB W r y n=false:=by unfold mkB;rw [h];rfl
theorem xC {W:Int} {r:Rul} {y n g:Int} (h:bZ r y=some g):mkB W r y n=decide (mvI W g r.mv=n):=by
 unfold mkB;rw [h,Option.map_some]
 by_cases e:mvI W g r.mv=n
 ·rw [e,decide_eq_true rfl];simp
 ·rw [decide_eq_false e];simpa using e
end Go.Proofs.YtkooknagalgfpaaGreat
namespace Go.Proofs.YtkooknagalgfpaaGreat
open Go.RowKit

theorem ay (n lo hi:Int) (w:World) :
  Calls Tryz.prog 253 #[.int .i64 n,.int .i64 lo,.int .i64 hi] w fun e w'=>e=.returned (.bool (decide (lo≤n∧n≤hi)))∧w'=w:=by
 by_cases h1:lo≤n<;>by_cases h2:n≤hi
 all_goals
  first | rw [decide_eq_true (⟨h1,h2⟩:lo≤n∧n≤hi)] | rw [decide_eq_false (fun h:lo≤n∧n≤hi=>by omega)]
  go_enter Tryz.func253,Tryz.ntmps253
  go_wp2
  go_ret
  exact⟨rfl,rfl⟩

theorem pN (n:Int) (w:World) :
  Calls Tryz.prog 238 #[.int .i64 n] w fun e w'=>e=.returned (.bool (decide (ag n)))∧w'=w:=by
 have HI:=hideS (fun wx=>ay n 0 109572 wx)
 rw [show decide (ag n)=decide (0≤n∧n≤109572) from decide_eq_decide.2 Iff.rfl]
 generalize decide (0≤n∧n≤109572)=R at *
 go_enter Tryz.func238,Tryz.ntmps238
 go_wp2_with (go_at_call 253;refine (HI.out _).mono ?_;rintro e w1 ⟨rfl,rfl⟩)
 go_ret
 exact⟨rfl,rfl⟩

theorem Hu (n:Int):bits .and .i64 n 1=n % 2:=by
 have h1:(BitVec.ofInt 64 1).toNat=2^1 - 1:=by decide
 have key:(BitVec.ofInt 64 n&&& BitVec.ofInt 64 1).toNat=(n % ((2^64:Nat):Int)).toNat % 2^1:=by
  rw [BitVec.toNat_and,BitVec.toNat_ofInt,h1,Nat.and_two_pow_sub_one_eq_mod]
 show IntKind.i64.wrap ((BitVec.ofInt 64 n&&& BitVec.ofInt 64 1).toNat:Nat)=n % 2
 rw [key,IntKind.wrap_i64]
 omega

set_option maxHeartbeats 400000 in
theorem jS (W n:Int) (w:World) (n0: -7≤n) (n1:n≤1000000) :
  Calls Tryz.prog 254 #[.int .i64 W,.int .i64 n] w fun e w'=>e=.returned (.bool (dS W n))∧w'=w:=by
 obtain⟨k,hk⟩:∃ k:Nat,n % 7=k:=⟨(n % 7).toNat,by omega⟩
 have hak:(n+7) % 7=(k:Int):=by omega
 have hk6:k≤6:=by omega
 have hand:=Hu (W / 2^k)
 unfold dS
 rw [hk]
 have HE:Hid ((W / ((2^(((k:Nat):Int)).toNat:Nat):Int) % 2==1)=(W / 2^k % 2==1)):=by
  show _=_
  rw [Int.toNat_natCast,Int.natCast_pow];rfl
 clear hk
 rw [HE.out]
 clear HE
 go_enter Tryz.func254,Tryz.ntmps254
 go_wp2_with fail
 go_ret
 exact⟨rfl,rfl⟩

theorem Hv {W n mv:Int} {u d:Nat} (hu:Ups W n u d) (h0:u=0):cD W n mv u d=n:=by
 unfold cD
 rw [if_pos (Or.inr (by have:=hu.uf;rw [h0] at this;simpa using this))]
theorem OQ {W n mv:Int} {u d:Nat} (hu:Ups W n u d) (hm:mv≠0) (hd:mv=2→u≤d):cD W n mv u d=n+u:=by
 by_cases h0:u=0
 ·rw [Hv hu h0,h0];omega
 ·unfold cD
  have ho:dS W n=true:=by have:=hu.uo 0 (by omega);simpa using this
  rw [if_neg (fun a=>by
   rcases a with a | a
   ·exact hm a
   ·rw [ho] at a;exact Bool.noConfusion a),if_neg (fun a=>by have:=hd a.1;omega)]
theorem Hw {W n mv:Int} {u d:Nat} (hu:Ups W n u d) (hm:mv=2) (hd:d<u):cD W n mv u d=n - d:=by
 unfold cD
 have ho:dS W n=true:=by have:=hu.uo 0 (by omega);simpa using this
 rw [if_neg (fun a=>by
   rcases a with a | a
   ·omega
   ·rw [ho] at a;exact Bool.noConfusion a),if_pos ⟨hm,by omega⟩]

set_option maxHeartbeats 1600000 in
theorem jv (W n mv:Int) (u d:Nat) (w:World) (n0: -1≤n) (n1:n≤500000) (hu:Ups W n u d) :
  Calls Tryz.prog 270 #[.int .i64 n,.int .i64 mv,.int .i64 W] w fun e w'=>e=.returned (.int .i64 (cD W n mv u d))∧w'=w:=by
 have HO:Hid (∀ x wx,-7≤x→x≤1000000→Calls Tryz.prog 254 #[.int .i64 W,.int .i64 x] wx fun e w'=>e=.returned (.bool (dS W x))∧w'=wx):=fun x wx a b=>jS W x wx a b
 have HU:=hideS hu
 have u6:=hu.ub
 have d6:=hu.db
 obtain⟨R,hR⟩:∃ R,cD W n mv u d=R:=⟨_,rfl⟩
 rw [hR]
 have HR:=hideS hR
 clear hR hu
 by_cases hz:mv=0
 ·have HE:Hid (n=R):=by
   show _=_
   rw [← HR.out];unfold cD;rw [if_pos (Or.inl hz)]
  subst hz
  go_enter Tryz.func270,Tryz.ntmps270
  go_wp2_with fail
  go_ret
  obtain rfl:=HE.out
  exact⟨rfl,rfl⟩
 ·have hz':(mv==0)=false:=beq_eq_false_iff_ne.2 hz
  have HZ:=hideS hz
  clear hz
  go_enter Tryz.func270,Tryz.ntmps270
  go_wp2_with fail
  go_loop [11] (fun i=>∃ (k:Nat),k≤u∧i=.int .i64 k∧Hid (mv=2→k≤d)) (fun i=>u+1 - (intOf i).toNat)
  case atStart=>exact⟨0,by omega,rfl,fun _=>by omega⟩
  case round=>
   obtain⟨k,hk,rfl,HK⟩:=hrel
   have hk7:(k:Int)<7:=by omega
   have H1:=hideS (fun wx=>HO.out (n+k) wx (by omega) (by omega))
   by_cases hlt:k<u
   ·have e1:dS W (n+k)=true:=HU.out.uo k hlt
    rw [e1] at H1
    clear e1
    by_cases h2:mv=2
    ·have H2:=hideS (fun wx=>HO.out (n - k) wx (by omega) (by omega))
     have hkd:=HK.out h2
     by_cases hld:k<d
     ·have e2:dS W (n - k)=true:=HU.out.dn k hld
      rw [e2] at H2
      clear e2
      subst h2
      go_wp2_with (first | (go_at_call_of 254 (Value.int IntKind.i64 (n+k));refine (H1.out _).mono ?_;rintro e w' ⟨rfl,rfl⟩) | (go_at_call_of 254 (Value.int IntKind.i64 (n - k));refine (H2.out _).mono ?_;rintro e w' ⟨rfl,rfl⟩))
      go_round
      case rel=>exact⟨k+1,by omega,by go_num,fun _=>by omega⟩
      case measure=>simp [intOf];omega
     ·obtain rfl:k=d:=by omega
      have e2:dS W (n - k)=false:=HU.out.df
      rw [e2] at H2
      clear e2
      have HE:Hid (n - k=R):=by
       show _=_
       rw [← HR.out,Hw HU.out h2 hlt]
      subst h2
      go_wp2_with (first | (go_at_call_of 254 (Value.int IntKind.i64 (n+k));refine (H1.out _).mono ?_;rintro e w' ⟨rfl,rfl⟩) | (go_at_call_of 254 (Value.int IntKind.i64 (n - k));refine (H2.out _).mono ?_;rintro e w' ⟨rfl,rfl⟩))
      go_ret
      obtain rfl:=HE.out
      exact⟨rfl,rfl⟩
    ·have h2':(mv==2)=false:=beq_eq_false_iff_ne.2 h2
     have HK':Hid (mv=2→k+1≤d):=fun a=>absurd a h2
     clear h2
     go_wp2_with (go_at_call 254;refine (H1.out _).mono ?_;rintro e w' ⟨rfl,rfl⟩)
     go_round
     case rel=>exact⟨k+1,by omega,by go_num,HK'⟩
     case measure=>simp [intOf];omega
   ·obtain rfl:k=u:=by omega
    have e1:dS W (n+k)=false:=HU.out.uf
    rw [e1] at H1
    clear e1
    have HE:Hid (n+k=R):=by
     show _=_
     rw [← HR.out,OQ HU.out HZ.out HK.out]
    go_wp2_with (go_at_call 254;refine (H1.out _).mono ?_;rintro e w' ⟨rfl,rfl⟩)
    go_ret
    obtain rfl:=HE.out
    exact⟨rfl,rfl⟩
end Go.Proofs.YtkooknagalgfpaaGreat
namespace Go.Proofs.YtkooknagalgfpaaGreat
open Go.RowKit

theorem Qa (mon day nth wd off fr to mv:Int):bD ⟨1,mon,day,nth,wd,off,fr,to,mv⟩=decide ((1900≤fr∧fr≤2199∧fr≤to∧to≤2199∧0≤mv∧mv≤2)∧nth=0∧wd=0∧off=0∧1≤mon∧mon≤12∧1≤day∧day≤fX mon):=by
 by_cases h:kQ fr to mv
 ·rw [PU h];exact decide_eq_decide.2 ⟨fun a=>⟨h,a⟩,fun a=>a.2⟩
 ·rw [nW (by decide) h,decide_eq_false (fun a=>h a.1)]
theorem Qb (mon day nth wd off fr to mv:Int):bD ⟨2,mon,day,nth,wd,off,fr,to,mv⟩=decide ((1900≤fr∧fr≤2199∧fr≤to∧to≤2199∧0≤mv∧mv≤2)∧day=0∧off=0∧1≤mon∧mon≤12∧0≤wd∧wd≤6∧1≤nth∧nth≤5):=by
 by_cases h:kQ fr to mv
 ·rw [PV h];exact decide_eq_decide.2 ⟨fun a=>⟨h,a⟩,fun a=>a.2⟩
 ·rw [nW (by decide) h,decide_eq_false (fun a=>h a.1)]
theorem Qc (mon day nth wd off fr to mv:Int):bD ⟨3,mon,day,nth,wd,off,fr,to,mv⟩=decide ((1900≤fr∧fr≤2199∧fr≤to∧to≤2199∧0≤mv∧mv≤2)∧mon=0∧day=0∧nth=0∧wd=0∧-100≤off∧off≤100):=by
 by_cases h:kQ fr to mv
 ·rw [PW h];exact decide_eq_decide.2 ⟨fun a=>⟨h,a⟩,fun a=>a.2⟩
 ·rw [nW (by decide) h,decide_eq_false (fun a=>h a.1)]
theorem gS (w:World) (o1 o2:Obj):Below w.heap.size w ((w.alloc o1).alloc o2):=((Below.refl w.heap.size w).alloc (Nat.le_refl _) _).alloc (by simp) _

theorem Av (n:Int) (w:World) :
  Calls Tryz.prog 238 #[.int .i64 n] w fun e w'=>e=.returned (.bool (decide (0≤n∧n≤109572)))∧w'=w:=by
 have:=pN n w
 rw [show decide (ag n)=decide (0≤n∧n≤109572) from decide_eq_decide.2 Iff.rfl] at this
 exact this

set_option maxHeartbeats 1600000 in
theorem mp (kind mon day nth wd off fr to mv:Int) (w:World) :
  Calls Tryz.prog 296 #[.agg #[.int .i64 kind,.int .i64 mon,.int .i64 day,.int .i64 nth,.int .i64 wd,.int .i64 off,.int .i64 fr,.int .i64 to,.int .i64 mv]] w fun e w'=>e=.returned (.bool (decide (1900≤fr∧fr≤2199∧fr≤to∧to≤2199∧0≤mv∧mv≤2)))∧Below w.heap.size w w':=by
 obtain⟨R,hR⟩:∃ R,decide (1900≤fr∧fr≤2199∧fr≤to∧to≤2199∧0≤mv∧mv≤2)=R:=⟨_,rfl⟩
 rw [hR]
 have HR:=hideS hR
 clear hR
 go_enter Tryz.func296,Tryz.ntmps296
 go_wp2_with (go_at_call 253;refine (ay _ _ _ _).mono ?_;rintro e w1 ⟨rfl,rfl⟩)
 all_goals
  go_ret
  refine⟨pg (Eq.trans ?_ HR.out),(Below.refl w.heap.size w).alloc (Nat.le_refl _) _⟩
  first | exact (decide_eq_false (by omega)).symm | exact decide_eq_decide.2 (by omega) | (rw [Bool.eq_iff_iff];simp only [Bool.and_eq_true,decide_eq_true_eq];omega)

theorem Hx {m:Int} (h1:1≤m) (h2:m≤12):bn 2000 m=fX m:=by
 rcases month_cases h1 h2 with rfl | rfl | rfl | rfl | rfl | rfl | rfl | rfl | rfl | rfl | rfl | rfl<;>decide

set_option maxHeartbeats 3200000 in
theorem Hy (mon day nth wd off fr to mv:Int) (w:World) :
  Calls Tryz.prog 304 #[.agg #[.int .i64 4,.int .i64 mon,.int .i64 day,.int .i64 nth,.int .i64 wd,.int .i64 off,.int .i64 fr,.int .i64 to,.int .i64 mv]] w fun e w'=>e=.returned (.bool (bD ⟨4,mon,day,nth,wd,off,fr,to,mv⟩))∧Below w.heap.size w w':=by
 rw [PT]
 obtain⟨R,hR⟩:∃ R,decide (mon=0∧nth=0∧wd=0∧off=0∧fr=0∧to=0∧mv=0∧0≤day∧day≤109572)=R:=⟨_,rfl⟩
 rw [hR]
 have HR:=hideS hR
 clear hR
 go_enter Tryz.func304,Tryz.ntmps304
 go_wp2_with (go_at_call 238;refine (Av _ _).mono ?_;rintro e w1 ⟨rfl,rfl⟩)
 all_goals
  go_ret
  refine⟨pg (Eq.trans ?_ HR.out),(Below.refl w.heap.size w).alloc (Nat.le_refl _) _⟩
  first | exact (decide_eq_false (by omega)).symm | exact decide_eq_decide.2 (by omega) | (rw [Bool.eq_iff_iff];simp only [Bool.and_eq_true,decide_eq_true_eq];omega)

set_option maxHeartbeats 3200000 in
theorem Hz (mon day nth wd off fr to mv:Int) (w:World) :
  Calls Tryz.prog 300 #[.agg #[.int .i64 3,.int .i64 mon,.int .i64 day,.int .i64 nth,.int .i64 wd,.int .i64 off,.int .i64 fr,.int .i64 to,.int .i64 mv]] w fun e w'=>e=.returned (.bool (bD ⟨3,mon,day,nth,wd,off,fr,to,mv⟩))∧Below w.heap.size w w':=by
 rw [Qc]
 obtain⟨R,hR⟩:∃ R,decide ((1900≤fr∧fr≤2199∧fr≤to∧to≤2199∧0≤mv∧mv≤2)∧mon=0∧day=0∧nth=0∧wd=0∧-100≤off∧off≤100)=R:=⟨_,rfl⟩
 rw [hR]
 have HR:=hideS hR
 clear hR
 have HB2:=hideS (gS w)
 have HA:=hideS (fun kind mon day nth wd off fr to mv wx=>mp kind mon day nth wd off fr to mv wx)
 go_enter Tryz.func300,Tryz.ntmps300
 go_wp2_with (first | (go_at_call 253;refine (ay _ _ _ _).mono ?_;rintro e w1 ⟨rfl,rfl⟩) | (go_at_call 296;refine (HA.out _ _ _ _ _ _ _ _ _ _).mono ?_;rintro e w1 ⟨rfl,hb1⟩))
 all_goals
  go_ret
  first
  | refine⟨pg (Eq.trans ?_ HR.out),HB2.out _ _⟩
  | refine⟨pg (Eq.trans ?_ HR.out),(HB2.out _ _).trans (hb1.mono (by simp<;>omega))⟩
  first | exact (decide_eq_false (by omega)).symm | exact decide_eq_decide.2 (by omega) | (rw [Bool.eq_iff_iff];simp only [Bool.and_eq_true,decide_eq_true_eq];omega)

set_option maxHeartbeats 3200000 in
theorem Ia (mon day nth wd off fr to mv:Int) (w:World) :
  Calls Tryz.prog 298 #[.agg #[.int .i64 2,.int .i64 mon,.int .i64 day,.int .i64 nth,.int .i64 wd,.int .i64 off,.int .i64 fr,.int .i64 to,.int .i64 mv]] w fun e w'=>e=.returned (.bool (bD ⟨2,mon,day,nth,wd,off,fr,to,mv⟩))∧Below w.heap.size w w':=by
 rw [Qb]
 obtain⟨R,hR⟩:∃ R,decide ((1900≤fr∧fr≤2199∧fr≤to∧to≤2199∧0≤mv∧mv≤2)∧day=0∧off=0∧1≤mon∧mon≤12∧0≤wd∧wd≤6∧1≤nth∧nth≤5)=R:=⟨_,rfl⟩
 rw [hR]
 have HR:=hideS hR
 clear hR
 have HB2:=hideS (gS w)
 have HA:=hideS (fun kind mon day nth wd off fr to mv wx=>mp kind mon day nth wd off fr to mv wx)
 go_enter Tryz.func298,Tryz.ntmps298
 go_wp2_with (first | (go_at_call 253;refine (ay _ _ _ _).mono ?_;rintro e w1 ⟨rfl,rfl⟩) | (go_at_call 296;refine (HA.out _ _ _ _ _ _ _ _ _ _).mono ?_;rintro e w1 ⟨rfl,hb1⟩))
 all_goals
  go_ret
  first
  | refine⟨pg (Eq.trans ?_ HR.out),HB2.out _ _⟩
  | refine⟨pg (Eq.trans ?_ HR.out),(HB2.out _ _).trans (hb1.mono (by simp<;>omega))⟩
  first | exact (decide_eq_false (by omega)).symm | exact decide_eq_decide.2 (by omega) | (rw [Bool.eq_iff_iff];simp only [Bool.and_eq_true,decide_eq_true_eq];omega)

set_option maxHeartbeats 3200000 in
theorem Ib (mon day nth wd off fr to mv:Int) (w:World) :
  Calls Tryz.prog 295 #[.agg #[.int .i64 1,.int .i64 mon,.int .i64 day,.int .i64 nth,.int .i64 wd,.int .i64 off,.int .i64 fr,.int .i64 to,.int .i64 mv]] w fun e w'=>e=.returned (.bool (bD ⟨1,mon,day,nth,wd,off,fr,to,mv⟩))∧Below w.heap.size w w':=by
 rw [Qa]
 have HB2:=hideS (gS w)
 have HA:=hideS (fun kind mon day nth wd off fr to mv wx=>mp kind mon day nth wd off fr to mv wx)
 by_cases hm:1≤mon∧mon≤12
 ·have HL:=hideS (fun wx=>dA 2000 mon wx ⟨by decide,by decide,hm.1,hm.2⟩)
  rw [Hx hm.1 hm.2] at HL
  generalize fX mon=L at *
  obtain⟨R,hR⟩:∃ R,decide ((1900≤fr∧fr≤2199∧fr≤to∧to≤2199∧0≤mv∧mv≤2)∧nth=0∧wd=0∧off=0∧1≤mon∧mon≤12∧1≤day∧day≤L)=R:=⟨_,rfl⟩
  rw [hR]
  have HR:=hideS hR
  clear hR
  go_enter Tryz.func295,Tryz.ntmps295
  go_wp2_with (first | (go_at_call 230;refine (HL.out _).mono ?_;rintro e w1 ⟨rfl,rfl⟩) | (go_at_call 253;refine (ay _ _ _ _).mono ?_;rintro e w1 ⟨rfl,rfl⟩) | (go_at_call 296;refine (HA.out _ _ _ _ _ _ _ _ _ _).mono ?_;rintro e w1 ⟨rfl,hb1⟩))
  all_goals
   go_ret
   first
   | refine⟨pg (Eq.trans ?_ HR.out),HB2.out _ _⟩
   | refine⟨pg (Eq.trans ?_ HR.out),(HB2.out _ _).trans (hb1.mono (by simp<;>omega))⟩
   first | exact (decide_eq_false (by omega)).symm | exact decide_eq_decide.2 (by omega) | (rw [Bool.eq_iff_iff];simp only [Bool.and_eq_true,decide_eq_true_eq];omega)
 ·have HL:=hideS (fun wx=>iK 2000 mon wx (fun a=>hm ⟨a.2.2.1,a.2.2.2⟩))
  rw [decide_eq_false (fun a=>hm ⟨a.2.2.2.2.1,a.2.2.2.2.2.1⟩)]
  clear hm
  go_enter Tryz.func295,Tryz.ntmps295
  go_wp2_with (go_at_call 230;refine (HL.out _).mono ?_;rintro e w1 ⟨rfl,rfl⟩)
  all_goals
   go_ret
   exact⟨rfl,HB2.out _ _⟩

set_option maxHeartbeats 400000 in
theorem Ic (w:World) :
  Calls Tryz.prog 306 #[.agg #[]] w fun e w'=>e=.returned (.bool false)∧Below w.heap.size w w':=by
 go_enter Tryz.func306,Tryz.ntmps306
 go_wp2_with fail
 go_ret
 exact⟨rfl,(Below.refl w.heap.size w).alloc (Nat.le_refl _) _⟩

def tyK (k:Int):Nat:=if k=1 then 198 else if k=2 then 199 else if k=3 then 200 else 201
set_option maxHeartbeats 1600000 in
theorem bj (kind mon day nth wd off fr to mv:Int) (w:World) (hk:kind=1∨kind=2∨kind=3∨kind=4) :
  Calls Tryz.prog 90 #[.agg #[.int .i64 kind,.int .i64 mon,.int .i64 day,.int .i64 nth,.int .i64 wd,.int .i64 off,.int .i64 fr,.int .i64 to,.int .i64 mv]] w fun e w'=>e=.returned (.iface (tyK kind) (.agg #[.int .i64 kind,.int .i64 mon,.int .i64 day,.int .i64 nth,.int .i64 wd,.int .i64 off,.int .i64 fr,.int .i64 to,.int .i64 mv]))∧Below w.heap.size w w':=by
 rcases hk with rfl | rfl | rfl | rfl
 all_goals
  go_enter Tryz.func90,Tryz.ntmps90
  go_wp2_with fail
  go_ret
  exact⟨rfl,(Below.refl w.heap.size w).alloc (Nat.le_refl _) _⟩
set_option maxHeartbeats 1600000 in
theorem pO (kind mon day nth wd off fr to mv:Int) (w:World) (hk:¬ (kind=1∨kind=2∨kind=3∨kind=4)) :
  Calls Tryz.prog 90 #[.agg #[.int .i64 kind,.int .i64 mon,.int .i64 day,.int .i64 nth,.int .i64 wd,.int .i64 off,.int .i64 fr,.int .i64 to,.int .i64 mv]] w fun e w'=>e=.returned (.iface 203 (.agg #[]))∧Below w.heap.size w w':=by
 have k1:(kind==1)=false:=beq_eq_false_iff_ne.2 (fun a=>hk (by omega))
 have k2:(kind==2)=false:=beq_eq_false_iff_ne.2 (fun a=>hk (by omega))
 have k3:(kind==3)=false:=beq_eq_false_iff_ne.2 (fun a=>hk (by omega))
 have k4:(kind==4)=false:=beq_eq_false_iff_ne.2 (fun a=>hk (by omega))
 clear hk
 go_enter Tryz.func90,Tryz.ntmps90
 go_wp2_with fail
 go_ret
 exact⟨rfl,(Below.refl w.heap.size w).alloc (Nat.le_refl _) _⟩
end Go.Proofs.YtkooknagalgfpaaGreat
namespace Go.Proofs.YtkooknagalgfpaaGreat
open Go.RowKit

theorem Mb {mon day nth wd off fr to mv y:Int} (ho:okD y mon day) (hr:fr≤y∧y≤to):bZ ⟨1,mon,day,nth,wd,off,fr,to,mv⟩ y=some (ax y mon day):=by
 unfold bZ nh
 dsimp only
 rw [if_neg (by decide),if_neg (by omega),if_pos rfl,if_pos ho]
theorem Mc {mon day nth wd off fr to mv y:Int} (ho:¬ okD y mon day):bZ ⟨1,mon,day,nth,wd,off,fr,to,mv⟩ y=none:=by
 unfold bZ nh
 dsimp only
 rw [if_neg (by decide),if_pos rfl,if_neg ho]
 split<;>rfl
theorem uJ {kind mon day nth wd off fr to mv y:Int} (hk:kind≠4) (hr:¬ (fr≤y∧y≤to)):bZ ⟨kind,mon,day,nth,wd,off,fr,to,mv⟩ y=none:=by
 unfold bZ nh
 dsimp only
 rw [if_neg hk,if_pos (by omega)]
theorem Md {mon day nth wd off fr to mv y:Int} (hr:fr≤y∧y≤to):bZ ⟨2,mon,day,nth,wd,off,fr,to,mv⟩ y=some (Dy y mon wd nth):=by
 unfold bZ nh
 dsimp only
 rw [if_neg (by decide),if_neg (by omega),if_neg (by decide),if_pos rfl]
theorem Me {mon day nth wd off fr to mv y:Int} (hr:fr≤y∧y≤to):bZ ⟨3,mon,day,nth,wd,off,fr,to,mv⟩ y=some (iN y+off):=by
 unfold bZ nh
 dsimp only
 rw [if_neg (by decide),if_neg (by omega),if_neg (by decide),if_neg (by decide),if_pos rfl]
theorem Mf {mon day nth wd off fr to mv y m d:Int} (h:IsD day y m d):bZ ⟨4,mon,day,nth,wd,off,fr,to,mv⟩ y=some day:=by
 unfold bZ
 dsimp only
 rw [if_pos rfl,if_pos (sM h)]
theorem Mg {mon day nth wd off fr to mv y y0 m d:Int} (h:IsD day y0 m d) (hy:y0≠y):bZ ⟨4,mon,day,nth,wd,off,fr,to,mv⟩ y=none:=by
 unfold bZ
 dsimp only
 rw [if_pos rfl,if_neg (by rw [sM h];exact hy)]

set_option maxHeartbeats 1600000 in
theorem Mh (mon day nth wd off fr to mv y:Int) (w:World) :
  Calls Tryz.prog 294 #[.agg #[.int .i64 1,.int .i64 mon,.int .i64 day,.int .i64 nth,.int .i64 wd,.int .i64 off,.int .i64 fr,.int .i64 to,.int .i64 mv],.int .i64 y] w fun e w'=>∃ N,e=.returned (.tuple #[.int .i64 N,.bool (bZ ⟨1,mon,day,nth,wd,off,fr,to,mv⟩ y).isSome])∧(∀ g,bZ ⟨1,mon,day,nth,wd,off,fr,to,mv⟩ y=some g→N=g)∧Below w.heap.size w w':=by
 have HB0:=hideS (fun o=>(Below.refl w.heap.size w).alloc (Nat.le_refl _) o)
 by_cases ho:okD y mon day
 ·have HO:=hideS (fun wx=>iM y mon day wx ho)
  have HI:=hideS (fun wx=>ay y fr to wx)
  by_cases hr:fr≤y∧y≤to
  ·rw [Mb ho hr]
   rw [decide_eq_true hr] at HI
   generalize ax y mon day=D at *
   clear ho hr
   go_enter Tryz.func294,Tryz.ntmps294
   go_wp2_with (first | (go_at_call 232;refine (HO.out _).mono ?_;rintro e w1 ⟨rfl,rfl⟩) | (go_at_call 253;refine (HI.out _).mono ?_;rintro e w1 ⟨rfl,rfl⟩))
   go_ret2
   exact⟨_,rfl,fun g hg=>Option.some.inj hg,HB0.out _⟩
  ·rw [uJ (by decide) hr]
   rw [decide_eq_false hr] at HI
   generalize ax y mon day=D at *
   clear ho hr
   go_enter Tryz.func294,Tryz.ntmps294
   go_wp2_with (first | (go_at_call 232;refine (HO.out _).mono ?_;rintro e w1 ⟨rfl,rfl⟩) | (go_at_call 253;refine (HI.out _).mono ?_;rintro e w1 ⟨rfl,rfl⟩))
   go_ret2
   exact⟨_,rfl,fun g hg=>(by cases hg),HB0.out _⟩
 ·have HO:=hideS (fun wx=>Lq y mon day wx ho)
  rw [Mc ho]
  clear ho
  go_enter Tryz.func294,Tryz.ntmps294
  go_wp2_with (go_at_call 232;refine (HO.out _).mono ?_;rintro e w1 ⟨rfl,rfl⟩)
  go_ret2
  exact⟨_,rfl,fun g hg=>(by cases hg),HB0.out _⟩

theorem Id {f L wd k:Int} (_d0:0≤wd) (_d1:wd≤6) (k1:1≤k) (k5:k≤5) (l0:28≤L) (_f0:0≤f) :
  (if k=5∧f+L≤f+(wd - f) % 7+7*(k - 1) then f+(wd - f) % 7+7*(k - 1) - 7 else f+(wd - f) % 7+7*(k - 1))=if f+L≤f+(wd+7 - f % 7) % 7+7*(k - 1) then f+(wd+7 - f % 7) % 7+7*(k - 1) - 7 else f+(wd+7 - f % 7) % 7+7*(k - 1):=by
 have e:(wd+7 - f % 7) % 7=(wd - f) % 7:=by omega
 rw [e]
 by_cases a:k=5
 ·by_cases b:f+L≤f+(wd - f) % 7+7*(k - 1)
  ·rw [if_pos ⟨a,b⟩,if_pos b]
  ·rw [if_neg (fun c=>b c.2),if_neg b]
 ·rw [if_neg (fun c=>a c.1),if_neg (by omega)]

set_option maxHeartbeats 1600000 in
theorem Mi (mon day nth wd off fr to mv y:Int) (w:World) (m0:1≤mon) (m1:mon≤12) (d0:0≤wd) (d1:wd≤6) (k1:1≤nth) (k5:nth≤5) (f0:1900≤fr) (f1:to≤2199) :
  Calls Tryz.prog 297 #[.agg #[.int .i64 2,.int .i64 mon,.int .i64 day,.int .i64 nth,.int .i64 wd,.int .i64 off,.int .i64 fr,.int .i64 to,.int .i64 mv],.int .i64 y] w fun e w'=>∃ N,e=.returned (.tuple #[.int .i64 N,.bool (bZ ⟨2,mon,day,nth,wd,off,fr,to,mv⟩ y).isSome])∧(∀ g,bZ ⟨2,mon,day,nth,wd,off,fr,to,mv⟩ y=some g→N=g)∧Below w.heap.size w w':=by
 have HB0:=hideS (fun o=>(Below.refl w.heap.size w).alloc (Nat.le_refl _) o)
 have HI:=hideS (fun wx=>ay y fr to wx)
 by_cases hr:fr≤y∧y≤to
 ·rw [Md hr]
  rw [decide_eq_true hr] at HI
  have hym:ymB y mon:=⟨by omega,by omega,m0,m1⟩
  have HL:=hideS (fun wx=>dA y mon wx hym)
  have HO:=hideS (fun wx=>iM y mon 1 wx (eE hym 1 (by omega) (by omega)))
  obtain⟨g0,g1⟩:=(jZ (eE hym 1 (by omega) (by omega))).range
  have l0:=cV y mon
  have l1:=gD y mon
  have hR:Dy y mon wd nth=if ax y mon 1+bn y mon≤ax y mon 1+(wd+7 - ax y mon 1 % 7) % 7+7*(nth - 1) then ax y mon 1+(wd+7 - ax y mon 1 % 7) % 7+7*(nth - 1) - 7 else ax y mon 1+(wd+7 - ax y mon 1 % 7) % 7+7*(nth - 1):=Id d0 d1 k1 k5 l0 g0
  obtain⟨R,hRR⟩:∃ R,Dy y mon wd nth=R:=⟨_,rfl⟩
  rw [hRR] at hR ⊢
  clear hRR hym hr
  generalize ax y mon 1=f at *
  generalize bn y mon=L at *
  obtain⟨a,ha⟩:∃ a,f % 7=a:=⟨_,rfl⟩
  rw [ha] at hR
  obtain⟨t,ht⟩:∃ t,(wd+7 - a) % 7=t:=⟨_,rfl⟩
  rw [ht] at hR
  have t0:0≤t:=by omega
  have t1:t≤6:=by omega
  by_cases hge:f+L≤f+t+7*(nth - 1)
  ·rw [if_pos hge] at hR
   have HR:=hideS hR
   clear hR
   go_enter Tryz.func297,Tryz.ntmps297
   go_wp2_with (first | (go_at_call 230;refine (HL.out _).mono ?_;rintro e w1 ⟨rfl,rfl⟩) | (go_at_call 232;refine (HO.out _).mono ?_;rintro e w1 ⟨rfl,rfl⟩) | (go_at_call 253;refine (HI.out _).mono ?_;rintro e w1 ⟨rfl,rfl⟩))
   go_ret2
   exact⟨_,rfl,fun g hg=>(by rw [← Option.some.inj hg,HR.out]),HB0.out _⟩
  ·rw [if_neg hge] at hR
   have HR:=hideS hR
   clear hR
   go_enter Tryz.func297,Tryz.ntmps297
   go_wp2_with (first | (go_at_call 230;refine (HL.out _).mono ?_;rintro e w1 ⟨rfl,rfl⟩) | (go_at_call 232;refine (HO.out _).mono ?_;rintro e w1 ⟨rfl,rfl⟩) | (go_at_call 253;refine (HI.out _).mono ?_;rintro e w1 ⟨rfl,rfl⟩))
   go_ret2
   exact⟨_,rfl,fun g hg=>(by rw [← Option.some.inj hg,HR.out]),HB0.out _⟩
 ·rw [uJ (by decide) hr]
  rw [decide_eq_false hr] at HI
  clear hr
  by_cases hym:ymB y mon
  ·have HL:=hideS (fun wx=>dA y mon wx hym)
   generalize bn y mon=L at *
   clear hym
   go_enter Tryz.func297,Tryz.ntmps297
   go_wp2_with (first | (go_at_call 230;refine (HL.out _).mono ?_;rintro e w1 ⟨rfl,rfl⟩) | (go_at_call 253;refine (HI.out _).mono ?_;rintro e w1 ⟨rfl,rfl⟩))
   go_ret2
   exact⟨_,rfl,fun g hg=>(by cases hg),HB0.out _⟩
  ·have HL:=hideS (fun wx=>iK y mon wx hym)
   clear hym
   go_enter Tryz.func297,Tryz.ntmps297
   go_wp2_with (go_at_call 230;refine (HL.out _).mono ?_;rintro e w1 ⟨rfl,rfl⟩)
   go_ret2
   exact⟨_,rfl,fun g hg=>(by cases hg),HB0.out _⟩

set_option maxHeartbeats 1600000 in
theorem Mj (mon day nth wd off fr to mv y:Int) (w:World) (d0:0≤day) (d1:day≤109572) :
  Calls Tryz.prog 303 #[.agg #[.int .i64 4,.int .i64 mon,.int .i64 day,.int .i64 nth,.int .i64 wd,.int .i64 off,.int .i64 fr,.int .i64 to,.int .i64 mv],.int .i64 y] w fun e w'=>∃ N,e=.returned (.tuple #[.int .i64 N,.bool (bZ ⟨4,mon,day,nth,wd,off,fr,to,mv⟩ y).isSome])∧(∀ g,bZ ⟨4,mon,day,nth,wd,off,fr,to,mv⟩ y=some g→N=g)∧Below w.heap.size w w':=by
 have HB0:=hideS (fun o=>(Below.refl w.heap.size w).alloc (Nat.le_refl _) o)
 obtain⟨y0,m0,e0,hd⟩:=cW d0 d1
 have HC:=hideS (fun wx=>cY day y0 m0 e0 wx hd)
 by_cases hy:y0=y
 ·subst hy
  rw [Mf hd]
  clear hd
  go_enter Tryz.func303,Tryz.ntmps303
  go_wp2_with (go_at_call 216;refine (HC.out _).mono ?_;rintro e w1 ⟨rfl,rfl⟩)
  go_ret2
  exact⟨_,rfl,fun g hg=>Option.some.inj hg,HB0.out _⟩
 ·rw [Mg hd hy]
  have hy':(y0==y)=false:=beq_eq_false_iff_ne.2 hy
  clear hd hy
  go_enter Tryz.func303,Tryz.ntmps303
  go_wp2_with (go_at_call 216;refine (HC.out _).mono ?_;rintro e w1 ⟨rfl,rfl⟩)
  go_ret2
  exact⟨_,rfl,fun g hg=>(by cases hg),HB0.out _⟩

set_option maxHeartbeats 1600000 in
theorem Mk (mon day nth wd off fr to mv y:Int) (w:World) (o0: -100≤off) (o1:off≤100) (f0:1900≤fr) (f1:to≤2199) :
  Calls Tryz.prog 299 #[.agg #[.int .i64 3,.int .i64 mon,.int .i64 day,.int .i64 nth,.int .i64 wd,.int .i64 off,.int .i64 fr,.int .i64 to,.int .i64 mv],.int .i64 y] w fun e w'=>∃ N,e=.returned (.tuple #[.int .i64 N,.bool (bZ ⟨3,mon,day,nth,wd,off,fr,to,mv⟩ y).isSome])∧(∀ g,bZ ⟨3,mon,day,nth,wd,off,fr,to,mv⟩ y=some g→N=g)∧Below w.heap.size w w':=by
 have HB0:=hideS (fun o=>(Below.refl w.heap.size w).alloc (Nat.le_refl _) o)
 have HI:=hideS (fun wx=>ay y fr to wx)
 obtain⟨wq,hwq⟩:∃ wq,w.alloc (.cells #[.int .i64 3,.int .i64 mon,.int .i64 day,.int .i64 nth,.int .i64 wd,.int .i64 off,.int .i64 fr,.int .i64 to,.int .i64 mv] 200)=wq:=⟨_,rfl⟩
 have c5:wq.cell? ⟨w.heap.size,5,none⟩=some (.int .i64 off):=by rw [← hwq];simp
 have c6:wq.cell? ⟨w.heap.size,6,none⟩=some (.int .i64 fr):=by rw [← hwq];simp
 have c7:wq.cell? ⟨w.heap.size,7,none⟩=some (.int .i64 to):=by rw [← hwq];simp
 have HBq:Hid (Below w.heap.size w wq):=by rw [← hwq];exact HB0.out _
 have HQ:=hideS hwq
 clear hwq HB0
 by_cases hyy:1900≤y∧y≤2199
 ·have HE:=hideS (fun wx=>Dz y wx hyy.1 hyy.2)
  obtain⟨n0,n1⟩:0≤iN y∧iN y≤109572:=(jZ (sK hyy.1 hyy.2).ok).range
  by_cases hr:fr≤y∧y≤to
  ·rw [Me hr]
   rw [decide_eq_true hr] at HI
   generalize iN y=D at *
   have hw1:IntKind.i64.wrap (D+off)=D+off:=by rw [IntKind.wrap_i64];omega
   clear hr hyy
   go_enter Tryz.func299,Tryz.ntmps299
   go_wp2_with (go_at_call 301;refine (HE.out _).mono ?_;rintro e w1 ⟨rfl,rfl⟩)
   rw [HQ.out]
   go_quiet ((go_at_call 253;exact Calls.quiet_of_same (HI.out _)))
   go_wp2_with fail
   go_ret2
   exact⟨_,rfl,fun g hg=>Option.some.inj hg,bE HBq.out⟩
  ·rw [uJ (by decide) hr]
   rw [decide_eq_false hr] at HI
   generalize iN y=D at *
   have hw1:IntKind.i64.wrap (D+off)=D+off:=by rw [IntKind.wrap_i64];omega
   clear hr hyy
   go_enter Tryz.func299,Tryz.ntmps299
   go_wp2_with (go_at_call 301;refine (HE.out _).mono ?_;rintro e w1 ⟨rfl,rfl⟩)
   rw [HQ.out]
   go_quiet ((go_at_call 253;exact Calls.quiet_of_same (HI.out _)))
   go_wp2_with fail
   go_ret2
   exact⟨_,rfl,fun g hg=>(by cases hg),bE HBq.out⟩
 ·have HE:=hideS (fun wx=>zU y wx hyy)
  rw [uJ (by decide) (fun a=>hyy (by omega))]
  have hw1:IntKind.i64.wrap (0+off)=0+off:=by rw [IntKind.wrap_i64];omega
  clear hyy
  go_enter Tryz.func299,Tryz.ntmps299
  go_wp2_with (go_at_call 301;refine (HE.out _).mono ?_;rintro e w1 ⟨rfl,rfl⟩)
  rw [HQ.out]
  go_quiet (fail)
  go_wp2_with fail
  go_ret2
  exact⟨_,rfl,fun g hg=>(by cases hg),bE HBq.out⟩
end Go.Proofs.YtkooknagalgfpaaGreat
namespace Go.Proofs.YtkooknagalgfpaaGreat
open Go.RowKit

def CBoxP (w:World) (W:Int) (v:Value) (wr:World):Prop:=Below (w.heap.size+1) (w.alloc (.cells #[.int .i64 W,v] 24)) wr
theorem CBoxP.cells {w w1:World} {W:Int} {v:Value} (hb:CBoxP w W v w1) :
  w1.cell? ⟨w.heap.size,0,none⟩=some (.int .i64 W)∧w1.cell? ⟨w.heap.size,1,none⟩=some v:=by
 refine⟨?_,?_⟩
 ·rw [Below.cell hb (p:=⟨w.heap.size,0,none⟩) (by simp)];simp
 ·rw [Below.cell hb (p:=⟨w.heap.size,1,none⟩) (by simp)];simp
theorem CBoxP.step {w wr w':World} {W:Int} {v:Value} (h:CBoxP w W v wr) (hb:Below wr.heap.size wr w'):CBoxP w W v w':=
 Below.trans h (hb.mono (by have:=Below.size h;simp at this;omega))
theorem CBoxP.below {w wr:World} {W:Int} {v:Value} (h:CBoxP w W v wr):Below w.heap.size w wr:=
 ((Below.refl w.heap.size w).alloc (Nat.le_refl _) _).trans (Below.mono h (by omega))
theorem CBoxP.first {w w':World} {W:Int} {v:Value} (hb:Below (w.alloc (.cells #[.int .i64 W,v] 24)).heap.size (w.alloc (.cells #[.int .i64 W,v] 24)) w'):CBoxP w W v w':=
 hb.mono (by simp)
theorem gT {wr w2 w3:World} {o:Obj} (h2:Below (wr.alloc o).heap.size (wr.alloc o) w2) (h3:Below w2.heap.size w2 w3):Below wr.heap.size wr w3:=
 (((Below.refl wr.heap.size wr).alloc (Nat.le_refl _) o).trans (h2.mono (by simp))).trans (h3.mono (by have:=h2.size;simp at this;omega))

set_option maxHeartbeats 3200000 in
theorem pP (W:Int) (p:Option Addr) (b off c:Nat) (rs:List Rul) (K:Nat) (A B:Int) (w:World) (w0:0≤W∧W≤126) (hs:RSrc w p b off rs) (hl:rs.length≤64) (hK:K≤rs.length) (hf:∀ j<K,bD (rs.getD j dT)=true)
  (hE:(K=rs.length∧A=0∧B=0)∨(K<rs.length∧bD (rs.getD K dT)=false∧A=60∧B=K)) :
  Calls Tryz.prog 47 #[.agg #[.int .i64 W,.slice p rs.length c]] w fun e w'=>e=.returned (.tuple #[.int .i64 A,.int .i64 B])∧Below w.heap.size w w':=by
 obtain⟨w0,w1⟩:=w0
 have w1':¬ 127≤W:=by omega
 have HS:=hideS hs
 have HF:=hideS hf
 have HE:=hideS hE
 clear hs hf hE
 obtain⟨N,hN⟩:∃ N,rs.length=N:=⟨_,rfl⟩
 have HN:=hideS hN
 rw [hN] at hl hK ⊢
 rw [hN] at HE
 clear hN
 go_enter Tryz.func47,Tryz.ntmps47
 go_wp2_with fail
 have HB0:Hid (CBoxP w W (.slice p N c) (w.alloc (.cells #[.int .i64 W,.slice p N c] 24))):=Below.refl _ _
 go_loopw [21] (fun i wr=>∃ (k:Nat),k≤K∧i=.int .i64 k∧Hid (CBoxP w W (.slice p N c) wr)) (fun i _=>N - (intOf i).toNat)
 case atStart=>exact⟨0,by omega,rfl,HB0⟩
 case round=>
  obtain⟨k,hk,rfl,HB⟩:=hrel
  by_cases hlt:k<N
  ·have hx:k<rs.length:=by rw [HN.out];exact hlt
   obtain rfl:=HS.out.at_ (by omega)
   have hrc:=(HS.out.cell k hx).below HB.out.below (HS.out.lt (by omega))
   have hft:=HF.out k
   have hEE:k<K∨(bD (rs.getD k dT)=false∧A=60∧B=k):=by
    by_cases hkK:k<K
    ·exact Or.inl hkK
    ·obtain rfl:k=K:=by omega
     rcases HE.out with⟨a,_⟩| ⟨_,a⟩
     ·omega
     ·exact Or.inr a
   generalize rs.getD k dT=r at hrc hft hEE
   clear hx
   obtain⟨g0,g1,g2,g3,g4,g5,g6,g7,g8⟩:=hrc
   have key:∀ R,bD r=R→(k<K∧R=true)∨(R=false∧A=60∧B=k):=fun R hR=>by
    rw [← hR]
    by_cases a:k<K
    ·exact Or.inl ⟨a,hft a⟩
    ·rcases hEE with b | b
     ·exact absurd b a
     ·exact Or.inr b
   clear hft hEE
   have HKey:=hideS key
   clear key
   obtain⟨kind,mon,day,nth,wd,offs,fr,to,mv⟩:=r
   dsimp only at *
   by_cases hkd:kind=1∨kind=2∨kind=3∨kind=4
   ·rcases hkd with rfl | rfl | rfl | rfl
    ·have HH:=hideS (fun wx=>(bj 1 mon day nth wd offs fr to mv wx (by omega):Calls Tryz.prog 90 _ wx fun e w'=>e=.returned (.iface 198 _)∧Below wx.heap.size wx w'))
     have HM:=hideS (fun wx=>Ib mon day nth wd offs fr to mv wx)
     obtain⟨R,hR⟩:∃ R,bD ⟨1,mon,day,nth,wd,offs,fr,to,mv⟩=R:=⟨_,rfl⟩
     have hKK:=HKey.out R hR
     rw [hR] at HM
     clear hR HKey
     rcases hKK with⟨a,rfl⟩| ⟨rfl,a⟩
     ·go_wp2_with (first | (go_at_call 90;refine (HH.out _).mono ?_;rintro e w2 ⟨rfl,hb2⟩) | (go_at_call 295;refine (HM.out _).mono ?_;rintro e w3 ⟨rfl,hb3⟩))
      have HB2:=hideS (HB.out.step (gT hb2 hb3))
      clear hb2 hb3
      go_roundw
      case rel=>exact⟨k+1,by omega,by go_num,HB2⟩
      case measure=>simp [intOf];omega
     ·have HA:=hideS a
      clear a
      go_wp2_with (first | (go_at_call 90;refine (HH.out _).mono ?_;rintro e w2 ⟨rfl,hb2⟩) | (go_at_call 295;refine (HM.out _).mono ?_;rintro e w3 ⟨rfl,hb3⟩))
      go_ret2
      obtain⟨rfl,rfl⟩:=HA.out
      exact⟨rfl,(HB.out.step (gT hb2 hb3)).below⟩
    ·have HH:=hideS (fun wx=>(bj 2 mon day nth wd offs fr to mv wx (by omega):Calls Tryz.prog 90 _ wx fun e w'=>e=.returned (.iface 199 _)∧Below wx.heap.size wx w'))
     have HM:=hideS (fun wx=>Ia mon day nth wd offs fr to mv wx)
     obtain⟨R,hR⟩:∃ R,bD ⟨2,mon,day,nth,wd,offs,fr,to,mv⟩=R:=⟨_,rfl⟩
     have hKK:=HKey.out R hR
     rw [hR] at HM
     clear hR HKey
     rcases hKK with⟨a,rfl⟩| ⟨rfl,a⟩
     ·go_wp2_with (first | (go_at_call 90;refine (HH.out _).mono ?_;rintro e w2 ⟨rfl,hb2⟩) | (go_at_call 298;refine (HM.out _).mono ?_;rintro e w3 ⟨rfl,hb3⟩))
      have HB2:=hideS (HB.out.step (gT hb2 hb3))
      clear hb2 hb3
      go_roundw
      case rel=>exact⟨k+1,by omega,by go_num,HB2⟩
      case measure=>simp [intOf];omega
     ·have HA:=hideS a
      clear a
      go_wp2_with (first | (go_at_call 90;refine (HH.out _).mono ?_;rintro e w2 ⟨rfl,hb2⟩) | (go_at_call 298;refine (HM.out _).mono ?_;rintro e w3 ⟨rfl,hb3⟩))
      go_ret2
      obtain⟨rfl,rfl⟩:=HA.out
      exact⟨rfl,(HB.out.step (gT hb2 hb3)).below⟩
    ·have HH:=hideS (fun wx=>(bj 3 mon day nth wd offs fr to mv wx (by omega):Calls Tryz.prog 90 _ wx fun e w'=>e=.returned (.iface 200 _)∧Below wx.heap.size wx w'))
     have HM:=hideS (fun wx=>Hz mon day nth wd offs fr to mv wx)
     obtain⟨R,hR⟩:∃ R,bD ⟨3,mon,day,nth,wd,offs,fr,to,mv⟩=R:=⟨_,rfl⟩
     have hKK:=HKey.out R hR
     rw [hR] at HM
     clear hR HKey
     rcases hKK with⟨a,rfl⟩| ⟨rfl,a⟩
     ·go_wp2_with (first | (go_at_call 90;refine (HH.out _).mono ?_;rintro e w2 ⟨rfl,hb2⟩) | (go_at_call 300;refine (HM.out _).mono ?_;rintro e w3 ⟨rfl,hb3⟩))
      have HB2:=hideS (HB.out.step (gT hb2 hb3))
      clear hb2 hb3
      go_roundw
      case rel=>exact⟨k+1,by omega,by go_num,HB2⟩
      case measure=>simp [intOf];omega
     ·have HA:=hideS a
      clear a
      go_wp2_with (first | (go_at_call 90;refine (HH.out _).mono ?_;rintro e w2 ⟨rfl,hb2⟩) | (go_at_call 300;refine (HM.out _).mono ?_;rintro e w3 ⟨rfl,hb3⟩))
      go_ret2
      obtain⟨rfl,rfl⟩:=HA.out
      exact⟨rfl,(HB.out.step (gT hb2 hb3)).below⟩
    ·have HH:=hideS (fun wx=>(bj 4 mon day nth wd offs fr to mv wx (by omega):Calls Tryz.prog 90 _ wx fun e w'=>e=.returned (.iface 201 _)∧Below wx.heap.size wx w'))
     have HM:=hideS (fun wx=>Hy mon day nth wd offs fr to mv wx)
     obtain⟨R,hR⟩:∃ R,bD ⟨4,mon,day,nth,wd,offs,fr,to,mv⟩=R:=⟨_,rfl⟩
     have hKK:=HKey.out R hR
     rw [hR] at HM
     clear hR HKey
     rcases hKK with⟨a,rfl⟩| ⟨rfl,a⟩
     ·go_wp2_with (first | (go_at_call 90;refine (HH.out _).mono ?_;rintro e w2 ⟨rfl,hb2⟩) | (go_at_call 304;refine (HM.out _).mono ?_;rintro e w3 ⟨rfl,hb3⟩))
      have HB2:=hideS (HB.out.step (gT hb2 hb3))
      clear hb2 hb3
      go_roundw
      case rel=>exact⟨k+1,by omega,by go_num,HB2⟩
      case measure=>simp [intOf];omega
     ·have HA:=hideS a
      clear a
      go_wp2_with (first | (go_at_call 90;refine (HH.out _).mono ?_;rintro e w2 ⟨rfl,hb2⟩) | (go_at_call 304;refine (HM.out _).mono ?_;rintro e w3 ⟨rfl,hb3⟩))
      go_ret2
      obtain⟨rfl,rfl⟩:=HA.out
      exact⟨rfl,(HB.out.step (gT hb2 hb3)).below⟩
   ·have HH:=hideS (fun wx=>pO kind mon day nth wd offs fr to mv wx hkd)
    have HM:=hideS (fun wx=>Ic wx)
    have HA:Hid (A=60∧B=k):=by
     rcases HKey.out _ (GQ (fun a=>hkd (by omega)) (fun a=>hkd (by omega)) (fun a=>hkd (by omega)) (fun a=>hkd (by omega))) with⟨_,a⟩| ⟨_,a⟩
     ·exact Bool.noConfusion a
     ·exact a
    clear HKey hkd
    go_wp2_with (first | (go_at_call 90;refine (HH.out _).mono ?_;rintro e w2 ⟨rfl,hb2⟩) | (go_at_call 306;refine (HM.out _).mono ?_;rintro e w3 ⟨rfl,hb3⟩))
    go_ret2
    obtain⟨rfl,rfl⟩:=HA.out
    exact⟨rfl,(HB.out.step (gT hb2 hb3)).below⟩
  ·have HA:Hid (A=0∧B=0):=by
    rcases HE.out with⟨_,a⟩| ⟨a,_⟩
    ·exact a
    ·omega
   have hge:¬ (k:Int)<N:=by omega
   go_wp2_with fail
   go_ret2
   obtain⟨rfl,rfl⟩:=HA.out
   exact⟨rfl,HB.out.below⟩

set_option maxHeartbeats 400000 in
theorem jw (W:Int) (p:Option Addr) (b off c:Nat) (rs:List Rul) (A B:Int) (w:World) (h:ChkR W rs A B) (hs:RSrc w p b off rs) (hl:rs.length≤9223372036854775807) :
  Calls Tryz.prog 47 #[.agg #[.int .i64 W,.slice p rs.length c]] w fun e w'=>e=.returned (.tuple #[.int .i64 A,.int .i64 B])∧Below w.heap.size w w':=by
 cases h with
 | long h=>
  generalize rs.length=N at *
  have h':(64:Int)<N:=by omega
  clear hs h
  go_enter Tryz.func47,Tryz.ntmps47
  go_wp2_with fail
  go_ret2
  exact⟨rfl,(Below.refl w.heap.size w).alloc (Nat.le_refl _) _⟩
 | week h h2=>
  generalize rs.length=N at *
  have h':¬ (64:Int)<N:=by omega
  clear hs h
  rcases (show W<0∨(¬ W<0∧127≤W) by omega) with a | ⟨a,a2⟩
  all_goals
   clear h2
   go_enter Tryz.func47,Tryz.ntmps47
   go_wp2_with fail
   go_ret2
   exact⟨rfl,(Below.refl w.heap.size w).alloc (Nat.le_refl _) _⟩
 | rule k h1 h2 h3 h4 h5=>exact pP W p b off c rs k 60 k w h2 hs h1 (by omega) h5 (Or.inr ⟨h3,h4,rfl,rfl⟩)
 | ok h=>exact pP W p b off c rs rs.length 0 0 w ⟨h.w0,h.w1⟩ hs h.len (Nat.le_refl _) (fun j hj=>h.fit _ (kL hj)) (Or.inl ⟨rfl,rfl,rfl⟩)
end Go.Proofs.YtkooknagalgfpaaGreat
namespace Go.Proofs.YtkooknagalgfpaaGreat
open Go.RowKit

theorem ao {B:Nat} {w w2:World} {n:Nat} (hb:Below B w w2):Below B w (w2.drewN n):=⟨hb.os,hb.tape,hb.output,hb.size,hb.block⟩
end Go.Proofs.YtkooknagalgfpaaGreat
