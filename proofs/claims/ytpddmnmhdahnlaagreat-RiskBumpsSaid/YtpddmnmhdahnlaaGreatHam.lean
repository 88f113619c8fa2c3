/-  -/
import Derived.Test.YtpddmnmhdahnlaaGreatHal
import Derived.BigQuiet
namespace Go.Proofs.YtpddmnmhdahnlaaGreat
open Go.RowKit

theorem JM {mon day nth wd off fr to mv y:Int} (ho:okD y mon day) (hr:fr≤y∧y≤to):bQ ⟨1,mon,day,nth,wd,off,fr,to,mv⟩ y=some (aL y mon day):=by
 unfold bQ lZ
 dsimp only
 rw [if_neg (by decide),if_neg (by omega),if_pos rfl,if_pos ho]
theorem JN {mon day nth wd off fr to mv y:Int} (ho:¬ okD y mon day):bQ ⟨1,mon,day,nth,wd,off,fr,to,mv⟩ y=none:=by
 unfold bQ lZ
 dsimp only
 rw [if_neg (by decide),if_pos rfl,if_neg ho]
 split<;>rfl
theorem tB {kind mon day nth wd off fr to mv y:Int} (hk:kind≠4) (hr:¬ (fr≤y∧y≤to)):bQ ⟨kind,mon,day,nth,wd,off,fr,to,mv⟩ y=none:=by
 unfold bQ lZ
 dsimp only
 rw [if_neg hk,if_pos (by omega)]
theorem JO {mon day nth wd off fr to mv y:Int} (hr:fr≤y∧y≤to):bQ ⟨2,mon,day,nth,wd,off,fr,to,mv⟩ y=some (CG y mon wd nth):=by
 unfold bQ lZ
 dsimp only
 rw [if_neg (by decide),if_neg (by omega),if_neg (by decide),if_pos rfl]
theorem JP {mon day nth wd off fr to mv y:Int} (hr:fr≤y∧y≤to):bQ ⟨3,mon,day,nth,wd,off,fr,to,mv⟩ y=some (ir y+off):=by
 unfold bQ lZ
 dsimp only
 rw [if_neg (by decide),if_neg (by omega),if_neg (by decide),if_neg (by decide),if_pos rfl]
theorem JQ {mon day nth wd off fr to mv y m d:Int} (h:IsD day y m d):bQ ⟨4,mon,day,nth,wd,off,fr,to,mv⟩ y=some day:=by
 unfold bQ
 dsimp only
 rw [if_pos rfl,if_pos (rR h)]
theorem JR {mon day nth wd off fr to mv y y0 m d:Int} (h:IsD day y0 m d) (hy:y0≠y):bQ ⟨4,mon,day,nth,wd,off,fr,to,mv⟩ y=none:=by
 unfold bQ
 dsimp only
 rw [if_pos rfl,if_neg (by rw [rR h];exact hy)]

set_option maxHeartbeats 1600000 in
theorem JS (mon day nth wd off fr to mv y:Int) (w:World) :
  Calls Tryz.prog 353 #[.agg #[.int .i64 1,.int .i64 mon,.int .i64 day,.int .i64 nth,.int .i64 wd,.int .i64 off,.int .i64 fr,.int .i64 to,.int .i64 mv],.int .i64 y] w fun e w'=>∃ N,e=.returned (.tuple #[.int .i64 N,.bool (bQ ⟨1,mon,day,nth,wd,off,fr,to,mv⟩ y).isSome])∧(∀ g,bQ ⟨1,mon,day,nth,wd,off,fr,to,mv⟩ y=some g→N=g)∧Below w.heap.size w w':=by
 have HB0:=hideS (fun o=>(Below.refl w.heap.size w).alloc (Nat.le_refl _) o)
 by_cases ho:okD y mon day
 ·have HO:=hideS (fun wx=>ls y mon day wx ho)
  have HI:=hideS (fun wx=>az y fr to wx)
  by_cases hr:fr≤y∧y≤to
  ·rw [JM ho hr]
   rw [decide_eq_true hr] at HI
   generalize aL y mon day=D at *
   clear ho hr
   go_enter Tryz.func353,Tryz.ntmps353
   go_wp2_with (first | (go_at_call 288;refine (HO.out _).mono ?_;rintro e w1 ⟨rfl,rfl⟩) | (go_at_call 315;refine (HI.out _).mono ?_;rintro e w1 ⟨rfl,rfl⟩))
   go_ret2
   exact⟨_,rfl,fun g hg=>Option.some.inj hg,HB0.out _⟩
  ·rw [tB (by decide) hr]
   rw [decide_eq_false hr] at HI
   generalize aL y mon day=D at *
   clear ho hr
   go_enter Tryz.func353,Tryz.ntmps353
   go_wp2_with (first | (go_at_call 288;refine (HO.out _).mono ?_;rintro e w1 ⟨rfl,rfl⟩) | (go_at_call 315;refine (HI.out _).mono ?_;rintro e w1 ⟨rfl,rfl⟩))
   go_ret2
   exact⟨_,rfl,fun g hg=>(by cases hg),HB0.out _⟩
 ·have HO:=hideS (fun wx=>JG y mon day wx ho)
  rw [JN ho]
  clear ho
  go_enter Tryz.func353,Tryz.ntmps353
  go_wp2_with (go_at_call 288;refine (HO.out _).mono ?_;rintro e w1 ⟨rfl,rfl⟩)
  go_ret2
  exact⟨_,rfl,fun g hg=>(by cases hg),HB0.out _⟩

theorem GN {f L wd k:Int} (_d0:0≤wd) (_d1:wd≤6) (k1:1≤k) (k5:k≤5) (l0:28≤L) (_f0:0≤f) :
  (if k=5∧f+L≤f+(wd - f) % 7+7*(k - 1) then f+(wd - f) % 7+7*(k - 1) - 7 else f+(wd - f) % 7+7*(k - 1))=if f+L≤f+(wd+7 - f % 7) % 7+7*(k - 1) then f+(wd+7 - f % 7) % 7+7*(k - 1) - 7 else f+(wd+7 - f % 7) % 7+7*(k - 1):=by
 have e:(wd+7 - f % 7) % 7=(wd - f) % 7:=by omega
 rw [e]
 by_cases a:k=5
 ·by_cases b:f+L≤f+(wd - f) % 7+7*(k - 1)
  ·rw [if_pos ⟨a,b⟩,if_pos b]
  ·rw [if_neg (fun c=>b c.2),if_neg b]
 ·rw [if_neg (fun c=>a c.1),if_neg (by omega)]

set_option maxHeartbeats 1600000 in
theorem JT (mon day nth wd off fr to mv y:Int) (w:World) (m0:1≤mon) (m1:mon≤12) (d0:0≤wd) (d1:wd≤6) (k1:1≤nth) (k5:nth≤5) (f0:1900≤fr) (f1:to≤2199) :
  Calls Tryz.prog 356 #[.agg #[.int .i64 2,.int .i64 mon,.int .i64 day,.int .i64 nth,.int .i64 wd,.int .i64 off,.int .i64 fr,.int .i64 to,.int .i64 mv],.int .i64 y] w fun e w'=>∃ N,e=.returned (.tuple #[.int .i64 N,.bool (bQ ⟨2,mon,day,nth,wd,off,fr,to,mv⟩ y).isSome])∧(∀ g,bQ ⟨2,mon,day,nth,wd,off,fr,to,mv⟩ y=some g→N=g)∧Below w.heap.size w w':=by
 have HB0:=hideS (fun o=>(Below.refl w.heap.size w).alloc (Nat.le_refl _) o)
 have HI:=hideS (fun wx=>az y fr to wx)
 by_cases hr:fr≤y∧y≤to
 ·rw [JO hr]
  rw [decide_eq_true hr] at HI
  have hym:ymB y mon:=⟨by omega,by omega,m0,m1⟩
  have HL:=hideS (fun wx=>eF y mon wx hym)
  have HO:=hideS (fun wx=>ls y mon 1 wx (lu hym 1 (by omega) (by omega)))
  obtain⟨g0,g1⟩:=(lp (lu hym 1 (by omega) (by omega))).range
  have l0:=im y mon
  have l1:=io y mon
  have hR:CG y mon wd nth=if aL y mon 1+ce y mon≤aL y mon 1+(wd+7 - aL y mon 1 % 7) % 7+7*(nth - 1) then aL y mon 1+(wd+7 - aL y mon 1 % 7) % 7+7*(nth - 1) - 7 else aL y mon 1+(wd+7 - aL y mon 1 % 7) % 7+7*(nth - 1):=GN d0 d1 k1 k5 l0 g0
  obtain⟨R,hRR⟩:∃ R,CG y mon wd nth=R:=⟨_,rfl⟩
  rw [hRR] at hR ⊢
  clear hRR hym hr
  generalize aL y mon 1=f at *
  generalize ce y mon=L at *
  obtain⟨a,ha⟩:∃ a,f % 7=a:=⟨_,rfl⟩
  rw [ha] at hR
  obtain⟨t,ht⟩:∃ t,(wd+7 - a) % 7=t:=⟨_,rfl⟩
  rw [ht] at hR
  have t0:0≤t:=by omega
  have t1:t≤6:=by omega
  by_cases hge:f+L≤f+t+7*(nth - 1)
  ·rw [if_pos hge] at hR
   have HR:=hideS hR
   clear hR
   go_enter Tryz.func356,Tryz.ntmps356
   go_wp2_with (first | (go_at_call 312;refine (HL.out _).mono ?_;rintro e w1 ⟨rfl,rfl⟩) | (go_at_call 288;refine (HO.out _).mono ?_;rintro e w1 ⟨rfl,rfl⟩) | (go_at_call 315;refine (HI.out _).mono ?_;rintro e w1 ⟨rfl,rfl⟩))
   go_ret2
   exact⟨_,rfl,fun g hg=>(by rw [← Option.some.inj hg,HR.out]),HB0.out _⟩
  ·rw [if_neg hge] at hR
   have HR:=hideS hR
   clear hR
   go_enter Tryz.func356,Tryz.ntmps356
   go_wp2_with (first | (go_at_call 312;refine (HL.out _).mono ?_;rintro e w1 ⟨rfl,rfl⟩) | (go_at_call 288;refine (HO.out _).mono ?_;rintro e w1 ⟨rfl,rfl⟩) | (go_at_call 315;refine (HI.out _).mono ?_;rintro e w1 ⟨rfl,rfl⟩))
   go_ret2
   exact⟨_,rfl,fun g hg=>(by rw [← Option.some.inj hg,HR.out]),HB0.out _⟩
 ·rw [tB (by decide) hr]
  rw [decide_eq_false hr] at HI
  clear hr
  by_cases hym:ymB y mon
  ·have HL:=hideS (fun wx=>eF y mon wx hym)
   generalize ce y mon=L at *
   clear hym
   go_enter Tryz.func356,Tryz.ntmps356
   go_wp2_with (first | (go_at_call 312;refine (HL.out _).mono ?_;rintro e w1 ⟨rfl,rfl⟩) | (go_at_call 315;refine (HI.out _).mono ?_;rintro e w1 ⟨rfl,rfl⟩))
   go_ret2
   exact⟨_,rfl,fun g hg=>(by cases hg),HB0.out _⟩
  ·have HL:=hideS (fun wx=>ip y mon wx hym)
   clear hym
   go_enter Tryz.func356,Tryz.ntmps356
   go_wp2_with (go_at_call 312;refine (HL.out _).mono ?_;rintro e w1 ⟨rfl,rfl⟩)
   go_ret2
   exact⟨_,rfl,fun g hg=>(by cases hg),HB0.out _⟩

set_option maxHeartbeats 1600000 in
theorem JU (mon day nth wd off fr to mv y:Int) (w:World) (d0:0≤day) (d1:day≤109572) :
  Calls Tryz.prog 362 #[.agg #[.int .i64 4,.int .i64 mon,.int .i64 day,.int .i64 nth,.int .i64 wd,.int .i64 off,.int .i64 fr,.int .i64 to,.int .i64 mv],.int .i64 y] w fun e w'=>∃ N,e=.returned (.tuple #[.int .i64 N,.bool (bQ ⟨4,mon,day,nth,wd,off,fr,to,mv⟩ y).isSome])∧(∀ g,bQ ⟨4,mon,day,nth,wd,off,fr,to,mv⟩ y=some g→N=g)∧Below w.heap.size w w':=by
 have HB0:=hideS (fun o=>(Below.refl w.heap.size w).alloc (Nat.le_refl _) o)
 obtain⟨y0,m0,e0,hd⟩:=gJ d0 d1
 have HC:=hideS (fun wx=>fL day y0 m0 e0 wx hd)
 by_cases hy:y0=y
 ·subst hy
  rw [JQ hd]
  clear hd
  go_enter Tryz.func362,Tryz.ntmps362
  go_wp2_with (go_at_call 260;refine (HC.out _).mono ?_;rintro e w1 ⟨rfl,rfl⟩)
  go_ret2
  exact⟨_,rfl,fun g hg=>Option.some.inj hg,HB0.out _⟩
 ·rw [JR hd hy]
  have hy':(y0==y)=false:=beq_eq_false_iff_ne.2 hy
  clear hd hy
  go_enter Tryz.func362,Tryz.ntmps362
  go_wp2_with (go_at_call 260;refine (HC.out _).mono ?_;rintro e w1 ⟨rfl,rfl⟩)
  go_ret2
  exact⟨_,rfl,fun g hg=>(by cases hg),HB0.out _⟩

set_option maxHeartbeats 1600000 in
theorem JV (mon day nth wd off fr to mv y:Int) (w:World) (o0: -100≤off) (o1:off≤100) (f0:1900≤fr) (f1:to≤2199) :
  Calls Tryz.prog 358 #[.agg #[.int .i64 3,.int .i64 mon,.int .i64 day,.int .i64 nth,.int .i64 wd,.int .i64 off,.int .i64 fr,.int .i64 to,.int .i64 mv],.int .i64 y] w fun e w'=>∃ N,e=.returned (.tuple #[.int .i64 N,.bool (bQ ⟨3,mon,day,nth,wd,off,fr,to,mv⟩ y).isSome])∧(∀ g,bQ ⟨3,mon,day,nth,wd,off,fr,to,mv⟩ y=some g→N=g)∧Below w.heap.size w w':=by
 have HB0:=hideS (fun o=>(Below.refl w.heap.size w).alloc (Nat.le_refl _) o)
 have HI:=hideS (fun wx=>az y fr to wx)
 obtain⟨wq,hwq⟩:∃ wq,w.alloc (.cells #[.int .i64 3,.int .i64 mon,.int .i64 day,.int .i64 nth,.int .i64 wd,.int .i64 off,.int .i64 fr,.int .i64 to,.int .i64 mv] 340)=wq:=⟨_,rfl⟩
 have c5:wq.cell? ⟨w.heap.size,5,none⟩=some (.int .i64 off):=by rw [← hwq];simp
 have c6:wq.cell? ⟨w.heap.size,6,none⟩=some (.int .i64 fr):=by rw [← hwq];simp
 have c7:wq.cell? ⟨w.heap.size,7,none⟩=some (.int .i64 to):=by rw [← hwq];simp
 have HBq:Hid (Below w.heap.size w wq):=by rw [← hwq];exact HB0.out _
 have HQ:=hideS hwq
 clear hwq HB0
 by_cases hyy:1900≤y∧y≤2199
 ·have HE:=hideS (fun wx=>CH y wx hyy.1 hyy.2)
  obtain⟨n0,n1⟩:0≤ir y∧ir y≤109572:=(lp (rO hyy.1 hyy.2).ok).range
  by_cases hr:fr≤y∧y≤to
  ·rw [JP hr]
   rw [decide_eq_true hr] at HI
   generalize ir y=D at *
   have hw1:IntKind.i64.wrap (D+off)=D+off:=by rw [IntKind.wrap_i64];omega
   clear hr hyy
   go_enter Tryz.func358,Tryz.ntmps358
   go_wp2_with (go_at_call 360;refine (HE.out _).mono ?_;rintro e w1 ⟨rfl,rfl⟩)
   rw [HQ.out]
   go_quiet ((go_at_call 315;exact Calls.quiet_of_same (HI.out _)))
   go_wp2_with fail
   go_ret2
   exact⟨_,rfl,fun g hg=>Option.some.inj hg,below_drewN' HBq.out⟩
  ·rw [tB (by decide) hr]
   rw [decide_eq_false hr] at HI
   generalize ir y=D at *
   have hw1:IntKind.i64.wrap (D+off)=D+off:=by rw [IntKind.wrap_i64];omega
   clear hr hyy
   go_enter Tryz.func358,Tryz.ntmps358
   go_wp2_with (go_at_call 360;refine (HE.out _).mono ?_;rintro e w1 ⟨rfl,rfl⟩)
   rw [HQ.out]
   go_quiet ((go_at_call 315;exact Calls.quiet_of_same (HI.out _)))
   go_wp2_with fail
   go_ret2
   exact⟨_,rfl,fun g hg=>(by cases hg),below_drewN' HBq.out⟩
 ·have HE:=hideS (fun wx=>yP y wx hyy)
  rw [tB (by decide) (fun a=>hyy (by omega))]
  have hw1:IntKind.i64.wrap (0+off)=0+off:=by rw [IntKind.wrap_i64];omega
  clear hyy
  go_enter Tryz.func358,Tryz.ntmps358
  go_wp2_with (go_at_call 360;refine (HE.out _).mono ?_;rintro e w1 ⟨rfl,rfl⟩)
  rw [HQ.out]
  go_quiet (fail)
  go_wp2_with fail
  go_ret2
  exact⟨_,rfl,fun g hg=>(by cases hg),below_drewN' HBq.out⟩
end Go.Proofs.YtpddmnmhdahnlaaGreat
namespace Go.Proofs.YtpddmnmhdahnlaaGreat
open Go.RowKit

def CBoxP (w:World) (W:Int) (v:Value) (wr:World):Prop:=Below (w.heap.size+1) (w.alloc (.cells #[.int .i64 W,v] 60)) wr
theorem CBoxP.cells {w w1:World} {W:Int} {v:Value} (hb:CBoxP w W v w1) :
  w1.cell? ⟨w.heap.size,0,none⟩=some (.int .i64 W)∧w1.cell? ⟨w.heap.size,1,none⟩=some v:=by
 refine⟨?_,?_⟩
 ·rw [Below.cell hb (p:=⟨w.heap.size,0,none⟩) (by simp)];simp
 ·rw [Below.cell hb (p:=⟨w.heap.size,1,none⟩) (by simp)];simp
theorem CBoxP.step {w wr w':World} {W:Int} {v:Value} (h:CBoxP w W v wr) (hb:Below wr.heap.size wr w'):CBoxP w W v w':=
 Below.trans h (hb.mono (by have:=Below.size h;simp at this;omega))
theorem CBoxP.below {w wr:World} {W:Int} {v:Value} (h:CBoxP w W v wr):Below w.heap.size w wr:=
 ((Below.refl w.heap.size w).alloc (Nat.le_refl _) _).trans (Below.mono h (by omega))
theorem CBoxP.first {w w':World} {W:Int} {v:Value} (hb:Below (w.alloc (.cells #[.int .i64 W,v] 60)).heap.size (w.alloc (.cells #[.int .i64 W,v] 60)) w'):CBoxP w W v w':=
 hb.mono (by simp)
theorem gL {wr w2 w3:World} {o:Obj} (h2:Below (wr.alloc o).heap.size (wr.alloc o) w2) (h3:Below w2.heap.size w2 w3):Below wr.heap.size wr w3:=
 (((Below.refl wr.heap.size wr).alloc (Nat.le_refl _) o).trans (h2.mono (by simp))).trans (h3.mono (by have:=h2.size;simp at this;omega))

set_option maxHeartbeats 3200000 in
theorem pm (W:Int) (p:Option Addr) (b off c:Nat) (rs:List Rul) (K:Nat) (A B:Int) (w:World) (w0:0≤W∧W≤126) (hs:RSrc w p b off rs) (hl:rs.length≤64) (hK:K≤rs.length) (hf:∀ j<K,bU (rs.getD j iu)=true)
  (hE:(K=rs.length∧A=0∧B=0)∨(K<rs.length∧bU (rs.getD K iu)=false∧A=60∧B=K)) :
  Calls Tryz.prog 230 #[.agg #[.int .i64 W,.slice p rs.length c]] w fun e w'=>e=.returned (.tuple #[.int .i64 A,.int .i64 B])∧Below w.heap.size w w':=by
 obtain⟨w0,w1⟩:=w0
 have w1':¬ 127≤W:=by omega
 have HS:=hideS hs
 have HF:=hideS hf
 have HE:=hideS hE
 clear hs hf hE
 obtain⟨N,hN⟩:∃ N,rs.length=N:=⟨_,rfl⟩
 have HN:=hideS hN
 rw [hN] at hl hK ⊢
 rw [hN] at HE
 clear hN
 go_enter Tryz.func230,Tryz.ntmps230
 go_wp2_with fail
 have HB0:Hid (CBoxP w W (.slice p N c) (w.alloc (.cells #[.int .i64 W,.slice p N c] 60))):=Below.refl _ _
 go_loopw [21] (fun i wr=>∃ (k:Nat),k≤K∧i=.int .i64 k∧Hid (CBoxP w W (.slice p N c) wr)) (fun i _=>N - (intOf i).toNat)
 case atStart=>exact⟨0,by omega,rfl,HB0⟩
 case round=>
  obtain⟨k,hk,rfl,HB⟩:=hrel
  by_cases hlt:k<N
  ·have hx:k<rs.length:=by rw [HN.out];exact hlt
   obtain rfl:=HS.out.at_ (by omega)
   have hrc:=(HS.out.cell k hx).below HB.out.below (HS.out.lt (by omega))
   have hft:=HF.out k
   have hEE:k<K∨(bU (rs.getD k iu)=false∧A=60∧B=k):=by
    by_cases hkK:k<K
    ·exact Or.inl hkK
    ·obtain rfl:k=K:=by omega
     rcases HE.out with⟨a,_⟩| ⟨_,a⟩
     ·omega
     ·exact Or.inr a
   generalize rs.getD k iu=r at hrc hft hEE
   clear hx
   obtain⟨g0,g1,g2,g3,g4,g5,g6,g7,g8⟩:=hrc
   have key:∀ R,bU r=R→(k<K∧R=true)∨(R=false∧A=60∧B=k):=fun R hR=>by
    rw [← hR]
    by_cases a:k<K
    ·exact Or.inl ⟨a,hft a⟩
    ·rcases hEE with b | b
     ·exact absurd b a
     ·exact Or.inr b
   clear hft hEE
   have HKey:=hideS key
   clear key
   obtain⟨kind,mon,day,nth,wd,offs,fr,to,mv⟩:=r
   dsimp only at *
   by_cases hkd:kind=1∨kind=2∨kind=3∨kind=4
   ·rcases hkd with rfl | rfl | rfl | rfl
    ·have HH:=hideS (fun wx=>(bf 1 mon day nth wd offs fr to mv wx (by omega):Calls Tryz.prog 267 _ wx fun e w'=>e=.returned (.iface 338 _)∧Below wx.heap.size wx w'))
     have HM:=hideS (fun wx=>GL mon day nth wd offs fr to mv wx)
     obtain⟨R,hR⟩:∃ R,bU ⟨1,mon,day,nth,wd,offs,fr,to,mv⟩=R:=⟨_,rfl⟩
     have hKK:=HKey.out R hR
     rw [hR] at HM
     clear hR HKey
     rcases hKK with⟨a,rfl⟩| ⟨rfl,a⟩
     ·go_wp2_with (first | (go_at_call 267;refine (HH.out _).mono ?_;rintro e w2 ⟨rfl,hb2⟩) | (go_at_call 354;refine (HM.out _).mono ?_;rintro e w3 ⟨rfl,hb3⟩))
      have HB2:=hideS (HB.out.step (gL hb2 hb3))
      clear hb2 hb3
      go_roundw
      case rel=>exact⟨k+1,by omega,by go_num,HB2⟩
      case measure=>simp [intOf];omega
     ·have HA:=hideS a
      clear a
      go_wp2_with (first | (go_at_call 267;refine (HH.out _).mono ?_;rintro e w2 ⟨rfl,hb2⟩) | (go_at_call 354;refine (HM.out _).mono ?_;rintro e w3 ⟨rfl,hb3⟩))
      go_ret2
      obtain⟨rfl,rfl⟩:=HA.out
      exact⟨rfl,(HB.out.step (gL hb2 hb3)).below⟩
    ·have HH:=hideS (fun wx=>(bf 2 mon day nth wd offs fr to mv wx (by omega):Calls Tryz.prog 267 _ wx fun e w'=>e=.returned (.iface 339 _)∧Below wx.heap.size wx w'))
     have HM:=hideS (fun wx=>GK mon day nth wd offs fr to mv wx)
     obtain⟨R,hR⟩:∃ R,bU ⟨2,mon,day,nth,wd,offs,fr,to,mv⟩=R:=⟨_,rfl⟩
     have hKK:=HKey.out R hR
     rw [hR] at HM
     clear hR HKey
     rcases hKK with⟨a,rfl⟩| ⟨rfl,a⟩
     ·go_wp2_with (first | (go_at_call 267;refine (HH.out _).mono ?_;rintro e w2 ⟨rfl,hb2⟩) | (go_at_call 357;refine (HM.out _).mono ?_;rintro e w3 ⟨rfl,hb3⟩))
      have HB2:=hideS (HB.out.step (gL hb2 hb3))
      clear hb2 hb3
      go_roundw
      case rel=>exact⟨k+1,by omega,by go_num,HB2⟩
      case measure=>simp [intOf];omega
     ·have HA:=hideS a
      clear a
      go_wp2_with (first | (go_at_call 267;refine (HH.out _).mono ?_;rintro e w2 ⟨rfl,hb2⟩) | (go_at_call 357;refine (HM.out _).mono ?_;rintro e w3 ⟨rfl,hb3⟩))
      go_ret2
      obtain⟨rfl,rfl⟩:=HA.out
      exact⟨rfl,(HB.out.step (gL hb2 hb3)).below⟩
    ·have HH:=hideS (fun wx=>(bf 3 mon day nth wd offs fr to mv wx (by omega):Calls Tryz.prog 267 _ wx fun e w'=>e=.returned (.iface 340 _)∧Below wx.heap.size wx w'))
     have HM:=hideS (fun wx=>GJ mon day nth wd offs fr to mv wx)
     obtain⟨R,hR⟩:∃ R,bU ⟨3,mon,day,nth,wd,offs,fr,to,mv⟩=R:=⟨_,rfl⟩
     have hKK:=HKey.out R hR
     rw [hR] at HM
     clear hR HKey
     rcases hKK with⟨a,rfl⟩| ⟨rfl,a⟩
     ·go_wp2_with (first | (go_at_call 267;refine (HH.out _).mono ?_;rintro e w2 ⟨rfl,hb2⟩) | (go_at_call 359;refine (HM.out _).mono ?_;rintro e w3 ⟨rfl,hb3⟩))
      have HB2:=hideS (HB.out.step (gL hb2 hb3))
      clear hb2 hb3
      go_roundw
      case rel=>exact⟨k+1,by omega,by go_num,HB2⟩
      case measure=>simp [intOf];omega
     ·have HA:=hideS a
      clear a
      go_wp2_with (first | (go_at_call 267;refine (HH.out _).mono ?_;rintro e w2 ⟨rfl,hb2⟩) | (go_at_call 359;refine (HM.out _).mono ?_;rintro e w3 ⟨rfl,hb3⟩))
      go_ret2
      obtain⟨rfl,rfl⟩:=HA.out
      exact⟨rfl,(HB.out.step (gL hb2 hb3)).below⟩
    ·have HH:=hideS (fun wx=>(bf 4 mon day nth wd offs fr to mv wx (by omega):Calls Tryz.prog 267 _ wx fun e w'=>e=.returned (.iface 341 _)∧Below wx.heap.size wx w'))
     have HM:=hideS (fun wx=>GI mon day nth wd offs fr to mv wx)
     obtain⟨R,hR⟩:∃ R,bU ⟨4,mon,day,nth,wd,offs,fr,to,mv⟩=R:=⟨_,rfl⟩
     have hKK:=HKey.out R hR
     rw [hR] at HM
     clear hR HKey
     rcases hKK with⟨a,rfl⟩| ⟨rfl,a⟩
     ·go_wp2_with (first | (go_at_call 267;refine (HH.out _).mono ?_;rintro e w2 ⟨rfl,hb2⟩) | (go_at_call 363;refine (HM.out _).mono ?_;rintro e w3 ⟨rfl,hb3⟩))
      have HB2:=hideS (HB.out.step (gL hb2 hb3))
      clear hb2 hb3
      go_roundw
      case rel=>exact⟨k+1,by omega,by go_num,HB2⟩
      case measure=>simp [intOf];omega
     ·have HA:=hideS a
      clear a
      go_wp2_with (first | (go_at_call 267;refine (HH.out _).mono ?_;rintro e w2 ⟨rfl,hb2⟩) | (go_at_call 363;refine (HM.out _).mono ?_;rintro e w3 ⟨rfl,hb3⟩))
      go_ret2
      obtain⟨rfl,rfl⟩:=HA.out
      exact⟨rfl,(HB.out.step (gL hb2 hb3)).below⟩
   ·have HH:=hideS (fun wx=>pj kind mon day nth wd offs fr to mv wx hkd)
    have HM:=hideS (fun wx=>GM wx)
    have HA:Hid (A=60∧B=k):=by
     rcases HKey.out _ (LK (fun a=>hkd (by omega)) (fun a=>hkd (by omega)) (fun a=>hkd (by omega)) (fun a=>hkd (by omega))) with⟨_,a⟩| ⟨_,a⟩
     ·exact Bool.noConfusion a
     ·exact a
    clear HKey hkd
    go_wp2_with (first | (go_at_call 267;refine (HH.out _).mono ?_;rintro e w2 ⟨rfl,hb2⟩) | (go_at_call 365;refine (HM.out _).mono ?_;rintro e w3 ⟨rfl,hb3⟩))
    go_ret2
    obtain⟨rfl,rfl⟩:=HA.out
    exact⟨rfl,(HB.out.step (gL hb2 hb3)).below⟩
  ·have HA:Hid (A=0∧B=0):=by
    rcases HE.out with⟨_,a⟩| ⟨a,_⟩
    ·exact a
    ·omega
   have hge:¬ (k:Int)<N:=by omega
   go_wp2_with fail
   go_ret2
   obtain⟨rfl,rfl⟩:=HA.out
   exact⟨rfl,HB.out.below⟩

set_option maxHeartbeats 400000 in
theorem rW (W:Int) (p:Option Addr) (b off c:Nat) (rs:List Rul) (A B:Int) (w:World) (h:ChkR W rs A B) (hs:RSrc w p b off rs) (hl:rs.length≤9223372036854775807) :
  Calls Tryz.prog 230 #[.agg #[.int .i64 W,.slice p rs.length c]] w fun e w'=>e=.returned (.tuple #[.int .i64 A,.int .i64 B])∧Below w.heap.size w w':=by
 cases h with
 | long h=>
  generalize rs.length=N at *
  have h':(64:Int)<N:=by omega
  clear hs h
  go_enter Tryz.func230,Tryz.ntmps230
  go_wp2_with fail
  go_ret2
  exact⟨rfl,(Below.refl w.heap.size w).alloc (Nat.le_refl _) _⟩
 | week h h2=>
  generalize rs.length=N at *
  have h':¬ (64:Int)<N:=by omega
  clear hs h
  rcases (show W<0∨(¬ W<0∧127≤W) by omega) with a | ⟨a,a2⟩
  all_goals
   clear h2
   go_enter Tryz.func230,Tryz.ntmps230
   go_wp2_with fail
   go_ret2
   exact⟨rfl,(Below.refl w.heap.size w).alloc (Nat.le_refl _) _⟩
 | rule k h1 h2 h3 h4 h5=>exact pm W p b off c rs k 60 k w h2 hs h1 (by omega) h5 (Or.inr ⟨h3,h4,rfl,rfl⟩)
 | ok h=>exact pm W p b off c rs rs.length 0 0 w ⟨h.w0,h.w1⟩ hs h.len (Nat.le_refl _) (fun j hj=>h.fit _ (oZ hj)) (Or.inl ⟨rfl,rfl,rfl⟩)
end Go.Proofs.YtpddmnmhdahnlaaGreat
