/-  -/
import Derived.Test.YtpddmnmhdahnlaaGreatHam
import Derived.Deep.OwnRows
namespace Go.Proofs.YtpddmnmhdahnlaaGreat
open Go.RowKit

def MF (W:Int) (v:Value) (f l:Int) (m:Value):Nat→Value
 | 0=>.int .i64 W
 | 1=>v
 | 2=>.int .i64 f
 | 3=>.int .i64 l
 | _=>m
theorem five {i:Nat} (h:i<5):i=0∨i=1∨i=2∨i=3∨i=4:=by omega
structure AlmC (w:World) (A:Nat) (W:Int) (v:Value) (f l:Int) (m:Value):Prop where
 row:w.rowIs A 336 5 (MF W v f l m)
theorem AlmC.c0 {w:World} {A:Nat} {W:Int} {v:Value} {f l:Int} {m:Value} (h:AlmC w A W v f l m):w.cell? ⟨A,0,none⟩=some (.int .i64 W):=h.row.cell (i:=0) (by omega)
theorem AlmC.c1 {w:World} {A:Nat} {W:Int} {v:Value} {f l:Int} {m:Value} (h:AlmC w A W v f l m):w.cell? ⟨A,1,none⟩=some v:=h.row.cell (i:=1) (by omega)
theorem AlmC.c2 {w:World} {A:Nat} {W:Int} {v:Value} {f l:Int} {m:Value} (h:AlmC w A W v f l m):w.cell? ⟨A,2,none⟩=some (.int .i64 f):=h.row.cell (i:=2) (by omega)
theorem AlmC.c3 {w:World} {A:Nat} {W:Int} {v:Value} {f l:Int} {m:Value} (h:AlmC w A W v f l m):w.cell? ⟨A,3,none⟩=some (.int .i64 l):=h.row.cell (i:=3) (by omega)
theorem AlmC.c4 {w:World} {A:Nat} {W:Int} {v:Value} {f l:Int} {m:Value} (h:AlmC w A W v f l m):w.cell? ⟨A,4,none⟩=some m:=h.row.cell (i:=4) (by omega)
theorem AlmC.fz {w:World} {A:Nat} {W:Int} {v:Value} {f l:Int} {m:Value} (h:AlmC w A W v f l m) (i:Nat):w.frozen? ⟨A,i,none⟩=false:=h.row.frozen i
theorem AlmC.lt {w:World} {A:Nat} {W:Int} {v:Value} {f l:Int} {m:Value} (h:AlmC w A W v f l m):A<w.heap.size:=h.row.lt
theorem AlmC.set2 {w:World} {A:Nat} {W:Int} {v:Value} {f l:Int} {m:Value} (h:AlmC w A W v f l m) (x:Int):AlmC (w.setCell ⟨A,2,none⟩ (.int .i64 x)) A W v x l m:=
 ⟨(h.row.set 2 (.int .i64 x)).congr fun i hi=>by rcases five hi with rfl | rfl | rfl | rfl | rfl<;>rfl⟩
theorem AlmC.set3 {w:World} {A:Nat} {W:Int} {v:Value} {f l:Int} {m:Value} (h:AlmC w A W v f l m) (x:Int):AlmC (w.setCell ⟨A,3,none⟩ (.int .i64 x)) A W v f x m:=
 ⟨(h.row.set 3 (.int .i64 x)).congr fun i hi=>by rcases five hi with rfl | rfl | rfl | rfl | rfl<;>rfl⟩
theorem AlmC.set4 {w:World} {A:Nat} {W:Int} {v:Value} {f l:Int} {m:Value} (h:AlmC w A W v f l m) (x:Value):AlmC (w.setCell ⟨A,4,none⟩ x) A W v f l x:=
 ⟨(h.row.set 4 x).congr fun i hi=>by rcases five hi with rfl | rfl | rfl | rfl | rfl<;>rfl⟩
theorem AlmC.below {w w':World} {A B:Nat} {W:Int} {v:Value} {f l:Int} {m:Value} (h:AlmC w A W v f l m) (hb:Below B w w') (hB:A<B):AlmC w' A W v f l m:=⟨h.row.of_block (hb.block A hB)⟩
theorem AlmC.alloc {w:World} {A:Nat} {W:Int} {v:Value} {f l:Int} {m:Value} (h:AlmC w A W v f l m) (o:Obj):AlmC (w.alloc o) A W v f l m:=⟨h.row.alloc o⟩
theorem AlmC.other {w:World} {A:Nat} {W:Int} {v:Value} {f l:Int} {m:Value} (h:AlmC w A W v f l m) {a:Addr} (ha:A≠a.block) (u:Value):AlmC (w.setCell a u) A W v f l m:=⟨h.row.setOther ha u⟩

structure MK (w:World) (A:Nat) (W:Int) (v:Value) (f l:Int) (bm L:Nat) (F:Nat→Bool) (wr:World):Prop where
 alm:AlmC wr A W v f l (.slice (some ⟨bm,0,none⟩) L L)
 row:wr.rowIs bm 4 L (fun i=>.bool (F i))
 low:Below A w wr
 lt:A<bm
theorem MK.step {w wr w':World} {A:Nat} {W:Int} {v:Value} {f l:Int} {bm L:Nat} {F:Nat→Bool} (h:MK w A W v f l bm L F wr) (hb:Below wr.heap.size wr w'):MK w A W v f l bm L F w':=
 ⟨h.alm.below hb h.alm.lt,h.row.of_block (hb.block bm h.row.lt),h.low.trans (hb.mono (Nat.le_of_lt h.alm.lt)),h.lt⟩
theorem MK.congr {w wr:World} {A:Nat} {W:Int} {v:Value} {f l:Int} {bm L:Nat} {F G:Nat→Bool} (h:MK w A W v f l bm L F wr) (e:∀ i<L,F i=G i):MK w A W v f l bm L G wr:=
 ⟨h.alm,h.row.congr (fun i hi=>by rw [e i hi]),h.low,h.lt⟩
theorem MK.set {w wr:World} {A:Nat} {W:Int} {v:Value} {f l:Int} {bm L:Nat} {F:Nat→Bool} (h:MK w A W v f l bm L F wr) (i:Nat):MK w A W v f l bm L (fun j=>F j||decide (j=i)) (wr.setCell ⟨bm,i,none⟩ (.bool true)):=
 ⟨h.alm.other (a:=⟨bm,i,none⟩) (by have:=h.lt;show A≠bm;omega) _,(h.row.set i (.bool true)).congr (fun j _=>by
  by_cases e:j=i
  ·rw [if_pos e,decide_eq_true e,Bool.or_true]
  ·rw [if_neg e,decide_eq_false e,Bool.or_false]),h.low.setCell (p:=⟨bm,i,none⟩) (Nat.le_of_lt h.lt) _,h.lt⟩
theorem MK.drewN {w wr:World} {A:Nat} {W:Int} {v:Value} {f l:Int} {bm L:Nat} {F:Nat→Bool} (h:MK w A W v f l bm L F wr) (n:Nat):MK w A W v f l bm L F (wr.drewN n):=
 ⟨⟨h.alm.row⟩,h.row,below_drewN' h.low,h.lt⟩
structure MK2 (w:World) (A:Nat) (W:Int) (v:Value) (f l:Int) (bm L:Nat) (F:Nat→Bool) (b9:Nat) (mv:Int) (wr:World):Prop where
 one:MK w A W v f l bm L F wr
 c8:wr.cell? ⟨b9,8,none⟩=some (.int .i64 mv)
 lt9:b9<wr.heap.size
 ne9:b9≠bm
theorem MK2.step {w wr w':World} {A:Nat} {W:Int} {v:Value} {f l:Int} {bm L:Nat} {F:Nat→Bool} {b9:Nat} {mv:Int} (h:MK2 w A W v f l bm L F b9 mv wr) (hb:Below wr.heap.size wr w'):MK2 w A W v f l bm L F b9 mv w':=
 ⟨h.one.step hb,(hb.cell (p:=⟨b9,8,none⟩) h.lt9).trans h.c8,Nat.lt_of_lt_of_le h.lt9 hb.size,h.ne9⟩
theorem MK2.congr {w wr:World} {A:Nat} {W:Int} {v:Value} {f l:Int} {bm L:Nat} {F G:Nat→Bool} {b9:Nat} {mv:Int} (h:MK2 w A W v f l bm L F b9 mv wr) (e:∀ i<L,F i=G i):MK2 w A W v f l bm L G b9 mv wr:=
 ⟨h.one.congr e,h.c8,h.lt9,h.ne9⟩
theorem MK2.set {w wr:World} {A:Nat} {W:Int} {v:Value} {f l:Int} {bm L:Nat} {F:Nat→Bool} {b9:Nat} {mv:Int} (h:MK2 w A W v f l bm L F b9 mv wr) (i:Nat):MK2 w A W v f l bm L (fun j=>F j||decide (j=i)) b9 mv (wr.setCell ⟨bm,i,none⟩ (.bool true)):=
 ⟨h.one.set i,by
  have e:(wr.setCell ⟨bm,i,none⟩ (.bool true)).cell? ⟨b9,8,none⟩=wr.cell? ⟨b9,8,none⟩:=World.cell?_of_block (w:=wr) (Below.heap_setCell wr ⟨bm,i,none⟩ _ b9 h.ne9)
  rw [e];exact h.c8,by simpa using h.lt9,h.ne9⟩
theorem MK2.drewN {w wr:World} {A:Nat} {W:Int} {v:Value} {f l:Int} {bm L:Nat} {F:Nat→Bool} {b9:Nat} {mv:Int} (h:MK2 w A W v f l bm L F b9 mv wr) (n:Nat):MK2 w A W v f l bm L F b9 mv (wr.drewN n):=
 ⟨h.one.drewN n,h.c8,h.lt9,h.ne9⟩
theorem MK2.first {w wr:World} {A:Nat} {W:Int} {v:Value} {f l:Int} {bm L:Nat} {F:Nat→Bool} {kind mon day nth wd off fr to mv:Int} (h:MK w A W v f l bm L F wr) :
  MK2 w A W v f l bm L F wr.heap.size mv (wr.alloc (.cells #[.int .i64 kind,.int .i64 mon,.int .i64 day,.int .i64 nth,.int .i64 wd,.int .i64 off,.int .i64 fr,.int .i64 to,.int .i64 mv] 251)):=
 ⟨h.step ((Below.refl _ wr).alloc (Nat.le_refl _) _),by simp,by simp,by have:=h.row.lt;omega⟩
end Go.Proofs.YtpddmnmhdahnlaaGreat
namespace Go.Proofs.YtpddmnmhdahnlaaGreat
open Go.RowKit

theorem gM {P:Program} {f:Nat} {args:Array Value} {w:World} {Q:Ending→Prop} (h:Calls P f args w fun e w'=>Q e∧w'=w):Calls P f args w fun e w'=>Q e∧w=w':=
 h.mono fun _ _ ⟨a,b⟩=>⟨a,b.symm⟩
theorem MG {y:Int} (h0:1900≤y) (h1:y≤2199):100≤ir y:=by
 by_cases e:y=1900
 ·subst e;decide
 ·obtain⟨a,b⟩:=(lp (rO h0 h1).ok).year
  have c:=lX h0
  show 100≤_
  unfold ir
  omega
theorem mO {r:Rul} {y g:Int} (hf:bU r=true) (h:bQ r y=some g): -1≤g∧g≤200000:=by
 unfold bQ at h
 by_cases k4:r.kind=4
 ·rw [if_pos k4] at h
  have hr:0≤r.day∧r.day≤109572:=by
   rcases fit_cases hf with⟨_,a,b,_⟩| ⟨_,⟨a,_⟩| ⟨a,_⟩| ⟨a,_⟩⟩
   ·exact⟨a,b⟩
   ·omega
   ·omega
   ·omega
  by_cases e:yrI r.day=y
  ·rw [if_pos e] at h
   have:=Option.some.inj h
   omega
  ·rw [if_neg e] at h;cases h
 ·rw [if_neg k4] at h
  unfold lZ at h
  by_cases hr:y<r.fr∨r.to<y
  ·rw [if_pos hr] at h;cases h
  ·rw [if_neg hr] at h
   rcases fit_cases hf with⟨a,_⟩| ⟨⟨f0,f1,f2,v0,v1⟩,hkd⟩
   ·exact absurd a k4
   ·have y0:1900≤y:=by omega
    have y1:y≤2199:=by omega
    rcases hkd with⟨k1,m0,m1,d0,d1⟩| ⟨k2,m0,m1,w0,w1,c0,c1⟩| ⟨k3,o0,o1⟩
    ·rw [if_pos k1] at h
     by_cases ho:okD y r.mon r.day
     ·rw [if_pos ho] at h
      have:=(lp ho).range
      have:=Option.some.inj h
      omega
     ·rw [if_neg ho] at h;cases h
    ·rw [if_neg (by omega),if_pos k2] at h
     have:=JI (y:=y) ⟨y0,y1,m0,m1⟩ w0 w1 c0 c1
     have:=Option.some.inj h
     omega
    ·rw [if_neg (by omega),if_neg (by omega),if_pos k3] at h
     have:=MG y0 y1
     have:=(lp (rO y0 y1).ok).range
     have e:=Option.some.inj h
     unfold ir at *
     omega
theorem iQ {W:Int} {rs:List Rul} {r:Rul} {Y I f:Int} {t k:Nat} (h:bQ r I=none) (hI:I=Y - 1+t) (i:Nat) :
  (mkK W rs Y (f+i) k||mkT W r Y (f+i) t)=(mkK W rs Y (f+i) k||mkT W r Y (f+i) (t+1)):=by
 show _=(mkK W rs Y (f+i) k||(mkT W r Y (f+i) t||mkB W r (Y - 1+t) (f+i)))
 rw [← hI,GC h,Bool.or_false]
theorem kD {W:Int} {rs:List Rul} {r:Rul} {Y I f g x:Int} {t k L:Nat} (h:bQ r I=some g) (hI:I=Y - 1+t) (hx:mvI W g r.mv=x) (ho:¬ (f≤x∧x≤f+L - 1)) (i:Nat) (hi:i<L) :
  (mkK W rs Y (f+i) k||mkT W r Y (f+i) t)=(mkK W rs Y (f+i) k||mkT W r Y (f+i) (t+1)):=by
 show _=(mkK W rs Y (f+i) k||(mkT W r Y (f+i) t||mkB W r (Y - 1+t) (f+i)))
 rw [← hI,wJ h,hx,decide_eq_false (fun e=>ho (by omega)),Bool.or_false]
theorem mP {W:Int} {rs:List Rul} {r:Rul} {Y I f g x:Int} {t k i0:Nat} (h:bQ r I=some g) (hI:I=Y - 1+t) (hx:mvI W g r.mv=x) (h0:x=f+i0) (i:Nat) :
  ((mkK W rs Y (f+i) k||mkT W r Y (f+i) t)||decide (i=i0))=(mkK W rs Y (f+i) k||mkT W r Y (f+i) (t+1)):=by
 show _=(mkK W rs Y (f+i) k||(mkT W r Y (f+i) t||mkB W r (Y - 1+t) (f+i)))
 rw [← hI,wJ h,hx,show decide (x=f+(i:Int))=decide (i=i0) from decide_eq_decide.2 (by omega),Bool.or_assoc]

theorem MH:(Tryz.prog.info? 4).map (fun i=>(i.zero,i.size,i.bytes))=some (some (.bool false),1,1):=by kernel_rfl

set_option maxRecDepth 10000 in
set_option maxHeartbeats 16000000 in
theorem GO (A:Nat) (W n Y m d:Int) (p:Option Addr) (b off c:Nat) (rs:List Rul) (f l:Int) (mm:Value) (w:World) (h:OkC W rs) (hs:RSrc w p b off rs) (hbA:0<rs.length→b<A) (hA:AlmC w A W (.slice p rs.length c) f l mm) (hd:IsD n Y m d) :
  Calls Tryz.prog 326 #[.pointer (some ⟨A,0,none⟩),.int .i64 n] w fun e w'=>e=.returned (.tuple #[])∧∃ (bm L:Nat),(L:Int)=nyI (Y+1) - nyI Y∧MK w A W (.slice p rs.length c) (nyI Y) (nyI (Y+1) - 1) bm L (fun i=>tx W rs (nyI Y+i) Y) w':=by
 obtain⟨y0,y1,_,_,_,_⟩:=hd.1
 have HC:=hideS (fun wx=>fL n Y m d wx hd)
 have HO1:=hideS (fun wx=>ls Y 1 1 wx (yX y0 y1))
 have HO2:=hideS (fun wx=>ls Y 12 31 wx (GB y0 y1))
 rw [CN] at HO1
 rw [GA y0] at HO2
 have n1:0≤nyI Y:=by have:=lX y0;omega
 have n2:nyI Y≤110000:=by have:=lY y0;omega
 have n3:nyI (Y+1)=nyI Y+365+lpI Y:=kt y0
 have n4:=Gn Y
 have n5:=AE Y
 obtain⟨L,hL⟩:∃ L:Nat,(L:Int)=nyI (Y+1) - nyI Y:=⟨(nyI (Y+1) - nyI Y).toNat,by omega⟩
 have HH:=hideS h
 have HS:=hideS hs
 have HbA:=hideS hbA
 obtain⟨N,hN⟩:∃ N,rs.length=N:=⟨_,rfl⟩
 have HN:=hideS hN
 have hN64:N≤64:=by rw [← hN];exact h.len
 rw [hN] at hA ⊢
 obtain⟨fst,hfst⟩:∃ fst,nyI Y=fst:=⟨_,rfl⟩
 obtain⟨lst,hlst⟩:∃ lst,nyI (Y+1) - 1=lst:=⟨_,rfl⟩
 have HYr:=hideS (show 1900≤Y∧Y≤2199∧nyI Y=fst∧nyI (Y+1) - 1=lst from⟨y0,y1,hfst,hlst⟩)
 have HL:=hideS hL
 have l1:(L:Int)=lst - fst+1:=by omega
 have l2:L≤400:=by omega
 rw [hfst] at HO1 n1 n2 ⊢
 rw [hlst] at HO2 ⊢
 have c2:=hA.c2
 have f2:=hA.fz 2
 have hA2:=hA.set2 fst
 have d3:=hA2.c3
 have g3:=hA2.fz 3
 have HA3:=hideS (hA2.set3 lst)
 have HB3:Hid (Below A w ((w.setCell ⟨A,2,none⟩ (.int .i64 fst)).setCell ⟨A,3,none⟩ (.int .i64 lst))):=((Below.refl A w).setCell (p:=⟨A,2,none⟩) (Nat.le_refl _) _).setCell (p:=⟨A,3,none⟩) (Nat.le_refl _) _
 have hmk:=fun w=>run_make_row' (P:=Tryz.prog) 334 4 (.bool false) 1 Tryz.underlying334 MH rfl .i64 .i64 L (by omega) (by omega) w
 obtain⟨wq,hwq⟩:∃ wq,(w.setCell ⟨A,2,none⟩ (.int .i64 fst)).setCell ⟨A,3,none⟩ (.int .i64 lst)=wq:=⟨_,rfl⟩
 rw [hwq] at HA3 HB3
 have HQ:=hideS hwq
 clear hwq hd hN hs h hbA hA hA2 hfst hlst n3 n4 n5 hL
 go_enter Tryz.func326,Tryz.ntmps326
 go_wp2_with (first | (go_at_call 260;refine (gM (HC.out _)).mono ?_;rintro e w1 ⟨rfl,rfl⟩) | (go_at_call_of 288 (Value.int IntKind.i64 12);refine (gM (HO2.out _)).mono ?_;rintro e w1 ⟨rfl,rfl⟩) | (go_at_call 288;refine (gM (HO1.out _)).mono ?_;rintro e w1 ⟨rfl,rfl⟩))
 rw [HQ.out]
 clear c2 f2 d3 g3 HC HO1 HO2 HQ
 have c2:=HA3.out.c2
 have c3:=HA3.out.c3
 have c4:=HA3.out.c4
 have f4:=HA3.out.fz 4
 have hsub:IntKind.i64.wrap (lst - fst)=lst - fst:=by rw [IntKind.wrap_i64];omega
 have hadd:IntKind.i64.wrap (lst - fst+1)=lst - fst+1:=by rw [IntKind.wrap_i64];omega
 simp only [l1] at hmk
 have HA4:Hid (AlmC (wq.alloc (.cells (madeCells #[.bool false] L) 4)) A W (.slice p N c) fst lst mm):=HA3.out.alloc _
 have e4:=HA4.out.c4
 have e4f:=HA4.out.fz 4
 go_region
 have HM0:Hid (MK w A W (.slice p N c) fst lst wq.heap.size L (fun _=>false) (((wq.alloc (.cells (madeCells #[.bool false] L) 4)).setCell ⟨A,4,none⟩ (.slice (some ⟨wq.heap.size,0,none⟩) L L)).drew)):=
  ⟨⟨(HA4.out.set4 (.slice (some ⟨wq.heap.size,0,none⟩) L L)).row⟩,World.rowIs.setOther (w:=wq.alloc (.cells (madeCells #[.bool false] L) 4)) (World.rowIs_made wq (.bool false) L 4) (a:=⟨A,4,none⟩) (by have:=HA3.out.lt;show wq.heap.size≠A;omega) _,((HB3.out.alloc (Nat.le_of_lt HA3.out.lt) _).setCell (p:=⟨A,4,none⟩) (Nat.le_refl _) _).drew,HA3.out.lt⟩
 obtain⟨w3,hw3⟩:∃ w3,((wq.alloc (.cells (madeCells #[.bool false] L) 4)).setCell ⟨A,4,none⟩ (.slice (some ⟨wq.heap.size,0,none⟩) L L)).drew=w3:=⟨_,rfl⟩
 rw [hw3] at HM0 ⊢
 generalize wq.heap.size=bm at *
 clear hw3 HA4 e4 e4f c2 c3 c4 f4 hsub hadd HA3 HB3 hmk
 have a1:=HM0.out.alm.c1
 go_wp2_with fail
 go_loopw [57] (fun i wr=>∃ (k:Nat),k≤N∧i=.int .i64 k∧Hid (MK w A W (.slice p N c) fst lst bm L (fun i=>mkK W rs Y (fst+i) k) wr)) (fun i _=>N - (intOf i).toNat)
 case atStart=>exact⟨0,by omega,rfl,HM0⟩
 case round=>
  clear HM0 a1
  obtain⟨k,hk,rfl,HMk⟩:=hrel
  by_cases hlt:k<N
  ·have hx:k<rs.length:=by rw [HN.out];exact hlt
   obtain rfl:=HS.out.at_ (by omega)
   have hrc:=(HS.out.cell k hx).below HMk.out.low (HbA.out (by omega))
   have HF:=hideS (HH.out.fit (rs.getD k iu) (oZ hx))
   obtain⟨r,hr⟩:∃ r,rs.getD k iu=r:=⟨_,rfl⟩
   rw [hr] at hrc HF
   have HRk:=hideS hr
   clear hr hx
   obtain⟨g0,g1,g2,g3,g4,g5,g6,g7,g8⟩:=hrc
   obtain⟨r',hr'⟩:∃ r',r'=r:=⟨r,rfl⟩
   rw [← hr'] at HRk HF
   have HMr:Hid (r'.mv=r.mv):=by show _=_;rw [hr']
   have hfc0:=fit_cases HF.out
   rw [hr'] at hfc0
   obtain⟨kind,mon,day,nth,wd,offs,fr,to,mv⟩:=r
   dsimp only at *
   have HKb:=hideS (MK2.first (kind:=kind) (mon:=mon) (day:=day) (nth:=nth) (wd:=wd) (off:=offs) (fr:=fr) (to:=to) (mv:=mv) HMk.out)
   have hkd:(kind=1)∨(kind=2∧1≤mon∧mon≤12∧0≤wd∧wd≤6∧1≤nth∧nth≤5∧1900≤fr∧to≤2199)∨(kind=3∧-100≤offs∧offs≤100∧1900≤fr∧to≤2199)∨(kind=4∧0≤day∧day≤109572):=by omega
   clear hfc0 HMk
   rcases hkd with rfl | ⟨rfl,hfc⟩| ⟨rfl,hfc⟩| ⟨rfl,hfc⟩
   ·have HHo:=hideS (fun wx=>(bf 1 mon day nth wd offs fr to mv wx (by omega):Calls Tryz.prog 267 _ wx fun e w'=>e=.returned (.iface 338 _)∧Below wx.heap.size wx w'))
    have HIn:=hideS (fun (y:Int) (wx:World)=>JS mon day nth wd offs fr to mv y wx )
    rw [← hr'] at HIn
    clear hr'
    go_wp2_with (go_at_call 267;refine (HHo.out _).mono ?_;rintro e w4 ⟨rfl,hb4⟩)
    have HM4:=hideS (HKb.out.step hb4)
    clear hb4 HKb HHo
    generalize wr.heap.size=b9 at *
    go_loopw [11] (fun y w2=>∃ (t:Nat) (I:Int),t≤3∧1899≤I∧I≤2201∧y=.int .i64 I∧Hid (I=Y - 1+t)∧Hid (MK2 w A W (.slice (some ⟨b,off,none⟩) N c) fst lst bm L (fun i=>mkK W rs Y (fst+i) k||mkT W r' Y (fst+i) t) b9 mv w2)) (fun y _=>(Y+2 - intOf y).toNat)
    case atStart=>exact⟨0,Y - 1,by omega,by omega,by omega,rfl,by show _=_;omega,HM4.out.congr (fun i _=>(Bool.or_false _).symm)⟩
    case round=>
     clear HM4
     obtain⟨t,I,ht,hI0,hI1,rfl,HI,HM⟩:=hrel
     by_cases ht3:t<3
     ·have hIY:I≤Y+1:=by have:=HI.out;omega
      have HDy:=hideS (fun wx=>HIn.out I wx)
      obtain⟨o,ho⟩:∃ o,bQ r' I=o:=⟨_,rfl⟩
      rw [ho] at HDy
      have HOo:=hideS ho
      clear ho
      rcases o with _ | g
      ·have HEq:=hideS (fun (i:Nat)=>iQ (W:=W) (rs:=rs) (f:=fst) (k:=k) HOo.out HI.out i)
       dsimp only [Option.isSome] at HDy
       go_wp2_with (go_at_call 353;refine (HDy.out _).mono ?_;rintro e w5 ⟨N5,rfl,_,hb5⟩;have HM5:=hideS (HM.out.step hb5);clear hb5)
       go_roundw
       case rel=>exact⟨t+1,I+1,by omega,by omega,by omega,rfl,by have:=HI.out;show _=_;omega,HM5.out.congr (fun i _=>HEq.out i)⟩
       case measure=>simp [intOf];omega
      ·have HRg:=mO HF.out HOo.out
       obtain⟨g0,g1⟩:=HRg
       obtain⟨u,dd,hu⟩:=oY HH.out.w0 HH.out.w1 g
       have HMv:=hideS (fun wx=>iP W g mv u dd wx g0 (by omega) hu)
       have HX:Hid (mvI W g r'.mv=co W g mv u dd):=by show _=_;rw [HMr.out,wu hu]
       have hx0:g - 6≤co W g mv u dd∧co W g mv u dd≤g+6:=by
        have:=hu.ub;have:=hu.db
        unfold co;split
        ·omega
        ·split<;>omega
       obtain⟨x,hx⟩:∃ x,co W g mv u dd=x:=⟨_,rfl⟩
       rw [hx] at HMv HX hx0
       obtain⟨x0,x1⟩:=hx0
       clear hx hu
       dsimp only [Option.isSome] at HDy
       have HBt:=hideS (fun wx=>az x fst lst wx)
       by_cases hin:fst≤x∧x≤lst
       ·rw [decide_eq_true hin] at HBt
        obtain⟨i0,hi0⟩:∃ i0:Nat,x - fst=i0:=⟨(x - fst).toNat,by omega⟩
        have hiL:i0<L:=by omega
        have HEq:=hideS (fun (i:Nat)=>mP (W:=W) (rs:=rs) (f:=fst) (k:=k) (i0:=i0) HOo.out HI.out HX.out (by omega) i)
        have hw0:IntKind.i64.wrap (x - fst)=(i0:Int):=by rw [IntKind.wrap_i64];omega
        have hiL':(i0:Int)<(L:Int):=by omega
        clear hin
        go_wp2_with (go_at_call 353;refine (HDy.out _).mono ?_;rintro e w5 ⟨N5,rfl,hN5,hb5⟩;have HM5:=hideS (HM.out.step hb5);clear hb5;obtain rfl:=hN5 _ rfl)
        have e0:=HM5.out.one.alm.c0
        have e8:=HM5.out.c8
        clear hN5
        go_quiet ((go_at_call 333;exact Calls.quiet_of_same (HMv.out _)))
        obtain⟨w6,hw6⟩:∃ w6,w6=w5.drewN nq:=⟨_,rfl⟩
        rw [← hw6]
        have HM6:Hid (MK2 w A W (.slice (some ⟨b,off,none⟩) N c) fst lst bm L (fun i=>mkK W rs Y (fst+i) k||mkT W r' Y (fst+i) t) b9 mv w6):=by rw [hw6];exact HM5.out.drewN _
        clear hw6 e0 e8 HM5
        have e2:=HM6.out.one.alm.c2
        have e3:=HM6.out.one.alm.c3
        go_wp2_with fail
        go_quiet ((go_at_call 315;exact Calls.quiet_of_same (HBt.out _)))
        obtain⟨w7,hw7⟩:∃ w7,w7=w6.drewN nq:=⟨_,rfl⟩
        rw [← hw7]
        have HM7:Hid (MK2 w A W (.slice (some ⟨b,off,none⟩) N c) fst lst bm L (fun i=>mkK W rs Y (fst+i) k||mkT W r' Y (fst+i) t) b9 mv w7):=by rw [hw7];exact HM6.out.drewN _
        clear hw7 e2 e3 HM6
        have e2:=HM7.out.one.alm.c2
        have e4:=HM7.out.one.alm.c4
        have em:=HM7.out.one.row.cell (i:=i0) hiL
        have ef:=HM7.out.one.row.frozen i0
        go_wp2_with fail
        go_region
        have HM8:=hideS ((HM7.out.set i0).congr (fun i _=>HEq.out i))
        clear HM7 e2 e4 em ef
        go_wp2_with fail
        go_roundw
        case rel=>exact⟨t+1,I+1,by omega,by omega,by omega,rfl,by have:=HI.out;show _=_;omega,HM8.out.drewN 1⟩
        case measure=>simp [intOf];omega
       ·rw [decide_eq_false hin] at HBt
        have HEq:=hideS (fun (i:Nat) (hi:i<L)=>kD (W:=W) (rs:=rs) (f:=fst) (k:=k) (L:=L) HOo.out HI.out HX.out (by omega) i hi)
        clear hin
        go_wp2_with (go_at_call 353;refine (HDy.out _).mono ?_;rintro e w5 ⟨N5,rfl,hN5,hb5⟩;have HM5:=hideS (HM.out.step hb5);clear hb5;obtain rfl:=hN5 _ rfl)
        have e0:=HM5.out.one.alm.c0
        have e8:=HM5.out.c8
        clear hN5
        go_quiet ((go_at_call 333;exact Calls.quiet_of_same (HMv.out _)))
        obtain⟨w6,hw6⟩:∃ w6,w6=w5.drewN nq:=⟨_,rfl⟩
        rw [← hw6]
        have HM6:Hid (MK2 w A W (.slice (some ⟨b,off,none⟩) N c) fst lst bm L (fun i=>mkK W rs Y (fst+i) k||mkT W r' Y (fst+i) t) b9 mv w6):=by rw [hw6];exact HM5.out.drewN _
        clear hw6 e0 e8 HM5
        have e2:=HM6.out.one.alm.c2
        have e3:=HM6.out.one.alm.c3
        go_wp2_with fail
        go_quiet ((go_at_call 315;exact Calls.quiet_of_same (HBt.out _)))
        go_wp2_with fail
        go_roundw
        case rel=>exact⟨t+1,I+1,by omega,by omega,by omega,rfl,by have:=HI.out;show _=_;omega,(HM6.out.drewN _).congr (fun i hi=>HEq.out i hi)⟩
        case measure=>simp [intOf];omega
     ·have hIY:¬ I≤Y+1:=by have:=HI.out;omega
      have HNk:Hid (MK w A W (.slice (some ⟨b,off,none⟩) N c) fst lst bm L (fun i=>mkK W rs Y (fst+i) (k+1)) wr):=by
       obtain rfl:t=3:=by omega
       exact HM.out.one.congr (fun i _=>by show _=(mkK W rs Y (fst+i) k||mkT W (rs.getD k iu) Y (fst+i) 3);rw [HRk.out])
      go_wp2_with fail
      go_roundw
      case rel=>exact⟨k+1,by omega,by go_num,HNk⟩
      case measure=>simp [intOf];omega
   ·have HHo:=hideS (fun wx=>(bf 2 mon day nth wd offs fr to mv wx (by omega):Calls Tryz.prog 267 _ wx fun e w'=>e=.returned (.iface 339 _)∧Below wx.heap.size wx w'))
    have HIn:=hideS (fun (y:Int) (wx:World)=>JT mon day nth wd offs fr to mv y wx hfc.1 hfc.2.1 hfc.2.2.1 hfc.2.2.2.1 hfc.2.2.2.2.1 hfc.2.2.2.2.2.1 hfc.2.2.2.2.2.2.1 hfc.2.2.2.2.2.2.2)
    rw [← hr'] at HIn
    clear hr' hfc
    go_wp2_with (go_at_call 267;refine (HHo.out _).mono ?_;rintro e w4 ⟨rfl,hb4⟩)
    have HM4:=hideS (HKb.out.step hb4)
    clear hb4 HKb HHo
    generalize wr.heap.size=b9 at *
    go_loopw [11] (fun y w2=>∃ (t:Nat) (I:Int),t≤3∧1899≤I∧I≤2201∧y=.int .i64 I∧Hid (I=Y - 1+t)∧Hid (MK2 w A W (.slice (some ⟨b,off,none⟩) N c) fst lst bm L (fun i=>mkK W rs Y (fst+i) k||mkT W r' Y (fst+i) t) b9 mv w2)) (fun y _=>(Y+2 - intOf y).toNat)
    case atStart=>exact⟨0,Y - 1,by omega,by omega,by omega,rfl,by show _=_;omega,HM4.out.congr (fun i _=>(Bool.or_false _).symm)⟩
    case round=>
     clear HM4
     obtain⟨t,I,ht,hI0,hI1,rfl,HI,HM⟩:=hrel
     by_cases ht3:t<3
     ·have hIY:I≤Y+1:=by have:=HI.out;omega
      have HDy:=hideS (fun wx=>HIn.out I wx)
      obtain⟨o,ho⟩:∃ o,bQ r' I=o:=⟨_,rfl⟩
      rw [ho] at HDy
      have HOo:=hideS ho
      clear ho
      rcases o with _ | g
      ·have HEq:=hideS (fun (i:Nat)=>iQ (W:=W) (rs:=rs) (f:=fst) (k:=k) HOo.out HI.out i)
       dsimp only [Option.isSome] at HDy
       go_wp2_with (go_at_call 356;refine (HDy.out _).mono ?_;rintro e w5 ⟨N5,rfl,_,hb5⟩;have HM5:=hideS (HM.out.step hb5);clear hb5)
       go_roundw
       case rel=>exact⟨t+1,I+1,by omega,by omega,by omega,rfl,by have:=HI.out;show _=_;omega,HM5.out.congr (fun i _=>HEq.out i)⟩
       case measure=>simp [intOf];omega
      ·have HRg:=mO HF.out HOo.out
       obtain⟨g0,g1⟩:=HRg
       obtain⟨u,dd,hu⟩:=oY HH.out.w0 HH.out.w1 g
       have HMv:=hideS (fun wx=>iP W g mv u dd wx g0 (by omega) hu)
       have HX:Hid (mvI W g r'.mv=co W g mv u dd):=by show _=_;rw [HMr.out,wu hu]
       have hx0:g - 6≤co W g mv u dd∧co W g mv u dd≤g+6:=by
        have:=hu.ub;have:=hu.db
        unfold co;split
        ·omega
        ·split<;>omega
       obtain⟨x,hx⟩:∃ x,co W g mv u dd=x:=⟨_,rfl⟩
       rw [hx] at HMv HX hx0
       obtain⟨x0,x1⟩:=hx0
       clear hx hu
       dsimp only [Option.isSome] at HDy
       have HBt:=hideS (fun wx=>az x fst lst wx)
       by_cases hin:fst≤x∧x≤lst
       ·rw [decide_eq_true hin] at HBt
        obtain⟨i0,hi0⟩:∃ i0:Nat,x - fst=i0:=⟨(x - fst).toNat,by omega⟩
        have hiL:i0<L:=by omega
        have HEq:=hideS (fun (i:Nat)=>mP (W:=W) (rs:=rs) (f:=fst) (k:=k) (i0:=i0) HOo.out HI.out HX.out (by omega) i)
        have hw0:IntKind.i64.wrap (x - fst)=(i0:Int):=by rw [IntKind.wrap_i64];omega
        have hiL':(i0:Int)<(L:Int):=by omega
        clear hin
        go_wp2_with (go_at_call 356;refine (HDy.out _).mono ?_;rintro e w5 ⟨N5,rfl,hN5,hb5⟩;have HM5:=hideS (HM.out.step hb5);clear hb5;obtain rfl:=hN5 _ rfl)
        have e0:=HM5.out.one.alm.c0
        have e8:=HM5.out.c8
        clear hN5
        go_quiet ((go_at_call 333;exact Calls.quiet_of_same (HMv.out _)))
        obtain⟨w6,hw6⟩:∃ w6,w6=w5.drewN nq:=⟨_,rfl⟩
        rw [← hw6]
        have HM6:Hid (MK2 w A W (.slice (some ⟨b,off,none⟩) N c) fst lst bm L (fun i=>mkK W rs Y (fst+i) k||mkT W r' Y (fst+i) t) b9 mv w6):=by rw [hw6];exact HM5.out.drewN _
        clear hw6 e0 e8 HM5
        have e2:=HM6.out.one.alm.c2
        have e3:=HM6.out.one.alm.c3
        go_wp2_with fail
        go_quiet ((go_at_call 315;exact Calls.quiet_of_same (HBt.out _)))
        obtain⟨w7,hw7⟩:∃ w7,w7=w6.drewN nq:=⟨_,rfl⟩
        rw [← hw7]
        have HM7:Hid (MK2 w A W (.slice (some ⟨b,off,none⟩) N c) fst lst bm L (fun i=>mkK W rs Y (fst+i) k||mkT W r' Y (fst+i) t) b9 mv w7):=by rw [hw7];exact HM6.out.drewN _
        clear hw7 e2 e3 HM6
        have e2:=HM7.out.one.alm.c2
        have e4:=HM7.out.one.alm.c4
        have em:=HM7.out.one.row.cell (i:=i0) hiL
        have ef:=HM7.out.one.row.frozen i0
        go_wp2_with fail
        go_region
        have HM8:=hideS ((HM7.out.set i0).congr (fun i _=>HEq.out i))
        clear HM7 e2 e4 em ef
        go_wp2_with fail
        go_roundw
        case rel=>exact⟨t+1,I+1,by omega,by omega,by omega,rfl,by have:=HI.out;show _=_;omega,HM8.out.drewN 1⟩
        case measure=>simp [intOf];omega
       ·rw [decide_eq_false hin] at HBt
        have HEq:=hideS (fun (i:Nat) (hi:i<L)=>kD (W:=W) (rs:=rs) (f:=fst) (k:=k) (L:=L) HOo.out HI.out HX.out (by omega) i hi)
        clear hin
        go_wp2_with (go_at_call 356;refine (HDy.out _).mono ?_;rintro e w5 ⟨N5,rfl,hN5,hb5⟩;have HM5:=hideS (HM.out.step hb5);clear hb5;obtain rfl:=hN5 _ rfl)
        have e0:=HM5.out.one.alm.c0
        have e8:=HM5.out.c8
        clear hN5
        go_quiet ((go_at_call 333;exact Calls.quiet_of_same (HMv.out _)))
        obtain⟨w6,hw6⟩:∃ w6,w6=w5.drewN nq:=⟨_,rfl⟩
        rw [← hw6]
        have HM6:Hid (MK2 w A W (.slice (some ⟨b,off,none⟩) N c) fst lst bm L (fun i=>mkK W rs Y (fst+i) k||mkT W r' Y (fst+i) t) b9 mv w6):=by rw [hw6];exact HM5.out.drewN _
        clear hw6 e0 e8 HM5
        have e2:=HM6.out.one.alm.c2
        have e3:=HM6.out.one.alm.c3
        go_wp2_with fail
        go_quiet ((go_at_call 315;exact Calls.quiet_of_same (HBt.out _)))
        go_wp2_with fail
        go_roundw
        case rel=>exact⟨t+1,I+1,by omega,by omega,by omega,rfl,by have:=HI.out;show _=_;omega,(HM6.out.drewN _).congr (fun i hi=>HEq.out i hi)⟩
        case measure=>simp [intOf];omega
     ·have hIY:¬ I≤Y+1:=by have:=HI.out;omega
      have HNk:Hid (MK w A W (.slice (some ⟨b,off,none⟩) N c) fst lst bm L (fun i=>mkK W rs Y (fst+i) (k+1)) wr):=by
       obtain rfl:t=3:=by omega
       exact HM.out.one.congr (fun i _=>by show _=(mkK W rs Y (fst+i) k||mkT W (rs.getD k iu) Y (fst+i) 3);rw [HRk.out])
      go_wp2_with fail
      go_roundw
      case rel=>exact⟨k+1,by omega,by go_num,HNk⟩
      case measure=>simp [intOf];omega
   ·have HHo:=hideS (fun wx=>(bf 3 mon day nth wd offs fr to mv wx (by omega):Calls Tryz.prog 267 _ wx fun e w'=>e=.returned (.iface 340 _)∧Below wx.heap.size wx w'))
    have HIn:=hideS (fun (y:Int) (wx:World)=>JV mon day nth wd offs fr to mv y wx hfc.1 hfc.2.1 hfc.2.2.1 hfc.2.2.2)
    rw [← hr'] at HIn
    clear hr' hfc
    go_wp2_with (go_at_call 267;refine (HHo.out _).mono ?_;rintro e w4 ⟨rfl,hb4⟩)
    have HM4:=hideS (HKb.out.step hb4)
    clear hb4 HKb HHo
    generalize wr.heap.size=b9 at *
    go_loopw [11] (fun y w2=>∃ (t:Nat) (I:Int),t≤3∧1899≤I∧I≤2201∧y=.int .i64 I∧Hid (I=Y - 1+t)∧Hid (MK2 w A W (.slice (some ⟨b,off,none⟩) N c) fst lst bm L (fun i=>mkK W rs Y (fst+i) k||mkT W r' Y (fst+i) t) b9 mv w2)) (fun y _=>(Y+2 - intOf y).toNat)
    case atStart=>exact⟨0,Y - 1,by omega,by omega,by omega,rfl,by show _=_;omega,HM4.out.congr (fun i _=>(Bool.or_false _).symm)⟩
    case round=>
     clear HM4
     obtain⟨t,I,ht,hI0,hI1,rfl,HI,HM⟩:=hrel
     by_cases ht3:t<3
     ·have hIY:I≤Y+1:=by have:=HI.out;omega
      have HDy:=hideS (fun wx=>HIn.out I wx)
      obtain⟨o,ho⟩:∃ o,bQ r' I=o:=⟨_,rfl⟩
      rw [ho] at HDy
      have HOo:=hideS ho
      clear ho
      rcases o with _ | g
      ·have HEq:=hideS (fun (i:Nat)=>iQ (W:=W) (rs:=rs) (f:=fst) (k:=k) HOo.out HI.out i)
       dsimp only [Option.isSome] at HDy
       go_wp2_with (go_at_call 358;refine (HDy.out _).mono ?_;rintro e w5 ⟨N5,rfl,_,hb5⟩;have HM5:=hideS (HM.out.step hb5);clear hb5)
       go_roundw
       case rel=>exact⟨t+1,I+1,by omega,by omega,by omega,rfl,by have:=HI.out;show _=_;omega,HM5.out.congr (fun i _=>HEq.out i)⟩
       case measure=>simp [intOf];omega
      ·have HRg:=mO HF.out HOo.out
       obtain⟨g0,g1⟩:=HRg
       obtain⟨u,dd,hu⟩:=oY HH.out.w0 HH.out.w1 g
       have HMv:=hideS (fun wx=>iP W g mv u dd wx g0 (by omega) hu)
       have HX:Hid (mvI W g r'.mv=co W g mv u dd):=by show _=_;rw [HMr.out,wu hu]
       have hx0:g - 6≤co W g mv u dd∧co W g mv u dd≤g+6:=by
        have:=hu.ub;have:=hu.db
        unfold co;split
        ·omega
        ·split<;>omega
       obtain⟨x,hx⟩:∃ x,co W g mv u dd=x:=⟨_,rfl⟩
       rw [hx] at HMv HX hx0
       obtain⟨x0,x1⟩:=hx0
       clear hx hu
       dsimp only [Option.isSome] at HDy
       have HBt:=hideS (fun wx=>az x fst lst wx)
       by_cases hin:fst≤x∧x≤lst
       ·rw [decide_eq_true hin] at HBt
        obtain⟨i0,hi0⟩:∃ i0:Nat,x - fst=i0:=⟨(x - fst).toNat,by omega⟩
        have hiL:i0<L:=by omega
        have HEq:=hideS (fun (i:Nat)=>mP (W:=W) (rs:=rs) (f:=fst) (k:=k) (i0:=i0) HOo.out HI.out HX.out (by omega) i)
        have hw0:IntKind.i64.wrap (x - fst)=(i0:Int):=by rw [IntKind.wrap_i64];omega
        have hiL':(i0:Int)<(L:Int):=by omega
        clear hin
        go_wp2_with (go_at_call 358;refine (HDy.out _).mono ?_;rintro e w5 ⟨N5,rfl,hN5,hb5⟩;have HM5:=hideS (HM.out.step hb5);clear hb5;obtain rfl:=hN5 _ rfl)
        have e0:=HM5.out.one.alm.c0
        have e8:=HM5.out.c8
        clear hN5
        go_quiet ((go_at_call 333;exact Calls.quiet_of_same (HMv.out _)))
        obtain⟨w6,hw6⟩:∃ w6,w6=w5.drewN nq:=⟨_,rfl⟩
        rw [← hw6]
        have HM6:Hid (MK2 w A W (.slice (some ⟨b,off,none⟩) N c) fst lst bm L (fun i=>mkK W rs Y (fst+i) k||mkT W r' Y (fst+i) t) b9 mv w6):=by rw [hw6];exact HM5.out.drewN _
        clear hw6 e0 e8 HM5
        have e2:=HM6.out.one.alm.c2
        have e3:=HM6.out.one.alm.c3
        go_wp2_with fail
        go_quiet ((go_at_call 315;exact Calls.quiet_of_same (HBt.out _)))
        obtain⟨w7,hw7⟩:∃ w7,w7=w6.drewN nq:=⟨_,rfl⟩
        rw [← hw7]
        have HM7:Hid (MK2 w A W (.slice (some ⟨b,off,none⟩) N c) fst lst bm L (fun i=>mkK W rs Y (fst+i) k||mkT W r' Y (fst+i) t) b9 mv w7):=by rw [hw7];exact HM6.out.drewN _
        clear hw7 e2 e3 HM6
        have e2:=HM7.out.one.alm.c2
        have e4:=HM7.out.one.alm.c4
        have em:=HM7.out.one.row.cell (i:=i0) hiL
        have ef:=HM7.out.one.row.frozen i0
        go_wp2_with fail
        go_region
        have HM8:=hideS ((HM7.out.set i0).congr (fun i _=>HEq.out i))
        clear HM7 e2 e4 em ef
        go_wp2_with fail
        go_roundw
        case rel=>exact⟨t+1,I+1,by omega,by omega,by omega,rfl,by have:=HI.out;show _=_;omega,HM8.out.drewN 1⟩
        case measure=>simp [intOf];omega
       ·rw [decide_eq_false hin] at HBt
        have HEq:=hideS (fun (i:Nat) (hi:i<L)=>kD (W:=W) (rs:=rs) (f:=fst) (k:=k) (L:=L) HOo.out HI.out HX.out (by omega) i hi)
        clear hin
        go_wp2_with (go_at_call 358;refine (HDy.out _).mono ?_;rintro e w5 ⟨N5,rfl,hN5,hb5⟩;have HM5:=hideS (HM.out.step hb5);clear hb5;obtain rfl:=hN5 _ rfl)
        have e0:=HM5.out.one.alm.c0
        have e8:=HM5.out.c8
        clear hN5
        go_quiet ((go_at_call 333;exact Calls.quiet_of_same (HMv.out _)))
        obtain⟨w6,hw6⟩:∃ w6,w6=w5.drewN nq:=⟨_,rfl⟩
        rw [← hw6]
        have HM6:Hid (MK2 w A W (.slice (some ⟨b,off,none⟩) N c) fst lst bm L (fun i=>mkK W rs Y (fst+i) k||mkT W r' Y (fst+i) t) b9 mv w6):=by rw [hw6];exact HM5.out.drewN _
        clear hw6 e0 e8 HM5
        have e2:=HM6.out.one.alm.c2
        have e3:=HM6.out.one.alm.c3
        go_wp2_with fail
        go_quiet ((go_at_call 315;exact Calls.quiet_of_same (HBt.out _)))
        go_wp2_with fail
        go_roundw
        case rel=>exact⟨t+1,I+1,by omega,by omega,by omega,rfl,by have:=HI.out;show _=_;omega,(HM6.out.drewN _).congr (fun i hi=>HEq.out i hi)⟩
        case measure=>simp [intOf];omega
     ·have hIY:¬ I≤Y+1:=by have:=HI.out;omega
      have HNk:Hid (MK w A W (.slice (some ⟨b,off,none⟩) N c) fst lst bm L (fun i=>mkK W rs Y (fst+i) (k+1)) wr):=by
       obtain rfl:t=3:=by omega
       exact HM.out.one.congr (fun i _=>by show _=(mkK W rs Y (fst+i) k||mkT W (rs.getD k iu) Y (fst+i) 3);rw [HRk.out])
      go_wp2_with fail
      go_roundw
      case rel=>exact⟨k+1,by omega,by go_num,HNk⟩
      case measure=>simp [intOf];omega
   ·have HHo:=hideS (fun wx=>(bf 4 mon day nth wd offs fr to mv wx (by omega):Calls Tryz.prog 267 _ wx fun e w'=>e=.returned (.iface 341 _)∧Below wx.heap.size wx w'))
    have HIn:=hideS (fun (y:Int) (wx:World)=>JU mon day nth wd offs fr to mv y wx hfc.1 hfc.2)
    rw [← hr'] at HIn
    clear hr' hfc
    go_wp2_with (go_at_call 267;refine (HHo.out _).mono ?_;rintro e w4 ⟨rfl,hb4⟩)
    have HM4:=hideS (HKb.out.step hb4)
    clear hb4 HKb HHo
    generalize wr.heap.size=b9 at *
    go_loopw [11] (fun y w2=>∃ (t:Nat) (I:Int),t≤3∧1899≤I∧I≤2201∧y=.int .i64 I∧Hid (I=Y - 1+t)∧Hid (MK2 w A W (.slice (some ⟨b,off,none⟩) N c) fst lst bm L (fun i=>mkK W rs Y (fst+i) k||mkT W r' Y (fst+i) t) b9 mv w2)) (fun y _=>(Y+2 - intOf y).toNat)
    case atStart=>exact⟨0,Y - 1,by omega,by omega,by omega,rfl,by show _=_;omega,HM4.out.congr (fun i _=>(Bool.or_false _).symm)⟩
    case round=>
     clear HM4
     obtain⟨t,I,ht,hI0,hI1,rfl,HI,HM⟩:=hrel
     by_cases ht3:t<3
     ·have hIY:I≤Y+1:=by have:=HI.out;omega
      have HDy:=hideS (fun wx=>HIn.out I wx)
      obtain⟨o,ho⟩:∃ o,bQ r' I=o:=⟨_,rfl⟩
      rw [ho] at HDy
      have HOo:=hideS ho
      clear ho
      rcases o with _ | g
      ·have HEq:=hideS (fun (i:Nat)=>iQ (W:=W) (rs:=rs) (f:=fst) (k:=k) HOo.out HI.out i)
       dsimp only [Option.isSome] at HDy
       go_wp2_with (go_at_call 362;refine (HDy.out _).mono ?_;rintro e w5 ⟨N5,rfl,_,hb5⟩;have HM5:=hideS (HM.out.step hb5);clear hb5)
       go_roundw
       case rel=>exact⟨t+1,I+1,by omega,by omega,by omega,rfl,by have:=HI.out;show _=_;omega,HM5.out.congr (fun i _=>HEq.out i)⟩
       case measure=>simp [intOf];omega
      ·have HRg:=mO HF.out HOo.out
       obtain⟨g0,g1⟩:=HRg
       obtain⟨u,dd,hu⟩:=oY HH.out.w0 HH.out.w1 g
       have HMv:=hideS (fun wx=>iP W g mv u dd wx g0 (by omega) hu)
       have HX:Hid (mvI W g r'.mv=co W g mv u dd):=by show _=_;rw [HMr.out,wu hu]
       have hx0:g - 6≤co W g mv u dd∧co W g mv u dd≤g+6:=by
        have:=hu.ub;have:=hu.db
        unfold co;split
        ·omega
        ·split<;>omega
       obtain⟨x,hx⟩:∃ x,co W g mv u dd=x:=⟨_,rfl⟩
       rw [hx] at HMv HX hx0
       obtain⟨x0,x1⟩:=hx0
       clear hx hu
       dsimp only [Option.isSome] at HDy
       have HBt:=hideS (fun wx=>az x fst lst wx)
       by_cases hin:fst≤x∧x≤lst
       ·rw [decide_eq_true hin] at HBt
        obtain⟨i0,hi0⟩:∃ i0:Nat,x - fst=i0:=⟨(x - fst).toNat,by omega⟩
        have hiL:i0<L:=by omega
        have HEq:=hideS (fun (i:Nat)=>mP (W:=W) (rs:=rs) (f:=fst) (k:=k) (i0:=i0) HOo.out HI.out HX.out (by omega) i)
        have hw0:IntKind.i64.wrap (x - fst)=(i0:Int):=by rw [IntKind.wrap_i64];omega
        have hiL':(i0:Int)<(L:Int):=by omega
        clear hin
        go_wp2_with (go_at_call 362;refine (HDy.out _).mono ?_;rintro e w5 ⟨N5,rfl,hN5,hb5⟩;have HM5:=hideS (HM.out.step hb5);clear hb5;obtain rfl:=hN5 _ rfl)
        have e0:=HM5.out.one.alm.c0
        have e8:=HM5.out.c8
        clear hN5
        go_quiet ((go_at_call 333;exact Calls.quiet_of_same (HMv.out _)))
        obtain⟨w6,hw6⟩:∃ w6,w6=w5.drewN nq:=⟨_,rfl⟩
        rw [← hw6]
        have HM6:Hid (MK2 w A W (.slice (some ⟨b,off,none⟩) N c) fst lst bm L (fun i=>mkK W rs Y (fst+i) k||mkT W r' Y (fst+i) t) b9 mv w6):=by rw [hw6];exact HM5.out.drewN _
        clear hw6 e0 e8 HM5
        have e2:=HM6.out.one.alm.c2
        have e3:=HM6.out.one.alm.c3
        go_wp2_with fail
        go_quiet ((go_at_call 315;exact Calls.quiet_of_same (HBt.out _)))
        obtain⟨w7,hw7⟩:∃ w7,w7=w6.drewN nq:=⟨_,rfl⟩
        rw [← hw7]
        have HM7:Hid (MK2 w A W (.slice (some ⟨b,off,none⟩) N c) fst lst bm L (fun i=>mkK W rs Y (fst+i) k||mkT W r' Y (fst+i) t) b9 mv w7):=by rw [hw7];exact HM6.out.drewN _
        clear hw7 e2 e3 HM6
        have e2:=HM7.out.one.alm.c2
        have e4:=HM7.out.one.alm.c4
        have em:=HM7.out.one.row.cell (i:=i0) hiL
        have ef:=HM7.out.one.row.frozen i0
        go_wp2_with fail
        go_region
        have HM8:=hideS ((HM7.out.set i0).congr (fun i _=>HEq.out i))
        clear HM7 e2 e4 em ef
        go_wp2_with fail
        go_roundw
        case rel=>exact⟨t+1,I+1,by omega,by omega,by omega,rfl,by have:=HI.out;show _=_;omega,HM8.out.drewN 1⟩
        case measure=>simp [intOf];omega
       ·rw [decide_eq_false hin] at HBt
        have HEq:=hideS (fun (i:Nat) (hi:i<L)=>kD (W:=W) (rs:=rs) (f:=fst) (k:=k) (L:=L) HOo.out HI.out HX.out (by omega) i hi)
        clear hin
        go_wp2_with (go_at_call 362;refine (HDy.out _).mono ?_;rintro e w5 ⟨N5,rfl,hN5,hb5⟩;have HM5:=hideS (HM.out.step hb5);clear hb5;obtain rfl:=hN5 _ rfl)
        have e0:=HM5.out.one.alm.c0
        have e8:=HM5.out.c8
        clear hN5
        go_quiet ((go_at_call 333;exact Calls.quiet_of_same (HMv.out _)))
        obtain⟨w6,hw6⟩:∃ w6,w6=w5.drewN nq:=⟨_,rfl⟩
        rw [← hw6]
        have HM6:Hid (MK2 w A W (.slice (some ⟨b,off,none⟩) N c) fst lst bm L (fun i=>mkK W rs Y (fst+i) k||mkT W r' Y (fst+i) t) b9 mv w6):=by rw [hw6];exact HM5.out.drewN _
        clear hw6 e0 e8 HM5
        have e2:=HM6.out.one.alm.c2
        have e3:=HM6.out.one.alm.c3
        go_wp2_with fail
        go_quiet ((go_at_call 315;exact Calls.quiet_of_same (HBt.out _)))
        go_wp2_with fail
        go_roundw
        case rel=>exact⟨t+1,I+1,by omega,by omega,by omega,rfl,by have:=HI.out;show _=_;omega,(HM6.out.drewN _).congr (fun i hi=>HEq.out i hi)⟩
        case measure=>simp [intOf];omega
     ·have hIY:¬ I≤Y+1:=by have:=HI.out;omega
      have HNk:Hid (MK w A W (.slice (some ⟨b,off,none⟩) N c) fst lst bm L (fun i=>mkK W rs Y (fst+i) (k+1)) wr):=by
       obtain rfl:t=3:=by omega
       exact HM.out.one.congr (fun i _=>by show _=(mkK W rs Y (fst+i) k||mkT W (rs.getD k iu) Y (fst+i) 3);rw [HRk.out])
      go_wp2_with fail
      go_roundw
      case rel=>exact⟨k+1,by omega,by go_num,HNk⟩
      case measure=>simp [intOf];omega
  ·have hge:¬ (k:Int)<N:=by omega
   obtain rfl:k=N:=by omega
   have HE:Hid (MK w A W (.slice p k c) fst lst bm L (fun i=>tx W rs (fst+i) Y) wr):=HMk.out.congr (fun i hi=>by
    obtain⟨y0,y1,hf,hl⟩:=HYr.out
    rw [← JL HH.out.w0 HH.out.w1 HH.out.fit (KB y0 y1 (by omega) (by omega)),HN.out])
   go_wp2_with fail
   go_end0
   exact⟨rfl,bm,L,by rw [← HYr.out.2.2.1];exact HL.out,HE.out⟩
end Go.Proofs.YtpddmnmhdahnlaaGreat
namespace Go.Proofs.YtpddmnmhdahnlaaGreat
open Go.RowKit

theorem MK.base {w wr:World} {A:Nat} {W:Int} {v:Value} {f l:Int} {bm L:Nat} {F:Nat→Bool} (h:MK w A W v f l bm L F wr):MK wr A W v f l bm L F wr:=⟨h.alm,h.row,Below.refl _ _,h.lt⟩
inductive AlmS (w:World) (A:Nat) (W:Int) (v:Value) (rs:List Rul):Prop where
 | none:AlmC w A W v 0 (-1) (.slice none 0 0)→AlmS w A W v rs
 | year (Y:Int) (bm L:Nat):1900≤Y→Y≤2199→(L:Int)=nyI (Y+1) - nyI Y→MK w A W v (nyI Y) (nyI (Y+1) - 1) bm L (fun i=>tx W rs (nyI Y+i) Y) w→AlmS w A W v rs
theorem AlmS.step {w w':World} {A:Nat} {W:Int} {v:Value} {rs:List Rul} (h:AlmS w A W v rs) (hb:Below w.heap.size w w'):AlmS w' A W v rs:=by
 cases h with
 | none h=>exact .none (h.below hb h.lt)
 | year Y bm L a b c h=>exact .year Y bm L a b c (h.step hb).base
theorem AlmS.lt {w:World} {A:Nat} {W:Int} {v:Value} {rs:List Rul} (h:AlmS w A W v rs):A<w.heap.size:=by
 cases h with
 | none h=>exact h.lt
 | year Y bm L a b c h=>exact h.alm.lt
theorem lw (w:World) (q:Nat):Below w.heap.size w (w.drewN q):=below_drewN' (Below.refl _ _)
theorem RSrc.low {w w':World} {p:Option Addr} {b off A:Nat} {rs:List Rul} (h:RSrc w p b off rs) (hb:Below A w w') (hA:0<rs.length→b<A):RSrc w' p b off rs:=
 ⟨h.at_,fun hx=>Nat.lt_of_lt_of_le (h.lt hx) hb.size,fun j hj=>(h.cell j hj).below hb (hA (by omega))⟩

set_option maxHeartbeats 1600000 in
theorem LM (A:Nat) (W n f l:Int) (v:Value) (bm L i0:Nat) (R:Bool) (F:Nat→Bool) (w:World) (hM:MK w A W v f l bm L F w) (h0:f≤n) (h1:n≤l) (hi:n - f=i0) (hiL:i0<L) (hR:F i0=R) (hf:0≤f) (hl:l≤1000000) :
  Calls Tryz.prog 317 #[.pointer (some ⟨A,0,none⟩),.int .i64 n] w fun e w'=>e=.returned (.bool R)∧∃ q,w'=w.drewN q:=by
 have HBt:=hideS (fun wx=>az n f l wx)
 rw [decide_eq_true ⟨h0,h1⟩] at HBt
 have HM:=hideS hM
 have c2:=hM.alm.c2
 have c3:=hM.alm.c3
 have hw0:IntKind.i64.wrap (n - f)=(i0:Int):=by rw [IntKind.wrap_i64];omega
 have hiL':(i0:Int)<(L:Int):=by omega
 have HR:=hideS hR
 clear hM hR
 go_enter Tryz.func317,Tryz.ntmps317
 go_wp2_with fail
 go_quiet ((go_at_call 315;exact Calls.quiet_of_same (HBt.out _)))
 obtain⟨w1,hw1⟩:∃ w1,w1=w.drewN nq:=⟨_,rfl⟩
 rw [← hw1]
 have HM1:Hid (MK w A W v f l bm L F w1):=by rw [hw1];exact HM.out.drewN _
 have HQ:=hideS hw1
 clear hw1 c2 c3 HM
 have e2:=HM1.out.alm.c2
 have e4:=HM1.out.alm.c4
 have em:=HM1.out.row.cell (i:=i0) hiL
 rw [HR.out] at em
 go_wp2_with fail
 go_region
 go_wp2_with fail
 go_ret
 exact⟨rfl,nq+1,by rw [HQ.out];exact World.drewN_drewN _ _ 1⟩

set_option maxHeartbeats 1600000 in
theorem JW (A:Nat) (W n f l fst lst:Int) (v mm:Value) (i0 L:Nat) (R:Bool) (F:Nat→Bool) (w:World) (hA:AlmC w A W v f l mm) (hno:¬ (f≤n∧n≤l))
  (HMk:Hid (∀ w1,Below w.heap.size w w1→AlmC w1 A W v f l mm→Calls Tryz.prog 326 #[.pointer (some ⟨A,0,none⟩),.int .i64 n] w1 fun e w'=>e=.returned (.tuple #[])∧∃ bm,MK w1 A W v fst lst bm L F w'))
  (h0:fst≤n) (h1:n≤lst) (hi:n - fst=i0) (hiL:i0<L) (hR:F i0=R) (hf:0≤fst) (hl:lst≤1000000) :
  Calls Tryz.prog 317 #[.pointer (some ⟨A,0,none⟩),.int .i64 n] w fun e w'=>e=.returned (.bool R)∧∃ bm,MK w' A W v fst lst bm L F w'∧Below A w w':=by
 have HBt:=hideS (fun wx=>az n f l wx)
 rw [decide_eq_false hno] at HBt
 have HA:=hideS hA
 have c2:=hA.c2
 have c3:=hA.c3
 have hw0:IntKind.i64.wrap (n - fst)=(i0:Int):=by rw [IntKind.wrap_i64];omega
 have hiL':(i0:Int)<(L:Int):=by omega
 have HR:=hideS hR
 clear hA hR hno
 go_enter Tryz.func317,Tryz.ntmps317
 go_wp2_with fail
 go_quiet ((go_at_call 315;exact Calls.quiet_of_same (HBt.out _)))
 obtain⟨w1,hw1⟩:∃ w1,w1=w.drewN nq:=⟨_,rfl⟩
 rw [← hw1]
 have HB1:Hid (Below w.heap.size w w1):=by rw [hw1];exact lw _ _
 have HA1:=hideS (HA.out.below HB1.out HA.out.lt)
 have HBA:Hid (Below A w w1):=HB1.out.mono (Nat.le_of_lt HA.out.lt)
 clear hw1 c2 c3 HA
 go_wp2_with (go_at_call 326;refine (HMk.out _ HB1.out HA1.out).mono ?_;rintro e w2 ⟨rfl,bm,hM⟩)
 have HM1:=hideS hM
 clear hM
 have e2:=HM1.out.alm.c2
 have e4:=HM1.out.alm.c4
 have em:=HM1.out.row.cell (i:=i0) hiL
 rw [HR.out] at em
 go_region
 go_wp2_with fail
 go_ret
 exact⟨rfl,bm,(HM1.out.drewN 1).base,HBA.out.trans (HM1.out.drewN 1).low⟩

structure AlmE (A:Nat) (W:Int) (p:Option Addr) (b off c:Nat) (rs:List Rul) (w:World):Prop where
 ok:OkC W rs
 src:RSrc w p b off rs
 low:0<rs.length→b<A
 st:AlmS w A W (.slice p rs.length c) rs
theorem AlmE.step {w w':World} {A:Nat} {W:Int} {p:Option Addr} {b off c:Nat} {rs:List Rul} (h:AlmE A W p b off c rs w) (hb:Below w.heap.size w w'):AlmE A W p b off c rs w':=
 ⟨h.ok,h.src.below hb,h.low,h.st.step hb⟩

theorem JX (A:Nat) (W n:Int) (p:Option Addr) (b off c:Nat) (rs:List Rul) (w:World) (h:AlmE A W p b off c rs w) (hn:an n) :
  Calls Tryz.prog 317 #[.pointer (some ⟨A,0,none⟩),.int .i64 n] w fun e w'=>e=.returned (.bool (tx W rs n (yrI n)))∧AlmE A W p b off c rs w'∧Below A w w':=by
 obtain⟨y0,y1,n0,n1⟩:=MB hn
 obtain⟨y,m,d,hd⟩:=gJ hn.1 hn.2
 have hY:=rR hd
 rw [hY] at y0 y1 n0 n1 ⊢
 have hfst:0≤nyI y:=by have:=lX y0;omega
 have hlst:nyI (y+1) - 1≤1000000:=by have:=lY (y:=y+1) (by omega);omega
 have mark:∀ f l mm,AlmC w A W (.slice p rs.length c) f l mm→¬ (f≤n∧n≤l)→Calls Tryz.prog 317 #[.pointer (some ⟨A,0,none⟩),.int .i64 n] w fun e w'=>e=.returned (.bool (tx W rs n y))∧AlmE A W p b off c rs w'∧Below A w w':=fun f l mm hC hno=>by
  obtain⟨L,hL⟩:∃ L:Nat,(L:Int)=nyI (y+1) - nyI y:=⟨(nyI (y+1) - nyI y).toNat,by omega⟩
  refine (JW A W n f l (nyI y) (nyI (y+1) - 1) _ mm (n - nyI y).toNat L _ (fun i=>tx W rs (nyI y+i) y) w hC hno (fun w1 hb hC1=>?_) n0 (by omega) (by omega) (by omega) rfl hfst hlst).mono ?_
  ·refine (GO A W n y m d p b off c rs f l mm w1 h.ok (h.src.below hb) h.low hC1 hd).mono ?_
   rintro e w' ⟨he,bm,L',hL',hM⟩
   obtain rfl:L'=L:=by omega
   exact⟨he,bm,hM⟩
  ·rintro e w' ⟨he,bm,hM,hb⟩
   refine⟨?_,⟨h.ok,h.src.low hb h.low,h.low,.year y bm L y0 y1 hL hM⟩,hb⟩
   rw [he,show nyI y+(((n - nyI y).toNat:Nat):Int)=n by omega]
 rcases h.st with hC | ⟨Y,bm,L,Y0,Y1,hL,hM⟩
 ·exact mark _ _ _ hC (fun a=>by omega)
 ·by_cases hin:nyI Y≤n∧n≤nyI (Y+1) - 1
  ·have hYy:Y=y:=by rw [← hY];exact (KB Y0 Y1 hin.1 (by omega)).symm
   subst hYy
   refine (LM A W n (nyI Y) (nyI (Y+1) - 1) _ bm L (n - nyI Y).toNat _ _ w hM n0 (by omega) (by omega) (by omega) rfl hfst hlst).mono ?_
   rintro e w' ⟨he,q,rfl⟩
   refine⟨?_,h.step (lw _ _),(lw _ _).mono (Nat.le_of_lt h.st.lt)⟩
   rw [he,show nyI Y+(((n - nyI Y).toNat:Nat):Int)=n by omega]
  ·exact mark _ _ _ hM.alm hin

set_option maxHeartbeats 800000 in
theorem GP (A:Nat) (W n:Int) (p:Option Addr) (b off c:Nat) (rs:List Rul) (w:World) (h:AlmE A W p b off c rs w) (hn:an n) :
  Calls Tryz.prog 295 #[.pointer (some ⟨A,0,none⟩),.int .i64 n] w fun e w'=>e=.returned (.bool (opB W rs n))∧AlmE A W p b off c rs w'∧Below A w w':=by
 have HW:=hideS (fun wx=>jf W n wx (by have:=hn.1;omega) (by have:=hn.2;omega))
 have HH:=hideS (JX A W n p b off c rs w h hn)
 have c0:w.cell? ⟨A,0,none⟩=some (.int .i64 W):=by
  rcases h.st with hC | ⟨Y,bm,L,Y0,Y1,hL,hM⟩
  ·exact hC.c0
  ·exact hM.alm.c0
 unfold opB
 have HE:=hideS h
 clear h hn
 generalize tx W rs n (yrI n)=H at *
 generalize dB W n=F at *
 cases F
 ·go_enter Tryz.func295,Tryz.ntmps295
  go_wp2_with (first | (go_at_call 316;refine (gM (HW.out _)).mono ?_;rintro e w1 ⟨rfl,rfl⟩) | (go_at_call 317;refine HH.out.mono ?_;rintro e w1 ⟨rfl,hE,hb⟩))
  go_ret
  exact⟨rfl,hE,hb⟩
 ·go_enter Tryz.func295,Tryz.ntmps295
  go_wp2_with (go_at_call 316;refine (gM (HW.out _)).mono ?_;rintro e w1 ⟨rfl,rfl⟩)
  go_ret
  exact⟨rfl,HE.out,Below.refl _ _⟩
end Go.Proofs.YtpddmnmhdahnlaaGreat
namespace Go.Proofs.YtpddmnmhdahnlaaGreat
open Go.RowKit

def OpH (A:Nat) (op:Int→Bool) (E:World→Prop):Prop:=
 ∀ x w,an x→E w→Calls Tryz.prog 295 #[.pointer (some ⟨A,0,none⟩),.int .i64 x] w fun e w'=>e=.returned (.bool (op x))∧E w'∧Below A w w'
theorem opH (A:Nat) (W:Int) (p:Option Addr) (b off c:Nat) (rs:List Rul):OpH A (opB W rs) (AlmE A W p b off c rs):=
 fun x w hx hE=>GP A W x p b off c rs w hE hx

end Go.Proofs.YtpddmnmhdahnlaaGreat
namespace Go.Proofs.YtpddmnmhdahnlaaGreat
open Go.RowKit

set_option maxHeartbeats 800000 in
theorem CO (A:Nat) (op:Int→Bool) (E:World→Prop) (a b:Int) (w:World) (HO:Hid (OpH A op E)) (HE:Hid (E w)) (ha:an a) (hb:an b) (hab:a≤b) :
  Calls Tryz.prog 262 #[.pointer (some ⟨A,0,none⟩),.int .i64 a,.int .i64 b] w fun e w'=>e=.returned (.int .i64 (cntN op a (b - a).toNat:Nat))∧E w'∧Below A w w':=by
 have a0:=ha.1
 have b1:=hb.2
 clear ha hb
 obtain⟨R,hR⟩:∃ R:Int,((cntN op a (b - a).toNat:Nat):Int)=R:=⟨_,rfl⟩
 rw [hR]
 have HR:=hideS hR
 clear hR
 go_enter Tryz.func262,Tryz.ntmps262
 go_wp2_with fail
 go_loopw [7,8] (fun q i wr=>∃ (j:Nat) (x z:Int),a≤x∧x≤b∧0≤z∧z≤110000∧i=.int .i64 x∧q=.int .i64 z∧Hid (E wr)∧Hid (Below A w wr)∧Hid (x=a+j∧z=(cntN op a j:Nat)∧cntN op a j≤j)) (fun _ i _=>(b - intOf i).toNat)
 case atStart=>exact⟨0,a,0,by omega,by omega,by omega,by omega,rfl,rfl,HE,Below.refl _ _,⟨by omega,rfl,Nat.le_refl _⟩⟩
 case round=>
  clear HE
  obtain⟨j,x,z,x0,x1,z0,z1,rfl,rfl,HE,HB,HJ⟩:=hrel
  by_cases hlt:x<b
  ·have HOx:=hideS (HO.out x wr ⟨by omega,by omega⟩ HE.out)
   have hc:cntN op a (j+1)=cntN op a j+(if op x then 1 else 0):=by rw [HJ.out.1];rfl
   have hle:=Gv op a (j+1)
   have hJ:=HJ.out
   cases hop:op x
   ·rw [hop] at HOx hc
    rw [if_neg Bool.false_ne_true] at hc
    have HJ':Hid (x+1=a+((j+1:Nat):Int)∧z=(cntN op a (j+1):Nat)∧cntN op a (j+1)≤j+1):=⟨by omega,by omega,hle⟩
    clear hc hle hJ hop
    go_wp2_with (go_at_call 295;refine HOx.out.mono ?_;rintro e w1 ⟨rfl,hE1,hb1⟩)
    have HE1:=hideS hE1
    have HB1:=hideS (HB.out.trans hb1)
    clear hE1 hb1
    go_roundw
    case rel=>exact⟨j+1,x+1,z,by omega,by omega,by omega,by omega,rfl,rfl,HE1,HB1,HJ'⟩
    case measure=>simp [intOf];omega
   ·rw [hop] at HOx hc
    rw [if_pos rfl] at hc
    have HJ':Hid (x+1=a+((j+1:Nat):Int)∧z+1=(cntN op a (j+1):Nat)∧cntN op a (j+1)≤j+1):=⟨by omega,by omega,hle⟩
    have z2:z+1≤110000:=by omega
    clear hc hle hJ hop
    go_wp2_with (go_at_call 295;refine HOx.out.mono ?_;rintro e w1 ⟨rfl,hE1,hb1⟩)
    have HE1:=hideS hE1
    have HB1:=hideS (HB.out.trans hb1)
    clear hE1 hb1
    go_roundw
    case rel=>exact⟨j+1,x+1,z+1,by omega,by omega,by omega,by omega,rfl,rfl,HE1,HB1,HJ'⟩
    case measure=>simp [intOf];omega
  ·have HZ:Hid (z=R):=by
    obtain⟨e1,e2,_⟩:=HJ.out
    show _=_
    rw [← HR.out,e2,show (b - a).toNat=j by omega]
   go_wp2_with fail
   go_ret
   obtain rfl:=HZ.out
   exact⟨rfl,HE.out,HB.out⟩
end Go.Proofs.YtpddmnmhdahnlaaGreat
namespace Go.Proofs.YtpddmnmhdahnlaaGreat
open Go.RowKit

theorem JY (w:World) (W:Int) (v:Value):AlmC (w.alloc (.cells #[.int .i64 W,v,.int .i64 0,.int .i64 (-1),.slice none 0 0] 336)) w.heap.size W v 0 (-1) (.slice none 0 0):=
 ⟨World.rowIs_alloc w #[.int .i64 W,v,.int .i64 0,.int .i64 (-1),.slice none 0 0] 336 (MF W v 0 (-1) (.slice none 0 0)) (fun i hi=>by
  rcases five (show i<5 from hi) with rfl | rfl | rfl | rfl | rfl<;>rfl)⟩
structure Days (w:World) (dp:Option Addr) (bd:Nat) (xs:List Int):Prop where
 at_:0<xs.length→dp=some ⟨bd,0,none⟩
 lt:0<xs.length→bd<w.heap.size
 cell:∀ j<xs.length,w.cell? ⟨bd,j,none⟩=some (.int .i64 (xs.getD j 0))
theorem Days.below {w w':World} {dp:Option Addr} {bd:Nat} {xs:List Int} (h:Days w dp bd xs) (hb:Below w.heap.size w w'):Days w' dp bd xs:=
 ⟨h.at_,fun hx=>Nat.lt_of_lt_of_le (h.lt hx) hb.size,fun j hj=>(hb.cell (p:=⟨bd,j,none⟩) (h.lt (by omega))).trans (h.cell j hj)⟩

set_option maxHeartbeats 1600000 in
theorem CP (W:Int) (p dp:Option Addr) (c N dn dc:Nat) (A B:Int) (w:World) (hA:A≠0) (HC:Hid (∀ wx,Below w.heap.size w wx→Calls Tryz.prog 230 #[.agg #[.int .i64 W,.slice p N c]] wx fun e w'=>e=.returned (.tuple #[.int .i64 A,.int .i64 B])∧Below wx.heap.size wx w')) :
  Calls Tryz.prog 261 #[.agg #[.int .i64 W,.slice p N c],.slice dp dn dc] w fun e w'=>e=.returned (.tuple #[.pointer none,.int .i64 A])∧Below w.heap.size w w':=by
 have HB0:Hid (Below w.heap.size w (w.alloc (.cells #[.int .i64 W,.slice p N c] 60))):=(Below.refl w.heap.size w).alloc (Nat.le_refl _) _
 have hA':(A !=0)=true:=bne_iff_ne.2 hA
 clear hA
 go_enter Tryz.func261,Tryz.ntmps261
 go_wp2_with (go_at_call 230;refine (HC.out _ HB0.out).mono ?_;rintro e w1 ⟨rfl,hb1⟩)
 go_ret2
 exact⟨rfl,HB0.out.trans (hb1.mono HB0.out.size)⟩

def MU (K dn:Nat) (W:Int) (p:Option Addr) (b off c:Nat) (rs:List Rul) (w:World) (e:Ending) (w':World):Prop:=
 (K<dn∧e=.returned (.tuple #[.pointer none,.int .i64 51]))∨(K=dn∧∃ A,e=.returned (.tuple #[.pointer (some ⟨A,0,none⟩),.int .i64 0])∧w.heap.size≤A∧AlmE A W p b off c rs w')
set_option maxHeartbeats 1600000 in
theorem po (W:Int) (p dp:Option Addr) (b off c bd dn dc K:Nat) (rs:List Rul) (xs:List Int) (w:World) (h:OkC W rs) (hs:RSrc w p b off rs) (hx:xs.length=dn) (hd:Days w dp bd xs) (hn:dn≤10) (hK:K≤dn) (hall:∀ j<K,an (xs.getD j 0)) (hbad:K<dn→¬ an (xs.getD K 0)) :
  Calls Tryz.prog 261 #[.agg #[.int .i64 W,.slice p rs.length c],.slice dp dn dc] w fun e w'=>MU K dn W p b off c rs w e w'∧Below w.heap.size w w':=by
 have HC:Hid (∀ wx,Below w.heap.size w wx→Calls Tryz.prog 230 #[.agg #[.int .i64 W,.slice p rs.length c]] wx fun e w'=>e=.returned (.tuple #[.int .i64 0,.int .i64 0])∧Below wx.heap.size wx w'):=fun wx hb=>rW W p b off c rs 0 0 wx (.ok h) (hs.below hb) (by have:=h.len;omega)
 have HH:=hideS h
 have HS:=hideS hs
 have HDs:=hideS hd
 have HAll:=hideS hall
 have HBad:=hideS hbad
 have HX:=hideS hx
 obtain⟨N,hN⟩:∃ N,rs.length=N:=⟨_,rfl⟩
 have HN:=hideS hN
 rw [hN] at HC ⊢
 clear h hs hd hall hbad hx hN
 have HB0:Hid (Below w.heap.size w (w.alloc (.cells #[.int .i64 W,.slice p N c] 60))):=(Below.refl w.heap.size w).alloc (Nat.le_refl _) _
 have HD:=hideS (fun x wx=>ph x wx)
 go_enter Tryz.func261,Tryz.ntmps261
 go_wp2_with (go_at_call 230;refine (HC.out _ HB0.out).mono ?_;rintro e w1 ⟨rfl,hb1⟩)
 have HBx:=hideS (CBoxP.first hb1)
 clear hb1 HC HB0
 go_loop [20] (fun i=>∃ k:Nat,k≤K∧i=.int .i64 k) (fun i=>dn - (intOf i).toNat)
 case atStart=>exact⟨0,by omega,rfl⟩
 case round=>
  obtain⟨k,hk,rfl⟩:=hrel
  by_cases hlt:k<dn
  ·have hx:k<xs.length:=by rw [HX.out];exact hlt
   obtain rfl:=HDs.out.at_ (by omega)
   have hc:=(HDs.out.below HBx.out.below).cell k hx
   obtain⟨x,hxe⟩:∃ x,xs.getD k 0=x:=⟨_,rfl⟩
   rw [hxe] at hc
   have HDx:=hideS (fun wx=>HD.out x wx)
   by_cases hkK:k<K
   ·have hxd:=HAll.out k hkK
    rw [hxe] at hxd
    rw [decide_eq_true hxd] at HDx
    clear hxd hxe hx
    go_wp2_with (go_at_call 294;refine (gM (HDx.out _)).mono ?_;rintro e w2 ⟨rfl,rfl⟩)
    go_round
    case rel=>exact⟨k+1,by omega,by go_num⟩
    case measure=>simp [intOf];omega
   ·obtain rfl:k=K:=by omega
    have hxd:=HBad.out hlt
    rw [hxe] at hxd
    rw [decide_eq_false hxd] at HDx
    clear hxd hxe hx
    go_wp2_with (go_at_call 294;refine (gM (HDx.out _)).mono ?_;rintro e w2 ⟨rfl,rfl⟩)
    go_ret2
    exact⟨Or.inl ⟨hlt,rfl⟩,HBx.out.below⟩
  ·obtain rfl:k=K:=by omega
   have hkd:k=dn:=by omega
   have hge:¬ (k:Int)<dn:=by omega
   obtain⟨c0,c1⟩:=HBx.out.cells
   go_wp2_with fail
   go_ret2
   have hA:=JY w1 W (.slice p N c)
   have hlo:=HBx.out.below.size
   refine⟨Or.inr ⟨rfl,w1.heap.size,rfl,hlo,HH.out,HS.out.below (HBx.out.below.alloc hlo _),fun hx=>Nat.lt_of_lt_of_le (HS.out.lt hx) hlo,?_⟩,HBx.out.below.alloc hlo _⟩
   rw [HN.out]
   exact .none hA

theorem GQ (W:Int) (p dp:Option Addr) (b off c bd dn dc:Nat) (rs:List Rul) (xs:List Int) (w:World) (h:OkC W rs) (hs:RSrc w p b off rs) (hx:xs.length=dn) (hd:Days w dp bd xs) (hn:dn≤10) (hall:∀ j<dn,an (xs.getD j 0)) :
  Calls Tryz.prog 261 #[.agg #[.int .i64 W,.slice p rs.length c],.slice dp dn dc] w fun e w'=>∃ A,e=.returned (.tuple #[.pointer (some ⟨A,0,none⟩),.int .i64 0])∧w.heap.size≤A∧AlmE A W p b off c rs w'∧Below w.heap.size w w':=by
 refine (po W p dp b off c bd dn dc dn rs xs w h hs hx hd hn (Nat.le_refl _) hall (fun a=>absurd a (Nat.lt_irrefl _))).mono ?_
 rintro e w' ⟨ho,hb⟩
 rcases ho with⟨a,_⟩| ⟨_,A,he,hA,hE⟩
 ·exact absurd a (Nat.lt_irrefl _)
 ·exact⟨A,he,hA,hE,hb⟩
theorem CQ (W:Int) (p dp:Option Addr) (b off c bd dn dc:Nat) (rs:List Rul) (xs:List Int) (A B:Int) (w:World) (h:ChkR W rs A B) (hs:RSrc w p b off rs) (hl:rs.length≤9223372036854775807) (hx:xs.length=dn) (hd:Days w dp bd xs) (hn:dn≤10) (hbad:A≠0∨∃ j<dn,¬ an (xs.getD j 0)) :
  Calls Tryz.prog 261 #[.agg #[.int .i64 W,.slice p rs.length c],.slice dp dn dc] w fun e w'=>e=.returned (.tuple #[.pointer none,.int .i64 (if A≠0 then A else 51)])∧Below w.heap.size w w':=by
 by_cases hA:A=0
 ·subst hA
  obtain⟨hok,rfl⟩:=LJ h
  rw [if_neg (fun a=>a rfl)]
  rcases hbad with a | ⟨j,hj,hj2⟩
  ·exact absurd rfl a
  ·obtain⟨K,hK,hK1,hK2⟩:=oX (p:=fun j=>decide (an (xs.getD j 0))) (m:=j) (decide_eq_false hj2)
   refine (po W p dp b off c bd dn dc K rs xs w hok hs hx hd hn (by omega) (fun i hi=>of_decide_eq_true (hK2 i hi)) (fun _=>of_decide_eq_false hK1)).mono ?_
   rintro e w' ⟨ho,hb⟩
   rcases ho with⟨_,he⟩| ⟨a,_⟩
   ·exact⟨he,hb⟩
   ·omega
 ·rw [if_pos hA]
  exact CP W p dp c rs.length dn dc A B w hA (fun wx hb=>rW W p b off c rs A B wx h (hs.below hb) hl)

theorem JZ {a b:Int} (h:an a) (h':an b):∀ j<2,an ([a,b].getD j 0):=fun j hj=>by
 rcases (show j=0∨j=1 by omega) with rfl | rfl
 ·exact h
 ·exact h'
theorem wK (w:World) (o:Obj) (a b:Int):Days ((w.alloc o).alloc (.cells #[.int .i64 a,.int .i64 b] 3)) (some ⟨w.heap.size+1,0,none⟩) (w.heap.size+1) [a,b]:=
 ⟨fun _=>rfl,fun _=>by simp,fun j hj=>by
  rcases (show j=0∨j=1 by have:j<2:=hj;omega) with rfl | rfl
  ·exact kv _ _ 0 (by simp)
  ·exact kv _ _ 1 (by simp)⟩
end Go.Proofs.YtpddmnmhdahnlaaGreat
