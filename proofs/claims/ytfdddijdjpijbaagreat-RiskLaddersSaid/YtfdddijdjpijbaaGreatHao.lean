/-  -/
import Derived.Test.YtfdddijdjpijbaaGreatHam
import Derived.Deep.OwnRows
set_option maxHeartbeats 16000000
set_option maxRecDepth 10000
namespace Go.Proofs.YtfdddijdjpijbaaGreat
open Go.RowKit
def QC (W:Int) (v:Value) (f l:Int) (m:Value):Nat->Value
 | 0=>.int .i64 W
 | 1=>v
 | 2=>.int .i64 f
 | 3=>.int .i64 l
 | _=>m
theorem five {i:Nat} (h:i<5):i=0\/i=1\/i=2\/i=3\/i=4:=by omega
structure AlmC (w:World) (A:Nat) (W:Int) (v:Value) (f l:Int) (m:Value):Prop where
 row:w.rowIs A 228 5 (QC W v f l m)
theorem AlmC.c0 {w:World} {A:Nat} {W:Int} {v:Value} {f l:Int} {m:Value} (h:AlmC w A W v f l m):w.cell? ⟨A,0,none⟩=some (.int .i64 W):=h.row.cell (i:=0) (by omega)
theorem AlmC.c1 {w:World} {A:Nat} {W:Int} {v:Value} {f l:Int} {m:Value} (h:AlmC w A W v f l m):w.cell? ⟨A,1,none⟩=some v:=h.row.cell (i:=1) (by omega)
theorem AlmC.c2 {w:World} {A:Nat} {W:Int} {v:Value} {f l:Int} {m:Value} (h:AlmC w A W v f l m):w.cell? ⟨A,2,none⟩=some (.int .i64 f):=h.row.cell (i:=2) (by omega)
theorem AlmC.c3 {w:World} {A:Nat} {W:Int} {v:Value} {f l:Int} {m:Value} (h:AlmC w A W v f l m):w.cell? ⟨A,3,none⟩=some (.int .i64 l):=h.row.cell (i:=3) (by omega)
theorem AlmC.c4 {w:World} {A:Nat} {W:Int} {v:Value} {f l:Int} {m:Value} (h:AlmC w A W v f l m):w.cell? ⟨A,4,none⟩=some m:=h.row.cell (i:=4) (by omega)
theorem AlmC.fz {w:World} {A:Nat} {W:Int} {v:Value} {f l:Int} {m:Value} (h:AlmC w A W v f l m) (i:Nat):w.frozen? ⟨A,i,none⟩=false:=h.row.frozen i
theorem AlmC.lt {w:World} {A:Nat} {W:Int} {v:Value} {f l:Int} {m:Value} (h:AlmC w A W v f l m):A<w.heap.size:=h.row.lt
theorem AlmC.set2 {w:World} {A:Nat} {W:Int} {v:Value} {f l:Int} {m:Value} (h:AlmC w A W v f l m) (x:Int):AlmC (w.setCell ⟨A,2,none⟩ (.int .i64 x)) A W v x l m:=
 ⟨(h.row.set 2 (.int .i64 x)).congr fun i hi=>by rcases five hi with rfl | rfl | rfl | rfl | rfl<;>rfl⟩
theorem AlmC.set3 {w:World} {A:Nat} {W:Int} {v:Value} {f l:Int} {m:Value} (h:AlmC w A W v f l m) (x:Int):AlmC (w.setCell ⟨A,3,none⟩ (.int .i64 x)) A W v f x m:=
 ⟨(h.row.set 3 (.int .i64 x)).congr fun i hi=>by rcases five hi with rfl | rfl | rfl | rfl | rfl<;>rfl⟩
theorem AlmC.set4 {w:World} {A:Nat} {W:Int} {v:Value} {f l:Int} {m:Value} (h:AlmC w A W v f l m) (x:Value):AlmC (w.setCell ⟨A,4,none⟩ x) A W v f l x:=
 ⟨(h.row.set 4 x).congr fun i hi=>by rcases five hi with rfl | rfl | rfl | rfl | rfl<;>rfl⟩
theorem AlmC.below {w a:World} {A B:Nat} {W:Int} {v:Value} {f l:Int} {m:Value} (h:AlmC w A W v f l m) (c:Below B w a) (b:A<B):AlmC a A W v f l m:=⟨h.row.of_block (c.block A b)⟩
theorem AlmC.alloc {w:World} {A:Nat} {W:Int} {v:Value} {f l:Int} {m:Value} (h:AlmC w A W v f l m) (o:Obj):AlmC (w.alloc o) A W v f l m:=⟨h.row.alloc o⟩
theorem AlmC.other {w:World} {A:Nat} {W:Int} {v:Value} {f l:Int} {m:Value} (h:AlmC w A W v f l m) {a:Addr} (b:A≠a.block) (u:Value):AlmC (w.setCell a u) A W v f l m:=⟨h.row.setOther b u⟩
structure MK (w:World) (A:Nat) (W:Int) (v:Value) (f l:Int) (bm L:Nat) (F:Nat->Bool) (wr:World):Prop where
 alm:AlmC wr A W v f l (.slice (some ⟨bm,0,none⟩) L L)
 row:wr.rowIs bm 4 L (fun i=>.bool (F i))
 low:Below A w wr
 lt:A<bm
theorem MK.step {w wr b:World} {A:Nat} {W:Int} {v:Value} {f l:Int} {bm L:Nat} {F:Nat->Bool} (h:MK w A W v f l bm L F wr) (a:Below wr.heap.size wr b):MK w A W v f l bm L F b:=
 ⟨h.alm.below a h.alm.lt,h.row.of_block (a.block bm h.row.lt),h.low.trans (a.mono (Nat.le_of_lt h.alm.lt)),h.lt⟩
theorem MK.congr {w wr:World} {A:Nat} {W:Int} {v:Value} {f l:Int} {bm L:Nat} {F G:Nat->Bool} (h:MK w A W v f l bm L F wr) (e:∀ i<L,F i=G i):MK w A W v f l bm L G wr:=
 ⟨h.alm,h.row.congr (fun i hi=>by rw [e i hi]),h.low,h.lt⟩
theorem MK.set {w wr:World} {A:Nat} {W:Int} {v:Value} {f l:Int} {bm L:Nat} {F:Nat->Bool} (h:MK w A W v f l bm L F wr) (i:Nat):MK w A W v f l bm L (fun j=>F j||decide (j=i)) (wr.setCell ⟨bm,i,none⟩ (.bool true)):=
 ⟨h.alm.other (a:=⟨bm,i,none⟩) (by have:=h.lt;show A≠bm;omega) _,(h.row.set i (.bool true)).congr (fun j _=>by
  by_cases e:j=i
  ·rw [if_pos e,decide_eq_true e,Bool.or_true]
  ·rw [if_neg e,decide_eq_false e,Bool.or_false]),h.low.setCell (p:=⟨bm,i,none⟩) (Nat.le_of_lt h.lt) _,h.lt⟩
theorem MK.drewN {w wr:World} {A:Nat} {W:Int} {v:Value} {f l:Int} {bm L:Nat} {F:Nat->Bool} (h:MK w A W v f l bm L F wr) (n:Nat):MK w A W v f l bm L F (wr.drewN n):=
 ⟨⟨h.alm.row⟩,h.row,below_drewN' h.low,h.lt⟩
structure MK2 (w:World) (A:Nat) (W:Int) (v:Value) (f l:Int) (bm L:Nat) (F:Nat->Bool) (b9:Nat) (mv:Int) (wr:World):Prop where
 one:MK w A W v f l bm L F wr
 c8:wr.cell? ⟨b9,8,none⟩=some (.int .i64 mv)
 lt9:b9<wr.heap.size
 ne9:b9≠bm
theorem MK2.step {w wr c:World} {A:Nat} {W:Int} {v:Value} {f l:Int} {bm L:Nat} {F:Nat->Bool} {a:Nat} {mv:Int} (h:MK2 w A W v f l bm L F a mv wr) (b:Below wr.heap.size wr c):MK2 w A W v f l bm L F a mv c:=
 ⟨h.one.step b,(b.cell (p:=⟨a,8,none⟩) h.lt9).trans h.c8,Nat.lt_of_lt_of_le h.lt9 b.size,h.ne9⟩
theorem MK2.congr {w wr:World} {A:Nat} {W:Int} {v:Value} {f l:Int} {bm L:Nat} {F G:Nat->Bool} {a:Nat} {mv:Int} (h:MK2 w A W v f l bm L F a mv wr) (e:∀ i<L,F i=G i):MK2 w A W v f l bm L G a mv wr:=
 ⟨h.one.congr e,h.c8,h.lt9,h.ne9⟩
theorem MK2.set {w wr:World} {A:Nat} {W:Int} {v:Value} {f l:Int} {bm L:Nat} {F:Nat->Bool} {a:Nat} {mv:Int} (h:MK2 w A W v f l bm L F a mv wr) (i:Nat):MK2 w A W v f l bm L (fun j=>F j||decide (j=i)) a mv (wr.setCell ⟨bm,i,none⟩ (.bool true)):=
 ⟨h.one.set i,by
  have e:(wr.setCell ⟨bm,i,none⟩ (.bool true)).cell? ⟨a,8,none⟩=wr.cell? ⟨a,8,none⟩:=World.cell?_of_block (w:=wr) (Below.heap_setCell wr ⟨bm,i,none⟩ _ a h.ne9)
  rw [e];exact h.c8,by simpa using h.lt9,h.ne9⟩
theorem MK2.drewN {w wr:World} {A:Nat} {W:Int} {v:Value} {f l:Int} {bm L:Nat} {F:Nat->Bool} {a:Nat} {mv:Int} (h:MK2 w A W v f l bm L F a mv wr) (n:Nat):MK2 w A W v f l bm L F a mv (wr.drewN n):=
 ⟨h.one.drewN n,h.c8,h.lt9,h.ne9⟩
theorem MK2.first {w wr:World} {A:Nat} {W:Int} {v:Value} {f l:Int} {bm L:Nat} {F:Nat->Bool} {kind mon day nth wd off fr to mv:Int} (h:MK w A W v f l bm L F wr) :
  MK2 w A W v f l bm L F wr.heap.size mv (wr.alloc (.cells #[.int .i64 kind,.int .i64 mon,.int .i64 day,.int .i64 nth,.int .i64 wd,.int .i64 off,.int .i64 fr,.int .i64 to,.int .i64 mv] 235)):=
 ⟨h.step ((Below.refl _ wr).alloc (Nat.le_refl _) _),by simp,by simp,by have:=h.row.lt;omega⟩
theorem iM {P:Program} {f:Nat} {args:Array Value} {w:World} {Q:Ending->Prop} (h:Calls P f args w fun e c=>Q e/\c=w):Calls P f args w fun e c=>Q e/\w=c:=
 h.mono fun _ _ ⟨a,b⟩=>⟨a,b.symm⟩
theorem QD {y:Int} (d:1900<=y) (f:y<=2199):100<=jv y:=by
 by_cases e:y=1900
 ·subst e;decide
 ·obtain⟨a,b⟩:=(mY (tL d f).ok).year;have c:=nP d
  show 100<=_
  unfold jv;omega
theorem oN {r:Rul} {y g:Int} (n:cD r=true) (h:ck r y=some g): -1<=g/\g<=200000:=by
 unfold ck at h
 by_cases c:r.kind=4
 ·rw [if_pos c] at h
  have f:0<=r.day/\r.day<=109572:=by
   rcases fit_cases n with⟨_,a,b,_⟩| ⟨_,⟨a,_⟩| ⟨a,_⟩| ⟨a,_⟩⟩
   ·exact⟨a,b⟩
   ·omega
   ·omega
   ·omega
  by_cases e:yrI r.day=y
  ·rw [if_pos e] at h
   have:=Option.some.inj h;omega
  ·rw [if_neg e] at h;cases h
 ·rw [if_neg c] at h
  unfold nR at h
  by_cases f:y<r.fr\/r.to<y
  ·rw [if_pos f] at h;cases h
  ·rw [if_neg f] at h
   rcases fit_cases n with⟨a,_⟩| ⟨⟨B,z,D,A,v⟩,d⟩
   ·exact absurd a c
   ·have j:1900<=y:=by omega
    have i:y<=2199:=by omega
    rcases d with⟨t,m,l,C,u⟩| ⟨q,m,l,p,o,c0,c1⟩| ⟨s,w,x⟩
    ·rw [if_pos t] at h
     by_cases k:okD y r.mon r.day
     ·rw [if_pos k] at h
      have:=(mY k).range;have:=Option.some.inj h;omega
     ·rw [if_neg k] at h;cases h
    ·rw [if_neg (by omega),if_pos q] at h
     have:=Nk (y:=y) ⟨j,i,m,l⟩ p o c0 c1;have:=Option.some.inj h;omega
    ·rw [if_neg (by omega),if_neg (by omega),if_pos s] at h
     have:=QD j i;have:=(mY (tL j i).ok).range;have e:=Option.some.inj h;unfold jv at *
     omega
theorem jW {W:Int} {rs:List Rul} {r:Rul} {Y I f:Int} {t k:Nat} (h:ck r I=none) (a:I=Y - 1+t) (i:Nat) :
  (mkK W rs Y (f+i) k||mkT W r Y (f+i) t)=(mkK W rs Y (f+i) k||mkT W r Y (f+i) (t+1)):=by
 show _=(mkK W rs Y (f+i) k||(mkT W r Y (f+i) t||mkB W r (Y - 1+t) (f+i)))
 rw [<- a,KB h,Bool.or_false]
theorem ml {W:Int} {rs:List Rul} {r:Rul} {Y I f g x:Int} {t k L:Nat} (h:ck r I=some g) (a:I=Y - 1+t) (c:mvI W g r.mv=x) (b:¬ (f<=x/\x<=f+L - 1)) (i:Nat) (hi:i<L) :
  (mkK W rs Y (f+i) k||mkT W r Y (f+i) t)=(mkK W rs Y (f+i) k||mkT W r Y (f+i) (t+1)):=by
 show _=(mkK W rs Y (f+i) k||(mkT W r Y (f+i) t||mkB W r (Y - 1+t) (f+i)))
 rw [<- a,zp h,c,decide_eq_false (fun e=>b (by omega)),Bool.or_false]
theorem oO {W:Int} {rs:List Rul} {r:Rul} {Y I f g x:Int} {t k i0:Nat} (h:ck r I=some g) (a:I=Y - 1+t) (b:mvI W g r.mv=x) (c:x=f+i0) (i:Nat) :
  ((mkK W rs Y (f+i) k||mkT W r Y (f+i) t)||decide (i=i0))=(mkK W rs Y (f+i) k||mkT W r Y (f+i) (t+1)):=by
 show _=(mkK W rs Y (f+i) k||(mkT W r Y (f+i) t||mkB W r (Y - 1+t) (f+i)))
 rw [<- a,zp h,b,show decide (x=f+(i:Int))=decide (i=i0) from decide_eq_decide.2 (by omega),Bool.or_assoc]
theorem QE:(Tryz.prog.info? 4).map (fun i=>(i.zero,i.size,i.bytes))=some (some (.bool false),1,1):=by kernel_rfl
theorem KN (A:Nat) (W n Y m d:Int) (p:Option Addr) (b off c:Nat) (rs:List Rul) (f l:Int) (mm:Value) (w:World) (h:OkC W rs) (hs:RSrc w p b off rs) (cx:0<rs.length->b<A) (hA:AlmC w A W (.slice p rs.length c) f l mm) (hd:IsD n Y m d) :
  Calls Tryz.prog 219 #[.pointer (some ⟨A,0,none⟩),.int .i64 n] w fun e w'=>e=.returned (.tuple #[])/\∃ (bm L:Nat),(L:Int)=nyI (Y+1) - nyI Y/\MK w A W (.slice p rs.length c) (nyI Y) (nyI (Y+1) - 1) bm L (fun i=>vQ W rs (nyI Y+i) Y) w':=by
 obtain⟨y0,y1,_,_,_,_⟩:=hd.1;have HC:=hideS (fun C=>gS n Y m d C hd)
 have cc:=hideS (fun C=>mZ Y 1 1 C (BR y0 y1))
 have cd:=hideS (fun C=>mZ Y 12 31 C (KA y0 y1))
 rw [FT] at cc
 rw [Kz y0] at cd
 have n1:0<=nyI Y:=by have:=nP y0;omega
 have n2:nyI Y<=110000:=by have:=nQ y0;omega
 have n3:nyI (Y+1)=nyI Y+365+lpI Y:=lY y0;have n4:=Km Y;have n5:=Du Y;obtain⟨L,hL⟩:∃ L:Nat,(L:Int)=nyI (Y+1) - nyI Y:=⟨(nyI (Y+1) - nyI Y).toNat,by omega⟩
 have HH:=hideS h;have HS:=hideS hs;have di:=hideS cx;obtain⟨N,hN⟩:∃ N,rs.length=N:=⟨_,rfl⟩;have HN:=hideS hN;have dn:N<=64:=by rw [<- hN];exact h.len
 rw [hN] at hA ⊢
 obtain⟨j,bi⟩:∃ j,nyI Y=j:=⟨_,rfl⟩;obtain⟨s,bk⟩:∃ s,nyI (Y+1) - 1=s:=⟨_,rfl⟩;have cy:=hideS (show 1900<=Y/\Y<=2199/\nyI Y=j/\nyI (Y+1) - 1=s from⟨y0,y1,bi,bk⟩)
 have HL:=hideS hL;have l1:(L:Int)=s - j+1:=by omega
 have l2:L<=400:=by omega
 rw [bi] at cc n1 n2 ⊢
 rw [bk] at cd ⊢
 have c2:=hA.c2;have f2:=hA.fz 2;have bs:=hA.set2 j;have d3:=bs.c3;have g3:=bs.fz 3;have ak:=hideS (bs.set3 s);have cr:Hid (Below A w ((w.setCell ⟨A,2,none⟩ (.int .i64 j)).setCell ⟨A,3,none⟩ (.int .i64 s))):=((Below.refl A w).setCell (p:=⟨A,2,none⟩) (Nat.le_refl _) _).setCell (p:=⟨A,3,none⟩) (Nat.le_refl _) _;have cv:=fun w=>run_make_row' (P:=Tryz.prog) 226 4 (.bool false) 1 Tryz.underlying226 QE rfl .i64 .i64 L (by omega) (by omega) w
 obtain⟨wq,cq⟩:∃ wq,(w.setCell ⟨A,2,none⟩ (.int .i64 j)).setCell ⟨A,3,none⟩ (.int .i64 s)=wq:=⟨_,rfl⟩;rw [cq] at ak cr
 have HQ:=hideS cq;clear cq hd hN hs h cx hA bs bi bk n3 n4 n5 hL
 go_enter Tryz.func219,Tryz.ntmps219
 go_wp2_with (first | (go_at_call 170;refine (iM (HC.out _)).mono ?_;rintro e w1 ⟨rfl,rfl⟩) | (go_at_call_of 187 (Value.int IntKind.i64 12);refine (iM (cd.out _)).mono ?_;rintro e w1 ⟨rfl,rfl⟩) | (go_at_call 187;refine (iM (cc.out _)).mono ?_;rintro e w1 ⟨rfl,rfl⟩))
 rw [HQ.out];clear c2 f2 d3 g3 HC cc cd HQ;have c2:=ak.out.c2;have c3:=ak.out.c3;have c4:=ak.out.c4;have f4:=ak.out.fz 4;have dc:IntKind.i64.wrap (s - j)=s - j:=by rw [IntKind.wrap_i64];omega
 have cu:IntKind.i64.wrap (s - j+1)=s - j+1:=by rw [IntKind.wrap_i64];omega
 simp only [l1] at cv
 have ca:Hid (AlmC (wq.alloc (.cells (madeCells #[.bool false] L) 4)) A W (.slice p N c) j s mm):=ak.out.alloc _;have e4:=ca.out.c4;have df:=ca.out.fz 4
 go_region
 have bx:Hid (MK w A W (.slice p N c) j s wq.heap.size L (fun _=>false) (((wq.alloc (.cells (madeCells #[.bool false] L) 4)).setCell ⟨A,4,none⟩ (.slice (some ⟨wq.heap.size,0,none⟩) L L)).drew)):=
  ⟨⟨(ca.out.set4 (.slice (some ⟨wq.heap.size,0,none⟩) L L)).row⟩,World.rowIs.setOther (w:=wq.alloc (.cells (madeCells #[.bool false] L) 4)) (World.rowIs_made wq (.bool false) L 4) (a:=⟨A,4,none⟩) (by have:=ak.out.lt;show wq.heap.size≠A;omega) _,((cr.out.alloc (Nat.le_of_lt ak.out.lt) _).setCell (p:=⟨A,4,none⟩) (Nat.le_refl _) _).drew,ak.out.lt⟩
 obtain⟨w3,da⟩:∃ w3,((wq.alloc (.cells (madeCells #[.bool false] L) 4)).setCell ⟨A,4,none⟩ (.slice (some ⟨wq.heap.size,0,none⟩) L L)).drew=w3:=⟨_,rfl⟩;rw [da] at bx ⊢
 generalize wq.heap.size=bm at *
 clear da ca e4 df c2 c3 c4 f4 dc cu ak cr cv;have a1:=bx.out.alm.c1
 go_wp2_with fail
 go_loopw [57] (fun i wr=>∃ (k:Nat),k<=N/\i=.int .i64 k/\Hid (MK w A W (.slice p N c) j s bm L (fun i=>mkK W rs Y (j+i) k) wr)) (fun i _=>N - (intOf i).toNat)
 case atStart=>exact⟨0,by omega,rfl,bx⟩
 case round=>
  clear bx a1;obtain⟨k,hk,rfl,bz⟩:=hrel
  by_cases dk:k<N
  ·have hx:k<rs.length:=by rw [HN.out];exact dk
   obtain rfl:=HS.out.at_ (by omega)
   have ct:=(HS.out.cell k hx).below bz.out.low (di.out (by omega))
   have HF:=hideS (HH.out.fit (rs.getD k jw) (qZ hx));obtain⟨r,hr⟩:∃ r,rs.getD k jw=r:=⟨_,rfl⟩;rw [hr] at ct HF
   have br:=hideS hr;clear hr hx;obtain⟨g0,g1,g2,g3,g4,g5,g6,g7,g8⟩:=ct;obtain⟨U,X⟩:∃ U,U=r:=⟨r,rfl⟩;rw [<- X] at br HF
   have bv:Hid (U.mv=r.mv):=by show _=_;rw [X]
   have cf:=fit_cases HF.out;rw [X] at cf
   obtain⟨kind,mon,day,nth,wd,Q,fr,to,mv⟩:=r;dsimp only at *
   have al:=hideS (MK2.first (kind:=kind) (mon:=mon) (day:=day) (nth:=nth) (wd:=wd) (off:=Q) (fr:=fr) (to:=to) (mv:=mv) bz.out);have dg:(kind=1)\/(kind=2/\1<=mon/\mon<=12/\0<=wd/\wd<=6/\1<=nth/\nth<=5/\1900<=fr/\to<=2199)\/(kind=3/\-100<=Q/\Q<=100/\1900<=fr/\to<=2199)\/(kind=4/\0<=day/\day<=109572):=by omega
   clear cf bz;rcases dg with rfl | ⟨rfl,K⟩| ⟨rfl,K⟩| ⟨rfl,K⟩
   ·have ad:=hideS (fun C=>(bD 1 mon day nth wd Q fr to mv C (by omega):Calls Tryz.prog 208 _ C fun e w'=>e=.returned (.iface 240 _)/\Below C.heap.size C w'))
    have V:=hideS (fun (y:Int) (C:World)=>Nu mon day nth wd Q fr to mv y C )
    rw [<- X] at V
    clear X
    go_wp2_with (go_at_call 208;refine (ad.out _).mono ?_;rintro e w4 ⟨rfl,Z⟩)
    have ai:=hideS (al.out.step Z);clear Z al ad;generalize wr.heap.size=b9 at *
    go_loopw [11] (fun y w2=>∃ (t:Nat) (I:Int),t<=3/\1899<=I/\I<=2201/\y=.int .i64 I/\Hid (I=Y - 1+t)/\Hid (MK2 w A W (.slice (some ⟨b,off,none⟩) N c) j s bm L (fun i=>mkK W rs Y (j+i) k||mkT W U Y (j+i) t) b9 mv w2)) (fun y _=>(Y+2 - intOf y).toNat)
    case atStart=>exact⟨0,Y - 1,by omega,by omega,by omega,rfl,by show _=_;omega,ai.out.congr (fun i _=>(Bool.or_false _).symm)⟩
    case round=>
     clear ai;obtain⟨t,I,ht,cs,ci,rfl,O,HM⟩:=hrel
     by_cases cm:t<3
     ·have bb:I<=Y+1:=by have:=O.out;omega
      have E:=hideS (fun C=>V.out I C)
      obtain⟨o,ho⟩:∃ o,ck U I=o:=⟨_,rfl⟩;rw [ho] at E
      have J:=hideS ho;clear ho;rcases o with _ | g
      ·have G:=hideS (fun (i:Nat)=>jW (W:=W) (rs:=rs) (f:=j) (k:=k) J.out O.out i)
       dsimp only [Option.isSome] at E
       go_wp2_with (go_at_call 252;refine (E.out _).mono ?_;rintro e w5 ⟨N5,rfl,_,v⟩;have q:=hideS (HM.out.step v);clear v)
       go_roundw
       case rel=>exact⟨t+1,I+1,by omega,by omega,by omega,rfl,by have:=O.out;show _=_;omega,q.out.congr (fun i _=>G.out i)⟩
       case measure=>simp [intOf];omega
      ·have bh:=oN HF.out J.out;obtain⟨g0,g1⟩:=bh;obtain⟨u,dd,hu⟩:=qY HH.out.w0 HH.out.w1 g;have S:=hideS (fun C=>jV W g mv u dd C g0 (by omega) hu)
       have HX:Hid (mvI W g U.mv=cQ W g mv u dd):=by show _=_;rw [bv.out,zf hu]
       have ab:g - 6<=cQ W g mv u dd/\cQ W g mv u dd<=g+6:=by
        have:=hu.ub;have:=hu.db;unfold cQ;split
        ·omega
        ·split<;>omega
       obtain⟨x,hx⟩:∃ x,cQ W g mv u dd=x:=⟨_,rfl⟩;rw [hx] at S HX ab
       obtain⟨x0,x1⟩:=ab;clear hx hu;dsimp only [Option.isSome] at E
       have H:=hideS (fun C=>aK x j s C)
       by_cases M:j<=x/\x<=s
       ·rw [decide_eq_true M] at H
        obtain⟨i0,cl⟩:∃ i0:Nat,x - j=i0:=⟨(x - j).toNat,by omega⟩
        have ba:i0<L:=by omega
        have G:=hideS (fun (i:Nat)=>oO (W:=W) (rs:=rs) (f:=j) (k:=k) (i0:=i0) J.out O.out HX.out (by omega) i)
        have cp:IntKind.i64.wrap (x - j)=(i0:Int):=by rw [IntKind.wrap_i64];omega
        have bo:(i0:Int)<(L:Int):=by omega
        clear M
        go_wp2_with (go_at_call 252;refine (E.out _).mono ?_;rintro e w5 ⟨N5,rfl,F,v⟩;have q:=hideS (HM.out.step v);clear v;obtain rfl:=F _ rfl)
        have e0:=q.out.one.alm.c0;have e8:=q.out.c8;clear F
        go_quiet ((go_at_call 226;exact Calls.quiet_of_same (S.out _)))
        obtain⟨R,B⟩:∃ R,R=w5.drewN nq:=⟨_,rfl⟩;rw [<- B];have z:Hid (MK2 w A W (.slice (some ⟨b,off,none⟩) N c) j s bm L (fun i=>mkK W rs Y (j+i) k||mkT W U Y (j+i) t) b9 mv R):=by rw [B];exact q.out.drewN _
        clear B e0 e8 q;have e2:=z.out.one.alm.c2;have e3:=z.out.one.alm.c3
        go_wp2_with fail
        go_quiet ((go_at_call 209;exact Calls.quiet_of_same (H.out _)))
        obtain⟨w7,T⟩:∃ w7,w7=R.drewN nq:=⟨_,rfl⟩;rw [<- T];have D:Hid (MK2 w A W (.slice (some ⟨b,off,none⟩) N c) j s bm L (fun i=>mkK W rs Y (j+i) k||mkT W U Y (j+i) t) b9 mv w7):=by rw [T];exact z.out.drewN _
        clear T e2 e3 z;have e2:=D.out.one.alm.c2;have e4:=D.out.one.alm.c4;have em:=D.out.one.row.cell (i:=i0) ba;have ef:=D.out.one.row.frozen i0
        go_wp2_with fail
        go_region
        have bc:=hideS ((D.out.set i0).congr (fun i _=>G.out i))
        clear D e2 e4 em ef
        go_wp2_with fail
        go_roundw
        case rel=>exact⟨t+1,I+1,by omega,by omega,by omega,rfl,by have:=O.out;show _=_;omega,bc.out.drewN 1⟩
        case measure=>simp [intOf];omega
       ·rw [decide_eq_false M] at H
        have G:=hideS (fun (i:Nat) (hi:i<L)=>ml (W:=W) (rs:=rs) (f:=j) (k:=k) (L:=L) J.out O.out HX.out (by omega) i hi)
        clear M
        go_wp2_with (go_at_call 252;refine (E.out _).mono ?_;rintro e w5 ⟨N5,rfl,F,v⟩;have q:=hideS (HM.out.step v);clear v;obtain rfl:=F _ rfl)
        have e0:=q.out.one.alm.c0;have e8:=q.out.c8;clear F
        go_quiet ((go_at_call 226;exact Calls.quiet_of_same (S.out _)))
        obtain⟨R,B⟩:∃ R,R=w5.drewN nq:=⟨_,rfl⟩;rw [<- B];have z:Hid (MK2 w A W (.slice (some ⟨b,off,none⟩) N c) j s bm L (fun i=>mkK W rs Y (j+i) k||mkT W U Y (j+i) t) b9 mv R):=by rw [B];exact q.out.drewN _
        clear B e0 e8 q;have e2:=z.out.one.alm.c2;have e3:=z.out.one.alm.c3
        go_wp2_with fail
        go_quiet ((go_at_call 209;exact Calls.quiet_of_same (H.out _)))
        go_wp2_with fail
        go_roundw
        case rel=>exact⟨t+1,I+1,by omega,by omega,by omega,rfl,by have:=O.out;show _=_;omega,(z.out.drewN _).congr (fun i hi=>G.out i hi)⟩
        case measure=>simp [intOf];omega
     ·have bb:¬ I<=Y+1:=by have:=O.out;omega
      have am:Hid (MK w A W (.slice (some ⟨b,off,none⟩) N c) j s bm L (fun i=>mkK W rs Y (j+i) (k+1)) wr):=by
       obtain rfl:t=3:=by omega
       exact HM.out.one.congr (fun i _=>by show _=(mkK W rs Y (j+i) k||mkT W (rs.getD k jw) Y (j+i) 3);rw [br.out])
      go_wp2_with fail
      go_roundw
      case rel=>exact⟨k+1,by omega,by go_num,am⟩
      case measure=>simp [intOf];omega
   ·have ad:=hideS (fun C=>(bD 2 mon day nth wd Q fr to mv C (by omega):Calls Tryz.prog 208 _ C fun e w'=>e=.returned (.iface 241 _)/\Below C.heap.size C w'))
    have V:=hideS (fun (y:Int) (C:World)=>Nv mon day nth wd Q fr to mv y C K.1 K.2.1 K.2.2.1 K.2.2.2.1 K.2.2.2.2.1 K.2.2.2.2.2.1 K.2.2.2.2.2.2.1 K.2.2.2.2.2.2.2)
    rw [<- X] at V
    clear X K
    go_wp2_with (go_at_call 208;refine (ad.out _).mono ?_;rintro e w4 ⟨rfl,Z⟩)
    have ai:=hideS (al.out.step Z);clear Z al ad;generalize wr.heap.size=b9 at *
    go_loopw [11] (fun y w2=>∃ (t:Nat) (I:Int),t<=3/\1899<=I/\I<=2201/\y=.int .i64 I/\Hid (I=Y - 1+t)/\Hid (MK2 w A W (.slice (some ⟨b,off,none⟩) N c) j s bm L (fun i=>mkK W rs Y (j+i) k||mkT W U Y (j+i) t) b9 mv w2)) (fun y _=>(Y+2 - intOf y).toNat)
    case atStart=>exact⟨0,Y - 1,by omega,by omega,by omega,rfl,by show _=_;omega,ai.out.congr (fun i _=>(Bool.or_false _).symm)⟩
    case round=>
     clear ai;obtain⟨t,I,ht,cs,ci,rfl,O,HM⟩:=hrel
     by_cases cm:t<3
     ·have bb:I<=Y+1:=by have:=O.out;omega
      have E:=hideS (fun C=>V.out I C)
      obtain⟨o,ho⟩:∃ o,ck U I=o:=⟨_,rfl⟩;rw [ho] at E
      have J:=hideS ho;clear ho;rcases o with _ | g
      ·have G:=hideS (fun (i:Nat)=>jW (W:=W) (rs:=rs) (f:=j) (k:=k) J.out O.out i)
       dsimp only [Option.isSome] at E
       go_wp2_with (go_at_call 255;refine (E.out _).mono ?_;rintro e w5 ⟨N5,rfl,_,v⟩;have q:=hideS (HM.out.step v);clear v)
       go_roundw
       case rel=>exact⟨t+1,I+1,by omega,by omega,by omega,rfl,by have:=O.out;show _=_;omega,q.out.congr (fun i _=>G.out i)⟩
       case measure=>simp [intOf];omega
      ·have bh:=oN HF.out J.out;obtain⟨g0,g1⟩:=bh;obtain⟨u,dd,hu⟩:=qY HH.out.w0 HH.out.w1 g;have S:=hideS (fun C=>jV W g mv u dd C g0 (by omega) hu)
       have HX:Hid (mvI W g U.mv=cQ W g mv u dd):=by show _=_;rw [bv.out,zf hu]
       have ab:g - 6<=cQ W g mv u dd/\cQ W g mv u dd<=g+6:=by
        have:=hu.ub;have:=hu.db;unfold cQ;split
        ·omega
        ·split<;>omega
       obtain⟨x,hx⟩:∃ x,cQ W g mv u dd=x:=⟨_,rfl⟩;rw [hx] at S HX ab
       obtain⟨x0,x1⟩:=ab;clear hx hu;dsimp only [Option.isSome] at E
       have H:=hideS (fun C=>aK x j s C)
       by_cases M:j<=x/\x<=s
       ·rw [decide_eq_true M] at H
        obtain⟨i0,cl⟩:∃ i0:Nat,x - j=i0:=⟨(x - j).toNat,by omega⟩
        have ba:i0<L:=by omega
        have G:=hideS (fun (i:Nat)=>oO (W:=W) (rs:=rs) (f:=j) (k:=k) (i0:=i0) J.out O.out HX.out (by omega) i)
        have cp:IntKind.i64.wrap (x - j)=(i0:Int):=by rw [IntKind.wrap_i64];omega
        have bo:(i0:Int)<(L:Int):=by omega
        clear M
        go_wp2_with (go_at_call 255;refine (E.out _).mono ?_;rintro e w5 ⟨N5,rfl,F,v⟩;have q:=hideS (HM.out.step v);clear v;obtain rfl:=F _ rfl)
        have e0:=q.out.one.alm.c0;have e8:=q.out.c8;clear F
        go_quiet ((go_at_call 226;exact Calls.quiet_of_same (S.out _)))
        obtain⟨R,B⟩:∃ R,R=w5.drewN nq:=⟨_,rfl⟩;rw [<- B];have z:Hid (MK2 w A W (.slice (some ⟨b,off,none⟩) N c) j s bm L (fun i=>mkK W rs Y (j+i) k||mkT W U Y (j+i) t) b9 mv R):=by rw [B];exact q.out.drewN _
        clear B e0 e8 q;have e2:=z.out.one.alm.c2;have e3:=z.out.one.alm.c3
        go_wp2_with fail
        go_quiet ((go_at_call 209;exact Calls.quiet_of_same (H.out _)))
        obtain⟨w7,T⟩:∃ w7,w7=R.drewN nq:=⟨_,rfl⟩;rw [<- T];have D:Hid (MK2 w A W (.slice (some ⟨b,off,none⟩) N c) j s bm L (fun i=>mkK W rs Y (j+i) k||mkT W U Y (j+i) t) b9 mv w7):=by rw [T];exact z.out.drewN _
        clear T e2 e3 z;have e2:=D.out.one.alm.c2;have e4:=D.out.one.alm.c4;have em:=D.out.one.row.cell (i:=i0) ba;have ef:=D.out.one.row.frozen i0
        go_wp2_with fail
        go_region
        have bc:=hideS ((D.out.set i0).congr (fun i _=>G.out i))
        clear D e2 e4 em ef
        go_wp2_with fail
        go_roundw
        case rel=>exact⟨t+1,I+1,by omega,by omega,by omega,rfl,by have:=O.out;show _=_;omega,bc.out.drewN 1⟩
        case measure=>simp [intOf];omega
       ·rw [decide_eq_false M] at H
        have G:=hideS (fun (i:Nat) (hi:i<L)=>ml (W:=W) (rs:=rs) (f:=j) (k:=k) (L:=L) J.out O.out HX.out (by omega) i hi)
        clear M
        go_wp2_with (go_at_call 255;refine (E.out _).mono ?_;rintro e w5 ⟨N5,rfl,F,v⟩;have q:=hideS (HM.out.step v);clear v;obtain rfl:=F _ rfl)
        have e0:=q.out.one.alm.c0;have e8:=q.out.c8;clear F
        go_quiet ((go_at_call 226;exact Calls.quiet_of_same (S.out _)))
        obtain⟨R,B⟩:∃ R,R=w5.drewN nq:=⟨_,rfl⟩;rw [<- B];have z:Hid (MK2 w A W (.slice (some ⟨b,off,none⟩) N c) j s bm L (fun i=>mkK W rs Y (j+i) k||mkT W U Y (j+i) t) b9 mv R):=by rw [B];exact q.out.drewN _
        clear B e0 e8 q;have e2:=z.out.one.alm.c2;have e3:=z.out.one.alm.c3
        go_wp2_with fail
        go_quiet ((go_at_call 209;exact Calls.quiet_of_same (H.out _)))
        go_wp2_with fail
        go_roundw
        case rel=>exact⟨t+1,I+1,by omega,by omega,by omega,rfl,by have:=O.out;show _=_;omega,(z.out.drewN _).congr (fun i hi=>G.out i hi)⟩
        case measure=>simp [intOf];omega
     ·have bb:¬ I<=Y+1:=by have:=O.out;omega
      have am:Hid (MK w A W (.slice (some ⟨b,off,none⟩) N c) j s bm L (fun i=>mkK W rs Y (j+i) (k+1)) wr):=by
       obtain rfl:t=3:=by omega
       exact HM.out.one.congr (fun i _=>by show _=(mkK W rs Y (j+i) k||mkT W (rs.getD k jw) Y (j+i) 3);rw [br.out])
      go_wp2_with fail
      go_roundw
      case rel=>exact⟨k+1,by omega,by go_num,am⟩
      case measure=>simp [intOf];omega
   ·have ad:=hideS (fun C=>(bD 3 mon day nth wd Q fr to mv C (by omega):Calls Tryz.prog 208 _ C fun e w'=>e=.returned (.iface 242 _)/\Below C.heap.size C w'))
    have V:=hideS (fun (y:Int) (C:World)=>Nx mon day nth wd Q fr to mv y C K.1 K.2.1 K.2.2.1 K.2.2.2)
    rw [<- X] at V
    clear X K
    go_wp2_with (go_at_call 208;refine (ad.out _).mono ?_;rintro e w4 ⟨rfl,Z⟩)
    have ai:=hideS (al.out.step Z);clear Z al ad;generalize wr.heap.size=b9 at *
    go_loopw [11] (fun y w2=>∃ (t:Nat) (I:Int),t<=3/\1899<=I/\I<=2201/\y=.int .i64 I/\Hid (I=Y - 1+t)/\Hid (MK2 w A W (.slice (some ⟨b,off,none⟩) N c) j s bm L (fun i=>mkK W rs Y (j+i) k||mkT W U Y (j+i) t) b9 mv w2)) (fun y _=>(Y+2 - intOf y).toNat)
    case atStart=>exact⟨0,Y - 1,by omega,by omega,by omega,rfl,by show _=_;omega,ai.out.congr (fun i _=>(Bool.or_false _).symm)⟩
    case round=>
     clear ai;obtain⟨t,I,ht,cs,ci,rfl,O,HM⟩:=hrel
     by_cases cm:t<3
     ·have bb:I<=Y+1:=by have:=O.out;omega
      have E:=hideS (fun C=>V.out I C)
      obtain⟨o,ho⟩:∃ o,ck U I=o:=⟨_,rfl⟩;rw [ho] at E
      have J:=hideS ho;clear ho;rcases o with _ | g
      ·have G:=hideS (fun (i:Nat)=>jW (W:=W) (rs:=rs) (f:=j) (k:=k) J.out O.out i)
       dsimp only [Option.isSome] at E
       go_wp2_with (go_at_call 257;refine (E.out _).mono ?_;rintro e w5 ⟨N5,rfl,_,v⟩;have q:=hideS (HM.out.step v);clear v)
       go_roundw
       case rel=>exact⟨t+1,I+1,by omega,by omega,by omega,rfl,by have:=O.out;show _=_;omega,q.out.congr (fun i _=>G.out i)⟩
       case measure=>simp [intOf];omega
      ·have bh:=oN HF.out J.out;obtain⟨g0,g1⟩:=bh;obtain⟨u,dd,hu⟩:=qY HH.out.w0 HH.out.w1 g;have S:=hideS (fun C=>jV W g mv u dd C g0 (by omega) hu)
       have HX:Hid (mvI W g U.mv=cQ W g mv u dd):=by show _=_;rw [bv.out,zf hu]
       have ab:g - 6<=cQ W g mv u dd/\cQ W g mv u dd<=g+6:=by
        have:=hu.ub;have:=hu.db;unfold cQ;split
        ·omega
        ·split<;>omega
       obtain⟨x,hx⟩:∃ x,cQ W g mv u dd=x:=⟨_,rfl⟩;rw [hx] at S HX ab
       obtain⟨x0,x1⟩:=ab;clear hx hu;dsimp only [Option.isSome] at E
       have H:=hideS (fun C=>aK x j s C)
       by_cases M:j<=x/\x<=s
       ·rw [decide_eq_true M] at H
        obtain⟨i0,cl⟩:∃ i0:Nat,x - j=i0:=⟨(x - j).toNat,by omega⟩
        have ba:i0<L:=by omega
        have G:=hideS (fun (i:Nat)=>oO (W:=W) (rs:=rs) (f:=j) (k:=k) (i0:=i0) J.out O.out HX.out (by omega) i)
        have cp:IntKind.i64.wrap (x - j)=(i0:Int):=by rw [IntKind.wrap_i64];omega
        have bo:(i0:Int)<(L:Int):=by omega
        clear M
        go_wp2_with (go_at_call 257;refine (E.out _).mono ?_;rintro e w5 ⟨N5,rfl,F,v⟩;have q:=hideS (HM.out.step v);clear v;obtain rfl:=F _ rfl)
        have e0:=q.out.one.alm.c0;have e8:=q.out.c8;clear F
        go_quiet ((go_at_call 226;exact Calls.quiet_of_same (S.out _)))
        obtain⟨R,B⟩:∃ R,R=w5.drewN nq:=⟨_,rfl⟩;rw [<- B];have z:Hid (MK2 w A W (.slice (some ⟨b,off,none⟩) N c) j s bm L (fun i=>mkK W rs Y (j+i) k||mkT W U Y (j+i) t) b9 mv R):=by rw [B];exact q.out.drewN _
        clear B e0 e8 q;have e2:=z.out.one.alm.c2;have e3:=z.out.one.alm.c3
        go_wp2_with fail
        go_quiet ((go_at_call 209;exact Calls.quiet_of_same (H.out _)))
        obtain⟨w7,T⟩:∃ w7,w7=R.drewN nq:=⟨_,rfl⟩;rw [<- T];have D:Hid (MK2 w A W (.slice (some ⟨b,off,none⟩) N c) j s bm L (fun i=>mkK W rs Y (j+i) k||mkT W U Y (j+i) t) b9 mv w7):=by rw [T];exact z.out.drewN _
        clear T e2 e3 z;have e2:=D.out.one.alm.c2;have e4:=D.out.one.alm.c4;have em:=D.out.one.row.cell (i:=i0) ba;have ef:=D.out.one.row.frozen i0
        go_wp2_with fail
        go_region
        have bc:=hideS ((D.out.set i0).congr (fun i _=>G.out i))
        clear D e2 e4 em ef
        go_wp2_with fail
        go_roundw
        case rel=>exact⟨t+1,I+1,by omega,by omega,by omega,rfl,by have:=O.out;show _=_;omega,bc.out.drewN 1⟩
        case measure=>simp [intOf];omega
       ·rw [decide_eq_false M] at H
        have G:=hideS (fun (i:Nat) (hi:i<L)=>ml (W:=W) (rs:=rs) (f:=j) (k:=k) (L:=L) J.out O.out HX.out (by omega) i hi)
        clear M
        go_wp2_with (go_at_call 257;refine (E.out _).mono ?_;rintro e w5 ⟨N5,rfl,F,v⟩;have q:=hideS (HM.out.step v);clear v;obtain rfl:=F _ rfl)
        have e0:=q.out.one.alm.c0;have e8:=q.out.c8;clear F
        go_quiet ((go_at_call 226;exact Calls.quiet_of_same (S.out _)))
        obtain⟨R,B⟩:∃ R,R=w5.drewN nq:=⟨_,rfl⟩;rw [<- B];have z:Hid (MK2 w A W (.slice (some ⟨b,off,none⟩) N c) j s bm L (fun i=>mkK W rs Y (j+i) k||mkT W U Y (j+i) t) b9 mv R):=by rw [B];exact q.out.drewN _
        clear B e0 e8 q;have e2:=z.out.one.alm.c2;have e3:=z.out.one.alm.c3
        go_wp2_with fail
        go_quiet ((go_at_call 209;exact Calls.quiet_of_same (H.out _)))
        go_wp2_with fail
        go_roundw
        case rel=>exact⟨t+1,I+1,by omega,by omega,by omega,rfl,by have:=O.out;show _=_;omega,(z.out.drewN _).congr (fun i hi=>G.out i hi)⟩
        case measure=>simp [intOf];omega
     ·have bb:¬ I<=Y+1:=by have:=O.out;omega
      have am:Hid (MK w A W (.slice (some ⟨b,off,none⟩) N c) j s bm L (fun i=>mkK W rs Y (j+i) (k+1)) wr):=by
       obtain rfl:t=3:=by omega
       exact HM.out.one.congr (fun i _=>by show _=(mkK W rs Y (j+i) k||mkT W (rs.getD k jw) Y (j+i) 3);rw [br.out])
      go_wp2_with fail
      go_roundw
      case rel=>exact⟨k+1,by omega,by go_num,am⟩
      case measure=>simp [intOf];omega
   ·have ad:=hideS (fun C=>(bD 4 mon day nth wd Q fr to mv C (by omega):Calls Tryz.prog 208 _ C fun e w'=>e=.returned (.iface 243 _)/\Below C.heap.size C w'))
    have V:=hideS (fun (y:Int) (C:World)=>Nw mon day nth wd Q fr to mv y C K.1 K.2)
    rw [<- X] at V
    clear X K
    go_wp2_with (go_at_call 208;refine (ad.out _).mono ?_;rintro e w4 ⟨rfl,Z⟩)
    have ai:=hideS (al.out.step Z);clear Z al ad;generalize wr.heap.size=b9 at *
    go_loopw [11] (fun y w2=>∃ (t:Nat) (I:Int),t<=3/\1899<=I/\I<=2201/\y=.int .i64 I/\Hid (I=Y - 1+t)/\Hid (MK2 w A W (.slice (some ⟨b,off,none⟩) N c) j s bm L (fun i=>mkK W rs Y (j+i) k||mkT W U Y (j+i) t) b9 mv w2)) (fun y _=>(Y+2 - intOf y).toNat)
    case atStart=>exact⟨0,Y - 1,by omega,by omega,by omega,rfl,by show _=_;omega,ai.out.congr (fun i _=>(Bool.or_false _).symm)⟩
    case round=>
     clear ai;obtain⟨t,I,ht,cs,ci,rfl,O,HM⟩:=hrel
     by_cases cm:t<3
     ·have bb:I<=Y+1:=by have:=O.out;omega
      have E:=hideS (fun C=>V.out I C)
      obtain⟨o,ho⟩:∃ o,ck U I=o:=⟨_,rfl⟩;rw [ho] at E
      have J:=hideS ho;clear ho;rcases o with _ | g
      ·have G:=hideS (fun (i:Nat)=>jW (W:=W) (rs:=rs) (f:=j) (k:=k) J.out O.out i)
       dsimp only [Option.isSome] at E
       go_wp2_with (go_at_call 261;refine (E.out _).mono ?_;rintro e w5 ⟨N5,rfl,_,v⟩;have q:=hideS (HM.out.step v);clear v)
       go_roundw
       case rel=>exact⟨t+1,I+1,by omega,by omega,by omega,rfl,by have:=O.out;show _=_;omega,q.out.congr (fun i _=>G.out i)⟩
       case measure=>simp [intOf];omega
      ·have bh:=oN HF.out J.out;obtain⟨g0,g1⟩:=bh;obtain⟨u,dd,hu⟩:=qY HH.out.w0 HH.out.w1 g;have S:=hideS (fun C=>jV W g mv u dd C g0 (by omega) hu)
       have HX:Hid (mvI W g U.mv=cQ W g mv u dd):=by show _=_;rw [bv.out,zf hu]
       have ab:g - 6<=cQ W g mv u dd/\cQ W g mv u dd<=g+6:=by
        have:=hu.ub;have:=hu.db;unfold cQ;split
        ·omega
        ·split<;>omega
       obtain⟨x,hx⟩:∃ x,cQ W g mv u dd=x:=⟨_,rfl⟩;rw [hx] at S HX ab
       obtain⟨x0,x1⟩:=ab;clear hx hu;dsimp only [Option.isSome] at E
       have H:=hideS (fun C=>aK x j s C)
       by_cases M:j<=x/\x<=s
       ·rw [decide_eq_true M] at H
        obtain⟨i0,cl⟩:∃ i0:Nat,x - j=i0:=⟨(x - j).toNat,by omega⟩
        have ba:i0<L:=by omega
        have G:=hideS (fun (i:Nat)=>oO (W:=W) (rs:=rs) (f:=j) (k:=k) (i0:=i0) J.out O.out HX.out (by omega) i)
        have cp:IntKind.i64.wrap (x - j)=(i0:Int):=by rw [IntKind.wrap_i64];omega
        have bo:(i0:Int)<(L:Int):=by omega
        clear M
        go_wp2_with (go_at_call 261;refine (E.out _).mono ?_;rintro e w5 ⟨N5,rfl,F,v⟩;have q:=hideS (HM.out.step v);clear v;obtain rfl:=F _ rfl)
        have e0:=q.out.one.alm.c0;have e8:=q.out.c8;clear F
        go_quiet ((go_at_call 226;exact Calls.quiet_of_same (S.out _)))
        obtain⟨R,B⟩:∃ R,R=w5.drewN nq:=⟨_,rfl⟩;rw [<- B];have z:Hid (MK2 w A W (.slice (some ⟨b,off,none⟩) N c) j s bm L (fun i=>mkK W rs Y (j+i) k||mkT W U Y (j+i) t) b9 mv R):=by rw [B];exact q.out.drewN _
        clear B e0 e8 q;have e2:=z.out.one.alm.c2;have e3:=z.out.one.alm.c3
        go_wp2_with fail
        go_quiet ((go_at_call 209;exact Calls.quiet_of_same (H.out _)))
        obtain⟨w7,T⟩:∃ w7,w7=R.drewN nq:=⟨_,rfl⟩;rw [<- T];have D:Hid (MK2 w A W (.slice (some ⟨b,off,none⟩) N c) j s bm L (fun i=>mkK W rs Y (j+i) k||mkT W U Y (j+i) t) b9 mv w7):=by rw [T];exact z.out.drewN _
        clear T e2 e3 z;have e2:=D.out.one.alm.c2;have e4:=D.out.one.alm.c4;have em:=D.out.one.row.cell (i:=i0) ba;have ef:=D.out.one.row.frozen i0
        go_wp2_with fail
        go_region
        have bc:=hideS ((D.out.set i0).congr (fun i _=>G.out i))
        clear D e2 e4 em ef
        go_wp2_with fail
        go_roundw
        case rel=>exact⟨t+1,I+1,by omega,by omega,by omega,rfl,by have:=O.out;show _=_;omega,bc.out.drewN 1⟩
        case measure=>simp [intOf];omega
       ·rw [decide_eq_false M] at H
        have G:=hideS (fun (i:Nat) (hi:i<L)=>ml (W:=W) (rs:=rs) (f:=j) (k:=k) (L:=L) J.out O.out HX.out (by omega) i hi)
        clear M
        go_wp2_with (go_at_call 261;refine (E.out _).mono ?_;rintro e w5 ⟨N5,rfl,F,v⟩;have q:=hideS (HM.out.step v);clear v;obtain rfl:=F _ rfl)
        have e0:=q.out.one.alm.c0;have e8:=q.out.c8;clear F
        go_quiet ((go_at_call 226;exact Calls.quiet_of_same (S.out _)))
        obtain⟨R,B⟩:∃ R,R=w5.drewN nq:=⟨_,rfl⟩;rw [<- B];have z:Hid (MK2 w A W (.slice (some ⟨b,off,none⟩) N c) j s bm L (fun i=>mkK W rs Y (j+i) k||mkT W U Y (j+i) t) b9 mv R):=by rw [B];exact q.out.drewN _
        clear B e0 e8 q;have e2:=z.out.one.alm.c2;have e3:=z.out.one.alm.c3
        go_wp2_with fail
        go_quiet ((go_at_call 209;exact Calls.quiet_of_same (H.out _)))
        go_wp2_with fail
        go_roundw
        case rel=>exact⟨t+1,I+1,by omega,by omega,by omega,rfl,by have:=O.out;show _=_;omega,(z.out.drewN _).congr (fun i hi=>G.out i hi)⟩
        case measure=>simp [intOf];omega
     ·have bb:¬ I<=Y+1:=by have:=O.out;omega
      have am:Hid (MK w A W (.slice (some ⟨b,off,none⟩) N c) j s bm L (fun i=>mkK W rs Y (j+i) (k+1)) wr):=by
       obtain rfl:t=3:=by omega
       exact HM.out.one.congr (fun i _=>by show _=(mkK W rs Y (j+i) k||mkT W (rs.getD k jw) Y (j+i) 3);rw [br.out])
      go_wp2_with fail
      go_roundw
      case rel=>exact⟨k+1,by omega,by go_num,am⟩
      case measure=>simp [intOf];omega
  ·have dp:¬ (k:Int)<N:=by omega
   obtain rfl:k=N:=by omega
   have HE:Hid (MK w A W (.slice p k c) j s bm L (fun i=>vQ W rs (j+i) Y) wr):=bz.out.congr (fun i hi=>by
    obtain⟨y0,y1,hf,hl⟩:=cy.out;rw [<- Nn HH.out.w0 HH.out.w1 HH.out.fit (Oh y0 y1 (by omega) (by omega)),HN.out])
   go_wp2_with fail
   go_end0
   exact⟨rfl,bm,L,by rw [<- cy.out.2.2.1];exact HL.out,HE.out⟩
theorem MK.base {w wr:World} {A:Nat} {W:Int} {v:Value} {f l:Int} {bm L:Nat} {F:Nat->Bool} (h:MK w A W v f l bm L F wr):MK wr A W v f l bm L F wr:=⟨h.alm,h.row,Below.refl _ _,h.lt⟩
inductive AlmS (w:World) (A:Nat) (W:Int) (v:Value) (rs:List Rul):Prop where
 | none:AlmC w A W v 0 (-1) (.slice none 0 0)->AlmS w A W v rs
 | year (Y:Int) (bm L:Nat):1900<=Y->Y<=2199->(L:Int)=nyI (Y+1) - nyI Y->MK w A W v (nyI Y) (nyI (Y+1) - 1) bm L (fun i=>vQ W rs (nyI Y+i) Y) w->AlmS w A W v rs
theorem AlmS.step {w d:World} {A:Nat} {W:Int} {v:Value} {rs:List Rul} (h:AlmS w A W v rs) (e:Below w.heap.size w d):AlmS d A W v rs:=by
 cases h with
 | none h=>exact .none (h.below e h.lt)
 | year Y bm L a b c h=>exact .year Y bm L a b c (h.step e).base
theorem AlmS.lt {w:World} {A:Nat} {W:Int} {v:Value} {rs:List Rul} (h:AlmS w A W v rs):A<w.heap.size:=by
 cases h with
 | none h=>exact h.lt
 | year Y bm L a b c h=>exact h.alm.lt
theorem ni (w:World) (q:Nat):Below w.heap.size w (w.drewN q):=below_drewN' (Below.refl _ _)
theorem RSrc.low {w a:World} {p:Option Addr} {b off A:Nat} {rs:List Rul} (h:RSrc w p b off rs) (c:Below A w a) (f:0<rs.length->b<A):RSrc a p b off rs:=
 ⟨h.at_,fun e=>Nat.lt_of_lt_of_le (h.lt e) c.size,fun j d=>(h.cell j d).below c (f (by omega))⟩
theorem PG (A:Nat) (W n f l:Int) (v:Value) (bm L i0:Nat) (R:Bool) (F:Nat->Bool) (w:World) (d:MK w A W v f l bm L F w) (o:f<=n) (s:n<=l) (hi:n - f=i0) (h:i0<L) (k:F i0=R) (C:0<=f) (D:l<=1000000) :
  Calls Tryz.prog 211 #[.pointer (some ⟨A,0,none⟩),.int .i64 n] w fun e y=>e=.returned (.bool R)/\∃ q,y=w.drewN q:=by
 have c:=hideS (fun t=>aK n f l t)
 rw [decide_eq_true ⟨o,s⟩] at c
 have m:=hideS d;have c2:=d.alm.c2;have c3:=d.alm.c3;have p:IntKind.i64.wrap (n - f)=(i0:Int):=by rw [IntKind.wrap_i64];omega
 have j:(i0:Int)<(L:Int):=by omega
 have x:=hideS k;clear d k
 go_enter Tryz.func211,Tryz.ntmps211
 go_wp2_with fail
 go_quiet ((go_at_call 209;exact Calls.quiet_of_same (c.out _)))
 obtain⟨g,a⟩:∃ g,g=w.drewN nq:=⟨_,rfl⟩;rw [<- a];have b:Hid (MK w A W v f l bm L F g):=by rw [a];exact m.out.drewN _
 have u:=hideS a;clear a c2 c3 m;have B:=b.out.alm.c2;have z:=b.out.alm.c4;have r:=b.out.row.cell (i:=i0) h;rw [x.out] at r
 go_wp2_with fail
 go_region
 go_wp2_with fail
 go_ret
 exact⟨rfl,nq+1,by rw [u.out];exact World.drewN_drewN _ _ 1⟩
theorem Ny (A:Nat) (W n f l a c:Int) (v u:Value) (i0 L:Nat) (R:Bool) (F:Nat->Bool) (w:World) (m:AlmC w A W v f l u) (j:¬ (f<=n/\n<=l))
  (r:Hid (∀ w1,Below w.heap.size w w1->AlmC w1 A W v f l u->Calls Tryz.prog 219 #[.pointer (some ⟨A,0,none⟩),.int .i64 n] w1 fun e k=>e=.returned (.tuple #[])/\∃ bm,MK w1 A W v a c bm L F k))
  (E:a<=n) (K:n<=c) (hi:n - a=i0) (q:i0<L) (y:F i0=R) (J:0<=a) (M:c<=1000000) :
  Calls Tryz.prog 211 #[.pointer (some ⟨A,0,none⟩),.int .i64 n] w fun e k=>e=.returned (.bool R)/\∃ bm,MK k A W v a c bm L F k/\Below A w k:=by
 have h:=hideS (fun C=>aK n f l C)
 rw [decide_eq_false j] at h
 have o:=hideS m;have c2:=m.c2;have c3:=m.c3;have z:IntKind.i64.wrap (n - a)=(i0:Int):=by rw [IntKind.wrap_i64];omega
 have t:(i0:Int)<(L:Int):=by omega
 have D:=hideS y;clear m y j
 go_enter Tryz.func211,Tryz.ntmps211
 go_wp2_with fail
 go_quiet ((go_at_call 209;exact Calls.quiet_of_same (h.out _)))
 obtain⟨w1,g⟩:∃ w1,w1=w.drewN nq:=⟨_,rfl⟩;rw [<- g];have d:Hid (Below w.heap.size w w1):=by rw [g];exact ni _ _
 have p:=hideS (o.out.below d.out o.out.lt);have s:Hid (Below A w w1):=d.out.mono (Nat.le_of_lt o.out.lt);clear g c2 c3 o
 go_wp2_with (go_at_call 219;refine (r.out _ d.out p.out).mono ?_;rintro e I ⟨rfl,bm,x⟩)
 have b:=hideS x;clear x;have H:=b.out.alm.c2;have G:=b.out.alm.c4;have B:=b.out.row.cell (i:=i0) q;rw [D.out] at B
 go_region
 go_wp2_with fail
 go_ret
 exact⟨rfl,bm,(b.out.drewN 1).base,s.out.trans (b.out.drewN 1).low⟩
structure AlmE (A:Nat) (W:Int) (p:Option Addr) (b off c:Nat) (rs:List Rul) (w:World):Prop where
 ok:OkC W rs
 src:RSrc w p b off rs
 low:0<rs.length->b<A
 st:AlmS w A W (.slice p rs.length c) rs
theorem AlmE.step {w a:World} {A:Nat} {W:Int} {p:Option Addr} {b off c:Nat} {rs:List Rul} (h:AlmE A W p b off c rs w) (d:Below w.heap.size w a):AlmE A W p b off c rs a:=
 ⟨h.ok,h.src.below d,h.low,h.st.step d⟩
theorem Nz (A:Nat) (W n:Int) (p:Option Addr) (b off c:Nat) (rs:List Rul) (w:World) (h:AlmE A W p b off c rs w) (hn:ap n) :
  Calls Tryz.prog 211 #[.pointer (some ⟨A,0,none⟩),.int .i64 n] w fun e k=>e=.returned (.bool (vQ W rs n (yrI n)))/\AlmE A W p b off c rs k/\Below A w k:=by
 obtain⟨E,F,x,M⟩:=Qy hn;obtain⟨y,m,d,G⟩:=iJ hn.1 hn.2;have I:=tO G;rw [I] at E F x M ⊢
 have o:0<=nyI y:=by have:=nP E;omega
 have g:nyI (y+1) - 1<=1000000:=by have:=nQ (y:=y+1) (by omega);omega
 have j:∀ f l u,AlmC w A W (.slice p rs.length c) f l u->¬ (f<=n/\n<=l)->Calls Tryz.prog 211 #[.pointer (some ⟨A,0,none⟩),.int .i64 n] w fun e k=>e=.returned (.bool (vQ W rs n y))/\AlmE A W p b off c rs k/\Below A w k:=fun f l u z D=>by
  obtain⟨L,H⟩:∃ L:Nat,(L:Int)=nyI (y+1) - nyI y:=⟨(nyI (y+1) - nyI y).toNat,by omega⟩
  refine (Ny A W n f l (nyI y) (nyI (y+1) - 1) _ u (n - nyI y).toNat L _ (fun i=>vQ W rs (nyI y+i) y) w z D (fun J v C=>?_) x (by omega) (by omega) (by omega) rfl o g).mono ?_
  ·refine (KN A W n y m d p b off c rs f l u J h.ok (h.src.below v) h.low C G).mono ?_
   rintro e k ⟨t,bm,O,P,r⟩;obtain rfl:O=L:=by omega
   exact⟨t,bm,r⟩
  ·rintro e k ⟨t,bm,r,v⟩;refine⟨?_,⟨h.ok,h.src.low v h.low,h.low,.year y bm L E F H r⟩,v⟩
   rw [t,show nyI y+(((n - nyI y).toNat:Nat):Int)=n by omega]
 rcases h.st with z | ⟨Y,bm,L,K,N,H,r⟩
 ·exact j _ _ _ z (fun a=>by omega)
 ·by_cases s:nyI Y<=n/\n<=nyI (Y+1) - 1
  ·have B:Y=y:=by rw [<- I];exact (Oh K N s.1 (by omega)).symm
   subst B;refine (PG A W n (nyI Y) (nyI (Y+1) - 1) _ bm L (n - nyI Y).toNat _ _ w r x (by omega) (by omega) (by omega) rfl o g).mono ?_
   rintro e k ⟨t,q,rfl⟩;refine⟨?_,h.step (ni _ _),(ni _ _).mono (Nat.le_of_lt h.st.lt)⟩
   rw [t,show nyI Y+(((n - nyI Y).toNat:Nat):Int)=n by omega]
  ·exact j _ _ _ r.alm s
theorem KO (A:Nat) (W n:Int) (p:Option Addr) (b off c:Nat) (rs:List Rul) (w:World) (h:AlmE A W p b off c rs w) (hn:ap n) :
  Calls Tryz.prog 195 #[.pointer (some ⟨A,0,none⟩),.int .i64 n] w fun e d=>e=.returned (.bool (opB W rs n))/\AlmE A W p b off c rs d/\Below A w d:=by
 have f:=hideS (fun l=>kq W n l (by have:=hn.1;omega) (by have:=hn.2;omega))
 have g:=hideS (Nz A W n p b off c rs w h hn);have c0:w.cell? ⟨A,0,none⟩=some (.int .i64 W):=by
  rcases h.st with k | ⟨Y,bm,L,q,r,s,j⟩
  ·exact k.c0
  ·exact j.alm.c0
 unfold opB;have i:=hideS h;clear h hn;generalize vQ W rs n (yrI n)=H at *
 generalize eE W n=F at *
 cases F
 ·go_enter Tryz.func195,Tryz.ntmps195
  go_wp2_with (first | (go_at_call 210;refine (iM (f.out _)).mono ?_;rintro e a ⟨rfl,rfl⟩) | (go_at_call 211;refine g.out.mono ?_;rintro e a ⟨rfl,o,m⟩))
  go_ret
  exact⟨rfl,o,m⟩
 ·go_enter Tryz.func195,Tryz.ntmps195
  go_wp2_with (go_at_call 210;refine (iM (f.out _)).mono ?_;rintro e a ⟨rfl,rfl⟩)
  go_ret
  exact⟨rfl,i.out,Below.refl _ _⟩
def OpH (A:Nat) (op:Int->Bool) (E:World->Prop):Prop:=
 ∀ x w,ap x->E w->Calls Tryz.prog 195 #[.pointer (some ⟨A,0,none⟩),.int .i64 x] w fun e a=>e=.returned (.bool (op x))/\E a/\Below A w a
theorem opH (A:Nat) (W:Int) (p:Option Addr) (b off c:Nat) (rs:List Rul):OpH A (opB W rs) (AlmE A W p b off c rs):=
 fun x w d a=>KO A W x p b off c rs w a d
theorem FU (A:Nat) (op:Int->Bool) (E:World->Prop) (a b:Int) (w:World) (H:Hid (OpH A op E)) (o:Hid (E w)) (u:ap a) (v:ap b) (G:a<=b) :
  Calls Tryz.prog 172 #[.pointer (some ⟨A,0,none⟩),.int .i64 a,.int .i64 b] w fun e y=>e=.returned (.int .i64 (cntN op a (b - a).toNat:Nat))/\E y/\Below A w y:=by
 have M:=u.1;have K:=v.2;clear u v;obtain⟨R,p⟩:∃ R:Int,((cntN op a (b - a).toNat:Nat):Int)=R:=⟨_,rfl⟩;rw [p];have I:=hideS p;clear p
 go_enter Tryz.func172,Tryz.ntmps172
 go_wp2_with fail
 go_loopw [7,8] (fun q i wr=>∃ (j:Nat) (x z:Int),a<=x/\x<=b/\0<=z/\z<=110000/\i=.int .i64 x/\q=.int .i64 z/\Hid (E wr)/\Hid (Below A w wr)/\Hid (x=a+j/\z=(cntN op a j:Nat)/\cntN op a j<=j)) (fun _ i _=>(b - intOf i).toNat)
 case atStart=>exact⟨0,a,0,by omega,by omega,by omega,by omega,rfl,rfl,o,Below.refl _ _,⟨by omega,rfl,Nat.le_refl _⟩⟩
 case round=>
  clear o;obtain⟨j,x,z,P,O,Q,J,rfl,rfl,o,r,s⟩:=hrel
  by_cases C:x<b
  ·have h:=hideS (H.out x wr ⟨by omega,by omega⟩ o.out)
   have n:cntN op a (j+1)=cntN op a j+(if op x then 1 else 0):=by rw [s.out.1];rfl
   have g:=Ku op a (j+1);have t:=s.out;cases f:op x
   ·rw [f] at h n
    rw [if_neg Bool.false_ne_true] at n
    have k:Hid (x+1=a+((j+1:Nat):Int)/\z=(cntN op a (j+1):Nat)/\cntN op a (j+1)<=j+1):=⟨by omega,by omega,g⟩
    clear n g t f
    go_wp2_with (go_at_call 195;refine h.out.mono ?_;rintro e B ⟨rfl,c,d⟩)
    have l:=hideS c;have m:=hideS (r.out.trans d);clear c d
    go_roundw
    case rel=>exact⟨j+1,x+1,z,by omega,by omega,by omega,by omega,rfl,rfl,l,m,k⟩
    case measure=>simp [intOf];omega
   ·rw [f] at h n
    rw [if_pos rfl] at n
    have k:Hid (x+1=a+((j+1:Nat):Int)/\z+1=(cntN op a (j+1):Nat)/\cntN op a (j+1)<=j+1):=⟨by omega,by omega,g⟩
    have L:z+1<=110000:=by omega
    clear n g t f
    go_wp2_with (go_at_call 195;refine h.out.mono ?_;rintro e B ⟨rfl,c,d⟩)
    have l:=hideS c;have m:=hideS (r.out.trans d);clear c d
    go_roundw
    case rel=>exact⟨j+1,x+1,z+1,by omega,by omega,by omega,by omega,rfl,rfl,l,m,k⟩
    case measure=>simp [intOf];omega
  ·have D:Hid (z=R):=by
    obtain⟨N,F,_⟩:=s.out
    show _=_
    rw [<- I.out,F,show (b - a).toNat=j by omega]
   go_wp2_with fail
   go_ret
   obtain rfl:=D.out;exact⟨rfl,o.out,r.out⟩
theorem NA (w:World) (W:Int) (v:Value):AlmC (w.alloc (.cells #[.int .i64 W,v,.int .i64 0,.int .i64 (-1),.slice none 0 0] 228)) w.heap.size W v 0 (-1) (.slice none 0 0):=
 ⟨World.rowIs_alloc w #[.int .i64 W,v,.int .i64 0,.int .i64 (-1),.slice none 0 0] 228 (QC W v 0 (-1) (.slice none 0 0)) (fun i hi=>by
  rcases five (show i<5 from hi) with rfl | rfl | rfl | rfl | rfl<;>rfl)⟩
structure Days (w:World) (dp:Option Addr) (bd:Nat) (xs:List Int):Prop where
 at_:0<xs.length->dp=some ⟨bd,0,none⟩
 lt:0<xs.length->bd<w.heap.size
 cell:∀ j<xs.length,w.cell? ⟨bd,j,none⟩=some (.int .i64 (xs.getD j 0))
theorem Days.below {w a:World} {b:Option Addr} {bd:Nat} {xs:List Int} (h:Days w b bd xs) (c:Below w.heap.size w a):Days a b bd xs:=
 ⟨h.at_,fun e=>Nat.lt_of_lt_of_le (h.lt e) c.size,fun j d=>(c.cell (p:=⟨bd,j,none⟩) (h.lt (by omega))).trans (h.cell j d)⟩
theorem FW (W:Int) (p h:Option Addr) (c N k i:Nat) (A B:Int) (w:World) (g:A≠0) (l:Hid (∀ b,Below w.heap.size w b->Calls Tryz.prog 193 #[.agg #[.int .i64 W,.slice p N c]] b fun e f=>e=.returned (.tuple #[.int .i64 A,.int .i64 B])/\Below b.heap.size b f)) :
  Calls Tryz.prog 171 #[.agg #[.int .i64 W,.slice p N c],.slice h k i] w fun e f=>e=.returned (.tuple #[.pointer none,.int .i64 A])/\Below w.heap.size w f:=by
 have a:Hid (Below w.heap.size w (w.alloc (.cells #[.int .i64 W,.slice p N c] 96))):=(Below.refl w.heap.size w).alloc (Nat.le_refl _) _;have j:(A !=0)=true:=bne_iff_ne.2 g;clear g
 go_enter Tryz.func171,Tryz.ntmps171
 go_wp2_with (go_at_call 193;refine (l.out _ a.out).mono ?_;rintro e m ⟨rfl,d⟩)
 go_ret2
 exact⟨rfl,a.out.trans (d.mono a.out.size)⟩
def QR (K a:Nat) (W:Int) (p:Option Addr) (b off c:Nat) (rs:List Rul) (w:World) (e:Ending) (d:World):Prop:=
 (K<a/\e=.returned (.tuple #[.pointer none,.int .i64 51]))\/(K=a/\∃ A,e=.returned (.tuple #[.pointer (some ⟨A,0,none⟩),.int .i64 0])/\w.heap.size<=A/\AlmE A W p b off c rs d)
theorem rl (W:Int) (p F:Option Addr) (b off c bd l O K:Nat) (rs:List Rul) (xs:List Int) (w:World) (h:OkC W rs) (C:RSrc w p b off rs) (q:xs.length=l) (H:Days w F bd xs) (hn:l<=10) (Y:K<=l) (o:∀ j<K,ap (xs.getD j 0)) (r:K<l->¬ ap (xs.getD K 0)) :
  Calls Tryz.prog 171 #[.agg #[.int .i64 W,.slice p rs.length c],.slice F l O] w fun e A=>QR K l W p b off c rs w e A/\Below w.heap.size w A:=by
 have D:Hid (∀ g,Below w.heap.size w g->Calls Tryz.prog 193 #[.agg #[.int .i64 W,.slice p rs.length c]] g fun e A=>e=.returned (.tuple #[.int .i64 0,.int .i64 0])/\Below g.heap.size g A):=fun g S=>tT W p b off c rs 0 0 g (.ok h) (C.below S) (by have:=h.len;omega)
 have J:=hideS h;have I:=hideS C;have y:=hideS H;have z:=hideS o;have t:=hideS r;have U:=hideS q;obtain⟨N,E⟩:∃ N,rs.length=N:=⟨_,rfl⟩;have P:=hideS E;rw [E] at D ⊢
 clear h C H o r q E;have u:Hid (Below w.heap.size w (w.alloc (.cells #[.int .i64 W,.slice p N c] 96))):=(Below.refl w.heap.size w).alloc (Nat.le_refl _) _;have V:=hideS (fun x g=>rg x g)
 go_enter Tryz.func171,Tryz.ntmps171
 go_wp2_with (go_at_call 193;refine (D.out _ u.out).mono ?_;rintro e G ⟨rfl,v⟩)
 have d:=hideS (CBoxP.first v);clear v D u
 go_loop [20] (fun i=>∃ k:Nat,k<=K/\i=.int .i64 k) (fun i=>l - (intOf i).toNat)
 case atStart=>exact⟨0,by omega,rfl⟩
 case round=>
  obtain⟨k,X,rfl⟩:=hrel
  by_cases s:k<l
  ·have q:k<xs.length:=by rw [U.out];exact s
   obtain rfl:=y.out.at_ (by omega)
   have T:=(y.out.below d.out.below).cell k q;obtain⟨x,f⟩:∃ x,xs.getD k 0=x:=⟨_,rfl⟩;rw [f] at T
   have n:=hideS (fun g=>V.out x g)
   by_cases B:k<K
   ·have a:=z.out k B;rw [f] at a
    rw [decide_eq_true a] at n
    clear a f q
    go_wp2_with (go_at_call 194;refine (iM (n.out _)).mono ?_;rintro e Q ⟨rfl,rfl⟩)
    go_round
    case rel=>exact⟨k+1,by omega,by go_num⟩
    case measure=>simp [intOf];omega
   ·obtain rfl:k=K:=by omega
    have a:=t.out s;rw [f] at a
    rw [decide_eq_false a] at n
    clear a f q
    go_wp2_with (go_at_call 194;refine (iM (n.out _)).mono ?_;rintro e Q ⟨rfl,rfl⟩)
    go_ret2
    exact⟨Or.inl ⟨s,rfl⟩,d.out.below⟩
  ·obtain rfl:k=K:=by omega
   have M:k=l:=by omega
   have R:¬ (k:Int)<l:=by omega
   obtain⟨c0,c1⟩:=d.out.cells
   go_wp2_with fail
   go_ret2
   have L:=NA G W (.slice p N c);have m:=d.out.below.size;refine⟨Or.inr ⟨rfl,G.heap.size,rfl,m,J.out,I.out.below (d.out.below.alloc m _),fun q=>Nat.lt_of_lt_of_le (I.out.lt q) m,?_⟩,d.out.below.alloc m _⟩
   rw [P.out];exact .none L
theorem KP (W:Int) (p g:Option Addr) (b off c bd d k:Nat) (rs:List Rul) (xs:List Int) (w:World) (h:OkC W rs) (n:RSrc w p b off rs) (l:xs.length=d) (q:Days w g bd xs) (hn:d<=10) (f:∀ j<d,ap (xs.getD j 0)) :
  Calls Tryz.prog 171 #[.agg #[.int .i64 W,.slice p rs.length c],.slice g d k] w fun e i=>∃ A,e=.returned (.tuple #[.pointer (some ⟨A,0,none⟩),.int .i64 0])/\w.heap.size<=A/\AlmE A W p b off c rs i/\Below w.heap.size w i:=by
 refine (rl W p g b off c bd d k d rs xs w h n l q hn (Nat.le_refl _) f (fun a=>absurd a (Nat.lt_irrefl _))).mono ?_
 rintro e i ⟨s,o⟩;rcases s with⟨a,_⟩| ⟨_,A,t,m,r⟩
 ·exact absurd a (Nat.lt_irrefl _)
 ·exact⟨A,t,m,r,o⟩
theorem FX (W:Int) (p g:Option Addr) (b off c bd d l:Nat) (rs:List Rul) (xs:List Int) (A B:Int) (w:World) (h:ChkR W rs A B) (t:RSrc w p b off rs) (z:rs.length<=9223372036854775807) (v:xs.length=d) (y:Days w g bd xs) (hn:d<=10) (f:A≠0\/∃ j<d,¬ ap (xs.getD j 0)) :
  Calls Tryz.prog 171 #[.agg #[.int .i64 W,.slice p rs.length c],.slice g d l] w fun e u=>e=.returned (.tuple #[.pointer none,.int .i64 (if A≠0 then A else 51)])/\Below w.heap.size w u:=by
 by_cases k:A=0
 ·subst k;obtain⟨n,rfl⟩:=PD h;rw [if_neg (fun a=>a rfl)]
  rcases f with a | ⟨j,E,r⟩
  ·exact absurd rfl a
  ·obtain⟨K,F,q,s⟩:=qX (p:=fun j=>decide (ap (xs.getD j 0))) (m:=j) (decide_eq_false r)
   refine (rl W p g b off c bd d l K rs xs w n t v y hn (by omega) (fun i hi=>of_decide_eq_true (s i hi)) (fun _=>of_decide_eq_false q)).mono ?_
   rintro e u ⟨C,o⟩;rcases C with⟨_,D⟩| ⟨a,_⟩
   ·exact⟨D,o⟩
   ·omega
 ·rw [if_pos k];exact FW W p g c rs.length d l A B w k (fun x o=>tT W p b off c rs A B x h (t.below o) z)
theorem NB {a b:Int} (h:ap a) (c:ap b):∀ j<2,ap ([a,b].getD j 0):=fun j d=>by
 rcases (show j=0\/j=1 by omega) with rfl | rfl
 ·exact h
 ·exact c
theorem zq (w:World) (o:Obj) (a b:Int):Days ((w.alloc o).alloc (.cells #[.int .i64 a,.int .i64 b] 3)) (some ⟨w.heap.size+1,0,none⟩) (w.heap.size+1) [a,b]:=
 ⟨fun _=>rfl,fun _=>by simp,fun j c=>by
  rcases (show j=0\/j=1 by have:j<2:=c;omega) with rfl | rfl
  ·exact zh _ _ 0 (by simp)
  ·exact zh _ _ 1 (by simp)⟩
theorem NC (W x y:Int) (p:Option Addr) (b off c:Nat) (rs:List Rul) (w:World) (h:OkC W rs) (i:RSrc w p b off rs) (d:ap x) (g:ap y) (o:Obj) :
  Calls Tryz.prog 171 #[.agg #[.int .i64 W,.slice p rs.length c],.slice (some ⟨w.heap.size+1,0,none⟩) 2 2] ((w.alloc o).alloc (.cells #[.int .i64 x,.int .i64 y] 3)) fun e a=>∃ A,e=.returned (.tuple #[.pointer (some ⟨A,0,none⟩),.int .i64 0])/\w.heap.size<=A/\AlmE A W p b off c rs a/\Below w.heap.size w a:=by
 refine (KP W p _ b off c (w.heap.size+1) 2 2 rs [x,y] _ h (i.below (iK w o _)) rfl (zq w o x y) (by omega) (NB d g)).mono ?_
 rintro e a ⟨A,l,f,k,j⟩;have:=(iK w o (.cells #[.int .i64 x,.int .i64 y] 3)).size;exact⟨A,l,Nat.le_trans this f,k,(iK w o _).trans (j.mono this)⟩
theorem ND (W x y:Int) (p:Option Addr) (b off c:Nat) (rs:List Rul) (w:World) (h:OkC W rs) (m:RSrc w p b off rs) (f:ap x) (j:ap y) (g:x<=y) :
  Calls Tryz.prog 155 #[.agg #[.int .i64 W,.slice p rs.length c],.int .i64 x,.int .i64 y] w fun e d=>e=.returned (.tuple #[.int .i64 (cntN (opB W rs) x (y - x).toNat:Nat),.int .i64 0])/\Below w.heap.size w d:=by
 have r:=hideS (fun o=>NC W x y p b off c rs w h m f j o)
 have s:Hid (∀ A a,AlmE A W p b off c rs a->Calls Tryz.prog 172 #[.pointer (some ⟨A,0,none⟩),.int .i64 x,.int .i64 y] a fun e d=>e=.returned (.int .i64 (cntN (opB W rs) x (y - x).toNat:Nat))/\AlmE A W p b off c rs d/\Below A a d):=fun A a k=>FU A _ _ x y a (opH A W p b off c rs) k f j g
 generalize ((cntN (opB W rs) x (y - x).toNat:Nat):Int)=X at *
 generalize rs.length=N at *
 have n:¬ y<x:=by omega
 clear h m f j
 go_enter Tryz.func155,Tryz.ntmps155
 go_wp2_with (first | (go_at_call 171;refine (r.out _).mono ?_;rintro e t ⟨A,rfl,q,k,i⟩) | (go_at_call 172;refine (s.out _ _ k).mono ?_;rintro e u ⟨rfl,_,l⟩))
 go_ret2
 exact⟨rfl,i.trans (l.mono q)⟩
theorem KQ (W x y:Int) (p:Option Addr) (b off c:Nat) (rs:List Rul) (A B E:Int) (w:World) (h:ChkR W rs A B) (m:RSrc w p b off rs) (n:rs.length<=9223372036854775807) (g:(A≠0/\E=A)\/(A=0/\¬ (ap x/\ap y)/\E=51)) :
  Calls Tryz.prog 155 #[.agg #[.int .i64 W,.slice p rs.length c],.int .i64 x,.int .i64 y] w fun e f=>e=.returned (.tuple #[.int .i64 0,.int .i64 E])/\Below w.heap.size w f:=by
 have s:Hid (∀ o,Calls Tryz.prog 171 #[.agg #[.int .i64 W,.slice p rs.length c],.slice (some ⟨w.heap.size+1,0,none⟩) 2 2] ((w.alloc o).alloc (.cells #[.int .i64 x,.int .i64 y] 3)) fun e f=>e=.returned (.tuple #[.pointer none,.int .i64 E])/\Below w.heap.size w f):=fun o=>by
  have d:A≠0\/∃ j<2,¬ ap ([x,y].getD j 0):=by
   rcases g with⟨a,_⟩| ⟨_,a,_⟩
   ·exact Or.inl a
   ·by_cases l:ap x
    ·exact Or.inr ⟨1,by omega,fun c=>a ⟨l,c⟩⟩
    ·exact Or.inr ⟨0,by omega,l⟩
  have k:(if A≠0 then A else 51)=E:=by
   rcases g with⟨a,e⟩| ⟨a,_,e⟩
   ·rw [if_pos a,e]
   ·rw [if_neg (fun c=>c a),e]
  have:=FX W p _ b off c (w.heap.size+1) 2 2 rs [x,y] A B _ h (m.below (iK w o _)) n rfl (zq w o x y) (by omega) d
  rw [k] at this
  exact this.mono fun e f ⟨t,r⟩=>⟨t,(iK w o _).trans (r.mono (iK w o (.cells #[.int .i64 x,.int .i64 y] 3)).size)⟩
 have q:(E !=0)=true:=by
  rcases g with⟨a,e⟩| ⟨_,_,e⟩
  ·rw [e];exact bne_iff_ne.2 a
  ·rw [e];rfl
 generalize rs.length=N at *
 clear h m n g
 go_enter Tryz.func155,Tryz.ntmps155
 go_wp2_with (go_at_call 171;refine (s.out _).mono ?_;rintro e u ⟨rfl,i⟩)
 go_ret2
 exact⟨rfl,i⟩
end Go.Proofs.YtfdddijdjpijbaaGreat
