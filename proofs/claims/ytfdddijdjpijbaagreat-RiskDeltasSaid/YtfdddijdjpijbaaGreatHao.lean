/-  -/
import Derived.Test.YtfdddijdjpijbaaGreatHam
import Derived.Deep.OwnRows
set_option maxHeartbeats 16000000
set_option maxRecDepth 10000
namespace Go.Proofs.YtfdddijdjpijbaaGreat
open Go.RowKit
def Ra (W:Int) (v:Value) (f l:Int) (m:Value):Nat->Value
 | 0=>.int .i64 W
 | 1=>v
 | 2=>.int .i64 f
 | 3=>.int .i64 l
 | _=>m
theorem five {i:Nat} (h:i<5):i=0\/i=1\/i=2\/i=3\/i=4:=by omega
structure AlmC (w:World) (A:Nat) (W:Int) (v:Value) (f l:Int) (m:Value):Prop where
 row:w.rowIs A 228 5 (Ra W v f l m)
theorem AlmC.c0 {w:World} {A:Nat} {W:Int} {v:Value} {f l:Int} {m:Value} (h:AlmC w A W v f l m):w.cell? ⟨A,0,none⟩=some (.int .i64 W):=h.row.cell (i:=0) (by omega)
theorem AlmC.c1 {w:World} {A:Nat} {W:Int} {v:Value} {f l:Int} {m:Value} (h:AlmC w A W v f l m):w.cell? ⟨A,1,none⟩=some v:=h.row.cell (i:=1) (by omega)
theorem AlmC.c2 {w:World} {A:Nat} {W:Int} {v:Value} {f l:Int} {m:Value} (h:AlmC w A W v f l m):w.cell? ⟨A,2,none⟩=some (.int .i64 f):=h.row.cell (i:=2) (by omega)
theorem AlmC.c3 {w:World} {A:Nat} {W:Int} {v:Value} {f l:Int} {m:Value} (h:AlmC w A W v f l m):w.cell? ⟨A,3,none⟩=some (.int .i64 l):=h.row.cell (i:=3) (by omega)
theorem AlmC.c4 {w:World} {A:Nat} {W:Int} {v:Value} {f l:Int} {m:Value} (h:AlmC w A W v f l m):w.cell? ⟨A,4,none⟩=some m:=h.row.cell (i:=4) (by omega)
theorem AlmC.fz {w:World} {A:Nat} {W:Int} {v:Value} {f l:Int} {m:Value} (h:AlmC w A W v f l m) (i:Nat):w.frozen? ⟨A,i,none⟩=false:=h.row.frozen i
theorem AlmC.lt {w:World} {A:Nat} {W:Int} {v:Value} {f l:Int} {m:Value} (h:AlmC w A W v f l m):A<w.heap.size:=h.row.lt
theorem AlmC.set2 {w:World} {A:Nat} {W:Int} {v:Value} {f l:Int} {m:Value} (h:AlmC w A W v f l m) (x:Int):AlmC (w.setCell ⟨A,2,none⟩ (.int .i64 x)) A W v x l m:=
 ⟨(h.row.set 2 (.int .i64 x)).congr fun i hi=>by rcases five hi with rfl | rfl | rfl | rfl | rfl<;>rfl⟩
theorem AlmC.set3 {w:World} {A:Nat} {W:Int} {v:Value} {f l:Int} {m:Value} (h:AlmC w A W v f l m) (x:Int):AlmC (w.setCell ⟨A,3,none⟩ (.int .i64 x)) A W v f x m:=
 ⟨(h.row.set 3 (.int .i64 x)).congr fun i hi=>by rcases five hi with rfl | rfl | rfl | rfl | rfl<;>rfl⟩
theorem AlmC.set4 {w:World} {A:Nat} {W:Int} {v:Value} {f l:Int} {m:Value} (h:AlmC w A W v f l m) (x:Value):AlmC (w.setCell ⟨A,4,none⟩ x) A W v f l x:=
 ⟨(h.row.set 4 x).congr fun i hi=>by rcases five hi with rfl | rfl | rfl | rfl | rfl<;>rfl⟩
theorem AlmC.below {w a:World} {A B:Nat} {W:Int} {v:Value} {f l:Int} {m:Value} (h:AlmC w A W v f l m) (b:Below B w a) (c:A<B):AlmC a A W v f l m:=⟨h.row.of_block (b.block A c)⟩
theorem AlmC.alloc {w:World} {A:Nat} {W:Int} {v:Value} {f l:Int} {m:Value} (h:AlmC w A W v f l m) (o:Obj):AlmC (w.alloc o) A W v f l m:=⟨h.row.alloc o⟩
theorem AlmC.other {w:World} {A:Nat} {W:Int} {v:Value} {f l:Int} {m:Value} (h:AlmC w A W v f l m) {a:Addr} (b:A≠a.block) (u:Value):AlmC (w.setCell a u) A W v f l m:=⟨h.row.setOther b u⟩
structure MK (w:World) (A:Nat) (W:Int) (v:Value) (f l:Int) (bm L:Nat) (F:Nat->Bool) (wr:World):Prop where
 alm:AlmC wr A W v f l (.slice (some ⟨bm,0,none⟩) L L)
 row:wr.rowIs bm 4 L (fun i=>.bool (F i))
 low:Below A w wr
 lt:A<bm
theorem MK.step {w wr b:World} {A:Nat} {W:Int} {v:Value} {f l:Int} {bm L:Nat} {F:Nat->Bool} (h:MK w A W v f l bm L F wr) (a:Below wr.heap.size wr b):MK w A W v f l bm L F b:=
 ⟨h.alm.below a h.alm.lt,h.row.of_block (a.block bm h.row.lt),h.low.trans (a.mono (Nat.le_of_lt h.alm.lt)),h.lt⟩
theorem MK.congr {w wr:World} {A:Nat} {W:Int} {v:Value} {f l:Int} {bm L:Nat} {F G:Nat->Bool} (h:MK w A W v f l bm L F wr) (e:∀ i<L,F i=G i):MK w A W v f l bm L G wr:=
 ⟨h.alm,h.row.congr (fun i hi=>by rw [e i hi]),h.low,h.lt⟩
theorem MK.set {w wr:World} {A:Nat} {W:Int} {v:Value} {f l:Int} {bm L:Nat} {F:Nat->Bool} (h:MK w A W v f l bm L F wr) (i:Nat):MK w A W v f l bm L (fun j=>F j||decide (j=i)) (wr.setCell ⟨bm,i,none⟩ (.bool true)):=
 ⟨h.alm.other (a:=⟨bm,i,none⟩) (by have:=h.lt;show A≠bm;omega) _,(h.row.set i (.bool true)).congr (fun j _=>by
  by_cases e:j=i
  ·rw [if_pos e,decide_eq_true e,Bool.or_true]
  ·rw [if_neg e,decide_eq_false e,Bool.or_false]),h.low.setCell (p:=⟨bm,i,none⟩) (Nat.le_of_lt h.lt) _,h.lt⟩
theorem MK.drewN {w wr:World} {A:Nat} {W:Int} {v:Value} {f l:Int} {bm L:Nat} {F:Nat->Bool} (h:MK w A W v f l bm L F wr) (n:Nat):MK w A W v f l bm L F (wr.drewN n):=
 ⟨⟨h.alm.row⟩,h.row,below_drewN' h.low,h.lt⟩
structure MK2 (w:World) (A:Nat) (W:Int) (v:Value) (f l:Int) (bm L:Nat) (F:Nat->Bool) (b9:Nat) (mv:Int) (wr:World):Prop where
 one:MK w A W v f l bm L F wr
 c8:wr.cell? ⟨b9,8,none⟩=some (.int .i64 mv)
 lt9:b9<wr.heap.size
 ne9:b9≠bm
theorem MK2.step {w wr c:World} {A:Nat} {W:Int} {v:Value} {f l:Int} {bm L:Nat} {F:Nat->Bool} {b:Nat} {mv:Int} (h:MK2 w A W v f l bm L F b mv wr) (a:Below wr.heap.size wr c):MK2 w A W v f l bm L F b mv c:=
 ⟨h.one.step a,(a.cell (p:=⟨b,8,none⟩) h.lt9).trans h.c8,Nat.lt_of_lt_of_le h.lt9 a.size,h.ne9⟩
theorem MK2.congr {w wr:World} {A:Nat} {W:Int} {v:Value} {f l:Int} {bm L:Nat} {F G:Nat->Bool} {a:Nat} {mv:Int} (h:MK2 w A W v f l bm L F a mv wr) (e:∀ i<L,F i=G i):MK2 w A W v f l bm L G a mv wr:=
 ⟨h.one.congr e,h.c8,h.lt9,h.ne9⟩
theorem MK2.set {w wr:World} {A:Nat} {W:Int} {v:Value} {f l:Int} {bm L:Nat} {F:Nat->Bool} {a:Nat} {mv:Int} (h:MK2 w A W v f l bm L F a mv wr) (i:Nat):MK2 w A W v f l bm L (fun j=>F j||decide (j=i)) a mv (wr.setCell ⟨bm,i,none⟩ (.bool true)):=
 ⟨h.one.set i,by
  have e:(wr.setCell ⟨bm,i,none⟩ (.bool true)).cell? ⟨a,8,none⟩=wr.cell? ⟨a,8,none⟩:=World.cell?_of_block (w:=wr) (Below.heap_setCell wr ⟨bm,i,none⟩ _ a h.ne9)
  rw [e];exact h.c8,by simpa using h.lt9,h.ne9⟩
theorem MK2.drewN {w wr:World} {A:Nat} {W:Int} {v:Value} {f l:Int} {bm L:Nat} {F:Nat->Bool} {a:Nat} {mv:Int} (h:MK2 w A W v f l bm L F a mv wr) (n:Nat):MK2 w A W v f l bm L F a mv (wr.drewN n):=
 ⟨h.one.drewN n,h.c8,h.lt9,h.ne9⟩
theorem MK2.first {w wr:World} {A:Nat} {W:Int} {v:Value} {f l:Int} {bm L:Nat} {F:Nat->Bool} {kind mon day nth wd off fr to mv:Int} (h:MK w A W v f l bm L F wr) :
  MK2 w A W v f l bm L F wr.heap.size mv (wr.alloc (.cells #[.int .i64 kind,.int .i64 mon,.int .i64 day,.int .i64 nth,.int .i64 wd,.int .i64 off,.int .i64 fr,.int .i64 to,.int .i64 mv] 235)):=
 ⟨h.step ((Below.refl _ wr).alloc (Nat.le_refl _) _),by simp,by simp,by have:=h.row.lt;omega⟩
theorem iT {P:Program} {f:Nat} {args:Array Value} {w:World} {Q:Ending->Prop} (h:Calls P f args w fun e c=>Q e/\c=w):Calls P f args w fun e c=>Q e/\w=c:=
 h.mono fun _ _ ⟨a,b⟩=>⟨a,b.symm⟩
theorem Rb {y:Int} (d:1900<=y) (f:y<=2199):100<=jE y:=by
 by_cases e:y=1900
 ·subst e;decide
 ·obtain⟨a,b⟩:=(nu (uh d f).ok).year;have c:=nY d
  show 100<=_
  unfold jE;omega
theorem pe {r:Rul} {y g:Int} (l:cF r=true) (h:cB r y=some g): -1<=g/\g<=200000:=by
 unfold cB at h
 by_cases i:r.kind=4
 ·rw [if_pos i] at h
  have d:0<=r.day/\r.day<=109572:=by
   rcases fit_cases l with⟨_,a,b,_⟩| ⟨_,⟨a,_⟩| ⟨a,_⟩| ⟨a,_⟩⟩
   ·exact⟨a,b⟩
   ·omega
   ·omega
   ·omega
  by_cases e:yrI r.day=y
  ·rw [if_pos e] at h
   have:=Option.some.inj h;omega
  ·rw [if_neg e] at h;cases h
 ·rw [if_neg i] at h
  unfold oa at h
  by_cases d:y<r.fr\/r.to<y
  ·rw [if_pos d] at h;cases h
  ·rw [if_neg d] at h
   rcases fit_cases l with⟨a,_⟩| ⟨⟨B,v,D,w,u⟩,c⟩
   ·exact absurd a i
   ·have f:1900<=y:=by omega
    have j:y<=2199:=by omega
    rcases c with⟨o,n,m,x,A⟩| ⟨p,n,m,t,q,c0,c1⟩| ⟨s,C,z⟩
    ·rw [if_pos o] at h
     by_cases k:okD y r.mon r.day
     ·rw [if_pos k] at h
      have:=(nu k).range;have:=Option.some.inj h;omega
     ·rw [if_neg k] at h;cases h
    ·rw [if_neg (by omega),if_pos p] at h
     have:=NP (y:=y) ⟨f,j,n,m⟩ t q c0 c1;have:=Option.some.inj h;omega
    ·rw [if_neg (by omega),if_neg (by omega),if_pos s] at h
     have:=Rb f j;have:=(nu (uh f j).ok).range;have e:=Option.some.inj h;unfold jE at *
     omega
theorem ki {W:Int} {rs:List Rul} {r:Rul} {Y I f:Int} {t k:Nat} (h:cB r I=none) (a:I=Y - 1+t) (i:Nat) :
  (mkK W rs Y (f+i) k||mkT W r Y (f+i) t)=(mkK W rs Y (f+i) k||mkT W r Y (f+i) (t+1)):=by
 show _=(mkK W rs Y (f+i) k||(mkT W r Y (f+i) t||mkB W r (Y - 1+t) (f+i)))
 rw [<- a,Lg h,Bool.or_false]
theorem ms {W:Int} {rs:List Rul} {r:Rul} {Y I f g x:Int} {t k L:Nat} (h:cB r I=some g) (b:I=Y - 1+t) (c:mvI W g r.mv=x) (a:¬ (f<=x/\x<=f+L - 1)) (i:Nat) (hi:i<L) :
  (mkK W rs Y (f+i) k||mkT W r Y (f+i) t)=(mkK W rs Y (f+i) k||mkT W r Y (f+i) (t+1)):=by
 show _=(mkK W rs Y (f+i) k||(mkT W r Y (f+i) t||mkB W r (Y - 1+t) (f+i)))
 rw [<- b,zS h,c,decide_eq_false (fun e=>a (by omega)),Bool.or_false]
theorem pg {W:Int} {rs:List Rul} {r:Rul} {Y I f g x:Int} {t k i0:Nat} (h:cB r I=some g) (a:I=Y - 1+t) (b:mvI W g r.mv=x) (c:x=f+i0) (i:Nat) :
  ((mkK W rs Y (f+i) k||mkT W r Y (f+i) t)||decide (i=i0))=(mkK W rs Y (f+i) k||mkT W r Y (f+i) (t+1)):=by
 show _=(mkK W rs Y (f+i) k||(mkT W r Y (f+i) t||mkB W r (Y - 1+t) (f+i)))
 rw [<- a,zS h,b,show decide (x=f+(i:Int))=decide (i=i0) from decide_eq_decide.2 (by omega),Bool.or_assoc]
theorem Rc:(Tryz.prog.info? 4).map (fun i=>(i.zero,i.size,i.bytes))=some (some (.bool false),1,1):=by kernel_rfl
theorem Lr (A:Nat) (W n Y m d:Int) (p:Option Addr) (b off c:Nat) (rs:List Rul) (f l:Int) (mm:Value) (w:World) (h:OkC W rs) (hs:RSrc w p b off rs) (df:0<rs.length->b<A) (hA:AlmC w A W (.slice p rs.length c) f l mm) (hd:IsD n Y m d) :
  Calls Tryz.prog 219 #[.pointer (some ⟨A,0,none⟩),.int .i64 n] w fun e w'=>e=.returned (.tuple #[])/\∃ (bm L:Nat),(L:Int)=nyI (Y+1) - nyI Y/\MK w A W (.slice p rs.length c) (nyI Y) (nyI (Y+1) - 1) bm L (fun i=>wN W rs (nyI Y+i) Y) w':=by
 obtain⟨y0,y1,_,_,_,_⟩:=hd.1;have HC:=hideS (fun C=>ie n Y m d C hd)
 have bx:=hideS (fun C=>nv Y 1 1 C (Co y0 y1))
 have ca:=hideS (fun C=>nv Y 12 31 C (Lf y0 y1))
 rw [Gy] at bx
 rw [Le y0] at ca
 have n1:0<=nyI Y:=by have:=nY y0;omega
 have n2:nyI Y<=110000:=by have:=nZ y0;omega
 have n3:nyI (Y+1)=nyI Y+365+lpI Y:=mh y0;have n4:=KS Y;have n5:=DY Y;obtain⟨L,hL⟩:∃ L:Nat,(L:Int)=nyI (Y+1) - nyI Y:=⟨(nyI (Y+1) - nyI Y).toNat,by omega⟩
 have HH:=hideS h;have HS:=hideS hs;have di:=hideS df;obtain⟨N,hN⟩:∃ N,rs.length=N:=⟨_,rfl⟩;have HN:=hideS hN;have dp:N<=64:=by rw [<- hN];exact h.len
 rw [hN] at hA ⊢
 obtain⟨j,br⟩:∃ j,nyI Y=j:=⟨_,rfl⟩;obtain⟨s,bo⟩:∃ s,nyI (Y+1) - 1=s:=⟨_,rfl⟩;have cv:=hideS (show 1900<=Y/\Y<=2199/\nyI Y=j/\nyI (Y+1) - 1=s from⟨y0,y1,br,bo⟩)
 have HL:=hideS hL;have l1:(L:Int)=s - j+1:=by omega
 have l2:L<=400:=by omega
 rw [br] at bx n1 n2 ⊢
 rw [bo] at ca ⊢
 have c2:=hA.c2;have f2:=hA.fz 2;have cd:=hA.set2 j;have d3:=cd.c3;have g3:=cd.fz 3;have al:=hideS (cd.set3 s);have ct:Hid (Below A w ((w.setCell ⟨A,2,none⟩ (.int .i64 j)).setCell ⟨A,3,none⟩ (.int .i64 s))):=((Below.refl A w).setCell (p:=⟨A,2,none⟩) (Nat.le_refl _) _).setCell (p:=⟨A,3,none⟩) (Nat.le_refl _) _;have da:=fun w=>run_make_row' (P:=Tryz.prog) 226 4 (.bool false) 1 Tryz.underlying226 Rc rfl .i64 .i64 L (by omega) (by omega) w
 obtain⟨wq,cm⟩:∃ wq,(w.setCell ⟨A,2,none⟩ (.int .i64 j)).setCell ⟨A,3,none⟩ (.int .i64 s)=wq:=⟨_,rfl⟩;rw [cm] at al ct
 have HQ:=hideS cm;clear cm hd hN hs h df hA cd br bo n3 n4 n5 hL
 go_enter Tryz.func219,Tryz.ntmps219
 go_wp2_with (first | (go_at_call 170;refine (iT (HC.out _)).mono ?_;rintro e w1 ⟨rfl,rfl⟩) | (go_at_call_of 187 (Value.int IntKind.i64 12);refine (iT (ca.out _)).mono ?_;rintro e w1 ⟨rfl,rfl⟩) | (go_at_call 187;refine (iT (bx.out _)).mono ?_;rintro e w1 ⟨rfl,rfl⟩))
 rw [HQ.out];clear c2 f2 d3 g3 HC bx ca HQ;have c2:=al.out.c2;have c3:=al.out.c3;have c4:=al.out.c4;have f4:=al.out.fz 4;have dc:IntKind.i64.wrap (s - j)=s - j:=by rw [IntKind.wrap_i64];omega
 have cx:IntKind.i64.wrap (s - j+1)=s - j+1:=by rw [IntKind.wrap_i64];omega
 simp only [l1] at da
 have cc:Hid (AlmC (wq.alloc (.cells (madeCells #[.bool false] L) 4)) A W (.slice p N c) j s mm):=al.out.alloc _;have e4:=cc.out.c4;have dk:=cc.out.fz 4
 go_region
 have bv:Hid (MK w A W (.slice p N c) j s wq.heap.size L (fun _=>false) (((wq.alloc (.cells (madeCells #[.bool false] L) 4)).setCell ⟨A,4,none⟩ (.slice (some ⟨wq.heap.size,0,none⟩) L L)).drew)):=
  ⟨⟨(cc.out.set4 (.slice (some ⟨wq.heap.size,0,none⟩) L L)).row⟩,World.rowIs.setOther (w:=wq.alloc (.cells (madeCells #[.bool false] L) 4)) (World.rowIs_made wq (.bool false) L 4) (a:=⟨A,4,none⟩) (by have:=al.out.lt;show wq.heap.size≠A;omega) _,((ct.out.alloc (Nat.le_of_lt al.out.lt) _).setCell (p:=⟨A,4,none⟩) (Nat.le_refl _) _).drew,al.out.lt⟩
 obtain⟨w3,cy⟩:∃ w3,((wq.alloc (.cells (madeCells #[.bool false] L) 4)).setCell ⟨A,4,none⟩ (.slice (some ⟨wq.heap.size,0,none⟩) L L)).drew=w3:=⟨_,rfl⟩;rw [cy] at bv ⊢
 generalize wq.heap.size=bm at *
 clear cy cc e4 dk c2 c3 c4 f4 dc cx al ct da;have a1:=bv.out.alm.c1
 go_wp2_with fail
 go_loopw [57] (fun i wr=>∃ (k:Nat),k<=N/\i=.int .i64 k/\Hid (MK w A W (.slice p N c) j s bm L (fun i=>mkK W rs Y (j+i) k) wr)) (fun i _=>N - (intOf i).toNat)
 case atStart=>exact⟨0,by omega,rfl,bv⟩
 case round=>
  clear bv a1;obtain⟨k,hk,rfl,bz⟩:=hrel
  by_cases dg:k<N
  ·have hx:k<rs.length:=by rw [HN.out];exact dg
   obtain rfl:=HS.out.at_ (by omega)
   have cu:=(HS.out.cell k hx).below bz.out.low (di.out (by omega))
   have HF:=hideS (HH.out.fit (rs.getD k jF) (ru hx));obtain⟨r,hr⟩:∃ r,rs.getD k jF=r:=⟨_,rfl⟩;rw [hr] at cu HF
   have bs:=hideS hr;clear hr hx;obtain⟨g0,g1,g2,g3,g4,g5,g6,g7,g8⟩:=cu;obtain⟨U,Z⟩:∃ U,U=r:=⟨r,rfl⟩;rw [<- Z] at bs HF
   have cf:Hid (U.mv=r.mv):=by show _=_;rw [Z]
   have ci:=fit_cases HF.out;rw [Z] at ci
   obtain⟨kind,mon,day,nth,wd,R,fr,to,mv⟩:=r;dsimp only at *
   have am:=hideS (MK2.first (kind:=kind) (mon:=mon) (day:=day) (nth:=nth) (wd:=wd) (off:=R) (fr:=fr) (to:=to) (mv:=mv) bz.out);have dn:(kind=1)\/(kind=2/\1<=mon/\mon<=12/\0<=wd/\wd<=6/\1<=nth/\nth<=5/\1900<=fr/\to<=2199)\/(kind=3/\-100<=R/\R<=100/\1900<=fr/\to<=2199)\/(kind=4/\0<=day/\day<=109572):=by omega
   clear ci bz;rcases dn with rfl | ⟨rfl,M⟩| ⟨rfl,M⟩| ⟨rfl,M⟩
   ·have ab:=hideS (fun C=>(bE 1 mon day nth wd R fr to mv C (by omega):Calls Tryz.prog 208 _ C fun e w'=>e=.returned (.iface 240 _)/\Below C.heap.size C w'))
    have ai:=hideS (fun (y:Int) (C:World)=>NZ mon day nth wd R fr to mv y C )
    rw [<- Z] at ai
    clear Z
    go_wp2_with (go_at_call 208;refine (ab.out _).mono ?_;rintro e w4 ⟨rfl,X⟩)
    have ad:=hideS (am.out.step X);clear X am ab;generalize wr.heap.size=b9 at *
    go_loopw [11] (fun y w2=>∃ (t:Nat) (I:Int),t<=3/\1899<=I/\I<=2201/\y=.int .i64 I/\Hid (I=Y - 1+t)/\Hid (MK2 w A W (.slice (some ⟨b,off,none⟩) N c) j s bm L (fun i=>mkK W rs Y (j+i) k||mkT W U Y (j+i) t) b9 mv w2)) (fun y _=>(Y+2 - intOf y).toNat)
    case atStart=>exact⟨0,Y - 1,by omega,by omega,by omega,rfl,by show _=_;omega,ad.out.congr (fun i _=>(Bool.or_false _).symm)⟩
    case round=>
     clear ad;obtain⟨t,I,ht,cq,cl,rfl,Q,HM⟩:=hrel
     by_cases cr:t<3
     ·have bc:I<=Y+1:=by have:=Q.out;omega
      have D:=hideS (fun C=>ai.out I C)
      obtain⟨o,ho⟩:∃ o,cB U I=o:=⟨_,rfl⟩;rw [ho] at D
      have K:=hideS ho;clear ho;rcases o with _ | g
      ·have F:=hideS (fun (i:Nat)=>ki (W:=W) (rs:=rs) (f:=j) (k:=k) K.out Q.out i)
       dsimp only [Option.isSome] at D
       go_wp2_with (go_at_call 252;refine (D.out _).mono ?_;rintro e w5 ⟨N5,rfl,_,v⟩;have q:=hideS (HM.out.step v);clear v)
       go_roundw
       case rel=>exact⟨t+1,I+1,by omega,by omega,by omega,rfl,by have:=Q.out;show _=_;omega,q.out.congr (fun i _=>F.out i)⟩
       case measure=>simp [intOf];omega
      ·have bi:=pe HF.out K.out;obtain⟨g0,g1⟩:=bi;obtain⟨u,dd,hu⟩:=rq HH.out.w0 HH.out.w1 g;have S:=hideS (fun C=>kh W g mv u dd C g0 (by omega) hu)
       have HX:Hid (mvI W g U.mv=cU W g mv u dd):=by show _=_;rw [cf.out,zK hu]
       have V:g - 6<=cU W g mv u dd/\cU W g mv u dd<=g+6:=by
        have:=hu.ub;have:=hu.db;unfold cU;split
        ·omega
        ·split<;>omega
       obtain⟨x,hx⟩:∃ x,cU W g mv u dd=x:=⟨_,rfl⟩;rw [hx] at S HX V
       obtain⟨x0,x1⟩:=V;clear hx hu;dsimp only [Option.isSome] at D
       have H:=hideS (fun C=>aJ x j s C)
       by_cases J:j<=x/\x<=s
       ·rw [decide_eq_true J] at H
        obtain⟨i0,cs⟩:∃ i0:Nat,x - j=i0:=⟨(x - j).toNat,by omega⟩
        have bh:i0<L:=by omega
        have F:=hideS (fun (i:Nat)=>pg (W:=W) (rs:=rs) (f:=j) (k:=k) (i0:=i0) K.out Q.out HX.out (by omega) i)
        have cp:IntKind.i64.wrap (x - j)=(i0:Int):=by rw [IntKind.wrap_i64];omega
        have bk:(i0:Int)<(L:Int):=by omega
        clear J
        go_wp2_with (go_at_call 252;refine (D.out _).mono ?_;rintro e w5 ⟨N5,rfl,G,v⟩;have q:=hideS (HM.out.step v);clear v;obtain rfl:=G _ rfl)
        have e0:=q.out.one.alm.c0;have e8:=q.out.c8;clear G
        go_quiet ((go_at_call 226;exact Calls.quiet_of_same (S.out _)))
        obtain⟨O,B⟩:∃ O,O=w5.drewN nq:=⟨_,rfl⟩;rw [<- B];have z:Hid (MK2 w A W (.slice (some ⟨b,off,none⟩) N c) j s bm L (fun i=>mkK W rs Y (j+i) k||mkT W U Y (j+i) t) b9 mv O):=by rw [B];exact q.out.drewN _
        clear B e0 e8 q;have e2:=z.out.one.alm.c2;have e3:=z.out.one.alm.c3
        go_wp2_with fail
        go_quiet ((go_at_call 209;exact Calls.quiet_of_same (H.out _)))
        obtain⟨w7,T⟩:∃ w7,w7=O.drewN nq:=⟨_,rfl⟩;rw [<- T];have E:Hid (MK2 w A W (.slice (some ⟨b,off,none⟩) N c) j s bm L (fun i=>mkK W rs Y (j+i) k||mkT W U Y (j+i) t) b9 mv w7):=by rw [T];exact z.out.drewN _
        clear T e2 e3 z;have e2:=E.out.one.alm.c2;have e4:=E.out.one.alm.c4;have em:=E.out.one.row.cell (i:=i0) bh;have ef:=E.out.one.row.frozen i0
        go_wp2_with fail
        go_region
        have ba:=hideS ((E.out.set i0).congr (fun i _=>F.out i))
        clear E e2 e4 em ef
        go_wp2_with fail
        go_roundw
        case rel=>exact⟨t+1,I+1,by omega,by omega,by omega,rfl,by have:=Q.out;show _=_;omega,ba.out.drewN 1⟩
        case measure=>simp [intOf];omega
       ·rw [decide_eq_false J] at H
        have F:=hideS (fun (i:Nat) (hi:i<L)=>ms (W:=W) (rs:=rs) (f:=j) (k:=k) (L:=L) K.out Q.out HX.out (by omega) i hi)
        clear J
        go_wp2_with (go_at_call 252;refine (D.out _).mono ?_;rintro e w5 ⟨N5,rfl,G,v⟩;have q:=hideS (HM.out.step v);clear v;obtain rfl:=G _ rfl)
        have e0:=q.out.one.alm.c0;have e8:=q.out.c8;clear G
        go_quiet ((go_at_call 226;exact Calls.quiet_of_same (S.out _)))
        obtain⟨O,B⟩:∃ O,O=w5.drewN nq:=⟨_,rfl⟩;rw [<- B];have z:Hid (MK2 w A W (.slice (some ⟨b,off,none⟩) N c) j s bm L (fun i=>mkK W rs Y (j+i) k||mkT W U Y (j+i) t) b9 mv O):=by rw [B];exact q.out.drewN _
        clear B e0 e8 q;have e2:=z.out.one.alm.c2;have e3:=z.out.one.alm.c3
        go_wp2_with fail
        go_quiet ((go_at_call 209;exact Calls.quiet_of_same (H.out _)))
        go_wp2_with fail
        go_roundw
        case rel=>exact⟨t+1,I+1,by omega,by omega,by omega,rfl,by have:=Q.out;show _=_;omega,(z.out.drewN _).congr (fun i hi=>F.out i hi)⟩
        case measure=>simp [intOf];omega
     ·have bc:¬ I<=Y+1:=by have:=Q.out;omega
      have bb:Hid (MK w A W (.slice (some ⟨b,off,none⟩) N c) j s bm L (fun i=>mkK W rs Y (j+i) (k+1)) wr):=by
       obtain rfl:t=3:=by omega
       exact HM.out.one.congr (fun i _=>by show _=(mkK W rs Y (j+i) k||mkT W (rs.getD k jF) Y (j+i) 3);rw [bs.out])
      go_wp2_with fail
      go_roundw
      case rel=>exact⟨k+1,by omega,by go_num,bb⟩
      case measure=>simp [intOf];omega
   ·have ab:=hideS (fun C=>(bE 2 mon day nth wd R fr to mv C (by omega):Calls Tryz.prog 208 _ C fun e w'=>e=.returned (.iface 241 _)/\Below C.heap.size C w'))
    have ai:=hideS (fun (y:Int) (C:World)=>Oa mon day nth wd R fr to mv y C M.1 M.2.1 M.2.2.1 M.2.2.2.1 M.2.2.2.2.1 M.2.2.2.2.2.1 M.2.2.2.2.2.2.1 M.2.2.2.2.2.2.2)
    rw [<- Z] at ai
    clear Z M
    go_wp2_with (go_at_call 208;refine (ab.out _).mono ?_;rintro e w4 ⟨rfl,X⟩)
    have ad:=hideS (am.out.step X);clear X am ab;generalize wr.heap.size=b9 at *
    go_loopw [11] (fun y w2=>∃ (t:Nat) (I:Int),t<=3/\1899<=I/\I<=2201/\y=.int .i64 I/\Hid (I=Y - 1+t)/\Hid (MK2 w A W (.slice (some ⟨b,off,none⟩) N c) j s bm L (fun i=>mkK W rs Y (j+i) k||mkT W U Y (j+i) t) b9 mv w2)) (fun y _=>(Y+2 - intOf y).toNat)
    case atStart=>exact⟨0,Y - 1,by omega,by omega,by omega,rfl,by show _=_;omega,ad.out.congr (fun i _=>(Bool.or_false _).symm)⟩
    case round=>
     clear ad;obtain⟨t,I,ht,cq,cl,rfl,Q,HM⟩:=hrel
     by_cases cr:t<3
     ·have bc:I<=Y+1:=by have:=Q.out;omega
      have D:=hideS (fun C=>ai.out I C)
      obtain⟨o,ho⟩:∃ o,cB U I=o:=⟨_,rfl⟩;rw [ho] at D
      have K:=hideS ho;clear ho;rcases o with _ | g
      ·have F:=hideS (fun (i:Nat)=>ki (W:=W) (rs:=rs) (f:=j) (k:=k) K.out Q.out i)
       dsimp only [Option.isSome] at D
       go_wp2_with (go_at_call 255;refine (D.out _).mono ?_;rintro e w5 ⟨N5,rfl,_,v⟩;have q:=hideS (HM.out.step v);clear v)
       go_roundw
       case rel=>exact⟨t+1,I+1,by omega,by omega,by omega,rfl,by have:=Q.out;show _=_;omega,q.out.congr (fun i _=>F.out i)⟩
       case measure=>simp [intOf];omega
      ·have bi:=pe HF.out K.out;obtain⟨g0,g1⟩:=bi;obtain⟨u,dd,hu⟩:=rq HH.out.w0 HH.out.w1 g;have S:=hideS (fun C=>kh W g mv u dd C g0 (by omega) hu)
       have HX:Hid (mvI W g U.mv=cU W g mv u dd):=by show _=_;rw [cf.out,zK hu]
       have V:g - 6<=cU W g mv u dd/\cU W g mv u dd<=g+6:=by
        have:=hu.ub;have:=hu.db;unfold cU;split
        ·omega
        ·split<;>omega
       obtain⟨x,hx⟩:∃ x,cU W g mv u dd=x:=⟨_,rfl⟩;rw [hx] at S HX V
       obtain⟨x0,x1⟩:=V;clear hx hu;dsimp only [Option.isSome] at D
       have H:=hideS (fun C=>aJ x j s C)
       by_cases J:j<=x/\x<=s
       ·rw [decide_eq_true J] at H
        obtain⟨i0,cs⟩:∃ i0:Nat,x - j=i0:=⟨(x - j).toNat,by omega⟩
        have bh:i0<L:=by omega
        have F:=hideS (fun (i:Nat)=>pg (W:=W) (rs:=rs) (f:=j) (k:=k) (i0:=i0) K.out Q.out HX.out (by omega) i)
        have cp:IntKind.i64.wrap (x - j)=(i0:Int):=by rw [IntKind.wrap_i64];omega
        have bk:(i0:Int)<(L:Int):=by omega
        clear J
        go_wp2_with (go_at_call 255;refine (D.out _).mono ?_;rintro e w5 ⟨N5,rfl,G,v⟩;have q:=hideS (HM.out.step v);clear v;obtain rfl:=G _ rfl)
        have e0:=q.out.one.alm.c0;have e8:=q.out.c8;clear G
        go_quiet ((go_at_call 226;exact Calls.quiet_of_same (S.out _)))
        obtain⟨O,B⟩:∃ O,O=w5.drewN nq:=⟨_,rfl⟩;rw [<- B];have z:Hid (MK2 w A W (.slice (some ⟨b,off,none⟩) N c) j s bm L (fun i=>mkK W rs Y (j+i) k||mkT W U Y (j+i) t) b9 mv O):=by rw [B];exact q.out.drewN _
        clear B e0 e8 q;have e2:=z.out.one.alm.c2;have e3:=z.out.one.alm.c3
        go_wp2_with fail
        go_quiet ((go_at_call 209;exact Calls.quiet_of_same (H.out _)))
        obtain⟨w7,T⟩:∃ w7,w7=O.drewN nq:=⟨_,rfl⟩;rw [<- T];have E:Hid (MK2 w A W (.slice (some ⟨b,off,none⟩) N c) j s bm L (fun i=>mkK W rs Y (j+i) k||mkT W U Y (j+i) t) b9 mv w7):=by rw [T];exact z.out.drewN _
        clear T e2 e3 z;have e2:=E.out.one.alm.c2;have e4:=E.out.one.alm.c4;have em:=E.out.one.row.cell (i:=i0) bh;have ef:=E.out.one.row.frozen i0
        go_wp2_with fail
        go_region
        have ba:=hideS ((E.out.set i0).congr (fun i _=>F.out i))
        clear E e2 e4 em ef
        go_wp2_with fail
        go_roundw
        case rel=>exact⟨t+1,I+1,by omega,by omega,by omega,rfl,by have:=Q.out;show _=_;omega,ba.out.drewN 1⟩
        case measure=>simp [intOf];omega
       ·rw [decide_eq_false J] at H
        have F:=hideS (fun (i:Nat) (hi:i<L)=>ms (W:=W) (rs:=rs) (f:=j) (k:=k) (L:=L) K.out Q.out HX.out (by omega) i hi)
        clear J
        go_wp2_with (go_at_call 255;refine (D.out _).mono ?_;rintro e w5 ⟨N5,rfl,G,v⟩;have q:=hideS (HM.out.step v);clear v;obtain rfl:=G _ rfl)
        have e0:=q.out.one.alm.c0;have e8:=q.out.c8;clear G
        go_quiet ((go_at_call 226;exact Calls.quiet_of_same (S.out _)))
        obtain⟨O,B⟩:∃ O,O=w5.drewN nq:=⟨_,rfl⟩;rw [<- B];have z:Hid (MK2 w A W (.slice (some ⟨b,off,none⟩) N c) j s bm L (fun i=>mkK W rs Y (j+i) k||mkT W U Y (j+i) t) b9 mv O):=by rw [B];exact q.out.drewN _
        clear B e0 e8 q;have e2:=z.out.one.alm.c2;have e3:=z.out.one.alm.c3
        go_wp2_with fail
        go_quiet ((go_at_call 209;exact Calls.quiet_of_same (H.out _)))
        go_wp2_with fail
        go_roundw
        case rel=>exact⟨t+1,I+1,by omega,by omega,by omega,rfl,by have:=Q.out;show _=_;omega,(z.out.drewN _).congr (fun i hi=>F.out i hi)⟩
        case measure=>simp [intOf];omega
     ·have bc:¬ I<=Y+1:=by have:=Q.out;omega
      have bb:Hid (MK w A W (.slice (some ⟨b,off,none⟩) N c) j s bm L (fun i=>mkK W rs Y (j+i) (k+1)) wr):=by
       obtain rfl:t=3:=by omega
       exact HM.out.one.congr (fun i _=>by show _=(mkK W rs Y (j+i) k||mkT W (rs.getD k jF) Y (j+i) 3);rw [bs.out])
      go_wp2_with fail
      go_roundw
      case rel=>exact⟨k+1,by omega,by go_num,bb⟩
      case measure=>simp [intOf];omega
   ·have ab:=hideS (fun C=>(bE 3 mon day nth wd R fr to mv C (by omega):Calls Tryz.prog 208 _ C fun e w'=>e=.returned (.iface 242 _)/\Below C.heap.size C w'))
    have ai:=hideS (fun (y:Int) (C:World)=>Oc mon day nth wd R fr to mv y C M.1 M.2.1 M.2.2.1 M.2.2.2)
    rw [<- Z] at ai
    clear Z M
    go_wp2_with (go_at_call 208;refine (ab.out _).mono ?_;rintro e w4 ⟨rfl,X⟩)
    have ad:=hideS (am.out.step X);clear X am ab;generalize wr.heap.size=b9 at *
    go_loopw [11] (fun y w2=>∃ (t:Nat) (I:Int),t<=3/\1899<=I/\I<=2201/\y=.int .i64 I/\Hid (I=Y - 1+t)/\Hid (MK2 w A W (.slice (some ⟨b,off,none⟩) N c) j s bm L (fun i=>mkK W rs Y (j+i) k||mkT W U Y (j+i) t) b9 mv w2)) (fun y _=>(Y+2 - intOf y).toNat)
    case atStart=>exact⟨0,Y - 1,by omega,by omega,by omega,rfl,by show _=_;omega,ad.out.congr (fun i _=>(Bool.or_false _).symm)⟩
    case round=>
     clear ad;obtain⟨t,I,ht,cq,cl,rfl,Q,HM⟩:=hrel
     by_cases cr:t<3
     ·have bc:I<=Y+1:=by have:=Q.out;omega
      have D:=hideS (fun C=>ai.out I C)
      obtain⟨o,ho⟩:∃ o,cB U I=o:=⟨_,rfl⟩;rw [ho] at D
      have K:=hideS ho;clear ho;rcases o with _ | g
      ·have F:=hideS (fun (i:Nat)=>ki (W:=W) (rs:=rs) (f:=j) (k:=k) K.out Q.out i)
       dsimp only [Option.isSome] at D
       go_wp2_with (go_at_call 257;refine (D.out _).mono ?_;rintro e w5 ⟨N5,rfl,_,v⟩;have q:=hideS (HM.out.step v);clear v)
       go_roundw
       case rel=>exact⟨t+1,I+1,by omega,by omega,by omega,rfl,by have:=Q.out;show _=_;omega,q.out.congr (fun i _=>F.out i)⟩
       case measure=>simp [intOf];omega
      ·have bi:=pe HF.out K.out;obtain⟨g0,g1⟩:=bi;obtain⟨u,dd,hu⟩:=rq HH.out.w0 HH.out.w1 g;have S:=hideS (fun C=>kh W g mv u dd C g0 (by omega) hu)
       have HX:Hid (mvI W g U.mv=cU W g mv u dd):=by show _=_;rw [cf.out,zK hu]
       have V:g - 6<=cU W g mv u dd/\cU W g mv u dd<=g+6:=by
        have:=hu.ub;have:=hu.db;unfold cU;split
        ·omega
        ·split<;>omega
       obtain⟨x,hx⟩:∃ x,cU W g mv u dd=x:=⟨_,rfl⟩;rw [hx] at S HX V
       obtain⟨x0,x1⟩:=V;clear hx hu;dsimp only [Option.isSome] at D
       have H:=hideS (fun C=>aJ x j s C)
       by_cases J:j<=x/\x<=s
       ·rw [decide_eq_true J] at H
        obtain⟨i0,cs⟩:∃ i0:Nat,x - j=i0:=⟨(x - j).toNat,by omega⟩
        have bh:i0<L:=by omega
        have F:=hideS (fun (i:Nat)=>pg (W:=W) (rs:=rs) (f:=j) (k:=k) (i0:=i0) K.out Q.out HX.out (by omega) i)
        have cp:IntKind.i64.wrap (x - j)=(i0:Int):=by rw [IntKind.wrap_i64];omega
        have bk:(i0:Int)<(L:Int):=by omega
        clear J
        go_wp2_with (go_at_call 257;refine (D.out _).mono ?_;rintro e w5 ⟨N5,rfl,G,v⟩;have q:=hideS (HM.out.step v);clear v;obtain rfl:=G _ rfl)
        have e0:=q.out.one.alm.c0;have e8:=q.out.c8;clear G
        go_quiet ((go_at_call 226;exact Calls.quiet_of_same (S.out _)))
        obtain⟨O,B⟩:∃ O,O=w5.drewN nq:=⟨_,rfl⟩;rw [<- B];have z:Hid (MK2 w A W (.slice (some ⟨b,off,none⟩) N c) j s bm L (fun i=>mkK W rs Y (j+i) k||mkT W U Y (j+i) t) b9 mv O):=by rw [B];exact q.out.drewN _
        clear B e0 e8 q;have e2:=z.out.one.alm.c2;have e3:=z.out.one.alm.c3
        go_wp2_with fail
        go_quiet ((go_at_call 209;exact Calls.quiet_of_same (H.out _)))
        obtain⟨w7,T⟩:∃ w7,w7=O.drewN nq:=⟨_,rfl⟩;rw [<- T];have E:Hid (MK2 w A W (.slice (some ⟨b,off,none⟩) N c) j s bm L (fun i=>mkK W rs Y (j+i) k||mkT W U Y (j+i) t) b9 mv w7):=by rw [T];exact z.out.drewN _
        clear T e2 e3 z;have e2:=E.out.one.alm.c2;have e4:=E.out.one.alm.c4;have em:=E.out.one.row.cell (i:=i0) bh;have ef:=E.out.one.row.frozen i0
        go_wp2_with fail
        go_region
        have ba:=hideS ((E.out.set i0).congr (fun i _=>F.out i))
        clear E e2 e4 em ef
        go_wp2_with fail
        go_roundw
        case rel=>exact⟨t+1,I+1,by omega,by omega,by omega,rfl,by have:=Q.out;show _=_;omega,ba.out.drewN 1⟩
        case measure=>simp [intOf];omega
       ·rw [decide_eq_false J] at H
        have F:=hideS (fun (i:Nat) (hi:i<L)=>ms (W:=W) (rs:=rs) (f:=j) (k:=k) (L:=L) K.out Q.out HX.out (by omega) i hi)
        clear J
        go_wp2_with (go_at_call 257;refine (D.out _).mono ?_;rintro e w5 ⟨N5,rfl,G,v⟩;have q:=hideS (HM.out.step v);clear v;obtain rfl:=G _ rfl)
        have e0:=q.out.one.alm.c0;have e8:=q.out.c8;clear G
        go_quiet ((go_at_call 226;exact Calls.quiet_of_same (S.out _)))
        obtain⟨O,B⟩:∃ O,O=w5.drewN nq:=⟨_,rfl⟩;rw [<- B];have z:Hid (MK2 w A W (.slice (some ⟨b,off,none⟩) N c) j s bm L (fun i=>mkK W rs Y (j+i) k||mkT W U Y (j+i) t) b9 mv O):=by rw [B];exact q.out.drewN _
        clear B e0 e8 q;have e2:=z.out.one.alm.c2;have e3:=z.out.one.alm.c3
        go_wp2_with fail
        go_quiet ((go_at_call 209;exact Calls.quiet_of_same (H.out _)))
        go_wp2_with fail
        go_roundw
        case rel=>exact⟨t+1,I+1,by omega,by omega,by omega,rfl,by have:=Q.out;show _=_;omega,(z.out.drewN _).congr (fun i hi=>F.out i hi)⟩
        case measure=>simp [intOf];omega
     ·have bc:¬ I<=Y+1:=by have:=Q.out;omega
      have bb:Hid (MK w A W (.slice (some ⟨b,off,none⟩) N c) j s bm L (fun i=>mkK W rs Y (j+i) (k+1)) wr):=by
       obtain rfl:t=3:=by omega
       exact HM.out.one.congr (fun i _=>by show _=(mkK W rs Y (j+i) k||mkT W (rs.getD k jF) Y (j+i) 3);rw [bs.out])
      go_wp2_with fail
      go_roundw
      case rel=>exact⟨k+1,by omega,by go_num,bb⟩
      case measure=>simp [intOf];omega
   ·have ab:=hideS (fun C=>(bE 4 mon day nth wd R fr to mv C (by omega):Calls Tryz.prog 208 _ C fun e w'=>e=.returned (.iface 243 _)/\Below C.heap.size C w'))
    have ai:=hideS (fun (y:Int) (C:World)=>Ob mon day nth wd R fr to mv y C M.1 M.2)
    rw [<- Z] at ai
    clear Z M
    go_wp2_with (go_at_call 208;refine (ab.out _).mono ?_;rintro e w4 ⟨rfl,X⟩)
    have ad:=hideS (am.out.step X);clear X am ab;generalize wr.heap.size=b9 at *
    go_loopw [11] (fun y w2=>∃ (t:Nat) (I:Int),t<=3/\1899<=I/\I<=2201/\y=.int .i64 I/\Hid (I=Y - 1+t)/\Hid (MK2 w A W (.slice (some ⟨b,off,none⟩) N c) j s bm L (fun i=>mkK W rs Y (j+i) k||mkT W U Y (j+i) t) b9 mv w2)) (fun y _=>(Y+2 - intOf y).toNat)
    case atStart=>exact⟨0,Y - 1,by omega,by omega,by omega,rfl,by show _=_;omega,ad.out.congr (fun i _=>(Bool.or_false _).symm)⟩
    case round=>
     clear ad;obtain⟨t,I,ht,cq,cl,rfl,Q,HM⟩:=hrel
     by_cases cr:t<3
     ·have bc:I<=Y+1:=by have:=Q.out;omega
      have D:=hideS (fun C=>ai.out I C)
      obtain⟨o,ho⟩:∃ o,cB U I=o:=⟨_,rfl⟩;rw [ho] at D
      have K:=hideS ho;clear ho;rcases o with _ | g
      ·have F:=hideS (fun (i:Nat)=>ki (W:=W) (rs:=rs) (f:=j) (k:=k) K.out Q.out i)
       dsimp only [Option.isSome] at D
       go_wp2_with (go_at_call 261;refine (D.out _).mono ?_;rintro e w5 ⟨N5,rfl,_,v⟩;have q:=hideS (HM.out.step v);clear v)
       go_roundw
       case rel=>exact⟨t+1,I+1,by omega,by omega,by omega,rfl,by have:=Q.out;show _=_;omega,q.out.congr (fun i _=>F.out i)⟩
       case measure=>simp [intOf];omega
      ·have bi:=pe HF.out K.out;obtain⟨g0,g1⟩:=bi;obtain⟨u,dd,hu⟩:=rq HH.out.w0 HH.out.w1 g;have S:=hideS (fun C=>kh W g mv u dd C g0 (by omega) hu)
       have HX:Hid (mvI W g U.mv=cU W g mv u dd):=by show _=_;rw [cf.out,zK hu]
       have V:g - 6<=cU W g mv u dd/\cU W g mv u dd<=g+6:=by
        have:=hu.ub;have:=hu.db;unfold cU;split
        ·omega
        ·split<;>omega
       obtain⟨x,hx⟩:∃ x,cU W g mv u dd=x:=⟨_,rfl⟩;rw [hx] at S HX V
       obtain⟨x0,x1⟩:=V;clear hx hu;dsimp only [Option.isSome] at D
       have H:=hideS (fun C=>aJ x j s C)
       by_cases J:j<=x/\x<=s
       ·rw [decide_eq_true J] at H
        obtain⟨i0,cs⟩:∃ i0:Nat,x - j=i0:=⟨(x - j).toNat,by omega⟩
        have bh:i0<L:=by omega
        have F:=hideS (fun (i:Nat)=>pg (W:=W) (rs:=rs) (f:=j) (k:=k) (i0:=i0) K.out Q.out HX.out (by omega) i)
        have cp:IntKind.i64.wrap (x - j)=(i0:Int):=by rw [IntKind.wrap_i64];omega
        have bk:(i0:Int)<(L:Int):=by omega
        clear J
        go_wp2_with (go_at_call 261;refine (D.out _).mono ?_;rintro e w5 ⟨N5,rfl,G,v⟩;have q:=hideS (HM.out.step v);clear v;obtain rfl:=G _ rfl)
        have e0:=q.out.one.alm.c0;have e8:=q.out.c8;clear G
        go_quiet ((go_at_call 226;exact Calls.quiet_of_same (S.out _)))
        obtain⟨O,B⟩:∃ O,O=w5.drewN nq:=⟨_,rfl⟩;rw [<- B];have z:Hid (MK2 w A W (.slice (some ⟨b,off,none⟩) N c) j s bm L (fun i=>mkK W rs Y (j+i) k||mkT W U Y (j+i) t) b9 mv O):=by rw [B];exact q.out.drewN _
        clear B e0 e8 q;have e2:=z.out.one.alm.c2;have e3:=z.out.one.alm.c3
        go_wp2_with fail
        go_quiet ((go_at_call 209;exact Calls.quiet_of_same (H.out _)))
        obtain⟨w7,T⟩:∃ w7,w7=O.drewN nq:=⟨_,rfl⟩;rw [<- T];have E:Hid (MK2 w A W (.slice (some ⟨b,off,none⟩) N c) j s bm L (fun i=>mkK W rs Y (j+i) k||mkT W U Y (j+i) t) b9 mv w7):=by rw [T];exact z.out.drewN _
        clear T e2 e3 z;have e2:=E.out.one.alm.c2;have e4:=E.out.one.alm.c4;have em:=E.out.one.row.cell (i:=i0) bh;have ef:=E.out.one.row.frozen i0
        go_wp2_with fail
        go_region
        have ba:=hideS ((E.out.set i0).congr (fun i _=>F.out i))
        clear E e2 e4 em ef
        go_wp2_with fail
        go_roundw
        case rel=>exact⟨t+1,I+1,by omega,by omega,by omega,rfl,by have:=Q.out;show _=_;omega,ba.out.drewN 1⟩
        case measure=>simp [intOf];omega
       ·rw [decide_eq_false J] at H
        have F:=hideS (fun (i:Nat) (hi:i<L)=>ms (W:=W) (rs:=rs) (f:=j) (k:=k) (L:=L) K.out Q.out HX.out (by omega) i hi)
        clear J
        go_wp2_with (go_at_call 261;refine (D.out _).mono ?_;rintro e w5 ⟨N5,rfl,G,v⟩;have q:=hideS (HM.out.step v);clear v;obtain rfl:=G _ rfl)
        have e0:=q.out.one.alm.c0;have e8:=q.out.c8;clear G
        go_quiet ((go_at_call 226;exact Calls.quiet_of_same (S.out _)))
        obtain⟨O,B⟩:∃ O,O=w5.drewN nq:=⟨_,rfl⟩;rw [<- B];have z:Hid (MK2 w A W (.slice (some ⟨b,off,none⟩) N c) j s bm L (fun i=>mkK W rs Y (j+i) k||mkT W U Y (j+i) t) b9 mv O):=by rw [B];exact q.out.drewN _
        clear B e0 e8 q;have e2:=z.out.one.alm.c2;have e3:=z.out.one.alm.c3
        go_wp2_with fail
        go_quiet ((go_at_call 209;exact Calls.quiet_of_same (H.out _)))
        go_wp2_with fail
        go_roundw
        case rel=>exact⟨t+1,I+1,by omega,by omega,by omega,rfl,by have:=Q.out;show _=_;omega,(z.out.drewN _).congr (fun i hi=>F.out i hi)⟩
        case measure=>simp [intOf];omega
     ·have bc:¬ I<=Y+1:=by have:=Q.out;omega
      have bb:Hid (MK w A W (.slice (some ⟨b,off,none⟩) N c) j s bm L (fun i=>mkK W rs Y (j+i) (k+1)) wr):=by
       obtain rfl:t=3:=by omega
       exact HM.out.one.congr (fun i _=>by show _=(mkK W rs Y (j+i) k||mkT W (rs.getD k jF) Y (j+i) 3);rw [bs.out])
      go_wp2_with fail
      go_roundw
      case rel=>exact⟨k+1,by omega,by go_num,bb⟩
      case measure=>simp [intOf];omega
  ·have ds:¬ (k:Int)<N:=by omega
   obtain rfl:k=N:=by omega
   have HE:Hid (MK w A W (.slice p k c) j s bm L (fun i=>wN W rs (j+i) Y) wr):=bz.out.congr (fun i hi=>by
    obtain⟨y0,y1,hf,hl⟩:=cv.out;rw [<- NS HH.out.w0 HH.out.w1 HH.out.fit (OM y0 y1 (by omega) (by omega)),HN.out])
   go_wp2_with fail
   go_end0
   exact⟨rfl,bm,L,by rw [<- cv.out.2.2.1];exact HL.out,HE.out⟩
theorem MK.base {w wr:World} {A:Nat} {W:Int} {v:Value} {f l:Int} {bm L:Nat} {F:Nat->Bool} (h:MK w A W v f l bm L F wr):MK wr A W v f l bm L F wr:=⟨h.alm,h.row,Below.refl _ _,h.lt⟩
inductive AlmS (w:World) (A:Nat) (W:Int) (v:Value) (rs:List Rul):Prop where
 | none:AlmC w A W v 0 (-1) (.slice none 0 0)->AlmS w A W v rs
 | year (Y:Int) (bm L:Nat):1900<=Y->Y<=2199->(L:Int)=nyI (Y+1) - nyI Y->MK w A W v (nyI Y) (nyI (Y+1) - 1) bm L (fun i=>wN W rs (nyI Y+i) Y) w->AlmS w A W v rs
theorem AlmS.step {w d:World} {A:Nat} {W:Int} {v:Value} {rs:List Rul} (h:AlmS w A W v rs) (e:Below w.heap.size w d):AlmS d A W v rs:=by
 cases h with
 | none h=>exact .none (h.below e h.lt)
 | year Y bm L a b c h=>exact .year Y bm L a b c (h.step e).base
theorem AlmS.lt {w:World} {A:Nat} {W:Int} {v:Value} {rs:List Rul} (h:AlmS w A W v rs):A<w.heap.size:=by
 cases h with
 | none h=>exact h.lt
 | year Y bm L a b c h=>exact h.alm.lt
theorem nB (w:World) (q:Nat):Below w.heap.size w (w.drewN q):=below_drewN' (Below.refl _ _)
theorem RSrc.low {w a:World} {p:Option Addr} {b off A:Nat} {rs:List Rul} (h:RSrc w p b off rs) (c:Below A w a) (f:0<rs.length->b<A):RSrc a p b off rs:=
 ⟨h.at_,fun e=>Nat.lt_of_lt_of_le (h.lt e) c.size,fun j d=>(h.cell j d).below c (f (by omega))⟩
theorem Qk (A:Nat) (W n f l:Int) (v:Value) (bm L i0:Nat) (R:Bool) (F:Nat->Bool) (w:World) (d:MK w A W v f l bm L F w) (r:f<=n) (o:n<=l) (hi:n - f=i0) (h:i0<L) (k:F i0=R) (z:0<=f) (C:l<=1000000) :
  Calls Tryz.prog 211 #[.pointer (some ⟨A,0,none⟩),.int .i64 n] w fun e s=>e=.returned (.bool R)/\∃ q,s=w.drewN q:=by
 have c:=hideS (fun u=>aJ n f l u)
 rw [decide_eq_true ⟨r,o⟩] at c
 have j:=hideS d;have c2:=d.alm.c2;have c3:=d.alm.c3;have p:IntKind.i64.wrap (n - f)=(i0:Int):=by rw [IntKind.wrap_i64];omega
 have m:(i0:Int)<(L:Int):=by omega
 have y:=hideS k;clear d k
 go_enter Tryz.func211,Tryz.ntmps211
 go_wp2_with fail
 go_quiet ((go_at_call 209;exact Calls.quiet_of_same (c.out _)))
 obtain⟨g,a⟩:∃ g,g=w.drewN nq:=⟨_,rfl⟩;rw [<- a];have b:Hid (MK w A W v f l bm L F g):=by rw [a];exact j.out.drewN _
 have t:=hideS a;clear a c2 c3 j;have D:=b.out.alm.c2;have B:=b.out.alm.c4;have x:=b.out.row.cell (i:=i0) h;rw [y.out] at x
 go_wp2_with fail
 go_region
 go_wp2_with fail
 go_ret
 exact⟨rfl,nq+1,by rw [t.out];exact World.drewN_drewN _ _ 1⟩
theorem Od (A:Nat) (W n f l a c:Int) (v u:Value) (i0 L:Nat) (R:Bool) (F:Nat->Bool) (w:World) (o:AlmC w A W v f l u) (j:¬ (f<=n/\n<=l))
  (r:Hid (∀ w1,Below w.heap.size w w1->AlmC w1 A W v f l u->Calls Tryz.prog 219 #[.pointer (some ⟨A,0,none⟩),.int .i64 n] w1 fun e k=>e=.returned (.tuple #[])/\∃ bm,MK w1 A W v a c bm L F k))
  (J:a<=n) (G:n<=c) (hi:n - a=i0) (q:i0<L) (t:F i0=R) (E:0<=a) (K:c<=1000000) :
  Calls Tryz.prog 211 #[.pointer (some ⟨A,0,none⟩),.int .i64 n] w fun e k=>e=.returned (.bool R)/\∃ bm,MK k A W v a c bm L F k/\Below A w k:=by
 have h:=hideS (fun B=>aJ n f l B)
 rw [decide_eq_false j] at h
 have m:=hideS o;have c2:=o.c2;have c3:=o.c3;have z:IntKind.i64.wrap (n - a)=(i0:Int):=by rw [IntKind.wrap_i64];omega
 have x:(i0:Int)<(L:Int):=by omega
 have D:=hideS t;clear o t j
 go_enter Tryz.func211,Tryz.ntmps211
 go_wp2_with fail
 go_quiet ((go_at_call 209;exact Calls.quiet_of_same (h.out _)))
 obtain⟨w1,g⟩:∃ w1,w1=w.drewN nq:=⟨_,rfl⟩;rw [<- g];have d:Hid (Below w.heap.size w w1):=by rw [g];exact nB _ _
 have p:=hideS (m.out.below d.out m.out.lt);have s:Hid (Below A w w1):=d.out.mono (Nat.le_of_lt m.out.lt);clear g c2 c3 m
 go_wp2_with (go_at_call 219;refine (r.out _ d.out p.out).mono ?_;rintro e H ⟨rfl,bm,y⟩)
 have b:=hideS y;clear y;have M:=b.out.alm.c2;have I:=b.out.alm.c4;have C:=b.out.row.cell (i:=i0) q;rw [D.out] at C
 go_region
 go_wp2_with fail
 go_ret
 exact⟨rfl,bm,(b.out.drewN 1).base,s.out.trans (b.out.drewN 1).low⟩
structure AlmE (A:Nat) (W:Int) (p:Option Addr) (b off c:Nat) (rs:List Rul) (w:World):Prop where
 ok:OkC W rs
 src:RSrc w p b off rs
 low:0<rs.length->b<A
 st:AlmS w A W (.slice p rs.length c) rs
theorem AlmE.step {w a:World} {A:Nat} {W:Int} {p:Option Addr} {b off c:Nat} {rs:List Rul} (h:AlmE A W p b off c rs w) (d:Below w.heap.size w a):AlmE A W p b off c rs a:=
 ⟨h.ok,h.src.below d,h.low,h.st.step d⟩
theorem Oe (A:Nat) (W n:Int) (p:Option Addr) (b off c:Nat) (rs:List Rul) (w:World) (h:AlmE A W p b off c rs w) (hn:an n) :
  Calls Tryz.prog 211 #[.pointer (some ⟨A,0,none⟩),.int .i64 n] w fun e g=>e=.returned (.bool (wN W rs n (yrI n)))/\AlmE A W p b off c rs g/\Below A w g:=by
 obtain⟨B,I,z,O⟩:=QW hn;obtain⟨y,m,d,H⟩:=iQ hn.1 hn.2;have F:=uk H;rw [F] at B I z O ⊢
 have o:0<=nyI y:=by have:=nY B;omega
 have k:nyI (y+1) - 1<=1000000:=by have:=nZ (y:=y+1) (by omega);omega
 have j:∀ f l u,AlmC w A W (.slice p rs.length c) f l u->¬ (f<=n/\n<=l)->Calls Tryz.prog 211 #[.pointer (some ⟨A,0,none⟩),.int .i64 n] w fun e g=>e=.returned (.bool (wN W rs n y))/\AlmE A W p b off c rs g/\Below A w g:=fun f l u D x=>by
  obtain⟨L,G⟩:∃ L:Nat,(L:Int)=nyI (y+1) - nyI y:=⟨(nyI (y+1) - nyI y).toNat,by omega⟩
  refine (Od A W n f l (nyI y) (nyI (y+1) - 1) _ u (n - nyI y).toNat L _ (fun i=>wN W rs (nyI y+i) y) w D x (fun N v C=>?_) z (by omega) (by omega) (by omega) rfl o k).mono ?_
  ·refine (Lr A W n y m d p b off c rs f l u N h.ok (h.src.below v) h.low C H).mono ?_
   rintro e g ⟨t,bm,P,K,r⟩;obtain rfl:P=L:=by omega
   exact⟨t,bm,r⟩
  ·rintro e g ⟨t,bm,r,v⟩;refine⟨?_,⟨h.ok,h.src.low v h.low,h.low,.year y bm L B I G r⟩,v⟩
   rw [t,show nyI y+(((n - nyI y).toNat:Nat):Int)=n by omega]
 rcases h.st with D | ⟨Y,bm,L,M,J,G,r⟩
 ·exact j _ _ _ D (fun a=>by omega)
 ·by_cases s:nyI Y<=n/\n<=nyI (Y+1) - 1
  ·have E:Y=y:=by rw [<- F];exact (OM M J s.1 (by omega)).symm
   subst E;refine (Qk A W n (nyI Y) (nyI (Y+1) - 1) _ bm L (n - nyI Y).toNat _ _ w r z (by omega) (by omega) (by omega) rfl o k).mono ?_
   rintro e g ⟨t,q,rfl⟩;refine⟨?_,h.step (nB _ _),(nB _ _).mono (Nat.le_of_lt h.st.lt)⟩
   rw [t,show nyI Y+(((n - nyI Y).toNat:Nat):Int)=n by omega]
  ·exact j _ _ _ r.alm s
theorem Ls (A:Nat) (W n:Int) (p:Option Addr) (b off c:Nat) (rs:List Rul) (w:World) (h:AlmE A W p b off c rs w) (hn:an n) :
  Calls Tryz.prog 195 #[.pointer (some ⟨A,0,none⟩),.int .i64 n] w fun e f=>e=.returned (.bool (opB W rs n))/\AlmE A W p b off c rs f/\Below A w f:=by
 have a:=hideS (fun i=>kB W n i (by have:=hn.1;omega) (by have:=hn.2;omega))
 have k:=hideS (Oe A W n p b off c rs w h hn);have c0:w.cell? ⟨A,0,none⟩=some (.int .i64 W):=by
  rcases h.st with o | ⟨Y,bm,L,s,r,q,m⟩
  ·exact o.c0
  ·exact m.alm.c0
 unfold opB;have l:=hideS h;clear h hn;generalize wN W rs n (yrI n)=H at *
 generalize eN W n=F at *
 cases F
 ·go_enter Tryz.func195,Tryz.ntmps195
  go_wp2_with (first | (go_at_call 210;refine (iT (a.out _)).mono ?_;rintro e d ⟨rfl,rfl⟩) | (go_at_call 211;refine k.out.mono ?_;rintro e d ⟨rfl,g,j⟩))
  go_ret
  exact⟨rfl,g,j⟩
 ·go_enter Tryz.func195,Tryz.ntmps195
  go_wp2_with (go_at_call 210;refine (iT (a.out _)).mono ?_;rintro e d ⟨rfl,rfl⟩)
  go_ret
  exact⟨rfl,l.out,Below.refl _ _⟩
def OpH (A:Nat) (op:Int->Bool) (E:World->Prop):Prop:=
 ∀ x w,an x->E w->Calls Tryz.prog 195 #[.pointer (some ⟨A,0,none⟩),.int .i64 x] w fun e a=>e=.returned (.bool (op x))/\E a/\Below A w a
theorem opH (A:Nat) (W:Int) (p:Option Addr) (b off c:Nat) (rs:List Rul):OpH A (opB W rs) (AlmE A W p b off c rs):=
 fun x w d a=>Ls A W x p b off c rs w a d
theorem Gz (A:Nat) (op:Int->Bool) (E:World->Prop) (a b:Int) (w:World) (H:Hid (OpH A op E)) (o:Hid (E w)) (v:an a) (u:an b) (D:a<=b) :
  Calls Tryz.prog 172 #[.pointer (some ⟨A,0,none⟩),.int .i64 a,.int .i64 b] w fun e t=>e=.returned (.int .i64 (cntN op a (b - a).toNat:Nat))/\E t/\Below A w t:=by
 have N:=v.1;have P:=u.2;clear v u;obtain⟨R,r⟩:∃ R:Int,((cntN op a (b - a).toNat:Nat):Int)=R:=⟨_,rfl⟩;rw [r];have I:=hideS r;clear r
 go_enter Tryz.func172,Tryz.ntmps172
 go_wp2_with fail
 go_loopw [7,8] (fun q i wr=>∃ (j:Nat) (x z:Int),a<=x/\x<=b/\0<=z/\z<=110000/\i=.int .i64 x/\q=.int .i64 z/\Hid (E wr)/\Hid (Below A w wr)/\Hid (x=a+j/\z=(cntN op a j:Nat)/\cntN op a j<=j)) (fun _ i _=>(b - intOf i).toNat)
 case atStart=>exact⟨0,a,0,by omega,by omega,by omega,by omega,rfl,rfl,o,Below.refl _ _,⟨by omega,rfl,Nat.le_refl _⟩⟩
 case round=>
  clear o;obtain⟨j,x,z,K,J,Q,L,rfl,rfl,o,p,s⟩:=hrel
  by_cases B:x<b
  ·have f:=hideS (H.out x wr ⟨by omega,by omega⟩ o.out)
   have n:cntN op a (j+1)=cntN op a j+(if op x then 1 else 0):=by rw [s.out.1];rfl
   have h:=KZ op a (j+1);have y:=s.out;cases g:op x
   ·rw [g] at f n
    rw [if_neg Bool.false_ne_true] at n
    have l:Hid (x+1=a+((j+1:Nat):Int)/\z=(cntN op a (j+1):Nat)/\cntN op a (j+1)<=j+1):=⟨by omega,by omega,h⟩
    clear n h y g
    go_wp2_with (go_at_call 195;refine f.out.mono ?_;rintro e F ⟨rfl,d,c⟩)
    have m:=hideS d;have k:=hideS (p.out.trans c);clear d c
    go_roundw
    case rel=>exact⟨j+1,x+1,z,by omega,by omega,by omega,by omega,rfl,rfl,m,k,l⟩
    case measure=>simp [intOf];omega
   ·rw [g] at f n
    rw [if_pos rfl] at n
    have l:Hid (x+1=a+((j+1:Nat):Int)/\z+1=(cntN op a (j+1):Nat)/\cntN op a (j+1)<=j+1):=⟨by omega,by omega,h⟩
    have M:z+1<=110000:=by omega
    clear n h y g
    go_wp2_with (go_at_call 195;refine f.out.mono ?_;rintro e F ⟨rfl,d,c⟩)
    have m:=hideS d;have k:=hideS (p.out.trans c);clear d c
    go_roundw
    case rel=>exact⟨j+1,x+1,z+1,by omega,by omega,by omega,by omega,rfl,rfl,m,k,l⟩
    case measure=>simp [intOf];omega
  ·have C:Hid (z=R):=by
    obtain⟨O,G,_⟩:=s.out
    show _=_
    rw [<- I.out,G,show (b - a).toNat=j by omega]
   go_wp2_with fail
   go_ret
   obtain rfl:=C.out;exact⟨rfl,o.out,p.out⟩
theorem Of (w:World) (W:Int) (v:Value):AlmC (w.alloc (.cells #[.int .i64 W,v,.int .i64 0,.int .i64 (-1),.slice none 0 0] 228)) w.heap.size W v 0 (-1) (.slice none 0 0):=
 ⟨World.rowIs_alloc w #[.int .i64 W,v,.int .i64 0,.int .i64 (-1),.slice none 0 0] 228 (Ra W v 0 (-1) (.slice none 0 0)) (fun i hi=>by
  rcases five (show i<5 from hi) with rfl | rfl | rfl | rfl | rfl<;>rfl)⟩
structure Days (w:World) (dp:Option Addr) (bd:Nat) (xs:List Int):Prop where
 at_:0<xs.length->dp=some ⟨bd,0,none⟩
 lt:0<xs.length->bd<w.heap.size
 cell:∀ j<xs.length,w.cell? ⟨bd,j,none⟩=some (.int .i64 (xs.getD j 0))
theorem Days.below {w a:World} {b:Option Addr} {bd:Nat} {xs:List Int} (h:Days w b bd xs) (c:Below w.heap.size w a):Days a b bd xs:=
 ⟨h.at_,fun e=>Nat.lt_of_lt_of_le (h.lt e) c.size,fun j d=>(c.cell (p:=⟨bd,j,none⟩) (h.lt (by omega))).trans (h.cell j d)⟩
theorem GA (W:Int) (p j:Option Addr) (c N i h:Nat) (A B:Int) (w:World) (g:A≠0) (l:Hid (∀ b,Below w.heap.size w b->Calls Tryz.prog 193 #[.agg #[.int .i64 W,.slice p N c]] b fun e f=>e=.returned (.tuple #[.int .i64 A,.int .i64 B])/\Below b.heap.size b f)) :
  Calls Tryz.prog 171 #[.agg #[.int .i64 W,.slice p N c],.slice j i h] w fun e f=>e=.returned (.tuple #[.pointer none,.int .i64 A])/\Below w.heap.size w f:=by
 have a:Hid (Below w.heap.size w (w.alloc (.cells #[.int .i64 W,.slice p N c] 96))):=(Below.refl w.heap.size w).alloc (Nat.le_refl _) _;have k:(A !=0)=true:=bne_iff_ne.2 g;clear g
 go_enter Tryz.func171,Tryz.ntmps171
 go_wp2_with (go_at_call 193;refine (l.out _ a.out).mono ?_;rintro e m ⟨rfl,d⟩)
 go_ret2
 exact⟨rfl,a.out.trans (d.mono a.out.size)⟩
def Rt (K a:Nat) (W:Int) (p:Option Addr) (b off c:Nat) (rs:List Rul) (w:World) (e:Ending) (d:World):Prop:=
 (K<a/\e=.returned (.tuple #[.pointer none,.int .i64 51]))\/(K=a/\∃ A,e=.returned (.tuple #[.pointer (some ⟨A,0,none⟩),.int .i64 0])/\w.heap.size<=A/\AlmE A W p b off c rs d)
theorem rE (W:Int) (p G:Option Addr) (b off c bd g J K:Nat) (rs:List Rul) (xs:List Int) (w:World) (h:OkC W rs) (D:RSrc w p b off rs) (q:xs.length=g) (H:Days w G bd xs) (hn:g<=10) (X:K<=g) (o:∀ j<K,an (xs.getD j 0)) (r:K<g->¬ an (xs.getD K 0)) :
  Calls Tryz.prog 171 #[.agg #[.int .i64 W,.slice p rs.length c],.slice G g J] w fun e A=>Rt K g W p b off c rs w e A/\Below w.heap.size w A:=by
 have E:Hid (∀ l,Below w.heap.size w l->Calls Tryz.prog 193 #[.agg #[.int .i64 W,.slice p rs.length c]] l fun e A=>e=.returned (.tuple #[.int .i64 0,.int .i64 0])/\Below l.heap.size l A):=fun l R=>uu W p b off c rs 0 0 l (.ok h) (D.below R) (by have:=h.len;omega)
 have S:=hideS h;have I:=hideS D;have z:=hideS H;have u:=hideS o;have y:=hideS r;have T:=hideS q;obtain⟨N,C⟩:∃ N,rs.length=N:=⟨_,rfl⟩;have M:=hideS C;rw [C] at E ⊢
 clear h D H o r q C;have v:Hid (Below w.heap.size w (w.alloc (.cells #[.int .i64 W,.slice p N c] 96))):=(Below.refl w.heap.size w).alloc (Nat.le_refl _) _;have Q:=hideS (fun x l=>rz x l)
 go_enter Tryz.func171,Tryz.ntmps171
 go_wp2_with (go_at_call 193;refine (E.out _ v.out).mono ?_;rintro e F ⟨rfl,t⟩)
 have d:=hideS (CBoxP.first t);clear t E v
 go_loop [20] (fun i=>∃ k:Nat,k<=K/\i=.int .i64 k) (fun i=>g - (intOf i).toNat)
 case atStart=>exact⟨0,by omega,rfl⟩
 case round=>
  obtain⟨k,Y,rfl⟩:=hrel
  by_cases s:k<g
  ·have q:k<xs.length:=by rw [T.out];exact s
   obtain rfl:=z.out.at_ (by omega)
   have U:=(z.out.below d.out.below).cell k q;obtain⟨x,f⟩:∃ x,xs.getD k 0=x:=⟨_,rfl⟩;rw [f] at U
   have m:=hideS (fun l=>Q.out x l)
   by_cases B:k<K
   ·have a:=u.out k B;rw [f] at a
    rw [decide_eq_true a] at m
    clear a f q
    go_wp2_with (go_at_call 194;refine (iT (m.out _)).mono ?_;rintro e L ⟨rfl,rfl⟩)
    go_round
    case rel=>exact⟨k+1,by omega,by go_num⟩
    case measure=>simp [intOf];omega
   ·obtain rfl:k=K:=by omega
    have a:=y.out s;rw [f] at a
    rw [decide_eq_false a] at m
    clear a f q
    go_wp2_with (go_at_call 194;refine (iT (m.out _)).mono ?_;rintro e L ⟨rfl,rfl⟩)
    go_ret2
    exact⟨Or.inl ⟨s,rfl⟩,d.out.below⟩
  ·obtain rfl:k=K:=by omega
   have O:k=g:=by omega
   have P:¬ (k:Int)<g:=by omega
   obtain⟨c0,c1⟩:=d.out.cells
   go_wp2_with fail
   go_ret2
   have V:=Of F W (.slice p N c);have n:=d.out.below.size;refine⟨Or.inr ⟨rfl,F.heap.size,rfl,n,S.out,I.out.below (d.out.below.alloc n _),fun q=>Nat.lt_of_lt_of_le (I.out.lt q) n,?_⟩,d.out.below.alloc n _⟩
   rw [M.out];exact .none V
theorem Lt (W:Int) (p i:Option Addr) (b off c bd d k:Nat) (rs:List Rul) (xs:List Int) (w:World) (h:OkC W rs) (o:RSrc w p b off rs) (l:xs.length=d) (s:Days w i bd xs) (hn:d<=10) (f:∀ j<d,an (xs.getD j 0)) :
  Calls Tryz.prog 171 #[.agg #[.int .i64 W,.slice p rs.length c],.slice i d k] w fun e g=>∃ A,e=.returned (.tuple #[.pointer (some ⟨A,0,none⟩),.int .i64 0])/\w.heap.size<=A/\AlmE A W p b off c rs g/\Below w.heap.size w g:=by
 refine (rE W p i b off c bd d k d rs xs w h o l s hn (Nat.le_refl _) f (fun a=>absurd a (Nat.lt_irrefl _))).mono ?_
 rintro e g ⟨m,r⟩;rcases m with⟨a,_⟩| ⟨_,A,q,t,n⟩
 ·exact absurd a (Nat.lt_irrefl _)
 ·exact⟨A,q,t,n,r⟩
theorem GB (W:Int) (p g:Option Addr) (b off c bd d l:Nat) (rs:List Rul) (xs:List Int) (A B:Int) (w:World) (h:ChkR W rs A B) (t:RSrc w p b off rs) (C:rs.length<=9223372036854775807) (v:xs.length=d) (D:Days w g bd xs) (hn:d<=10) (f:A≠0\/∃ j<d,¬ an (xs.getD j 0)) :
  Calls Tryz.prog 171 #[.agg #[.int .i64 W,.slice p rs.length c],.slice g d l] w fun e u=>e=.returned (.tuple #[.pointer none,.int .i64 (if A≠0 then A else 51)])/\Below w.heap.size w u:=by
 by_cases s:A=0
 ·subst s;obtain⟨k,rfl⟩:=Qh h;rw [if_neg (fun a=>a rfl)]
  rcases f with a | ⟨j,E,o⟩
  ·exact absurd rfl a
  ·obtain⟨K,F,r,n⟩:=rp (p:=fun j=>decide (an (xs.getD j 0))) (m:=j) (decide_eq_false o)
   refine (rE W p g b off c bd d l K rs xs w k t v D hn (by omega) (fun i hi=>of_decide_eq_true (n i hi)) (fun _=>of_decide_eq_false r)).mono ?_
   rintro e u ⟨x,q⟩;rcases x with⟨_,y⟩| ⟨a,_⟩
   ·exact⟨y,q⟩
   ·omega
 ·rw [if_pos s];exact GA W p g c rs.length d l A B w s (fun z q=>uu W p b off c rs A B z h (t.below q) C)
theorem Og {a b:Int} (h:an a) (c:an b):∀ j<2,an ([a,b].getD j 0):=fun j d=>by
 rcases (show j=0\/j=1 by omega) with rfl | rfl
 ·exact h
 ·exact c
theorem zT (w:World) (o:Obj) (a b:Int):Days ((w.alloc o).alloc (.cells #[.int .i64 a,.int .i64 b] 3)) (some ⟨w.heap.size+1,0,none⟩) (w.heap.size+1) [a,b]:=
 ⟨fun _=>rfl,fun _=>by simp,fun j c=>by
  rcases (show j=0\/j=1 by have:j<2:=c;omega) with rfl | rfl
  ·exact zM _ _ 0 (by simp)
  ·exact zM _ _ 1 (by simp)⟩
theorem Oh (W x y:Int) (p:Option Addr) (b off c:Nat) (rs:List Rul) (w:World) (h:OkC W rs) (i:RSrc w p b off rs) (d:an x) (g:an y) (o:Obj) :
  Calls Tryz.prog 171 #[.agg #[.int .i64 W,.slice p rs.length c],.slice (some ⟨w.heap.size+1,0,none⟩) 2 2] ((w.alloc o).alloc (.cells #[.int .i64 x,.int .i64 y] 3)) fun e a=>∃ A,e=.returned (.tuple #[.pointer (some ⟨A,0,none⟩),.int .i64 0])/\w.heap.size<=A/\AlmE A W p b off c rs a/\Below w.heap.size w a:=by
 refine (Lt W p _ b off c (w.heap.size+1) 2 2 rs [x,y] _ h (i.below (iR w o _)) rfl (zT w o x y) (by omega) (Og d g)).mono ?_
 rintro e a ⟨A,j,l,f,k⟩;have:=(iR w o (.cells #[.int .i64 x,.int .i64 y] 3)).size;exact⟨A,j,Nat.le_trans this l,f,(iR w o _).trans (k.mono this)⟩
theorem Oi (W x y:Int) (p:Option Addr) (b off c:Nat) (rs:List Rul) (w:World) (h:OkC W rs) (m:RSrc w p b off rs) (f:an x) (k:an y) (j:x<=y) :
  Calls Tryz.prog 155 #[.agg #[.int .i64 W,.slice p rs.length c],.int .i64 x,.int .i64 y] w fun e d=>e=.returned (.tuple #[.int .i64 (cntN (opB W rs) x (y - x).toNat:Nat),.int .i64 0])/\Below w.heap.size w d:=by
 have q:=hideS (fun o=>Oh W x y p b off c rs w h m f k o)
 have r:Hid (∀ A a,AlmE A W p b off c rs a->Calls Tryz.prog 172 #[.pointer (some ⟨A,0,none⟩),.int .i64 x,.int .i64 y] a fun e d=>e=.returned (.int .i64 (cntN (opB W rs) x (y - x).toNat:Nat))/\AlmE A W p b off c rs d/\Below A a d):=fun A a i=>Gz A _ _ x y a (opH A W p b off c rs) i f k j
 generalize ((cntN (opB W rs) x (y - x).toNat:Nat):Int)=X at *
 generalize rs.length=N at *
 have n:¬ y<x:=by omega
 clear h m f k
 go_enter Tryz.func155,Tryz.ntmps155
 go_wp2_with (first | (go_at_call 171;refine (q.out _).mono ?_;rintro e u ⟨A,rfl,s,i,g⟩) | (go_at_call 172;refine (r.out _ _ i).mono ?_;rintro e t ⟨rfl,_,l⟩))
 go_ret2
 exact⟨rfl,g.trans (l.mono s)⟩
theorem Lu (W x y:Int) (p:Option Addr) (b off c:Nat) (rs:List Rul) (A B E:Int) (w:World) (h:ChkR W rs A B) (m:RSrc w p b off rs) (n:rs.length<=9223372036854775807) (f:(A≠0/\E=A)\/(A=0/\¬ (an x/\an y)/\E=51)) :
  Calls Tryz.prog 155 #[.agg #[.int .i64 W,.slice p rs.length c],.int .i64 x,.int .i64 y] w fun e g=>e=.returned (.tuple #[.int .i64 0,.int .i64 E])/\Below w.heap.size w g:=by
 have r:Hid (∀ o,Calls Tryz.prog 171 #[.agg #[.int .i64 W,.slice p rs.length c],.slice (some ⟨w.heap.size+1,0,none⟩) 2 2] ((w.alloc o).alloc (.cells #[.int .i64 x,.int .i64 y] 3)) fun e g=>e=.returned (.tuple #[.pointer none,.int .i64 E])/\Below w.heap.size w g):=fun o=>by
  have d:A≠0\/∃ j<2,¬ an ([x,y].getD j 0):=by
   rcases f with⟨a,_⟩| ⟨_,a,_⟩
   ·exact Or.inl a
   ·by_cases l:an x
    ·exact Or.inr ⟨1,by omega,fun c=>a ⟨l,c⟩⟩
    ·exact Or.inr ⟨0,by omega,l⟩
  have k:(if A≠0 then A else 51)=E:=by
   rcases f with⟨a,e⟩| ⟨a,_,e⟩
   ·rw [if_pos a,e]
   ·rw [if_neg (fun c=>c a),e]
  have:=GB W p _ b off c (w.heap.size+1) 2 2 rs [x,y] A B _ h (m.below (iR w o _)) n rfl (zT w o x y) (by omega) d
  rw [k] at this
  exact this.mono fun e g ⟨s,t⟩=>⟨s,(iR w o _).trans (t.mono (iR w o (.cells #[.int .i64 x,.int .i64 y] 3)).size)⟩
 have q:(E !=0)=true:=by
  rcases f with⟨a,e⟩| ⟨_,_,e⟩
  ·rw [e];exact bne_iff_ne.2 a
  ·rw [e];rfl
 generalize rs.length=N at *
 clear h m n f
 go_enter Tryz.func155,Tryz.ntmps155
 go_wp2_with (go_at_call 171;refine (r.out _).mono ?_;rintro e u ⟨rfl,i⟩)
 go_ret2
 exact⟨rfl,i⟩
end Go.Proofs.YtfdddijdjpijbaaGreat
