/-  -/
import Derived.Test.YtfdddijdjpijbaaGreatHam
import Derived.Deep.OwnRows
set_option maxHeartbeats 16000000
set_option maxRecDepth 10000
namespace Go.Proofs.YtfdddijdjpijbaaGreat
open Go.RowKit
def Ra (W:Int) (v:Value) (f l:Int) (m:Value):Nat->Value
 | 0=>.int .i64 W
 | 1=>v
 | 2=>.int .i64 f
 | 3=>.int .i64 l
 | _=>m
theorem five {i:Nat} (h:i<5):i=0\/i=1\/i=2\/i=3\/i=4:=by omega
structure AlmC (w:World) (A:Nat) (W:Int) (v:Value) (f l:Int) (m:Value):Prop where
 row:w.rowIs A 228 5 (Ra W v f l m)
theorem AlmC.c0 {w:World} {A:Nat} {W:Int} {v:Value} {f l:Int} {m:Value} (h:AlmC w A W v f l m):w.cell? ⟨A,0,none⟩=some (.int .i64 W):=h.row.cell (i:=0) (by omega)
theorem AlmC.c1 {w:World} {A:Nat} {W:Int} {v:Value} {f l:Int} {m:Value} (h:AlmC w A W v f l m):w.cell? ⟨A,1,none⟩=some v:=h.row.cell (i:=1) (by omega)
theorem AlmC.c2 {w:World} {A:Nat} {W:Int} {v:Value} {f l:Int} {m:Value} (h:AlmC w A W v f l m):w.cell? ⟨A,2,none⟩=some (.int .i64 f):=h.row.cell (i:=2) (by omega)
theorem AlmC.c3 {w:World} {A:Nat} {W:Int} {v:Value} {f l:Int} {m:Value} (h:AlmC w A W v f l m):w.cell? ⟨A,3,none⟩=some (.int .i64 l):=h.row.cell (i:=3) (by omega)
theorem AlmC.c4 {w:World} {A:Nat} {W:Int} {v:Value} {f l:Int} {m:Value} (h:AlmC w A W v f l m):w.cell? ⟨A,4,none⟩=some m:=h.row.cell (i:=4) (by omega)
theorem AlmC.fz {w:World} {A:Nat} {W:Int} {v:Value} {f l:Int} {m:Value} (h:AlmC w A W v f l m) (i:Nat):w.frozen? ⟨A,i,none⟩=false:=h.row.frozen i
theorem AlmC.lt {w:World} {A:Nat} {W:Int} {v:Value} {f l:Int} {m:Value} (h:AlmC w A W v f l m):A<w.heap.size:=h.row.lt
theorem AlmC.set2 {w:World} {A:Nat} {W:Int} {v:Value} {f l:Int} {m:Value} (h:AlmC w A W v f l m) (x:Int):AlmC (w.setCell ⟨A,2,none⟩ (.int .i64 x)) A W v x l m:=
 ⟨(h.row.set 2 (.int .i64 x)).congr fun i hi=>by rcases five hi with rfl | rfl | rfl | rfl | rfl<;>rfl⟩
theorem AlmC.set3 {w:World} {A:Nat} {W:Int} {v:Value} {f l:Int} {m:Value} (h:AlmC w A W v f l m) (x:Int):AlmC (w.setCell ⟨A,3,none⟩ (.int .i64 x)) A W v f x m:=
 ⟨(h.row.set 3 (.int .i64 x)).congr fun i hi=>by rcases five hi with rfl | rfl | rfl | rfl | rfl<;>rfl⟩
theorem AlmC.set4 {w:World} {A:Nat} {W:Int} {v:Value} {f l:Int} {m:Value} (h:AlmC w A W v f l m) (x:Value):AlmC (w.setCell ⟨A,4,none⟩ x) A W v f l x:=
 ⟨(h.row.set 4 x).congr fun i hi=>by rcases five hi with rfl | rfl | rfl | rfl | rfl<;>rfl⟩
theorem AlmC.below {w a:World} {A B:Nat} {W:Int} {v:Value} {f l:Int} {m:Value} (h:AlmC w A W v f l m) (b:Below B w a) (c:A<B):AlmC a A W v f l m:=⟨h.row.of_block (b.block A c)⟩
theorem AlmC.alloc {w:World} {A:Nat} {W:Int} {v:Value} {f l:Int} {m:Value} (h:AlmC w A W v f l m) (o:Obj):AlmC (w.alloc o) A W v f l m:=⟨h.row.alloc o⟩
theorem AlmC.other {w:World} {A:Nat} {W:Int} {v:Value} {f l:Int} {m:Value} (h:AlmC w A W v f l m) {a:Addr} (b:A≠a.block) (u:Value):AlmC (w.setCell a u) A W v f l m:=⟨h.row.setOther b u⟩
structure MK (w:World) (A:Nat) (W:Int) (v:Value) (f l:Int) (bm L:Nat) (F:Nat->Bool) (wr:World):Prop where
 alm:AlmC wr A W v f l (.slice (some ⟨bm,0,none⟩) L L)
 row:wr.rowIs bm 4 L (fun i=>.bool (F i))
 low:Below A w wr
 lt:A<bm
theorem MK.step {w wr b:World} {A:Nat} {W:Int} {v:Value} {f l:Int} {bm L:Nat} {F:Nat->Bool} (h:MK w A W v f l bm L F wr) (a:Below wr.heap.size wr b):MK w A W v f l bm L F b:=
 ⟨h.alm.below a h.alm.lt,h.row.of_block (a.block bm h.row.lt),h.low.trans (a.mono (Nat.le_of_lt h.alm.lt)),h.lt⟩
theorem MK.congr {w wr:World} {A:Nat} {W:Int} {v:Value} {f l:Int} {bm L:Nat} {F G:Nat->Bool} (h:MK w A W v f l bm L F wr) (e:∀ i<L,F i=G i):MK w A W v f l bm L G wr:=
 ⟨h.alm,h.row.congr (fun i hi=>by rw [e i hi]),h.low,h.lt⟩
theorem MK.set {w wr:World} {A:Nat} {W:Int} {v:Value} {f l:Int} {bm L:Nat} {F:Nat->Bool} (h:MK w A W v f l bm L F wr) (i:Nat):MK w A W v f l bm L (fun j=>F j||decide (j=i)) (wr.setCell ⟨bm,i,none⟩ (.bool true)):=
 ⟨h.alm.other (a:=⟨bm,i,none⟩) (by have:=h.lt;show A≠bm;omega) _,(h.row.set i (.bool true)).congr (fun j _=>by
  by_cases e:j=i
  ·rw [if_pos e,decide_eq_true e,Bool.or_true]
  ·rw [if_neg e,decide_eq_false e,Bool.or_false]),h.low.setCell (p:=⟨bm,i,none⟩) (Nat.le_of_lt h.lt) _,h.lt⟩
theorem MK.drewN {w wr:World} {A:Nat} {W:Int} {v:Value} {f l:Int} {bm L:Nat} {F:Nat->Bool} (h:MK w A W v f l bm L F wr) (n:Nat):MK w A W v f l bm L F (wr.drewN n):=
 ⟨⟨h.alm.row⟩,h.row,below_drewN' h.low,h.lt⟩
structure MK2 (w:World) (A:Nat) (W:Int) (v:Value) (f l:Int) (bm L:Nat) (F:Nat->Bool) (b9:Nat) (mv:Int) (wr:World):Prop where
 one:MK w A W v f l bm L F wr
 c8:wr.cell? ⟨b9,8,none⟩=some (.int .i64 mv)
 lt9:b9<wr.heap.size
 ne9:b9≠bm
theorem MK2.step {w wr c:World} {A:Nat} {W:Int} {v:Value} {f l:Int} {bm L:Nat} {F:Nat->Bool} {b:Nat} {mv:Int} (h:MK2 w A W v f l bm L F b mv wr) (a:Below wr.heap.size wr c):MK2 w A W v f l bm L F b mv c:=
 ⟨h.one.step a,(a.cell (p:=⟨b,8,none⟩) h.lt9).trans h.c8,Nat.lt_of_lt_of_le h.lt9 a.size,h.ne9⟩
theorem MK2.congr {w wr:World} {A:Nat} {W:Int} {v:Value} {f l:Int} {bm L:Nat} {F G:Nat->Bool} {a:Nat} {mv:Int} (h:MK2 w A W v f l bm L F a mv wr) (e:∀ i<L,F i=G i):MK2 w A W v f l bm L G a mv wr:=
 ⟨h.one.congr e,h.c8,h.lt9,h.ne9⟩
theorem MK2.set {w wr:World} {A:Nat} {W:Int} {v:Value} {f l:Int} {bm L:Nat} {F:Nat->Bool} {a:Nat} {mv:Int} (h:MK2 w A W v f l bm L F a mv wr) (i:Nat):MK2 w A W v f l bm L (fun j=>F j||decide (j=i)) a mv (wr.setCell ⟨bm,i,none⟩ (.bool true)):=
 ⟨h.one.set i,by
  have e:(wr.setCell ⟨bm,i,none⟩ (.bool true)).cell? ⟨a,8,none⟩=wr.cell? ⟨a,8,none⟩:=World.cell?_of_block (w:=wr) (Below.heap_setCell wr ⟨bm,i,none⟩ _ a h.ne9)
  rw [e];exact h.c8,by simpa using h.lt9,h.ne9⟩
theorem MK2.drewN {w wr:World} {A:Nat} {W:Int} {v:Value} {f l:Int} {bm L:Nat} {F:Nat->Bool} {a:Nat} {mv:Int} (h:MK2 w A W v f l bm L F a mv wr) (n:Nat):MK2 w A W v f l bm L F a mv (wr.drewN n):=
 ⟨h.one.drewN n,h.c8,h.lt9,h.ne9⟩
theorem MK2.first {w wr:World} {A:Nat} {W:Int} {v:Value} {f l:Int} {bm L:Nat} {F:Nat->Bool} {kind mon day nth wd off fr to mv:Int} (h:MK w A W v f l bm L F wr) :
  MK2 w A W v f l bm L F wr.heap.size mv (wr.alloc (.cells #[.int .i64 kind,.int .i64 mon,.int .i64 day,.int .i64 nth,.int .i64 wd,.int .i64 off,.int .i64 fr,.int .i64 to,.int .i64 mv] 235)):=
 ⟨h.step ((Below.refl _ wr).alloc (Nat.le_refl _) _),by simp,by simp,by have:=h.row.lt;omega⟩
theorem iT {P:Program} {f:Nat} {args:Array Value} {w:World} {Q:Ending->Prop} (h:Calls P f args w fun e c=>Q e/\c=w):Calls P f args w fun e c=>Q e/\w=c:=
 h.mono fun _ _ ⟨a,b⟩=>⟨a,b.symm⟩
theorem Rb {y:Int} (d:1900<=y) (f:y<=2199):100<=jE y:=by
 by_cases e:y=1900
 ·subst e;decide
 ·obtain⟨a,b⟩:=(nu (uh d f).ok).year;have c:=nY d
  show 100<=_
  unfold jE;omega
theorem pe {r:Rul} {y g:Int} (n:cF r=true) (h:cB r y=some g): -1<=g/\g<=200000:=by
 unfold cB at h
 by_cases k:r.kind=4
 ·rw [if_pos k] at h
  have c:0<=r.day/\r.day<=109572:=by
   rcases fit_cases n with⟨_,a,b,_⟩| ⟨_,⟨a,_⟩| ⟨a,_⟩| ⟨a,_⟩⟩
   ·exact⟨a,b⟩
   ·omega
   ·omega
   ·omega
  by_cases e:yrI r.day=y
  ·rw [if_pos e] at h
   have:=Option.some.inj h;omega
  ·rw [if_neg e] at h;cases h
 ·rw [if_neg k] at h
  unfold oa at h
  by_cases c:y<r.fr\/r.to<y
  ·rw [if_pos c] at h;cases h
  ·rw [if_neg c] at h
   rcases fit_cases n with⟨a,_⟩| ⟨⟨D,C,u,B,x⟩,d⟩
   ·exact absurd a k
   ·have f:1900<=y:=by omega
    have i:y<=2199:=by omega
    rcases d with⟨s,m,l,z,w⟩| ⟨t,m,l,o,q,c0,c1⟩| ⟨p,A,v⟩
    ·rw [if_pos s] at h
     by_cases j:okD y r.mon r.day
     ·rw [if_pos j] at h
      have:=(nu j).range;have:=Option.some.inj h;omega
     ·rw [if_neg j] at h;cases h
    ·rw [if_neg (by omega),if_pos t] at h
     have:=NP (y:=y) ⟨f,i,m,l⟩ o q c0 c1;have:=Option.some.inj h;omega
    ·rw [if_neg (by omega),if_neg (by omega),if_pos p] at h
     have:=Rb f i;have:=(nu (uh f i).ok).range;have e:=Option.some.inj h;unfold jE at *
     omega
theorem ki {W:Int} {rs:List Rul} {r:Rul} {Y I f:Int} {t k:Nat} (h:cB r I=none) (a:I=Y - 1+t) (i:Nat) :
  (mkK W rs Y (f+i) k||mkT W r Y (f+i) t)=(mkK W rs Y (f+i) k||mkT W r Y (f+i) (t+1)):=by
 show _=(mkK W rs Y (f+i) k||(mkT W r Y (f+i) t||mkB W r (Y - 1+t) (f+i)))
 rw [<- a,Lg h,Bool.or_false]
theorem ms {W:Int} {rs:List Rul} {r:Rul} {Y I f g x:Int} {t k L:Nat} (h:cB r I=some g) (a:I=Y - 1+t) (b:mvI W g r.mv=x) (c:¬ (f<=x/\x<=f+L - 1)) (i:Nat) (hi:i<L) :
  (mkK W rs Y (f+i) k||mkT W r Y (f+i) t)=(mkK W rs Y (f+i) k||mkT W r Y (f+i) (t+1)):=by
 show _=(mkK W rs Y (f+i) k||(mkT W r Y (f+i) t||mkB W r (Y - 1+t) (f+i)))
 rw [<- a,zS h,b,decide_eq_false (fun e=>c (by omega)),Bool.or_false]
theorem pg {W:Int} {rs:List Rul} {r:Rul} {Y I f g x:Int} {t k i0:Nat} (h:cB r I=some g) (a:I=Y - 1+t) (b:mvI W g r.mv=x) (c:x=f+i0) (i:Nat) :
  ((mkK W rs Y (f+i) k||mkT W r Y (f+i) t)||decide (i=i0))=(mkK W rs Y (f+i) k||mkT W r Y (f+i) (t+1)):=by
 show _=(mkK W rs Y (f+i) k||(mkT W r Y (f+i) t||mkB W r (Y - 1+t) (f+i)))
 rw [<- a,zS h,b,show decide (x=f+(i:Int))=decide (i=i0) from decide_eq_decide.2 (by omega),Bool.or_assoc]
theorem Rc:(Tryz.prog.info? 4).map (fun i=>(i.zero,i.size,i.bytes))=some (some (.bool false),1,1):=by kernel_rfl
theorem Lr (A:Nat) (W n Y m d:Int) (p:Option Addr) (b off c:Nat) (rs:List Rul) (f l:Int) (mm:Value) (w:World) (h:OkC W rs) (hs:RSrc w p b off rs) (cv:0<rs.length->b<A) (hA:AlmC w A W (.slice p rs.length c) f l mm) (hd:IsD n Y m d) :
  Calls Tryz.prog 219 #[.pointer (some ⟨A,0,none⟩),.int .i64 n] w fun e w'=>e=.returned (.tuple #[])/\∃ (bm L:Nat),(L:Int)=nyI (Y+1) - nyI Y/\MK w A W (.slice p rs.length c) (nyI Y) (nyI (Y+1) - 1) bm L (fun i=>wN W rs (nyI Y+i) Y) w':=by
 obtain⟨y0,y1,_,_,_,_⟩:=hd.1;have HC:=hideS (fun C=>ie n Y m d C hd)
 have bv:=hideS (fun C=>nv Y 1 1 C (Co y0 y1))
 have bz:=hideS (fun C=>nv Y 12 31 C (Lf y0 y1))
 rw [Gy] at bv
 rw [Le y0] at bz
 have n1:0<=nyI Y:=by have:=nY y0;omega
 have n2:nyI Y<=110000:=by have:=nZ y0;omega
 have n3:nyI (Y+1)=nyI Y+365+lpI Y:=mh y0;have n4:=KS Y;have n5:=DY Y;obtain⟨L,hL⟩:∃ L:Nat,(L:Int)=nyI (Y+1) - nyI Y:=⟨(nyI (Y+1) - nyI Y).toNat,by omega⟩
 have HH:=hideS h;have HS:=hideS hs;have di:=hideS cv;obtain⟨N,hN⟩:∃ N,rs.length=N:=⟨_,rfl⟩;have HN:=hideS hN;have dn:N<=64:=by rw [<- hN];exact h.len
 rw [hN] at hA ⊢
 obtain⟨j,bo⟩:∃ j,nyI Y=j:=⟨_,rfl⟩;obtain⟨s,bi⟩:∃ s,nyI (Y+1) - 1=s:=⟨_,rfl⟩;have dc:=hideS (show 1900<=Y/\Y<=2199/\nyI Y=j/\nyI (Y+1) - 1=s from⟨y0,y1,bo,bi⟩)
 have HL:=hideS hL;have l1:(L:Int)=s - j+1:=by omega
 have l2:L<=400:=by omega
 rw [bo] at bv n1 n2 ⊢
 rw [bi] at bz ⊢
 have c2:=hA.c2;have f2:=hA.fz 2;have cd:=hA.set2 j;have d3:=cd.c3;have g3:=cd.fz 3;have al:=hideS (cd.set3 s);have cr:Hid (Below A w ((w.setCell ⟨A,2,none⟩ (.int .i64 j)).setCell ⟨A,3,none⟩ (.int .i64 s))):=((Below.refl A w).setCell (p:=⟨A,2,none⟩) (Nat.le_refl _) _).setCell (p:=⟨A,3,none⟩) (Nat.le_refl _) _;have cx:=fun w=>run_make_row' (P:=Tryz.prog) 226 4 (.bool false) 1 Tryz.underlying226 Rc rfl .i64 .i64 L (by omega) (by omega) w
 obtain⟨wq,ci⟩:∃ wq,(w.setCell ⟨A,2,none⟩ (.int .i64 j)).setCell ⟨A,3,none⟩ (.int .i64 s)=wq:=⟨_,rfl⟩;rw [ci] at al cr
 have HQ:=hideS ci;clear ci hd hN hs h cv hA cd bo bi n3 n4 n5 hL
 go_enter Tryz.func219,Tryz.ntmps219
 go_wp2_with (first | (go_at_call 170;refine (iT (HC.out _)).mono ?_;rintro e w1 ⟨rfl,rfl⟩) | (go_at_call_of 187 (Value.int IntKind.i64 12);refine (iT (bz.out _)).mono ?_;rintro e w1 ⟨rfl,rfl⟩) | (go_at_call 187;refine (iT (bv.out _)).mono ?_;rintro e w1 ⟨rfl,rfl⟩))
 rw [HQ.out];clear c2 f2 d3 g3 HC bv bz HQ;have c2:=al.out.c2;have c3:=al.out.c3;have c4:=al.out.c4;have f4:=al.out.fz 4;have da:IntKind.i64.wrap (s - j)=s - j:=by rw [IntKind.wrap_i64];omega
 have cy:IntKind.i64.wrap (s - j+1)=s - j+1:=by rw [IntKind.wrap_i64];omega
 simp only [l1] at cx
 have ca:Hid (AlmC (wq.alloc (.cells (madeCells #[.bool false] L) 4)) A W (.slice p N c) j s mm):=al.out.alloc _;have e4:=ca.out.c4;have df:=ca.out.fz 4
 go_region
 have cc:Hid (MK w A W (.slice p N c) j s wq.heap.size L (fun _=>false) (((wq.alloc (.cells (madeCells #[.bool false] L) 4)).setCell ⟨A,4,none⟩ (.slice (some ⟨wq.heap.size,0,none⟩) L L)).drew)):=
  ⟨⟨(ca.out.set4 (.slice (some ⟨wq.heap.size,0,none⟩) L L)).row⟩,World.rowIs.setOther (w:=wq.alloc (.cells (madeCells #[.bool false] L) 4)) (World.rowIs_made wq (.bool false) L 4) (a:=⟨A,4,none⟩) (by have:=al.out.lt;show wq.heap.size≠A;omega) _,((cr.out.alloc (Nat.le_of_lt al.out.lt) _).setCell (p:=⟨A,4,none⟩) (Nat.le_refl _) _).drew,al.out.lt⟩
 obtain⟨w3,ct⟩:∃ w3,((wq.alloc (.cells (madeCells #[.bool false] L) 4)).setCell ⟨A,4,none⟩ (.slice (some ⟨wq.heap.size,0,none⟩) L L)).drew=w3:=⟨_,rfl⟩;rw [ct] at cc ⊢
 generalize wq.heap.size=bm at *
 clear ct ca e4 df c2 c3 c4 f4 da cy al cr cx;have a1:=cc.out.alm.c1
 go_wp2_with fail
 go_loopw [57] (fun i wr=>∃ (k:Nat),k<=N/\i=.int .i64 k/\Hid (MK w A W (.slice p N c) j s bm L (fun i=>mkK W rs Y (j+i) k) wr)) (fun i _=>N - (intOf i).toNat)
 case atStart=>exact⟨0,by omega,rfl,cc⟩
 case round=>
  clear cc a1;obtain⟨k,hk,rfl,bx⟩:=hrel
  by_cases dk:k<N
  ·have hx:k<rs.length:=by rw [HN.out];exact dk
   obtain rfl:=HS.out.at_ (by omega)
   have cu:=(HS.out.cell k hx).below bx.out.low (di.out (by omega))
   have HF:=hideS (HH.out.fit (rs.getD k jF) (ru hx));obtain⟨r,hr⟩:∃ r,rs.getD k jF=r:=⟨_,rfl⟩;rw [hr] at cu HF
   have bk:=hideS hr;clear hr hx;obtain⟨g0,g1,g2,g3,g4,g5,g6,g7,g8⟩:=cu;obtain⟨U,ac⟩:∃ U,U=r:=⟨r,rfl⟩;rw [<- ac] at bk HF
   have bs:Hid (U.mv=r.mv):=by show _=_;rw [ac]
   have cf:=fit_cases HF.out;rw [ac] at cf
   obtain⟨kind,mon,day,nth,wd,Q,fr,to,mv⟩:=r;dsimp only at *
   have am:=hideS (MK2.first (kind:=kind) (mon:=mon) (day:=day) (nth:=nth) (wd:=wd) (off:=Q) (fr:=fr) (to:=to) (mv:=mv) bx.out);have dg:(kind=1)\/(kind=2/\1<=mon/\mon<=12/\0<=wd/\wd<=6/\1<=nth/\nth<=5/\1900<=fr/\to<=2199)\/(kind=3/\-100<=Q/\Q<=100/\1900<=fr/\to<=2199)\/(kind=4/\0<=day/\day<=109572):=by omega
   clear cf bx;rcases dg with rfl | ⟨rfl,H⟩| ⟨rfl,H⟩| ⟨rfl,H⟩
   ·have ad:=hideS (fun C=>(bE 1 mon day nth wd Q fr to mv C (by omega):Calls Tryz.prog 208 _ C fun e w'=>e=.returned (.iface 240 _)/\Below C.heap.size C w'))
    have ai:=hideS (fun (y:Int) (C:World)=>NZ mon day nth wd Q fr to mv y C )
    rw [<- ac] at ai
    clear ac
    go_wp2_with (go_at_call 208;refine (ad.out _).mono ?_;rintro e w4 ⟨rfl,ab⟩)
    have Z:=hideS (am.out.step ab);clear ab am ad;generalize wr.heap.size=b9 at *
    go_loopw [11] (fun y w2=>∃ (t:Nat) (I:Int),t<=3/\1899<=I/\I<=2201/\y=.int .i64 I/\Hid (I=Y - 1+t)/\Hid (MK2 w A W (.slice (some ⟨b,off,none⟩) N c) j s bm L (fun i=>mkK W rs Y (j+i) k||mkT W U Y (j+i) t) b9 mv w2)) (fun y _=>(Y+2 - intOf y).toNat)
    case atStart=>exact⟨0,Y - 1,by omega,by omega,by omega,rfl,by show _=_;omega,Z.out.congr (fun i _=>(Bool.or_false _).symm)⟩
    case round=>
     clear Z;obtain⟨t,I,ht,cl,cp,rfl,O,HM⟩:=hrel
     by_cases cs:t<3
     ·have bh:I<=Y+1:=by have:=O.out;omega
      have E:=hideS (fun C=>ai.out I C)
      obtain⟨o,ho⟩:∃ o,cB U I=o:=⟨_,rfl⟩;rw [ho] at E
      have J:=hideS ho;clear ho;rcases o with _ | g
      ·have F:=hideS (fun (i:Nat)=>ki (W:=W) (rs:=rs) (f:=j) (k:=k) J.out O.out i)
       dsimp only [Option.isSome] at E
       go_wp2_with (go_at_call 252;refine (E.out _).mono ?_;rintro e w5 ⟨N5,rfl,_,z⟩;have q:=hideS (HM.out.step z);clear z)
       go_roundw
       case rel=>exact⟨t+1,I+1,by omega,by omega,by omega,rfl,by have:=O.out;show _=_;omega,q.out.congr (fun i _=>F.out i)⟩
       case measure=>simp [intOf];omega
      ·have bb:=pe HF.out J.out;obtain⟨g0,g1⟩:=bb;obtain⟨u,X,hu⟩:=rq HH.out.w0 HH.out.w1 g;have S:=hideS (fun C=>kh W g mv u X C g0 (by omega) hu)
       have HX:Hid (mvI W g U.mv=cU W g mv u X):=by show _=_;rw [bs.out,zK hu]
       have V:g - 6<=cU W g mv u X/\cU W g mv u X<=g+6:=by
        have:=hu.ub;have:=hu.db;unfold cU;split
        ·omega
        ·split<;>omega
       obtain⟨x,hx⟩:∃ x,cU W g mv u X=x:=⟨_,rfl⟩;rw [hx] at S HX V
       obtain⟨x0,x1⟩:=V;clear hx hu;dsimp only [Option.isSome] at E
       have K:=hideS (fun C=>aJ x j s C)
       by_cases M:j<=x/\x<=s
       ·rw [decide_eq_true M] at K
        obtain⟨i0,cm⟩:∃ i0:Nat,x - j=i0:=⟨(x - j).toNat,by omega⟩
        have ba:i0<L:=by omega
        have F:=hideS (fun (i:Nat)=>pg (W:=W) (rs:=rs) (f:=j) (k:=k) (i0:=i0) J.out O.out HX.out (by omega) i)
        have cq:IntKind.i64.wrap (x - j)=(i0:Int):=by rw [IntKind.wrap_i64];omega
        have br:(i0:Int)<(L:Int):=by omega
        clear M
        go_wp2_with (go_at_call 252;refine (E.out _).mono ?_;rintro e w5 ⟨N5,rfl,G,z⟩;have q:=hideS (HM.out.step z);clear z;obtain rfl:=G _ rfl)
        have e0:=q.out.one.alm.c0;have e8:=q.out.c8;clear G
        go_quiet ((go_at_call 226;exact Calls.quiet_of_same (S.out _)))
        obtain⟨R,B⟩:∃ R,R=w5.drewN nq:=⟨_,rfl⟩;rw [<- B];have v:Hid (MK2 w A W (.slice (some ⟨b,off,none⟩) N c) j s bm L (fun i=>mkK W rs Y (j+i) k||mkT W U Y (j+i) t) b9 mv R):=by rw [B];exact q.out.drewN _
        clear B e0 e8 q;have e2:=v.out.one.alm.c2;have e3:=v.out.one.alm.c3
        go_wp2_with fail
        go_quiet ((go_at_call 209;exact Calls.quiet_of_same (K.out _)))
        obtain⟨w7,T⟩:∃ w7,w7=R.drewN nq:=⟨_,rfl⟩;rw [<- T];have D:Hid (MK2 w A W (.slice (some ⟨b,off,none⟩) N c) j s bm L (fun i=>mkK W rs Y (j+i) k||mkT W U Y (j+i) t) b9 mv w7):=by rw [T];exact v.out.drewN _
        clear T e2 e3 v;have e2:=D.out.one.alm.c2;have e4:=D.out.one.alm.c4;have em:=D.out.one.row.cell (i:=i0) ba;have ef:=D.out.one.row.frozen i0
        go_wp2_with fail
        go_region
        have bc:=hideS ((D.out.set i0).congr (fun i _=>F.out i))
        clear D e2 e4 em ef
        go_wp2_with fail
        go_roundw
        case rel=>exact⟨t+1,I+1,by omega,by omega,by omega,rfl,by have:=O.out;show _=_;omega,bc.out.drewN 1⟩
        case measure=>simp [intOf];omega
       ·rw [decide_eq_false M] at K
        have F:=hideS (fun (i:Nat) (hi:i<L)=>ms (W:=W) (rs:=rs) (f:=j) (k:=k) (L:=L) J.out O.out HX.out (by omega) i hi)
        clear M
        go_wp2_with (go_at_call 252;refine (E.out _).mono ?_;rintro e w5 ⟨N5,rfl,G,z⟩;have q:=hideS (HM.out.step z);clear z;obtain rfl:=G _ rfl)
        have e0:=q.out.one.alm.c0;have e8:=q.out.c8;clear G
        go_quiet ((go_at_call 226;exact Calls.quiet_of_same (S.out _)))
        obtain⟨R,B⟩:∃ R,R=w5.drewN nq:=⟨_,rfl⟩;rw [<- B];have v:Hid (MK2 w A W (.slice (some ⟨b,off,none⟩) N c) j s bm L (fun i=>mkK W rs Y (j+i) k||mkT W U Y (j+i) t) b9 mv R):=by rw [B];exact q.out.drewN _
        clear B e0 e8 q;have e2:=v.out.one.alm.c2;have e3:=v.out.one.alm.c3
        go_wp2_with fail
        go_quiet ((go_at_call 209;exact Calls.quiet_of_same (K.out _)))
        go_wp2_with fail
        go_roundw
        case rel=>exact⟨t+1,I+1,by omega,by omega,by omega,rfl,by have:=O.out;show _=_;omega,(v.out.drewN _).congr (fun i hi=>F.out i hi)⟩
        case measure=>simp [intOf];omega
     ·have bh:¬ I<=Y+1:=by have:=O.out;omega
      have as:Hid (MK w A W (.slice (some ⟨b,off,none⟩) N c) j s bm L (fun i=>mkK W rs Y (j+i) (k+1)) wr):=by
       obtain rfl:t=3:=by omega
       exact HM.out.one.congr (fun i _=>by show _=(mkK W rs Y (j+i) k||mkT W (rs.getD k jF) Y (j+i) 3);rw [bk.out])
      go_wp2_with fail
      go_roundw
      case rel=>exact⟨k+1,by omega,by go_num,as⟩
      case measure=>simp [intOf];omega
   ·have ad:=hideS (fun C=>(bE 2 mon day nth wd Q fr to mv C (by omega):Calls Tryz.prog 208 _ C fun e w'=>e=.returned (.iface 241 _)/\Below C.heap.size C w'))
    have ai:=hideS (fun (y:Int) (C:World)=>Oa mon day nth wd Q fr to mv y C H.1 H.2.1 H.2.2.1 H.2.2.2.1 H.2.2.2.2.1 H.2.2.2.2.2.1 H.2.2.2.2.2.2.1 H.2.2.2.2.2.2.2)
    rw [<- ac] at ai
    clear ac H
    go_wp2_with (go_at_call 208;refine (ad.out _).mono ?_;rintro e w4 ⟨rfl,ab⟩)
    have Z:=hideS (am.out.step ab);clear ab am ad;generalize wr.heap.size=b9 at *
    go_loopw [11] (fun y w2=>∃ (t:Nat) (I:Int),t<=3/\1899<=I/\I<=2201/\y=.int .i64 I/\Hid (I=Y - 1+t)/\Hid (MK2 w A W (.slice (some ⟨b,off,none⟩) N c) j s bm L (fun i=>mkK W rs Y (j+i) k||mkT W U Y (j+i) t) b9 mv w2)) (fun y _=>(Y+2 - intOf y).toNat)
    case atStart=>exact⟨0,Y - 1,by omega,by omega,by omega,rfl,by show _=_;omega,Z.out.congr (fun i _=>(Bool.or_false _).symm)⟩
    case round=>
     clear Z;obtain⟨t,I,ht,cl,cp,rfl,O,HM⟩:=hrel
     by_cases cs:t<3
     ·have bh:I<=Y+1:=by have:=O.out;omega
      have E:=hideS (fun C=>ai.out I C)
      obtain⟨o,ho⟩:∃ o,cB U I=o:=⟨_,rfl⟩;rw [ho] at E
      have J:=hideS ho;clear ho;rcases o with _ | g
      ·have F:=hideS (fun (i:Nat)=>ki (W:=W) (rs:=rs) (f:=j) (k:=k) J.out O.out i)
       dsimp only [Option.isSome] at E
       go_wp2_with (go_at_call 255;refine (E.out _).mono ?_;rintro e w5 ⟨N5,rfl,_,z⟩;have q:=hideS (HM.out.step z);clear z)
       go_roundw
       case rel=>exact⟨t+1,I+1,by omega,by omega,by omega,rfl,by have:=O.out;show _=_;omega,q.out.congr (fun i _=>F.out i)⟩
       case measure=>simp [intOf];omega
      ·have bb:=pe HF.out J.out;obtain⟨g0,g1⟩:=bb;obtain⟨u,X,hu⟩:=rq HH.out.w0 HH.out.w1 g;have S:=hideS (fun C=>kh W g mv u X C g0 (by omega) hu)
       have HX:Hid (mvI W g U.mv=cU W g mv u X):=by show _=_;rw [bs.out,zK hu]
       have V:g - 6<=cU W g mv u X/\cU W g mv u X<=g+6:=by
        have:=hu.ub;have:=hu.db;unfold cU;split
        ·omega
        ·split<;>omega
       obtain⟨x,hx⟩:∃ x,cU W g mv u X=x:=⟨_,rfl⟩;rw [hx] at S HX V
       obtain⟨x0,x1⟩:=V;clear hx hu;dsimp only [Option.isSome] at E
       have K:=hideS (fun C=>aJ x j s C)
       by_cases M:j<=x/\x<=s
       ·rw [decide_eq_true M] at K
        obtain⟨i0,cm⟩:∃ i0:Nat,x - j=i0:=⟨(x - j).toNat,by omega⟩
        have ba:i0<L:=by omega
        have F:=hideS (fun (i:Nat)=>pg (W:=W) (rs:=rs) (f:=j) (k:=k) (i0:=i0) J.out O.out HX.out (by omega) i)
        have cq:IntKind.i64.wrap (x - j)=(i0:Int):=by rw [IntKind.wrap_i64];omega
        have br:(i0:Int)<(L:Int):=by omega
        clear M
        go_wp2_with (go_at_call 255;refine (E.out _).mono ?_;rintro e w5 ⟨N5,rfl,G,z⟩;have q:=hideS (HM.out.step z);clear z;obtain rfl:=G _ rfl)
        have e0:=q.out.one.alm.c0;have e8:=q.out.c8;clear G
        go_quiet ((go_at_call 226;exact Calls.quiet_of_same (S.out _)))
        obtain⟨R,B⟩:∃ R,R=w5.drewN nq:=⟨_,rfl⟩;rw [<- B];have v:Hid (MK2 w A W (.slice (some ⟨b,off,none⟩) N c) j s bm L (fun i=>mkK W rs Y (j+i) k||mkT W U Y (j+i) t) b9 mv R):=by rw [B];exact q.out.drewN _
        clear B e0 e8 q;have e2:=v.out.one.alm.c2;have e3:=v.out.one.alm.c3
        go_wp2_with fail
        go_quiet ((go_at_call 209;exact Calls.quiet_of_same (K.out _)))
        obtain⟨w7,T⟩:∃ w7,w7=R.drewN nq:=⟨_,rfl⟩;rw [<- T];have D:Hid (MK2 w A W (.slice (some ⟨b,off,none⟩) N c) j s bm L (fun i=>mkK W rs Y (j+i) k||mkT W U Y (j+i) t) b9 mv w7):=by rw [T];exact v.out.drewN _
        clear T e2 e3 v;have e2:=D.out.one.alm.c2;have e4:=D.out.one.alm.c4;have em:=D.out.one.row.cell (i:=i0) ba;have ef:=D.out.one.row.frozen i0
        go_wp2_with fail
        go_region
        have bc:=hideS ((D.out.set i0).congr (fun i _=>F.out i))
        clear D e2 e4 em ef
        go_wp2_with fail
        go_roundw
        case rel=>exact⟨t+1,I+1,by omega,by omega,by omega,rfl,by have:=O.out;show _=_;omega,bc.out.drewN 1⟩
        case measure=>simp [intOf];omega
       ·rw [decide_eq_false M] at K
        have F:=hideS (fun (i:Nat) (hi:i<L)=>ms (W:=W) (rs:=rs) (f:=j) (k:=k) (L:=L) J.out O.out HX.out (by omega) i hi)
        clear M
        go_wp2_with (go_at_call 255;refine (E.out _).mono ?_;rintro e w5 ⟨N5,rfl,G,z⟩;have q:=hideS (HM.out.step z);clear z;obtain rfl:=G _ rfl)
        have e0:=q.out.one.alm.c0;have e8:=q.out.c8;clear G
        go_quiet ((go_at_call 226;exact Calls.quiet_of_same (S.out _)))
        obtain⟨R,B⟩:∃ R,R=w5.drewN nq:=⟨_,rfl⟩;rw [<- B];have v:Hid (MK2 w A W (.slice (some ⟨b,off,none⟩) N c) j s bm L (fun i=>mkK W rs Y (j+i) k||mkT W U Y (j+i) t) b9 mv R):=by rw [B];exact q.out.drewN _
        clear B e0 e8 q;have e2:=v.out.one.alm.c2;have e3:=v.out.one.alm.c3
        go_wp2_with fail
        go_quiet ((go_at_call 209;exact Calls.quiet_of_same (K.out _)))
        go_wp2_with fail
        go_roundw
        case rel=>exact⟨t+1,I+1,by omega,by omega,by omega,rfl,by have:=O.out;show _=_;omega,(v.out.drewN _).congr (fun i hi=>F.out i hi)⟩
        case measure=>simp [intOf];omega
     ·have bh:¬ I<=Y+1:=by have:=O.out;omega
      have as:Hid (MK w A W (.slice (some ⟨b,off,none⟩) N c) j s bm L (fun i=>mkK W rs Y (j+i) (k+1)) wr):=by
       obtain rfl:t=3:=by omega
       exact HM.out.one.congr (fun i _=>by show _=(mkK W rs Y (j+i) k||mkT W (rs.getD k jF) Y (j+i) 3);rw [bk.out])
      go_wp2_with fail
      go_roundw
      case rel=>exact⟨k+1,by omega,by go_num,as⟩
      case measure=>simp [intOf];omega
   ·have ad:=hideS (fun C=>(bE 3 mon day nth wd Q fr to mv C (by omega):Calls Tryz.prog 208 _ C fun e w'=>e=.returned (.iface 242 _)/\Below C.heap.size C w'))
    have ai:=hideS (fun (y:Int) (C:World)=>Oc mon day nth wd Q fr to mv y C H.1 H.2.1 H.2.2.1 H.2.2.2)
    rw [<- ac] at ai
    clear ac H
    go_wp2_with (go_at_call 208;refine (ad.out _).mono ?_;rintro e w4 ⟨rfl,ab⟩)
    have Z:=hideS (am.out.step ab);clear ab am ad;generalize wr.heap.size=b9 at *
    go_loopw [11] (fun y w2=>∃ (t:Nat) (I:Int),t<=3/\1899<=I/\I<=2201/\y=.int .i64 I/\Hid (I=Y - 1+t)/\Hid (MK2 w A W (.slice (some ⟨b,off,none⟩) N c) j s bm L (fun i=>mkK W rs Y (j+i) k||mkT W U Y (j+i) t) b9 mv w2)) (fun y _=>(Y+2 - intOf y).toNat)
    case atStart=>exact⟨0,Y - 1,by omega,by omega,by omega,rfl,by show _=_;omega,Z.out.congr (fun i _=>(Bool.or_false _).symm)⟩
    case round=>
     clear Z;obtain⟨t,I,ht,cl,cp,rfl,O,HM⟩:=hrel
     by_cases cs:t<3
     ·have bh:I<=Y+1:=by have:=O.out;omega
      have E:=hideS (fun C=>ai.out I C)
      obtain⟨o,ho⟩:∃ o,cB U I=o:=⟨_,rfl⟩;rw [ho] at E
      have J:=hideS ho;clear ho;rcases o with _ | g
      ·have F:=hideS (fun (i:Nat)=>ki (W:=W) (rs:=rs) (f:=j) (k:=k) J.out O.out i)
       dsimp only [Option.isSome] at E
       go_wp2_with (go_at_call 257;refine (E.out _).mono ?_;rintro e w5 ⟨N5,rfl,_,z⟩;have q:=hideS (HM.out.step z);clear z)
       go_roundw
       case rel=>exact⟨t+1,I+1,by omega,by omega,by omega,rfl,by have:=O.out;show _=_;omega,q.out.congr (fun i _=>F.out i)⟩
       case measure=>simp [intOf];omega
      ·have bb:=pe HF.out J.out;obtain⟨g0,g1⟩:=bb;obtain⟨u,X,hu⟩:=rq HH.out.w0 HH.out.w1 g;have S:=hideS (fun C=>kh W g mv u X C g0 (by omega) hu)
       have HX:Hid (mvI W g U.mv=cU W g mv u X):=by show _=_;rw [bs.out,zK hu]
       have V:g - 6<=cU W g mv u X/\cU W g mv u X<=g+6:=by
        have:=hu.ub;have:=hu.db;unfold cU;split
        ·omega
        ·split<;>omega
       obtain⟨x,hx⟩:∃ x,cU W g mv u X=x:=⟨_,rfl⟩;rw [hx] at S HX V
       obtain⟨x0,x1⟩:=V;clear hx hu;dsimp only [Option.isSome] at E
       have K:=hideS (fun C=>aJ x j s C)
       by_cases M:j<=x/\x<=s
       ·rw [decide_eq_true M] at K
        obtain⟨i0,cm⟩:∃ i0:Nat,x - j=i0:=⟨(x - j).toNat,by omega⟩
        have ba:i0<L:=by omega
        have F:=hideS (fun (i:Nat)=>pg (W:=W) (rs:=rs) (f:=j) (k:=k) (i0:=i0) J.out O.out HX.out (by omega) i)
        have cq:IntKind.i64.wrap (x - j)=(i0:Int):=by rw [IntKind.wrap_i64];omega
        have br:(i0:Int)<(L:Int):=by omega
        clear M
        go_wp2_with (go_at_call 257;refine (E.out _).mono ?_;rintro e w5 ⟨N5,rfl,G,z⟩;have q:=hideS (HM.out.step z);clear z;obtain rfl:=G _ rfl)
        have e0:=q.out.one.alm.c0;have e8:=q.out.c8;clear G
        go_quiet ((go_at_call 226;exact Calls.quiet_of_same (S.out _)))
        obtain⟨R,B⟩:∃ R,R=w5.drewN nq:=⟨_,rfl⟩;rw [<- B];have v:Hid (MK2 w A W (.slice (some ⟨b,off,none⟩) N c) j s bm L (fun i=>mkK W rs Y (j+i) k||mkT W U Y (j+i) t) b9 mv R):=by rw [B];exact q.out.drewN _
        clear B e0 e8 q;have e2:=v.out.one.alm.c2;have e3:=v.out.one.alm.c3
        go_wp2_with fail
        go_quiet ((go_at_call 209;exact Calls.quiet_of_same (K.out _)))
        obtain⟨w7,T⟩:∃ w7,w7=R.drewN nq:=⟨_,rfl⟩;rw [<- T];have D:Hid (MK2 w A W (.slice (some ⟨b,off,none⟩) N c) j s bm L (fun i=>mkK W rs Y (j+i) k||mkT W U Y (j+i) t) b9 mv w7):=by rw [T];exact v.out.drewN _
        clear T e2 e3 v;have e2:=D.out.one.alm.c2;have e4:=D.out.one.alm.c4;have em:=D.out.one.row.cell (i:=i0) ba;have ef:=D.out.one.row.frozen i0
        go_wp2_with fail
        go_region
        have bc:=hideS ((D.out.set i0).congr (fun i _=>F.out i))
        clear D e2 e4 em ef
        go_wp2_with fail
        go_roundw
        case rel=>exact⟨t+1,I+1,by omega,by omega,by omega,rfl,by have:=O.out;show _=_;omega,bc.out.drewN 1⟩
        case measure=>simp [intOf];omega
       ·rw [decide_eq_false M] at K
        have F:=hideS (fun (i:Nat) (hi:i<L)=>ms (W:=W) (rs:=rs) (f:=j) (k:=k) (L:=L) J.out O.out HX.out (by omega) i hi)
        clear M
        go_wp2_with (go_at_call 257;refine (E.out _).mono ?_;rintro e w5 ⟨N5,rfl,G,z⟩;have q:=hideS (HM.out.step z);clear z;obtain rfl:=G _ rfl)
        have e0:=q.out.one.alm.c0;have e8:=q.out.c8;clear G
        go_quiet ((go_at_call 226;exact Calls.quiet_of_same (S.out _)))
        obtain⟨R,B⟩:∃ R,R=w5.drewN nq:=⟨_,rfl⟩;rw [<- B];have v:Hid (MK2 w A W (.slice (some ⟨b,off,none⟩) N c) j s bm L (fun i=>mkK W rs Y (j+i) k||mkT W U Y (j+i) t) b9 mv R):=by rw [B];exact q.out.drewN _
        clear B e0 e8 q;have e2:=v.out.one.alm.c2;have e3:=v.out.one.alm.c3
        go_wp2_with fail
        go_quiet ((go_at_call 209;exact Calls.quiet_of_same (K.out _)))
        go_wp2_with fail
        go_roundw
        case rel=>exact⟨t+1,I+1,by omega,by omega,by omega,rfl,by have:=O.out;show _=_;omega,(v.out.drewN _).congr (fun i hi=>F.out i hi)⟩
        case measure=>simp [intOf];omega
     ·have bh:¬ I<=Y+1:=by have:=O.out;omega
      have as:Hid (MK w A W (.slice (some ⟨b,off,none⟩) N c) j s bm L (fun i=>mkK W rs Y (j+i) (k+1)) wr):=by
       obtain rfl:t=3:=by omega
       exact HM.out.one.congr (fun i _=>by show _=(mkK W rs Y (j+i) k||mkT W (rs.getD k jF) Y (j+i) 3);rw [bk.out])
      go_wp2_with fail
      go_roundw
      case rel=>exact⟨k+1,by omega,by go_num,as⟩
      case measure=>simp [intOf];omega
   ·have ad:=hideS (fun C=>(bE 4 mon day nth wd Q fr to mv C (by omega):Calls Tryz.prog 208 _ C fun e w'=>e=.returned (.iface 243 _)/\Below C.heap.size C w'))
    have ai:=hideS (fun (y:Int) (C:World)=>Ob mon day nth wd Q fr to mv y C H.1 H.2)
    rw [<- ac] at ai
    clear ac H
    go_wp2_with (go_at_call 208;refine (ad.out _).mono ?_;rintro e w4 ⟨rfl,ab⟩)
    have Z:=hideS (am.out.step ab);clear ab am ad;generalize wr.heap.size=b9 at *
    go_loopw [11] (fun y w2=>∃ (t:Nat) (I:Int),t<=3/\1899<=I/\I<=2201/\y=.int .i64 I/\Hid (I=Y - 1+t)/\Hid (MK2 w A W (.slice (some ⟨b,off,none⟩) N c) j s bm L (fun i=>mkK W rs Y (j+i) k||mkT W U Y (j+i) t) b9 mv w2)) (fun y _=>(Y+2 - intOf y).toNat)
    case atStart=>exact⟨0,Y - 1,by omega,by omega,by omega,rfl,by show _=_;omega,Z.out.congr (fun i _=>(Bool.or_false _).symm)⟩
    case round=>
     clear Z;obtain⟨t,I,ht,cl,cp,rfl,O,HM⟩:=hrel
     by_cases cs:t<3
     ·have bh:I<=Y+1:=by have:=O.out;omega
      have E:=hideS (fun C=>ai.out I C)
      obtain⟨o,ho⟩:∃ o,cB U I=o:=⟨_,rfl⟩;rw [ho] at E
      have J:=hideS ho;clear ho;rcases o with _ | g
      ·have F:=hideS (fun (i:Nat)=>ki (W:=W) (rs:=rs) (f:=j) (k:=k) J.out O.out i)
       dsimp only [Option.isSome] at E
       go_wp2_with (go_at_call 261;refine (E.out _).mono ?_;rintro e w5 ⟨N5,rfl,_,z⟩;have q:=hideS (HM.out.step z);clear z)
       go_roundw
       case rel=>exact⟨t+1,I+1,by omega,by omega,by omega,rfl,by have:=O.out;show _=_;omega,q.out.congr (fun i _=>F.out i)⟩
       case measure=>simp [intOf];omega
      ·have bb:=pe HF.out J.out;obtain⟨g0,g1⟩:=bb;obtain⟨u,X,hu⟩:=rq HH.out.w0 HH.out.w1 g;have S:=hideS (fun C=>kh W g mv u X C g0 (by omega) hu)
       have HX:Hid (mvI W g U.mv=cU W g mv u X):=by show _=_;rw [bs.out,zK hu]
       have V:g - 6<=cU W g mv u X/\cU W g mv u X<=g+6:=by
        have:=hu.ub;have:=hu.db;unfold cU;split
        ·omega
        ·split<;>omega
       obtain⟨x,hx⟩:∃ x,cU W g mv u X=x:=⟨_,rfl⟩;rw [hx] at S HX V
       obtain⟨x0,x1⟩:=V;clear hx hu;dsimp only [Option.isSome] at E
       have K:=hideS (fun C=>aJ x j s C)
       by_cases M:j<=x/\x<=s
       ·rw [decide_eq_true M] at K
        obtain⟨i0,cm⟩:∃ i0:Nat,x - j=i0:=⟨(x - j).toNat,by omega⟩
        have ba:i0<L:=by omega
        have F:=hideS (fun (i:Nat)=>pg (W:=W) (rs:=rs) (f:=j) (k:=k) (i0:=i0) J.out O.out HX.out (by omega) i)
        have cq:IntKind.i64.wrap (x - j)=(i0:Int):=by rw [IntKind.wrap_i64];omega
        have br:(i0:Int)<(L:Int):=by omega
        clear M
        go_wp2_with (go_at_call 261;refine (E.out _).mono ?_;rintro e w5 ⟨N5,rfl,G,z⟩;have q:=hideS (HM.out.step z);clear z;obtain rfl:=G _ rfl)
        have e0:=q.out.one.alm.c0;have e8:=q.out.c8;clear G
        go_quiet ((go_at_call 226;exact Calls.quiet_of_same (S.out _)))
        obtain⟨R,B⟩:∃ R,R=w5.drewN nq:=⟨_,rfl⟩;rw [<- B];have v:Hid (MK2 w A W (.slice (some ⟨b,off,none⟩) N c) j s bm L (fun i=>mkK W rs Y (j+i) k||mkT W U Y (j+i) t) b9 mv R):=by rw [B];exact q.out.drewN _
        clear B e0 e8 q;have e2:=v.out.one.alm.c2;have e3:=v.out.one.alm.c3
        go_wp2_with fail
        go_quiet ((go_at_call 209;exact Calls.quiet_of_same (K.out _)))
        obtain⟨w7,T⟩:∃ w7,w7=R.drewN nq:=⟨_,rfl⟩;rw [<- T];have D:Hid (MK2 w A W (.slice (some ⟨b,off,none⟩) N c) j s bm L (fun i=>mkK W rs Y (j+i) k||mkT W U Y (j+i) t) b9 mv w7):=by rw [T];exact v.out.drewN _
        clear T e2 e3 v;have e2:=D.out.one.alm.c2;have e4:=D.out.one.alm.c4;have em:=D.out.one.row.cell (i:=i0) ba;have ef:=D.out.one.row.frozen i0
        go_wp2_with fail
        go_region
        have bc:=hideS ((D.out.set i0).congr (fun i _=>F.out i))
        clear D e2 e4 em ef
        go_wp2_with fail
        go_roundw
        case rel=>exact⟨t+1,I+1,by omega,by omega,by omega,rfl,by have:=O.out;show _=_;omega,bc.out.drewN 1⟩
        case measure=>simp [intOf];omega
       ·rw [decide_eq_false M] at K
        have F:=hideS (fun (i:Nat) (hi:i<L)=>ms (W:=W) (rs:=rs) (f:=j) (k:=k) (L:=L) J.out O.out HX.out (by omega) i hi)
        clear M
        go_wp2_with (go_at_call 261;refine (E.out _).mono ?_;rintro e w5 ⟨N5,rfl,G,z⟩;have q:=hideS (HM.out.step z);clear z;obtain rfl:=G _ rfl)
        have e0:=q.out.one.alm.c0;have e8:=q.out.c8;clear G
        go_quiet ((go_at_call 226;exact Calls.quiet_of_same (S.out _)))
        obtain⟨R,B⟩:∃ R,R=w5.drewN nq:=⟨_,rfl⟩;rw [<- B];have v:Hid (MK2 w A W (.slice (some ⟨b,off,none⟩) N c) j s bm L (fun i=>mkK W rs Y (j+i) k||mkT W U Y (j+i) t) b9 mv R):=by rw [B];exact q.out.drewN _
        clear B e0 e8 q;have e2:=v.out.one.alm.c2;have e3:=v.out.one.alm.c3
        go_wp2_with fail
        go_quiet ((go_at_call 209;exact Calls.quiet_of_same (K.out _)))
        go_wp2_with fail
        go_roundw
        case rel=>exact⟨t+1,I+1,by omega,by omega,by omega,rfl,by have:=O.out;show _=_;omega,(v.out.drewN _).congr (fun i hi=>F.out i hi)⟩
        case measure=>simp [intOf];omega
     ·have bh:¬ I<=Y+1:=by have:=O.out;omega
      have as:Hid (MK w A W (.slice (some ⟨b,off,none⟩) N c) j s bm L (fun i=>mkK W rs Y (j+i) (k+1)) wr):=by
       obtain rfl:t=3:=by omega
       exact HM.out.one.congr (fun i _=>by show _=(mkK W rs Y (j+i) k||mkT W (rs.getD k jF) Y (j+i) 3);rw [bk.out])
      go_wp2_with fail
      go_roundw
      case rel=>exact⟨k+1,by omega,by go_num,as⟩
      case measure=>simp [intOf];omega
  ·have dp:¬ (k:Int)<N:=by omega
   obtain rfl:k=N:=by omega
   have HE:Hid (MK w A W (.slice p k c) j s bm L (fun i=>wN W rs (j+i) Y) wr):=bx.out.congr (fun i hi=>by
    obtain⟨y0,y1,hf,hl⟩:=dc.out;rw [<- NS HH.out.w0 HH.out.w1 HH.out.fit (OM y0 y1 (by omega) (by omega)),HN.out])
   go_wp2_with fail
   go_end0
   exact⟨rfl,bm,L,by rw [<- dc.out.2.2.1];exact HL.out,HE.out⟩
theorem MK.base {w wr:World} {A:Nat} {W:Int} {v:Value} {f l:Int} {bm L:Nat} {F:Nat->Bool} (h:MK w A W v f l bm L F wr):MK wr A W v f l bm L F wr:=⟨h.alm,h.row,Below.refl _ _,h.lt⟩
inductive AlmS (w:World) (A:Nat) (W:Int) (v:Value) (rs:List Rul):Prop where
 | none:AlmC w A W v 0 (-1) (.slice none 0 0)->AlmS w A W v rs
 | year (Y:Int) (bm L:Nat):1900<=Y->Y<=2199->(L:Int)=nyI (Y+1) - nyI Y->MK w A W v (nyI Y) (nyI (Y+1) - 1) bm L (fun i=>wN W rs (nyI Y+i) Y) w->AlmS w A W v rs
theorem AlmS.step {w e:World} {A:Nat} {W:Int} {v:Value} {rs:List Rul} (h:AlmS w A W v rs) (d:Below w.heap.size w e):AlmS e A W v rs:=by
 cases h with
 | none h=>exact .none (h.below d h.lt)
 | year Y bm L a b c h=>exact .year Y bm L a b c (h.step d).base
theorem AlmS.lt {w:World} {A:Nat} {W:Int} {v:Value} {rs:List Rul} (h:AlmS w A W v rs):A<w.heap.size:=by
 cases h with
 | none h=>exact h.lt
 | year Y bm L a b c h=>exact h.alm.lt
theorem nB (w:World) (q:Nat):Below w.heap.size w (w.drewN q):=below_drewN' (Below.refl _ _)
theorem RSrc.low {w c:World} {p:Option Addr} {b off A:Nat} {rs:List Rul} (h:RSrc w p b off rs) (a:Below A w c) (e:0<rs.length->b<A):RSrc c p b off rs:=
 ⟨h.at_,fun f=>Nat.lt_of_lt_of_le (h.lt f) a.size,fun j d=>(h.cell j d).below a (e (by omega))⟩
theorem Qk (A:Nat) (W n f l:Int) (v:Value) (bm L i0:Nat) (R:Bool) (F:Nat->Bool) (w:World) (d:MK w A W v f l bm L F w) (o:f<=n) (r:n<=l) (hi:n - f=i0) (h:i0<L) (m:F i0=R) (C:0<=f) (B:l<=1000000) :
  Calls Tryz.prog 211 #[.pointer (some ⟨A,0,none⟩),.int .i64 n] w fun e u=>e=.returned (.bool R)/\∃ q,u=w.drewN q:=by
 have c:=hideS (fun p=>aJ n f l p)
 rw [decide_eq_true ⟨o,r⟩] at c
 have j:=hideS d;have c2:=d.alm.c2;have c3:=d.alm.c3;have t:IntKind.i64.wrap (n - f)=(i0:Int):=by rw [IntKind.wrap_i64];omega
 have k:(i0:Int)<(L:Int):=by omega
 have s:=hideS m;clear d m
 go_enter Tryz.func211,Tryz.ntmps211
 go_wp2_with fail
 go_quiet ((go_at_call 209;exact Calls.quiet_of_same (c.out _)))
 obtain⟨g,a⟩:∃ g,g=w.drewN nq:=⟨_,rfl⟩;rw [<- a];have b:Hid (MK w A W v f l bm L F g):=by rw [a];exact j.out.drewN _
 have y:=hideS a;clear a c2 c3 j;have z:=b.out.alm.c2;have D:=b.out.alm.c4;have x:=b.out.row.cell (i:=i0) h;rw [s.out] at x
 go_wp2_with fail
 go_region
 go_wp2_with fail
 go_ret
 exact⟨rfl,nq+1,by rw [y.out];exact World.drewN_drewN _ _ 1⟩
theorem Od (A:Nat) (W n f l a c:Int) (v x:Value) (i0 L:Nat) (R:Bool) (F:Nat->Bool) (w:World) (m:AlmC w A W v f l x) (h:¬ (f<=n/\n<=l))
  (p:Hid (∀ w1,Below w.heap.size w w1->AlmC w1 A W v f l x->Calls Tryz.prog 219 #[.pointer (some ⟨A,0,none⟩),.int .i64 n] w1 fun e j=>e=.returned (.tuple #[])/\∃ bm,MK w1 A W v a c bm L F j))
  (E:a<=n) (G:n<=c) (hi:n - a=i0) (s:i0<L) (y:F i0=R) (J:0<=a) (I:c<=1000000) :
  Calls Tryz.prog 211 #[.pointer (some ⟨A,0,none⟩),.int .i64 n] w fun e j=>e=.returned (.bool R)/\∃ bm,MK j A W v a c bm L F j/\Below A w j:=by
 have k:=hideS (fun z=>aJ n f l z)
 rw [decide_eq_false h] at k
 have o:=hideS m;have c2:=m.c2;have c3:=m.c3;have C:IntKind.i64.wrap (n - a)=(i0:Int):=by rw [IntKind.wrap_i64];omega
 have u:(i0:Int)<(L:Int):=by omega
 have B:=hideS y;clear m y h
 go_enter Tryz.func211,Tryz.ntmps211
 go_wp2_with fail
 go_quiet ((go_at_call 209;exact Calls.quiet_of_same (k.out _)))
 obtain⟨w1,g⟩:∃ w1,w1=w.drewN nq:=⟨_,rfl⟩;rw [<- g];have d:Hid (Below w.heap.size w w1):=by rw [g];exact nB _ _
 have r:=hideS (o.out.below d.out o.out.lt);have q:Hid (Below A w w1):=d.out.mono (Nat.le_of_lt o.out.lt);clear g c2 c3 o
 go_wp2_with (go_at_call 219;refine (p.out _ d.out r.out).mono ?_;rintro e M ⟨rfl,bm,t⟩)
 have b:=hideS t;clear t;have H:=b.out.alm.c2;have K:=b.out.alm.c4;have D:=b.out.row.cell (i:=i0) s;rw [B.out] at D
 go_region
 go_wp2_with fail
 go_ret
 exact⟨rfl,bm,(b.out.drewN 1).base,q.out.trans (b.out.drewN 1).low⟩
structure AlmE (A:Nat) (W:Int) (p:Option Addr) (b off c:Nat) (rs:List Rul) (w:World):Prop where
 ok:OkC W rs
 src:RSrc w p b off rs
 low:0<rs.length->b<A
 st:AlmS w A W (.slice p rs.length c) rs
theorem AlmE.step {w d:World} {A:Nat} {W:Int} {p:Option Addr} {b off c:Nat} {rs:List Rul} (h:AlmE A W p b off c rs w) (a:Below w.heap.size w d):AlmE A W p b off c rs d:=
 ⟨h.ok,h.src.below a,h.low,h.st.step a⟩
theorem Oe (A:Nat) (W n:Int) (p:Option Addr) (b off c:Nat) (rs:List Rul) (w:World) (h:AlmE A W p b off c rs w) (hn:an n) :
  Calls Tryz.prog 211 #[.pointer (some ⟨A,0,none⟩),.int .i64 n] w fun e o=>e=.returned (.bool (wN W rs n (yrI n)))/\AlmE A W p b off c rs o/\Below A w o:=by
 obtain⟨B,G,z,P⟩:=QW hn;obtain⟨y,m,d,H⟩:=iQ hn.1 hn.2;have F:=uk H;rw [F] at B G z P ⊢
 have k:0<=nyI y:=by have:=nY B;omega
 have g:nyI (y+1) - 1<=1000000:=by have:=nZ (y:=y+1) (by omega);omega
 have j:∀ f l v,AlmC w A W (.slice p rs.length c) f l v->¬ (f<=n/\n<=l)->Calls Tryz.prog 211 #[.pointer (some ⟨A,0,none⟩),.int .i64 n] w fun e o=>e=.returned (.bool (wN W rs n y))/\AlmE A W p b off c rs o/\Below A w o:=fun f l v E C=>by
  obtain⟨L,I⟩:∃ L:Nat,(L:Int)=nyI (y+1) - nyI y:=⟨(nyI (y+1) - nyI y).toNat,by omega⟩
  refine (Od A W n f l (nyI y) (nyI (y+1) - 1) _ v (n - nyI y).toNat L _ (fun i=>wN W rs (nyI y+i) y) w E C (fun O u x=>?_) z (by omega) (by omega) (by omega) rfl k g).mono ?_
  ·refine (Lr A W n y m d p b off c rs f l v O h.ok (h.src.below u) h.low x H).mono ?_
   rintro e o ⟨s,bm,M,K,r⟩;obtain rfl:M=L:=by omega
   exact⟨s,bm,r⟩
  ·rintro e o ⟨s,bm,r,u⟩;refine⟨?_,⟨h.ok,h.src.low u h.low,h.low,.year y bm L B G I r⟩,u⟩
   rw [s,show nyI y+(((n - nyI y).toNat:Nat):Int)=n by omega]
 rcases h.st with E | ⟨Y,bm,L,N,J,I,r⟩
 ·exact j _ _ _ E (fun a=>by omega)
 ·by_cases t:nyI Y<=n/\n<=nyI (Y+1) - 1
  ·have D:Y=y:=by rw [<- F];exact (OM N J t.1 (by omega)).symm
   subst D;refine (Qk A W n (nyI Y) (nyI (Y+1) - 1) _ bm L (n - nyI Y).toNat _ _ w r z (by omega) (by omega) (by omega) rfl k g).mono ?_
   rintro e o ⟨s,q,rfl⟩;refine⟨?_,h.step (nB _ _),(nB _ _).mono (Nat.le_of_lt h.st.lt)⟩
   rw [s,show nyI Y+(((n - nyI Y).toNat:Nat):Int)=n by omega]
  ·exact j _ _ _ r.alm t
theorem Ls (A:Nat) (W n:Int) (p:Option Addr) (b off c:Nat) (rs:List Rul) (w:World) (h:AlmE A W p b off c rs w) (hn:an n) :
  Calls Tryz.prog 195 #[.pointer (some ⟨A,0,none⟩),.int .i64 n] w fun e f=>e=.returned (.bool (opB W rs n))/\AlmE A W p b off c rs f/\Below A w f:=by
 have a:=hideS (fun i=>kB W n i (by have:=hn.1;omega) (by have:=hn.2;omega))
 have k:=hideS (Oe A W n p b off c rs w h hn);have c0:w.cell? ⟨A,0,none⟩=some (.int .i64 W):=by
  rcases h.st with o | ⟨Y,bm,L,r,q,s,g⟩
  ·exact o.c0
  ·exact g.alm.c0
 unfold opB;have j:=hideS h;clear h hn;generalize wN W rs n (yrI n)=H at *
 generalize eN W n=F at *
 cases F
 ·go_enter Tryz.func195,Tryz.ntmps195
  go_wp2_with (first | (go_at_call 210;refine (iT (a.out _)).mono ?_;rintro e d ⟨rfl,rfl⟩) | (go_at_call 211;refine k.out.mono ?_;rintro e d ⟨rfl,m,l⟩))
  go_ret
  exact⟨rfl,m,l⟩
 ·go_enter Tryz.func195,Tryz.ntmps195
  go_wp2_with (go_at_call 210;refine (iT (a.out _)).mono ?_;rintro e d ⟨rfl,rfl⟩)
  go_ret
  exact⟨rfl,j.out,Below.refl _ _⟩
def OpH (A:Nat) (op:Int->Bool) (E:World->Prop):Prop:=
 ∀ x w,an x->E w->Calls Tryz.prog 195 #[.pointer (some ⟨A,0,none⟩),.int .i64 x] w fun e a=>e=.returned (.bool (op x))/\E a/\Below A w a
theorem opH (A:Nat) (W:Int) (p:Option Addr) (b off c:Nat) (rs:List Rul):OpH A (opB W rs) (AlmE A W p b off c rs):=
 fun x w a d=>Ls A W x p b off c rs w d a
theorem Gz (A:Nat) (op:Int->Bool) (E:World->Prop) (a b:Int) (w:World) (G:Hid (OpH A op E)) (o:Hid (E w)) (B:an a) (u:an b) (H:a<=b) :
  Calls Tryz.prog 172 #[.pointer (some ⟨A,0,none⟩),.int .i64 a,.int .i64 b] w fun e v=>e=.returned (.int .i64 (cntN op a (b - a).toNat:Nat))/\E v/\Below A w v:=by
 have M:=B.1;have S:=u.2;clear B u;obtain⟨R,t⟩:∃ R:Int,((cntN op a (b - a).toNat:Nat):Int)=R:=⟨_,rfl⟩;rw [t];have D:=hideS t;clear t
 go_enter Tryz.func172,Tryz.ntmps172
 go_wp2_with fail
 go_loopw [7,8] (fun q i p=>∃ (j:Nat) (x z:Int),a<=x/\x<=b/\0<=z/\z<=110000/\i=.int .i64 x/\q=.int .i64 z/\Hid (E p)/\Hid (Below A w p)/\Hid (x=a+j/\z=(cntN op a j:Nat)/\cntN op a j<=j)) (fun _ i _=>(b - intOf i).toNat)
 case atStart=>exact⟨0,a,0,by omega,by omega,by omega,by omega,rfl,rfl,o,Below.refl _ _,⟨by omega,rfl,Nat.le_refl _⟩⟩
 case round=>
  clear o;obtain⟨j,x,z,K,L,N,Q,rfl,rfl,o,s,r⟩:=hrel
  by_cases J:x<b
  ·have h:=hideS (G.out x p ⟨by omega,by omega⟩ o.out)
   have n:cntN op a (j+1)=cntN op a j+(if op x then 1 else 0):=by rw [r.out.1];rfl
   have f:=KZ op a (j+1);have y:=r.out;cases g:op x
   ·rw [g] at h n
    rw [if_neg Bool.false_ne_true] at n
    have m:Hid (x+1=a+((j+1:Nat):Int)/\z=(cntN op a (j+1):Nat)/\cntN op a (j+1)<=j+1):=⟨by omega,by omega,f⟩
    clear n f y g
    go_wp2_with (go_at_call 195;refine h.out.mono ?_;rintro e I ⟨rfl,c,d⟩)
    have l:=hideS c;have k:=hideS (s.out.trans d);clear c d
    go_roundw
    case rel=>exact⟨j+1,x+1,z,by omega,by omega,by omega,by omega,rfl,rfl,l,k,m⟩
    case measure=>simp [intOf];omega
   ·rw [g] at h n
    rw [if_pos rfl] at n
    have m:Hid (x+1=a+((j+1:Nat):Int)/\z+1=(cntN op a (j+1):Nat)/\cntN op a (j+1)<=j+1):=⟨by omega,by omega,f⟩
    have O:z+1<=110000:=by omega
    clear n f y g
    go_wp2_with (go_at_call 195;refine h.out.mono ?_;rintro e I ⟨rfl,c,d⟩)
    have l:=hideS c;have k:=hideS (s.out.trans d);clear c d
    go_roundw
    case rel=>exact⟨j+1,x+1,z+1,by omega,by omega,by omega,by omega,rfl,rfl,l,k,m⟩
    case measure=>simp [intOf];omega
  ·have C:Hid (z=R):=by
    obtain⟨P,F,_⟩:=r.out
    show _=_
    rw [<- D.out,F,show (b - a).toNat=j by omega]
   go_wp2_with fail
   go_ret
   obtain rfl:=C.out;exact⟨rfl,o.out,s.out⟩
theorem Of (w:World) (W:Int) (v:Value):AlmC (w.alloc (.cells #[.int .i64 W,v,.int .i64 0,.int .i64 (-1),.slice none 0 0] 228)) w.heap.size W v 0 (-1) (.slice none 0 0):=
 ⟨World.rowIs_alloc w #[.int .i64 W,v,.int .i64 0,.int .i64 (-1),.slice none 0 0] 228 (Ra W v 0 (-1) (.slice none 0 0)) (fun i hi=>by
  rcases five (show i<5 from hi) with rfl | rfl | rfl | rfl | rfl<;>rfl)⟩
structure Days (w:World) (dp:Option Addr) (bd:Nat) (xs:List Int):Prop where
 at_:0<xs.length->dp=some ⟨bd,0,none⟩
 lt:0<xs.length->bd<w.heap.size
 cell:∀ j<xs.length,w.cell? ⟨bd,j,none⟩=some (.int .i64 (xs.getD j 0))
theorem Days.below {w b:World} {c:Option Addr} {bd:Nat} {xs:List Int} (h:Days w c bd xs) (a:Below w.heap.size w b):Days b c bd xs:=
 ⟨h.at_,fun e=>Nat.lt_of_lt_of_le (h.lt e) a.size,fun j d=>(a.cell (p:=⟨bd,j,none⟩) (h.lt (by omega))).trans (h.cell j d)⟩
theorem GA (W:Int) (p h:Option Addr) (c N k j:Nat) (A B:Int) (w:World) (g:A≠0) (i:Hid (∀ b,Below w.heap.size w b->Calls Tryz.prog 193 #[.agg #[.int .i64 W,.slice p N c]] b fun e f=>e=.returned (.tuple #[.int .i64 A,.int .i64 B])/\Below b.heap.size b f)) :
  Calls Tryz.prog 171 #[.agg #[.int .i64 W,.slice p N c],.slice h k j] w fun e f=>e=.returned (.tuple #[.pointer none,.int .i64 A])/\Below w.heap.size w f:=by
 have a:Hid (Below w.heap.size w (w.alloc (.cells #[.int .i64 W,.slice p N c] 96))):=(Below.refl w.heap.size w).alloc (Nat.le_refl _) _;have l:(A !=0)=true:=bne_iff_ne.2 g;clear g
 go_enter Tryz.func171,Tryz.ntmps171
 go_wp2_with (go_at_call 193;refine (i.out _ a.out).mono ?_;rintro e m ⟨rfl,d⟩)
 go_ret2
 exact⟨rfl,a.out.trans (d.mono a.out.size)⟩
def Rt (K a:Nat) (W:Int) (p:Option Addr) (b off c:Nat) (rs:List Rul) (w:World) (e:Ending) (d:World):Prop:=
 (K<a/\e=.returned (.tuple #[.pointer none,.int .i64 51]))\/(K=a/\∃ A,e=.returned (.tuple #[.pointer (some ⟨A,0,none⟩),.int .i64 0])/\w.heap.size<=A/\AlmE A W p b off c rs d)
theorem rE (W:Int) (p F:Option Addr) (b off c bd l O K:Nat) (rs:List Rul) (xs:List Int) (w:World) (h:OkC W rs) (E:RSrc w p b off rs) (r:xs.length=l) (H:Days w F bd xs) (hn:l<=10) (X:K<=l) (o:∀ j<K,an (xs.getD j 0)) (q:K<l->¬ an (xs.getD K 0)) :
  Calls Tryz.prog 171 #[.agg #[.int .i64 W,.slice p rs.length c],.slice F l O] w fun e A=>Rt K l W p b off c rs w e A/\Below w.heap.size w A:=by
 have B:Hid (∀ g,Below w.heap.size w g->Calls Tryz.prog 193 #[.agg #[.int .i64 W,.slice p rs.length c]] g fun e A=>e=.returned (.tuple #[.int .i64 0,.int .i64 0])/\Below g.heap.size g A):=fun g Q=>uu W p b off c rs 0 0 g (.ok h) (E.below Q) (by have:=h.len;omega)
 have P:=hideS h;have G:=hideS E;have z:=hideS H;have y:=hideS o;have v:=hideS q;have L:=hideS r;obtain⟨N,D⟩:∃ N,rs.length=N:=⟨_,rfl⟩;have T:=hideS D;rw [D] at B ⊢
 clear h E H o q r D;have t:Hid (Below w.heap.size w (w.alloc (.cells #[.int .i64 W,.slice p N c] 96))):=(Below.refl w.heap.size w).alloc (Nat.le_refl _) _;have U:=hideS (fun x g=>rz x g)
 go_enter Tryz.func171,Tryz.ntmps171
 go_wp2_with (go_at_call 193;refine (B.out _ t.out).mono ?_;rintro e I ⟨rfl,u⟩)
 have d:=hideS (CBoxP.first u);clear u B t
 go_loop [20] (fun i=>∃ k:Nat,k<=K/\i=.int .i64 k) (fun i=>l - (intOf i).toNat)
 case atStart=>exact⟨0,by omega,rfl⟩
 case round=>
  obtain⟨k,Y,rfl⟩:=hrel
  by_cases s:k<l
  ·have r:k<xs.length:=by rw [L.out];exact s
   obtain rfl:=z.out.at_ (by omega)
   have R:=(z.out.below d.out.below).cell k r;obtain⟨x,f⟩:∃ x,xs.getD k 0=x:=⟨_,rfl⟩;rw [f] at R
   have n:=hideS (fun g=>U.out x g)
   by_cases C:k<K
   ·have a:=y.out k C;rw [f] at a
    rw [decide_eq_true a] at n
    clear a f r
    go_wp2_with (go_at_call 194;refine (iT (n.out _)).mono ?_;rintro e V ⟨rfl,rfl⟩)
    go_round
    case rel=>exact⟨k+1,by omega,by go_num⟩
    case measure=>simp [intOf];omega
   ·obtain rfl:k=K:=by omega
    have a:=v.out s;rw [f] at a
    rw [decide_eq_false a] at n
    clear a f r
    go_wp2_with (go_at_call 194;refine (iT (n.out _)).mono ?_;rintro e V ⟨rfl,rfl⟩)
    go_ret2
    exact⟨Or.inl ⟨s,rfl⟩,d.out.below⟩
  ·obtain rfl:k=K:=by omega
   have M:k=l:=by omega
   have S:¬ (k:Int)<l:=by omega
   obtain⟨c0,c1⟩:=d.out.cells
   go_wp2_with fail
   go_ret2
   have J:=Of I W (.slice p N c);have m:=d.out.below.size;refine⟨Or.inr ⟨rfl,I.heap.size,rfl,m,P.out,G.out.below (d.out.below.alloc m _),fun r=>Nat.lt_of_lt_of_le (G.out.lt r) m,?_⟩,d.out.below.alloc m _⟩
   rw [T.out];exact .none J
theorem Lt (W:Int) (p g:Option Addr) (b off c bd d k:Nat) (rs:List Rul) (xs:List Int) (w:World) (h:OkC W rs) (s:RSrc w p b off rs) (t:xs.length=d) (o:Days w g bd xs) (hn:d<=10) (f:∀ j<d,an (xs.getD j 0)) :
  Calls Tryz.prog 171 #[.agg #[.int .i64 W,.slice p rs.length c],.slice g d k] w fun e i=>∃ A,e=.returned (.tuple #[.pointer (some ⟨A,0,none⟩),.int .i64 0])/\w.heap.size<=A/\AlmE A W p b off c rs i/\Below w.heap.size w i:=by
 refine (rE W p g b off c bd d k d rs xs w h s t o hn (Nat.le_refl _) f (fun a=>absurd a (Nat.lt_irrefl _))).mono ?_
 rintro e i ⟨q,n⟩;rcases q with⟨a,_⟩| ⟨_,A,l,m,r⟩
 ·exact absurd a (Nat.lt_irrefl _)
 ·exact⟨A,l,m,r,n⟩
theorem GB (W:Int) (p g:Option Addr) (b off c bd d n:Nat) (rs:List Rul) (xs:List Int) (A B:Int) (w:World) (h:ChkR W rs A B) (u:RSrc w p b off rs) (y:rs.length<=9223372036854775807) (D:xs.length=d) (z:Days w g bd xs) (hn:d<=10) (f:A≠0\/∃ j<d,¬ an (xs.getD j 0)) :
  Calls Tryz.prog 171 #[.agg #[.int .i64 W,.slice p rs.length c],.slice g d n] w fun e t=>e=.returned (.tuple #[.pointer none,.int .i64 (if A≠0 then A else 51)])/\Below w.heap.size w t:=by
 by_cases l:A=0
 ·subst l;obtain⟨r,rfl⟩:=Qh h;rw [if_neg (fun a=>a rfl)]
  rcases f with a | ⟨j,E,k⟩
  ·exact absurd rfl a
  ·obtain⟨K,F,s,q⟩:=rp (p:=fun j=>decide (an (xs.getD j 0))) (m:=j) (decide_eq_false k)
   refine (rE W p g b off c bd d n K rs xs w r u D z hn (by omega) (fun i hi=>of_decide_eq_true (q i hi)) (fun _=>of_decide_eq_false s)).mono ?_
   rintro e t ⟨C,o⟩;rcases C with⟨_,x⟩| ⟨a,_⟩
   ·exact⟨x,o⟩
   ·omega
 ·rw [if_pos l];exact GA W p g c rs.length d n A B w l (fun v o=>uu W p b off c rs A B v h (u.below o) y)
theorem Og {a b:Int} (h:an a) (c:an b):∀ j<2,an ([a,b].getD j 0):=fun j d=>by
 rcases (show j=0\/j=1 by omega) with rfl | rfl
 ·exact h
 ·exact c
theorem zT (w:World) (o:Obj) (a b:Int):Days ((w.alloc o).alloc (.cells #[.int .i64 a,.int .i64 b] 3)) (some ⟨w.heap.size+1,0,none⟩) (w.heap.size+1) [a,b]:=
 ⟨fun _=>rfl,fun _=>by simp,fun j c=>by
  rcases (show j=0\/j=1 by have:j<2:=c;omega) with rfl | rfl
  ·exact zM _ _ 0 (by simp)
  ·exact zM _ _ 1 (by simp)⟩
theorem Oh (W x y:Int) (p:Option Addr) (b off c:Nat) (rs:List Rul) (w:World) (h:OkC W rs) (k:RSrc w p b off rs) (l:an x) (g:an y) (o:Obj) :
  Calls Tryz.prog 171 #[.agg #[.int .i64 W,.slice p rs.length c],.slice (some ⟨w.heap.size+1,0,none⟩) 2 2] ((w.alloc o).alloc (.cells #[.int .i64 x,.int .i64 y] 3)) fun e a=>∃ A,e=.returned (.tuple #[.pointer (some ⟨A,0,none⟩),.int .i64 0])/\w.heap.size<=A/\AlmE A W p b off c rs a/\Below w.heap.size w a:=by
 refine (Lt W p _ b off c (w.heap.size+1) 2 2 rs [x,y] _ h (k.below (iR w o _)) rfl (zT w o x y) (by omega) (Og l g)).mono ?_
 rintro e a ⟨A,d,f,j,i⟩;have:=(iR w o (.cells #[.int .i64 x,.int .i64 y] 3)).size;exact⟨A,d,Nat.le_trans this f,j,(iR w o _).trans (i.mono this)⟩
theorem Oi (W x y:Int) (p:Option Addr) (b off c:Nat) (rs:List Rul) (w:World) (h:OkC W rs) (n:RSrc w p b off rs) (k:an x) (i:an y) (l:x<=y) :
  Calls Tryz.prog 155 #[.agg #[.int .i64 W,.slice p rs.length c],.int .i64 x,.int .i64 y] w fun e d=>e=.returned (.tuple #[.int .i64 (cntN (opB W rs) x (y - x).toNat:Nat),.int .i64 0])/\Below w.heap.size w d:=by
 have s:=hideS (fun o=>Oh W x y p b off c rs w h n k i o)
 have q:Hid (∀ A a,AlmE A W p b off c rs a->Calls Tryz.prog 172 #[.pointer (some ⟨A,0,none⟩),.int .i64 x,.int .i64 y] a fun e d=>e=.returned (.int .i64 (cntN (opB W rs) x (y - x).toNat:Nat))/\AlmE A W p b off c rs d/\Below A a d):=fun A a j=>Gz A _ _ x y a (opH A W p b off c rs) j k i l
 generalize ((cntN (opB W rs) x (y - x).toNat:Nat):Int)=X at *
 generalize rs.length=N at *
 have m:¬ y<x:=by omega
 clear h n k i
 go_enter Tryz.func155,Tryz.ntmps155
 go_wp2_with (first | (go_at_call 171;refine (s.out _).mono ?_;rintro e t ⟨A,rfl,r,j,g⟩) | (go_at_call 172;refine (q.out _ _ j).mono ?_;rintro e u ⟨rfl,_,f⟩))
 go_ret2
 exact⟨rfl,g.trans (f.mono r)⟩
theorem Lu (W x y:Int) (p:Option Addr) (b off c:Nat) (rs:List Rul) (A B E:Int) (w:World) (h:ChkR W rs A B) (m:RSrc w p b off rs) (l:rs.length<=9223372036854775807) (g:(A≠0/\E=A)\/(A=0/\¬ (an x/\an y)/\E=51)) :
  Calls Tryz.prog 155 #[.agg #[.int .i64 W,.slice p rs.length c],.int .i64 x,.int .i64 y] w fun e f=>e=.returned (.tuple #[.int .i64 0,.int .i64 E])/\Below w.heap.size w f:=by
 have r:Hid (∀ o,Calls Tryz.prog 171 #[.agg #[.int .i64 W,.slice p rs.length c],.slice (some ⟨w.heap.size+1,0,none⟩) 2 2] ((w.alloc o).alloc (.cells #[.int .i64 x,.int .i64 y] 3)) fun e f=>e=.returned (.tuple #[.pointer none,.int .i64 E])/\Below w.heap.size w f):=fun o=>by
  have d:A≠0\/∃ j<2,¬ an ([x,y].getD j 0):=by
   rcases g with⟨a,_⟩| ⟨_,a,_⟩
   ·exact Or.inl a
   ·by_cases n:an x
    ·exact Or.inr ⟨1,by omega,fun c=>a ⟨n,c⟩⟩
    ·exact Or.inr ⟨0,by omega,n⟩
  have i:(if A≠0 then A else 51)=E:=by
   rcases g with⟨a,e⟩| ⟨a,_,e⟩
   ·rw [if_pos a,e]
   ·rw [if_neg (fun c=>c a),e]
  have:=GB W p _ b off c (w.heap.size+1) 2 2 rs [x,y] A B _ h (m.below (iR w o _)) l rfl (zT w o x y) (by omega) d
  rw [i] at this
  exact this.mono fun e f ⟨q,s⟩=>⟨q,(iR w o _).trans (s.mono (iR w o (.cells #[.int .i64 x,.int .i64 y] 3)).size)⟩
 have t:(E !=0)=true:=by
  rcases g with⟨a,e⟩| ⟨_,_,e⟩
  ·rw [e];exact bne_iff_ne.2 a
  ·rw [e];rfl
 generalize rs.length=N at *
 clear h m l g
 go_enter Tryz.func155,Tryz.ntmps155
 go_wp2_with (go_at_call 171;refine (r.out _).mono ?_;rintro e u ⟨rfl,k⟩)
 go_ret2
 exact⟨rfl,k⟩
end Go.Proofs.YtfdddijdjpijbaaGreat
