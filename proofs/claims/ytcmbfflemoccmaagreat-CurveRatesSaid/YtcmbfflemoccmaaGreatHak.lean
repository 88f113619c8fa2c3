/-  -/
import Derived.Test.YtcmbfflemoccmaaGreatHaj
namespace Go.Proofs.YtcmbfflemoccmaaGreat
open Go.RowKit

theorem bP (n lo hi:Int) (w:World) :
  Calls Tryz.prog 134 #[.int .i64 n,.int .i64 lo,.int .i64 hi] w fun e w'=>e=.returned (.bool (decide (lo≤n∧n≤hi)))∧w'=w:=by
 by_cases h1:lo≤n<;>by_cases h2:n≤hi
 all_goals
  first | rw [decide_eq_true (⟨h1,h2⟩:lo≤n∧n≤hi)] | rw [decide_eq_false (fun h:lo≤n∧n≤hi=>by omega)]
  go_enter Tryz.func134,Tryz.ntmps134
  go_wp2
  go_ret
  exact⟨rfl,rfl⟩

theorem qu {a b:Bool} (h:a=b):Ending.returned (.bool a)=.returned (.bool b):=by rw [h]
theorem NS (mon day nth wd off fr to mv:Int):bA ⟨4,mon,day,nth,wd,off,fr,to,mv⟩=decide (mon=0∧nth=0∧wd=0∧off=0∧fr=0∧to=0∧mv=0∧0≤day∧day≤109572):=by
 unfold bA;dsimp only;rw [if_pos rfl]
def lD (fr to mv:Int):Prop:=1900≤fr∧fr≤2199∧fr≤to∧to≤2199∧0≤mv∧mv≤2
theorem oe {kind mon day nth wd off fr to mv:Int} (h4:kind≠4) (h:¬ lD fr to mv):bA ⟨kind,mon,day,nth,wd,off,fr,to,mv⟩=false:=by
 unfold bA;dsimp only;rw [if_neg h4,show decide (1900≤fr∧fr≤2199∧fr≤to∧to≤2199∧0≤mv∧mv≤2)=false from decide_eq_false h,Bool.false_and]
theorem NT {mon day nth wd off fr to mv:Int} (h:lD fr to mv):bA ⟨1,mon,day,nth,wd,off,fr,to,mv⟩=decide (nth=0∧wd=0∧off=0∧1≤mon∧mon≤12∧1≤day∧day≤gL mon):=by
 unfold bA;dsimp only
 rw [if_neg (by decide),show decide (1900≤fr∧fr≤2199∧fr≤to∧to≤2199∧0≤mv∧mv≤2)=true from decide_eq_true h,Bool.true_and,if_pos rfl]
theorem NU {mon day nth wd off fr to mv:Int} (h:lD fr to mv):bA ⟨2,mon,day,nth,wd,off,fr,to,mv⟩=decide (day=0∧off=0∧1≤mon∧mon≤12∧0≤wd∧wd≤6∧1≤nth∧nth≤5):=by
 unfold bA;dsimp only
 rw [if_neg (by decide),show decide (1900≤fr∧fr≤2199∧fr≤to∧to≤2199∧0≤mv∧mv≤2)=true from decide_eq_true h,Bool.true_and,if_neg (by decide),if_pos rfl]
theorem NV {mon day nth wd off fr to mv:Int} (h:lD fr to mv):bA ⟨3,mon,day,nth,wd,off,fr,to,mv⟩=decide (mon=0∧day=0∧nth=0∧wd=0∧-100≤off∧off≤100):=by
 unfold bA;dsimp only
 rw [if_neg (by decide),show decide (1900≤fr∧fr≤2199∧fr≤to∧to≤2199∧0≤mv∧mv≤2)=true from decide_eq_true h,Bool.true_and,if_neg (by decide),if_neg (by decide),if_pos rfl]
theorem IQ {kind mon day nth wd off fr to mv:Int} (h1:kind≠1) (h2:kind≠2) (h3:kind≠3) (h4:kind≠4):bA ⟨kind,mon,day,nth,wd,off,fr,to,mv⟩=false:=by
 unfold bA;dsimp only
 rw [if_neg h4,if_neg h1,if_neg h2,if_neg h3,Bool.and_false]

set_option maxHeartbeats 1600000 in
theorem yA (mon day nth wd off fr to mv:Int) (w:World) :
  Calls Tryz.prog 135 #[.agg #[.int .i64 4,.int .i64 mon,.int .i64 day,.int .i64 nth,.int .i64 wd,.int .i64 off,.int .i64 fr,.int .i64 to,.int .i64 mv]] w fun e w'=>e=.returned (.bool (bA ⟨4,mon,day,nth,wd,off,fr,to,mv⟩))∧Below w.heap.size w w':=by
 rw [NS]
 obtain⟨R,hR⟩:∃ R,decide (mon=0∧nth=0∧wd=0∧off=0∧fr=0∧to=0∧mv=0∧0≤day∧day≤109572)=R:=⟨_,rfl⟩
 rw [hR]
 have HR:=hideS hR
 clear hR
 go_enter Tryz.func135,Tryz.ntmps135
 go_wp2_with (go_at_call 134;refine (bP _ _ _ _).mono ?_;rintro e w1 ⟨rfl,rfl⟩)
 all_goals
  go_ret
  refine⟨qu (Eq.trans ?_ HR.out),(Below.refl w.heap.size w).alloc (Nat.le_refl _) _⟩
  first | exact (decide_eq_false (by omega)).symm | (rw [Bool.eq_iff_iff];simp only [Bool.and_eq_true,decide_eq_true_eq];omega)

set_option maxHeartbeats 1600000 in
theorem Bb (kind mon day nth wd off fr to mv:Int) (w:World) (h4:kind≠4) (h:¬ lD fr to mv) :
  Calls Tryz.prog 135 #[.agg #[.int .i64 kind,.int .i64 mon,.int .i64 day,.int .i64 nth,.int .i64 wd,.int .i64 off,.int .i64 fr,.int .i64 to,.int .i64 mv]] w fun e w'=>e=.returned (.bool (bA ⟨kind,mon,day,nth,wd,off,fr,to,mv⟩))∧Below w.heap.size w w':=by
 rw [oe h4 h]
 have h4':(kind==4)=false:=beq_eq_false_iff_ne.2 h4
 have HI:=hideS (fun (n lo hi:Int) (wx:World)=>bP n lo hi wx)
 unfold lD at h
 by_cases a:1900≤fr∧fr≤2199
 ·by_cases b:fr≤to∧to≤2199
  ·have c:¬ (0≤mv∧mv≤2):=by omega
   have ia:=hideS (fun wx=>HI.out fr 1900 2199 wx)
   have ib:=hideS (fun wx=>HI.out to fr 2199 wx)
   have ic:=hideS (fun wx=>HI.out mv 0 2 wx)
   rw [decide_eq_true a] at ia
   rw [decide_eq_true b] at ib
   rw [decide_eq_false c] at ic
   clear h h4 a b c HI
   go_enter Tryz.func135,Tryz.ntmps135
   go_wp2_with (first | (go_at_call_of 134 (Value.int IntKind.i64 1900);refine (ia.out _).mono ?_;rintro e w1 ⟨rfl,rfl⟩) | (go_at_call_of 134 (Value.int IntKind.i64 to);refine (ib.out _).mono ?_;rintro e w1 ⟨rfl,rfl⟩) | (go_at_call_of 134 (Value.int IntKind.i64 mv);refine (ic.out _).mono ?_;rintro e w1 ⟨rfl,rfl⟩))
   go_ret
   exact⟨rfl,(Below.refl w.heap.size w).alloc (Nat.le_refl _) _⟩
  ·have ia:=hideS (fun wx=>HI.out fr 1900 2199 wx)
   have ib:=hideS (fun wx=>HI.out to fr 2199 wx)
   rw [decide_eq_true a] at ia
   rw [decide_eq_false b] at ib
   clear h h4 a b HI
   go_enter Tryz.func135,Tryz.ntmps135
   go_wp2_with (first | (go_at_call_of 134 (Value.int IntKind.i64 1900);refine (ia.out _).mono ?_;rintro e w1 ⟨rfl,rfl⟩) | (go_at_call_of 134 (Value.int IntKind.i64 to);refine (ib.out _).mono ?_;rintro e w1 ⟨rfl,rfl⟩))
   go_ret
   exact⟨rfl,(Below.refl w.heap.size w).alloc (Nat.le_refl _) _⟩
 ·have ia:=hideS (fun wx=>HI.out fr 1900 2199 wx)
  rw [decide_eq_false a] at ia
  clear h h4 a HI
  go_enter Tryz.func135,Tryz.ntmps135
  go_wp2_with (go_at_call 134;refine (ia.out _).mono ?_;rintro e w1 ⟨rfl,rfl⟩)
  go_ret
  exact⟨rfl,(Below.refl w.heap.size w).alloc (Nat.le_refl _) _⟩

set_option maxHeartbeats 3200000 in
theorem yB (kind mon day nth wd off fr to mv:Int) (w:World) (h1:kind≠1) (h4:kind≠4) (h:lD fr to mv) :
  Calls Tryz.prog 135 #[.agg #[.int .i64 kind,.int .i64 mon,.int .i64 day,.int .i64 nth,.int .i64 wd,.int .i64 off,.int .i64 fr,.int .i64 to,.int .i64 mv]] w fun e w'=>e=.returned (.bool (bA ⟨kind,mon,day,nth,wd,off,fr,to,mv⟩))∧Below w.heap.size w w':=by
 have HI:=hideS (fun (n lo hi:Int) (wx:World)=>bP n lo hi wx)
 have ia:=hideS (fun wx=>HI.out fr 1900 2199 wx)
 have ib:=hideS (fun wx=>HI.out to fr 2199 wx)
 have ic:=hideS (fun wx=>HI.out mv 0 2 wx)
 rw [decide_eq_true ⟨h.1,h.2.1⟩] at ia
 rw [decide_eq_true ⟨h.2.2.1,h.2.2.2.1⟩] at ib
 rw [decide_eq_true ⟨h.2.2.2.2.1,h.2.2.2.2.2⟩] at ic
 have HB2:Hid (∀ (o1 o2:Obj),Below w.heap.size w ((w.alloc o1).alloc o2)):=fun o1 o2=>((Below.refl w.heap.size w).alloc (Nat.le_refl _) _).alloc (by simp) _
 have h4':(kind==4)=false:=beq_eq_false_iff_ne.2 h4
 have h1':(kind==1)=false:=beq_eq_false_iff_ne.2 h1
 by_cases k2:kind=2
 ·subst k2
  rw [NU h]
  obtain⟨R,hR⟩:∃ R,decide (day=0∧off=0∧1≤mon∧mon≤12∧0≤wd∧wd≤6∧1≤nth∧nth≤5)=R:=⟨_,rfl⟩
  rw [hR]
  have HR:=hideS hR
  clear hR h h1 h4 h1' h4'
  go_enter Tryz.func135,Tryz.ntmps135
  go_wp2_with (first | (go_at_call_of 134 (Value.int IntKind.i64 1900);refine (ia.out _).mono ?_;rintro e w1 ⟨rfl,rfl⟩) | (go_at_call_of 134 (Value.int IntKind.i64 2199);refine (ib.out _).mono ?_;rintro e w1 ⟨rfl,rfl⟩) | (go_at_call_of 134 (Value.int IntKind.i64 2);refine (ic.out _).mono ?_;rintro e w1 ⟨rfl,rfl⟩) | (go_at_call 134;refine (bP _ _ _ _).mono ?_;rintro e w1 ⟨rfl,rfl⟩))
  all_goals
   go_ret
   refine⟨qu (Eq.trans ?_ HR.out),HB2.out _ _⟩
   first | exact (decide_eq_false (by omega)).symm | (rw [Bool.eq_iff_iff];simp only [Bool.and_eq_true,decide_eq_true_eq];omega)
 ·by_cases k3:kind=3
  ·subst k3
   rw [NV h]
   obtain⟨R,hR⟩:∃ R,decide (mon=0∧day=0∧nth=0∧wd=0∧-100≤off∧off≤100)=R:=⟨_,rfl⟩
   rw [hR]
   have HR:=hideS hR
   clear hR h h1 h4 h1' h4' k2
   go_enter Tryz.func135,Tryz.ntmps135
   go_wp2_with (first | (go_at_call_of 134 (Value.int IntKind.i64 1900);refine (ia.out _).mono ?_;rintro e w1 ⟨rfl,rfl⟩) | (go_at_call_of 134 (Value.int IntKind.i64 2199);refine (ib.out _).mono ?_;rintro e w1 ⟨rfl,rfl⟩) | (go_at_call_of 134 (Value.int IntKind.i64 2);refine (ic.out _).mono ?_;rintro e w1 ⟨rfl,rfl⟩) | (go_at_call 134;refine (bP _ _ _ _).mono ?_;rintro e w1 ⟨rfl,rfl⟩))
   all_goals
    go_ret
    refine⟨qu (Eq.trans ?_ HR.out),HB2.out _ _⟩
    first | exact (decide_eq_false (by omega)).symm | (rw [Bool.eq_iff_iff];simp only [Bool.and_eq_true,decide_eq_true_eq];omega)
  ·rw [IQ h1 k2 k3 h4]
   have k2':(kind==2)=false:=beq_eq_false_iff_ne.2 k2
   have k3':(kind==3)=false:=beq_eq_false_iff_ne.2 k3
   clear h h1 h4 k2 k3
   go_enter Tryz.func135,Tryz.ntmps135
   go_wp2_with (first | (go_at_call_of 134 (Value.int IntKind.i64 1900);refine (ia.out _).mono ?_;rintro e w1 ⟨rfl,rfl⟩) | (go_at_call_of 134 (Value.int IntKind.i64 2199);refine (ib.out _).mono ?_;rintro e w1 ⟨rfl,rfl⟩) | (go_at_call_of 134 (Value.int IntKind.i64 2);refine (ic.out _).mono ?_;rintro e w1 ⟨rfl,rfl⟩))
   go_ret
   exact⟨rfl,HB2.out _ _⟩
end Go.Proofs.YtcmbfflemoccmaaGreat
namespace Go.Proofs.YtcmbfflemoccmaaGreat
open Go.RowKit

theorem bG {B:Nat} {w w2:World} {n:Nat} (hb:Below B w w2):Below B w (w2.drewN n):=⟨hb.os,hb.tape,hb.output,hb.size,hb.block⟩
def IR:Array Value:=#[.int .i64 0,.int .i64 31,.int .i64 29,.int .i64 31,.int .i64 30,.int .i64 31,.int .i64 30,.int .i64 31,.int .i64 31,.int .i64 30,.int .i64 31,.int .i64 30,.int .i64 31]
theorem au {w:World} (o:Obj) (p:Addr) (h:p.block<w.heap.size):(w.alloc o).cell? p=w.cell? p:=((Below.refl _ w).alloc (Nat.le_refl _) o).cell h
theorem bB {w:World} {v:Value} (cs:Array Value) (t:TypeId) (k:Nat) (h:cs[k]? =some v) {o:Obj}:((w.alloc o).alloc (.cells cs t)).cell? ⟨w.heap.size+1,k,none⟩=some v:=by
 rw [show w.heap.size+1=(w.alloc o).heap.size by simp]
 simp [h]
theorem EN (W:World) (cs:Array Value) (t:TypeId) (k:Nat):(W.alloc (.cells cs t)).cell? ⟨W.heap.size,k,none⟩=cs[k]? :=by simp
theorem EO {w:World} {v:Option Value} (cs:Array Value) (t:TypeId) (o o':Obj) {k:Nat} (h:cs[k]? =v):(((w.alloc o).alloc o').alloc (.cells cs t)).cell? ⟨w.heap.size+1+1,k,none⟩=v:=by
 have e:=EN ((w.alloc o).alloc o') cs t k
 rw [show ((w.alloc o).alloc o').heap.size=w.heap.size+1+1 by simp] at e
 rw [e,h]
theorem jl (w:World) (kind mon day nth wd off fr to mv:Int):∃ wq,
  ((w.alloc (.cells #[.int .i64 kind,.int .i64 mon,.int .i64 day,.int .i64 nth,.int .i64 wd,.int .i64 off,.int .i64 fr,.int .i64 to,.int .i64 mv] 168)).alloc (.cells #[.int .i64 kind,.int .i64 mon,.int .i64 day,.int .i64 0,.int .i64 0,.int .i64 0,.int .i64 fr,.int .i64 to,.int .i64 mv] 168)).alloc (.cells #[.int .i64 0,.int .i64 31,.int .i64 29,.int .i64 31,.int .i64 30,.int .i64 31,.int .i64 30,.int .i64 31,.int .i64 31,.int .i64 30,.int .i64 31,.int .i64 30,.int .i64 31] 3)=wq∧
  Hid (Below w.heap.size w wq)∧
  wq.cell? ⟨w.heap.size,0,none⟩=some (.int .i64 kind)∧wq.cell? ⟨w.heap.size,1,none⟩=some (.int .i64 mon)∧wq.cell? ⟨w.heap.size,2,none⟩=some (.int .i64 day)∧wq.cell? ⟨w.heap.size,3,none⟩=some (.int .i64 nth)∧wq.cell? ⟨w.heap.size,4,none⟩=some (.int .i64 wd)∧wq.cell? ⟨w.heap.size,5,none⟩=some (.int .i64 off)∧wq.cell? ⟨w.heap.size,6,none⟩=some (.int .i64 fr)∧wq.cell? ⟨w.heap.size,7,none⟩=some (.int .i64 to)∧wq.cell? ⟨w.heap.size,8,none⟩=some (.int .i64 mv)∧
  wq.cell? ⟨w.heap.size+1,0,none⟩=some (.int .i64 kind)∧wq.cell? ⟨w.heap.size+1,1,none⟩=some (.int .i64 mon)∧wq.cell? ⟨w.heap.size+1,2,none⟩=some (.int .i64 day)∧wq.cell? ⟨w.heap.size+1,3,none⟩=some (.int .i64 0)∧wq.cell? ⟨w.heap.size+1,4,none⟩=some (.int .i64 0)∧wq.cell? ⟨w.heap.size+1,5,none⟩=some (.int .i64 0)∧wq.cell? ⟨w.heap.size+1,6,none⟩=some (.int .i64 fr)∧wq.cell? ⟨w.heap.size+1,7,none⟩=some (.int .i64 to)∧wq.cell? ⟨w.heap.size+1,8,none⟩=some (.int .i64 mv)∧
  Hid (∀ k<13,wq.cell? ⟨w.heap.size+1+1,k,none⟩=IR[k]?):=by
 refine⟨_,rfl,(((Below.refl w.heap.size w).alloc (Nat.le_refl _) _).alloc (by simp) _).alloc (by simp;omega) _,?_⟩
 refine⟨by rw [au _ _ (by simp;omega),au _ _ (by simp)];simp,by rw [au _ _ (by simp;omega),au _ _ (by simp)];simp,by rw [au _ _ (by simp;omega),au _ _ (by simp)];simp,by rw [au _ _ (by simp;omega),au _ _ (by simp)];simp,by rw [au _ _ (by simp;omega),au _ _ (by simp)];simp,by rw [au _ _ (by simp;omega),au _ _ (by simp)];simp,by rw [au _ _ (by simp;omega),au _ _ (by simp)];simp,by rw [au _ _ (by simp;omega),au _ _ (by simp)];simp,by rw [au _ _ (by simp;omega),au _ _ (by simp)];simp,by rw [au _ _ (by simp)];exact bB _ _ 0 (by simp),by rw [au _ _ (by simp)];exact bB _ _ 1 (by simp),by rw [au _ _ (by simp)];exact bB _ _ 2 (by simp),by rw [au _ _ (by simp)];exact bB _ _ 3 (by simp),by rw [au _ _ (by simp)];exact bB _ _ 4 (by simp),by rw [au _ _ (by simp)];exact bB _ _ 5 (by simp),by rw [au _ _ (by simp)];exact bB _ _ 6 (by simp),by rw [au _ _ (by simp)];exact bB _ _ 7 (by simp),by rw [au _ _ (by simp)];exact bB _ _ 8 (by simp),fun k hk=>?_⟩
 rcases (show k=0∨k=1∨k=2∨k=3∨k=4∨k=5∨k=6∨k=7∨k=8∨k=9∨k=10∨k=11∨k=12 by omega) with rfl | rfl | rfl | rfl | rfl | rfl | rfl | rfl | rfl | rfl | rfl | rfl | rfl<;>exact EO _ _ _ _ (by simp [IR])

set_option maxRecDepth 10000 in
set_option maxHeartbeats 3200000 in
theorem yC (mon day nth wd off fr to mv:Int) (w:World) (h:lD fr to mv) (hz:¬ (nth=0∧wd=0∧off=0)) :
  Calls Tryz.prog 135 #[.agg #[.int .i64 1,.int .i64 mon,.int .i64 day,.int .i64 nth,.int .i64 wd,.int .i64 off,.int .i64 fr,.int .i64 to,.int .i64 mv]] w fun e w'=>e=.returned (.bool false)∧Below w.heap.size w w':=by
 have HI:=hideS (fun (n lo hi:Int) (wx:World)=>bP n lo hi wx)
 have ia:=hideS (fun wx=>HI.out fr 1900 2199 wx)
 have ib:=hideS (fun wx=>HI.out to fr 2199 wx)
 have ic:=hideS (fun wx=>HI.out mv 0 2 wx)
 rw [decide_eq_true ⟨h.1,h.2.1⟩] at ia
 rw [decide_eq_true ⟨h.2.2.1,h.2.2.2.1⟩] at ib
 rw [decide_eq_true ⟨h.2.2.2.2.1,h.2.2.2.2.2⟩] at ic
 clear h
 have hz':(nth≠0)∨(nth=0∧wd≠0)∨(nth=0∧wd=0∧off≠0):=by omega
 clear hz
 go_enter Tryz.func135,Tryz.ntmps135
 go_wp2_with (first | (go_at_call_of 134 (Value.int IntKind.i64 1900);refine (ia.out _).mono ?_;rintro e w1 ⟨rfl,rfl⟩) | (go_at_call_of 134 (Value.int IntKind.i64 2199);refine (ib.out _).mono ?_;rintro e w1 ⟨rfl,rfl⟩) | (go_at_call_of 134 (Value.int IntKind.i64 2);refine (ic.out _).mono ?_;rintro e w1 ⟨rfl,rfl⟩))
 obtain⟨wq,hwq,HB,x0,x1,x2,x3,x4,x5,x6,x7,x8,z0,z1,z2,z3,z4,z5,z6,z7,z8,HM⟩:=jl w 1 mon day nth wd off fr to mv
 rw [hwq]
 clear hwq
 rcases hz' with a | ⟨rfl,a⟩| ⟨rfl,rfl,a⟩
 all_goals
  go_quiet (fail)
  go_wp2_with fail
  go_ret
  exact⟨rfl,bG HB.out⟩

set_option maxRecDepth 10000 in
set_option maxHeartbeats 3200000 in
theorem yD (mon day fr to mv:Int) (w:World) (h:lD fr to mv) (hz:¬ (1≤mon∧mon≤12)) :
  Calls Tryz.prog 135 #[.agg #[.int .i64 1,.int .i64 mon,.int .i64 day,.int .i64 0,.int .i64 0,.int .i64 0,.int .i64 fr,.int .i64 to,.int .i64 mv]] w fun e w'=>e=.returned (.bool false)∧Below w.heap.size w w':=by
 have HI:=hideS (fun (n lo hi:Int) (wx:World)=>bP n lo hi wx)
 have ia:=hideS (fun wx=>HI.out fr 1900 2199 wx)
 have ib:=hideS (fun wx=>HI.out to fr 2199 wx)
 have ic:=hideS (fun wx=>HI.out mv 0 2 wx)
 rw [decide_eq_true ⟨h.1,h.2.1⟩] at ia
 rw [decide_eq_true ⟨h.2.2.1,h.2.2.2.1⟩] at ib
 rw [decide_eq_true ⟨h.2.2.2.2.1,h.2.2.2.2.2⟩] at ic
 clear h
 have im:=hideS (fun wx=>HI.out mon 1 12 wx)
 rw [decide_eq_false hz] at im
 clear hz
 go_enter Tryz.func135,Tryz.ntmps135
 go_wp2_with (first | (go_at_call_of 134 (Value.int IntKind.i64 1900);refine (ia.out _).mono ?_;rintro e w1 ⟨rfl,rfl⟩) | (go_at_call_of 134 (Value.int IntKind.i64 2199);refine (ib.out _).mono ?_;rintro e w1 ⟨rfl,rfl⟩) | (go_at_call_of 134 (Value.int IntKind.i64 2);refine (ic.out _).mono ?_;rintro e w1 ⟨rfl,rfl⟩))
 obtain⟨wq,hwq,HB,x0,x1,x2,x3,x4,x5,x6,x7,x8,z0,z1,z2,z3,z4,z5,z6,z7,z8,HM⟩:=jl w 1 mon day 0 0 0 fr to mv
 rw [hwq]
 clear hwq
 go_quiet ((go_at_call 134;exact Calls.quiet_of_same (im.out _)))
 go_wp2_with fail
 go_ret
 exact⟨rfl,bG HB.out⟩

theorem Lj {m:Int} (h1:1≤m) (h2:m≤12):IR[m.toNat]? =some (.int .i64 (gL m)):=by
 rcases month_cases h1 h2 with rfl | rfl | rfl | rfl | rfl | rfl | rfl | rfl | rfl | rfl | rfl | rfl<;>rfl

set_option maxRecDepth 10000 in
set_option maxHeartbeats 3200000 in
theorem yE (mon day fr to mv:Int) (w:World) (h:lD fr to mv) (hm1:1≤mon) (hm2:mon≤12) :
  Calls Tryz.prog 135 #[.agg #[.int .i64 1,.int .i64 mon,.int .i64 day,.int .i64 0,.int .i64 0,.int .i64 0,.int .i64 fr,.int .i64 to,.int .i64 mv]] w fun e w'=>e=.returned (.bool (decide (1≤day∧day≤gL mon)))∧Below w.heap.size w w':=by
 have HI:=hideS (fun (n lo hi:Int) (wx:World)=>bP n lo hi wx)
 have ia:=hideS (fun wx=>HI.out fr 1900 2199 wx)
 have ib:=hideS (fun wx=>HI.out to fr 2199 wx)
 have ic:=hideS (fun wx=>HI.out mv 0 2 wx)
 rw [decide_eq_true ⟨h.1,h.2.1⟩] at ia
 rw [decide_eq_true ⟨h.2.2.1,h.2.2.2.1⟩] at ib
 rw [decide_eq_true ⟨h.2.2.2.2.1,h.2.2.2.2.2⟩] at ic
 clear h
 have im:=hideS (fun wx=>HI.out mon 1 12 wx)
 rw [decide_eq_true ⟨hm1,hm2⟩] at im
 have id:=hideS (fun wx=>HI.out day 1 (gL mon) wx)
 have hcell:=Lj hm1 hm2
 have ht:mon.toNat<13:=by omega
 generalize decide (1≤day∧day≤gL mon)=R at *
 generalize gL mon=L at *
 obtain⟨k,hk⟩:∃ k:Nat,mon=k:=⟨mon.toNat,by omega⟩
 have hkt:mon.toNat=k:=by omega
 rw [hkt] at hcell ht
 clear hkt
 go_enter Tryz.func135,Tryz.ntmps135
 have HK:=hideS hk
 clear hk
 go_wp2_with (first | (go_at_call_of 134 (Value.int IntKind.i64 1900);refine (ia.out _).mono ?_;rintro e w1 ⟨rfl,rfl⟩) | (go_at_call_of 134 (Value.int IntKind.i64 2199);refine (ib.out _).mono ?_;rintro e w1 ⟨rfl,rfl⟩) | (go_at_call_of 134 (Value.int IntKind.i64 2);refine (ic.out _).mono ?_;rintro e w1 ⟨rfl,rfl⟩))
 obtain⟨wq,hwq,HB,x0,x1,x2,x3,x4,x5,x6,x7,x8,z0,z1,z2,z3,z4,z5,z6,z7,z8,HM⟩:=jl w 1 mon day 0 0 0 fr to mv
 rw [hwq]
 clear hwq
 have hc:=(HM.out k ht).trans hcell
 obtain rfl:=HK.out
 clear hcell HM
 go_quiet (first | (go_at_call_of 134 (Value.int IntKind.i64 12);exact Calls.quiet_of_same (im.out _)) | (go_at_call 134;exact Calls.quiet_of_same (id.out _)))
 go_wp2_with fail
 go_ret
 exact⟨rfl,bG HB.out⟩

theorem Bc (r:Rul) (w:World) :
  Calls Tryz.prog 135 #[.agg #[.int .i64 r.kind,.int .i64 r.mon,.int .i64 r.day,.int .i64 r.nth,.int .i64 r.wd,.int .i64 r.off,.int .i64 r.fr,.int .i64 r.to,.int .i64 r.mv]] w fun e w'=>e=.returned (.bool (bA r))∧Below w.heap.size w w':=by
 obtain⟨kind,mon,day,nth,wd,off,fr,to,mv⟩:=r
 dsimp only
 by_cases k4:kind=4
 ·subst k4;exact yA mon day nth wd off fr to mv w
 ·by_cases hr:lD fr to mv
  ·by_cases k1:kind=1
   ·subst k1
    rw [NT hr]
    by_cases hz:nth=0∧wd=0∧off=0
    ·obtain⟨rfl,rfl,rfl⟩:=hz
     by_cases hm:1≤mon∧mon≤12
     ·rw [show decide ((0:Int)=0∧(0:Int)=0∧(0:Int)=0∧1≤mon∧mon≤12∧1≤day∧day≤gL mon)=decide (1≤day∧day≤gL mon) from decide_eq_decide.2 (by omega)]
      exact yE mon day fr to mv w hr hm.1 hm.2
     ·rw [decide_eq_false (fun a=>hm ⟨a.2.2.2.1,a.2.2.2.2.1⟩)]
      exact yD mon day fr to mv w hr hm
    ·rw [decide_eq_false (fun a=>hz ⟨a.1,a.2.1,a.2.2.1⟩)]
     exact yC mon day nth wd off fr to mv w hr hz
   ·exact yB kind mon day nth wd off fr to mv w k1 k4 hr
  ·exact Bb kind mon day nth wd off fr to mv w k4 hr
end Go.Proofs.YtcmbfflemoccmaaGreat
namespace Go.Proofs.YtcmbfflemoccmaaGreat
open Go.RowKit

set_option maxHeartbeats 1600000 in
theorem rE (a b ya ma da yb mb db:Int) (w:World) (hA:IsD a ya ma da) (hB:IsD b yb mb db) (hab:a≤b) :
  Calls Tryz.prog 105 #[.int .i64 a,.int .i64 b] w fun e w'=>e=.returned (.int .i64 (cI yb b - cI ya a))∧Below w.heap.size w w':=by
 have HC:=hideS (fun wx=>jI a ya ma da wx hA)
 unfold yz at HC
 have hya:=hA.year
 have hyb:=hB.year
 have hra:=hA.range
 have hrb:=hB.range
 obtain⟨y0,y1,_,_,_,_⟩:=hA.1
 obtain⟨z0,z1,_,_,_,_⟩:=hB.1
 obtain⟨R,hR⟩:∃ R,cI yb b - cI ya a=R:=⟨_,rfl⟩
 rw [hR]
 have HR:=hideS hR
 clear hR hA hB
 have HYA:=hideS hya
 have HYB:=hideS hyb
 obtain⟨a0,a1⟩:=hra
 obtain⟨b0,b1⟩:=hrb
 clear hya hyb
 go_enter Tryz.func105,Tryz.ntmps105
 go_wp2_with (go_at_call 136;refine (HC.out _).mono ?_;rintro e w1 ⟨rfl,hb1⟩;have HB1:=hideS (hb1.trans (((Below.refl _ w1).alloc (Nat.le_refl _) (.cells #[.int .i64 ya,.int .i64 ma,.int .i64 da] 170)).mono hb1.size));clear hb1)
 go_loop [0,7,8,9,10,11] (fun x o y _ _ _=>∃ (X O Y:Int),ya≤Y∧Y≤yb+1∧a≤X∧X≤b∧0≤O∧O≤50000000∧x=.int .i64 X∧o=.int .i64 O∧y=.int .i64 Y∧Hid ((nyI Y≤X∧Y≤yb∧X<nyI (Y+1)∧O=cI Y X - cI ya a)∨(X=b∧O=R))) (fun _ _ y _ _ _=>(yb+1 - intOf y).toNat)
 case atStart=>
  have hy:=HYA.out
  have hz:=HYB.out
  have hle:ya≤yb:=by
   by_cases e:ya≤yb
   ·exact e
   ·have:=ch (y:=yb+1) (z:=ya) (by omega) (by omega)
    omega
  exact⟨a,0,ya,by omega,by omega,by omega,by omega,by omega,by omega,rfl,rfl,rfl,Or.inl ⟨hy.1,hle,hy.2,by omega⟩⟩
 case round=>
  obtain⟨X,O,Y,hY0,hY1,hX0,hX1,hO0,hO1,rfl,rfl,rfl,HI⟩:=hrel
  by_cases hlt:X<b
  ·obtain⟨e1,e2,e3,e4⟩:=(show nyI Y≤X∧Y≤yb∧X<nyI (Y+1)∧O=cI Y X - cI ya a by
    rcases HI.out with e | ⟨e,_⟩
    ·exact e
    ·omega)
   have hY9:Y≤2199:=by omega
   obtain⟨E,hE⟩:∃ E,nyI (Y+1)=E:=⟨_,rfl⟩
   have HOf:Hid (∃ P F,(∀ wx,Calls Tryz.prog 137 #[.int .i64 (Y+1),.int .i64 1,.int .i64 1] wx fun e w'=>e=.returned (.tuple #[.int .i64 P,.int .i64 F])∧w'=wx)∧((F=0∧P=E)∨(F=50∧E=109573))):=by
    by_cases h9:Y=2199
    ·refine⟨0,50,fun wx=>sS _ _ _ wx (fun o=>by have:=o.2.1;omega),Or.inr ⟨rfl,?_⟩⟩
     rw [← hE,h9];exact ob
    ·have ho:okD (Y+1) 1 1:=⟨by omega,by omega,by omega,by omega,by omega,by have:=dN (Y+1) 1;omega⟩
     refine⟨_,_,fun wx=>lA _ _ _ wx ho,Or.inl ⟨rfl,?_⟩⟩
     unfold ay
     rw [cF,← hE];omega
   obtain⟨P,F,hof,hPF⟩:=HOf.out
   have HOf':=hideS hof
   clear hof HOf
   obtain⟨n,hn,hnE⟩:∃ n,min E b - X=n∧((E≤b∧n=E - X)∨(b<E∧n=b - X)):=⟨_,rfl,by omega⟩
   have hn0:0<n:=by rw [hE] at e3;omega
   have HAc:Hid (O+(366 - lpI Y)*n=cI Y (X+n) - cI ya a):=by
    show _=_
    rw [Lh,e4];omega
   have hle2:X+n≤nyI (Y+1):=by rw [hE];omega
   have HBd:Hid (cI Y (X+n)≤50000000∧0≤cI ya a):=by
    have q1:=(uS (y:=Y) (n:=X+n) (by omega) (by omega) (by omega) hle2).2
    have q2:=(uS (y:=ya) (n:=a) (by omega) (by omega) HYA.out.1 (by have:=HYA.out.2;omega)).1
    exact⟨q1,q2⟩
   have HNx:Hid ((nyI (Y+1)≤X+n∧Y+1≤yb∧X+n<nyI (Y+1+1)∧O+(366 - lpI Y)*n=cI (Y+1) (X+n) - cI ya a)∨(X+n=b∧O+(366 - lpI Y)*n=R)):=by
    rcases hnE with⟨q1,q2⟩| ⟨q1,q2⟩
    ·have hXE:X+n=nyI (Y+1):=by rw [hE];omega
     have hYb:Y+1≤yb:=by
      by_cases e:Y+1≤yb
      ·exact e
      ·have:=HYB.out.2
       rw [show yb=Y by omega,hE] at this
       omega
     refine Or.inl ⟨by omega,hYb,?_,?_⟩
     ·rw [hXE,dU (y:=Y+1) (by omega)]
      have:=CA (Y+1)
      omega
     ·rw [HAc.out,hXE,IO (by omega)]
    ·have hYb:Y=yb:=by
      by_cases e:Y=yb
      ·exact e
      ·have:=ch (y:=Y+1) (z:=yb) (by omega) (by omega)
       have:=HYB.out.1
       rw [hE] at *
       omega
     refine Or.inr ⟨by omega,?_⟩
     rw [HAc.out,← HR.out,show X+n=b by omega,hYb]
   rw [hE] at e3
   clear hE hle2 e4 HI e1
   rcases hPF with⟨rfl,rfl⟩| ⟨rfl,rfl⟩
   all_goals
    cases hl:leapB Y
    all_goals
     first | rw [lz hl,show (366 - 0:Int)=366 from rfl] at HAc HNx | rw [oc hl,show (366 - 1:Int)=365 from rfl] at HAc HNx
     rcases hnE with⟨q1,q2⟩| ⟨q1,q2⟩
     all_goals try (exfalso;omega)
     all_goals
      clear hn
      subst q2
      go_wp2_with (first | (go_at_call 137;refine (HOf'.out _).mono ?_;rintro e w2 ⟨rfl,rfl⟩) | (go_at_call 138;refine (cA _ _).mono ?_;rintro e w2 ⟨rfl,rfl⟩))
      go_round
      case rel=>exact⟨_,_,Y+1,by omega,by omega,by omega,by omega,by omega,by have:=HAc.out;have:=HBd.out.1;have:=HBd.out.2;omega,rfl,rfl,rfl,HNx⟩
      case measure=>simp [intOf];omega
  ·have HE:Hid (O=R):=by
    rcases HI.out with⟨e1,e2,e3,e4⟩| ⟨_,e⟩
    ·have hXb:X=b:=by omega
     have hYb:Y=yb:=by
      have h1:=HYB.out
      rcases Int.lt_trichotomy Y yb with q | q | q
      ·have:=ch (y:=Y+1) (z:=yb) (by omega) (by omega)
       omega
      ·exact q
      ·omega
     show _=_
     rw [e4,← HR.out,hXb,hYb]
    ·exact e
   clear HI
   rcases (show Y≤2199∨¬ Y≤2199 by omega) with h9 | h9
   all_goals
    go_wp2_with fail
    go_ret
    obtain rfl:=HE.out
    exact⟨rfl,HB1.out⟩

theorem Ol {k:IntKind} {a b:Int} (h:a=b):Ending.returned (.int k a)=.returned (.int k b):=by rw [h]
theorem EP {w w1 w2:World} {y m d:Int} {t:TypeId} (h1:Below w.heap.size w w1) (h2:Below (w1.alloc (.cells #[.int .i64 y,.int .i64 m,.int .i64 d] t)).heap.size (w1.alloc (.cells #[.int .i64 y,.int .i64 m,.int .i64 d] t)) w2) :
  (∀ o,(w2.alloc o).cell? ⟨w1.heap.size,0,none⟩=some (.int .i64 y))∧(∀ o,(w2.alloc o).cell? ⟨w1.heap.size,1,none⟩=some (.int .i64 m))∧(∀ o,(w2.alloc o).cell? ⟨w1.heap.size,2,none⟩=some (.int .i64 d))∧Hid (∀ o,Below w.heap.size w (w2.alloc o)):=by
 have hz:w1.heap.size<w2.heap.size:=by have:=h2.size;simp at this;omega
 have hb:Below w.heap.size w w2:=h1.trans ((((Below.refl _ w1).alloc (Nat.le_refl _) _).trans (h2.mono (by simp))).mono h1.size)
 refine⟨fun o=>?_,fun o=>?_,fun o=>?_,fun o=>hb.alloc hb.size o⟩
 ·rw [au o ⟨w1.heap.size,0,none⟩ hz,h2.cell (p:=⟨w1.heap.size,0,none⟩) (by simp)];simp
 ·rw [au o ⟨w1.heap.size,1,none⟩ hz,h2.cell (p:=⟨w1.heap.size,1,none⟩) (by simp)];simp
 ·rw [au o ⟨w1.heap.size,2,none⟩ hz,h2.cell (p:=⟨w1.heap.size,2,none⟩) (by simp)];simp

set_option maxHeartbeats 1600000 in
theorem rF (kind a b ya ma da yb mb db:Int) (w:World) (hA:IsD a ya ma da) (hB:IsD b yb mb db) :
  Calls Tryz.prog 107 #[.int .i64 kind,.int .i64 a,.int .i64 b] w fun e w'=>e=.returned (.int .i64 (iM kind ya ma da yb mb db))∧Below w.heap.size w w':=by
 have HC:=hideS (fun wx=>jI a ya ma da wx hA)
 have HC2:=hideS (fun wx=>jI b yb mb db wx hB)
 unfold yz at HC HC2
 obtain⟨y0,y1,m0,m1,d0,d1⟩:=hA.1
 obtain⟨y2,y3,m2,m3,d2,d3⟩:=hB.1
 have d4:=dO ya ma
 have d5:=dO yb mb
 have d6:da≤31:=by omega
 have d7:db≤31:=by omega
 clear hA hB d1 d3 d4 d5
 obtain⟨R,hR⟩:∃ R,iM kind ya ma da yb mb db=R:=⟨_,rfl⟩
 rw [hR]
 have HR:=hideS hR
 clear hR
 have hcase:∃ d f,((da≤30∧d=da)∨(30<da∧d=30))∧(((kind=5∨(kind≠5∧d=30))∧((db≤30∧f=db)∨(30<db∧f=30)))∨((kind≠5∧d≠30)∧f=db))∧360*(yb - ya)+30*(mb - ma)+f - d=R:=by
  have h1:=HR.out
  unfold iM at h1
  refine⟨min da 30,if kind=5∨min da 30=30 then min db 30 else db,by omega,?_,h1⟩
  by_cases hk:kind=5∨min da 30=30
  ·rw [if_pos hk]
   exact Or.inl ⟨by omega,by omega⟩
  ·rw [if_neg hk]
   exact Or.inr ⟨by omega,rfl⟩
 obtain⟨d,f,hd,hf,he⟩:=hcase
 have HE:=hideS he
 clear he HR
 rcases hd with⟨q1,rfl⟩| ⟨q1,rfl⟩ <;>rcases hf with⟨rfl | ⟨hk,hk2⟩,⟨q2,rfl⟩| ⟨q2,rfl⟩⟩| ⟨⟨hk,hk2⟩,rfl⟩
 all_goals try (exfalso;omega)
 all_goals
  try (have hk5:(kind==5)=false:=beq_eq_false_iff_ne.2 hk)
  try subst hk2
  go_enter Tryz.func107,Tryz.ntmps107
  go_wp2_with fail
  refine (HC.out _).mono ?_
  rintro e w1 ⟨rfl,hb1⟩
  have HB1:=hideS hb1
  clear hb1
  go_wp2_with fail
  refine (HC2.out _).mono ?_
  rintro e w2 ⟨rfl,hb2⟩
  obtain⟨c0,c1,c2,HB2⟩:=EP (t:=170) HB1.out hb2
  clear hb2
  go_wp2_with fail
  go_ret
  refine⟨Ol (Eq.trans ?_ HE.out),HB2.out _⟩
  omega
end Go.Proofs.YtcmbfflemoccmaaGreat
namespace Go.Proofs.YtcmbfflemoccmaaGreat
open Go.RowKit

set_option maxHeartbeats 1600000 in
theorem jY (W:Int) (p:Option Addr) (b off c:Nat) (rs:List Rul) (K:Nat) (A B:Int) (w:World) (w0:0≤W∧W≤126) (hs:RSrc w p b off rs) (hl:rs.length≤64) (hK:K≤rs.length) (hf:∀ j<K,bA (rs.getD j dh)=true)
  (hE:(K=rs.length∧A=0∧B=0)∨(K<rs.length∧bA (rs.getD K dh)=false∧A=60∧B=K)) :
  Calls Tryz.prog 104 #[.agg #[.int .i64 W,.slice p rs.length c]] w fun e w'=>e=.returned (.tuple #[.int .i64 A,.int .i64 B])∧Below w.heap.size w w':=by
 have hi:=fun wx=>bP W 0 126 wx
 rw [decide_eq_true w0] at hi
 have HI:=hideS hi
 clear hi w0
 have HS:=hideS hs
 have HF:=hideS hf
 have HE:=hideS hE
 clear hs hf hE
 obtain⟨N,hN⟩:∃ N,rs.length=N:=⟨_,rfl⟩
 have HN:=hideS hN
 rw [hN] at hl hK ⊢
 rw [hN] at HE
 clear hN
 go_enter Tryz.func104,Tryz.ntmps104
 go_wp2_with (go_at_call 134;refine (HI.out _).mono ?_;rintro e w1 ⟨rfl,rfl⟩)
 have HB0:Hid (CBox w W (.slice p N c) (w.alloc (.cells #[.int .i64 W,.slice p N c] 44))):=Below.refl _ _
 go_loopw [4] (fun i wr=>∃ (k:Nat),k≤K∧i=.int .i64 k∧Hid (CBox w W (.slice p N c) wr)) (fun i _=>N - (intOf i).toNat)
 case atStart=>exact⟨0,by omega,rfl,HB0⟩
 case round=>
  obtain⟨k,hk,rfl,HB⟩:=hrel
  obtain⟨c0,c1⟩:=dP HB.out
  by_cases hlt:k<N
  ·have hx:k<rs.length:=by rw [HN.out];exact hlt
   obtain rfl:=HS.out.at_ (by omega)
   have hrc:=(HS.out.cell k hx).below HB.out.below (HS.out.lt (by omega))
   obtain⟨r,hr⟩:∃ r,rs.getD k dh=r:=⟨_,rfl⟩
   rw [hr] at hrc
   have HRk:=hideS hr
   clear hr hx
   obtain⟨g0,g1,g2,g3,g4,g5,g6,g7,g8⟩:=hrc
   have hft:=fun wx=>Bc r wx
   by_cases hkK:k<K
   ·have e1:=HF.out k hkK
    rw [HRk.out] at e1
    rw [e1] at hft
    have HFt:=hideS hft
    clear hft e1
    obtain⟨kind,mon,day,nth,wd,offs,fr,to,mv⟩:=r
    dsimp only at *
    go_wp2_with (go_at_call 135;refine (HFt.out _).mono ?_;rintro e w2 ⟨rfl,hb2⟩;have HB2:=hideS (HB.out.step hb2);clear hb2)
    go_roundw
    case rel=>exact⟨k+1,by omega,by go_num,HB2⟩
    case measure=>simp [intOf];omega
   ·obtain rfl:k=K:=by omega
    have hEE:bA r=false∧A=60∧B=k:=by
     rcases HE.out with⟨a,_⟩| ⟨_,a,b⟩
     ·omega
     ·rw [HRk.out] at a;exact⟨a,b⟩
    rw [hEE.1] at hft
    have HFt:=hideS hft
    have HA:=hideS hEE.2
    clear hft hEE
    obtain⟨kind,mon,day,nth,wd,offs,fr,to,mv⟩:=r
    dsimp only at *
    go_wp2_with (go_at_call 135;refine (HFt.out _).mono ?_;rintro e w2 ⟨rfl,hb2⟩;have HB2:=hideS (HB.out.step hb2);clear hb2)
    go_ret2
    obtain⟨rfl,rfl⟩:=HA.out
    exact⟨rfl,HB2.out.below⟩
  ·have HA:Hid (A=0∧B=0):=by
    rcases HE.out with⟨_,a⟩| ⟨a,_⟩
    ·exact a
    ·omega
   have hge:¬ (k:Int)<N:=by omega
   go_wp2_with fail
   go_ret2
   obtain⟨rfl,rfl⟩:=HA.out
   exact⟨rfl,HB.out.below⟩

set_option maxHeartbeats 400000 in
theorem dv (W:Int) (p:Option Addr) (b off c:Nat) (rs:List Rul) (A B:Int) (w:World) (h:ChkR W rs A B) (hs:RSrc w p b off rs) (hl:rs.length≤1000000) :
  Calls Tryz.prog 104 #[.agg #[.int .i64 W,.slice p rs.length c]] w fun e w'=>e=.returned (.tuple #[.int .i64 A,.int .i64 B])∧Below w.heap.size w w':=by
 cases h with
 | long h=>
  generalize rs.length=N at *
  have h':(64:Int)<N:=by omega
  clear hs h
  go_enter Tryz.func104,Tryz.ntmps104
  go_wp2_with fail
  go_ret2
  exact⟨rfl,(Below.refl w.heap.size w).alloc (Nat.le_refl _) _⟩
 | week h h2=>
  have hi:=fun wx=>bP W 0 126 wx
  rw [decide_eq_false h2] at hi
  have HI:=hideS hi
  generalize rs.length=N at *
  have h':¬ (64:Int)<N:=by omega
  clear hs h hi h2
  go_enter Tryz.func104,Tryz.ntmps104
  go_wp2_with (go_at_call 134;refine (HI.out _).mono ?_;rintro e w1 ⟨rfl,rfl⟩)
  go_ret2
  exact⟨rfl,(Below.refl w.heap.size w).alloc (Nat.le_refl _) _⟩
 | rule k h1 h2 h3 h4 h5=>exact jY W p b off c rs k 60 k w h2 hs h1 (by omega) h5 (Or.inr ⟨h3,h4,rfl,rfl⟩)
 | ok h=>exact jY W p b off c rs rs.length 0 0 w ⟨h.w0,h.w1⟩ hs h.len (Nat.le_refl _) (fun j hj=>h.fit _ (lC hj)) (Or.inl ⟨rfl,rfl,rfl⟩)
end Go.Proofs.YtcmbfflemoccmaaGreat
namespace Go.Proofs.YtcmbfflemoccmaaGreat
open Go.RowKit

theorem lE (n:Int) (w:World) :
  Calls Tryz.prog 139 #[.int .i64 n] w fun e w'=>e=.returned (.bool (decide (aj n)))∧w'=w:=by
 have HI:=hideS (fun wx=>bP n 0 109572 wx)
 rw [show decide (aj n)=decide (0≤n∧n≤109572) from decide_eq_decide.2 Iff.rfl]
 generalize decide (0≤n∧n≤109572)=R at *
 go_enter Tryz.func139,Tryz.ntmps139
 go_wp2_with (go_at_call 134;refine (HI.out _).mono ?_;rintro e w1 ⟨rfl,rfl⟩)
 go_ret
 exact⟨rfl,rfl⟩

set_option maxHeartbeats 800000 in
theorem uT (W n:Int) (p:Option Addr) (b off c:Nat) (rs:List Rul) (w:World) (h:OkC W rs) (hs:RSrc w p b off rs) (hn:aj n) :
  Calls Tryz.prog 140 #[.agg #[.int .i64 W,.slice p rs.length c],.int .i64 n] w fun e w'=>e=.returned (.bool (opB W rs n))∧Below w.heap.size w w':=by
 obtain⟨y,m,d,hd⟩:=eI hn.1 hn.2
 unfold opB
 rw [qs hd]
 have HH:Hid (∀ wx,Below w.heap.size w wx→Calls Tryz.prog 174 #[.agg #[.int .i64 W,.slice p rs.length c],.int .i64 n] wx fun e w'=>e=.returned (.bool (mD W rs n y))∧Below wx.heap.size wx w'):=fun wx hb=>
  Ba W n y m d p b off c rs wx h.w0 h.w1 (hs.below hb) h.fit (by have:=h.len;omega) hd
 have HO:=hideS (fun wx=>qt W n (.slice p rs.length c) wx)
 clear h hs hd hn
 generalize mD W rs n y=H at *
 generalize rs.length=N at *
 generalize cz W n=F at *
 cases F
 ·go_enter Tryz.func140,Tryz.ntmps140
  go_wp2_with fail
  refine (HO.out _).mono ?_
  rintro e w1 ⟨rfl,hb1⟩
  have HB1:=hideS (CBox.first hb1)
  obtain⟨c0,c1⟩:=dP HB1.out
  clear hb1
  go_wp2_with (go_at_call 174;refine (HH.out _ HB1.out.below).mono ?_;rintro e w2 ⟨rfl,hb2⟩)
  go_ret
  exact⟨rfl,(HB1.out.step hb2).below⟩
 ·go_enter Tryz.func140,Tryz.ntmps140
  go_wp2_with (go_at_call 173;refine (HO.out _).mono ?_;rintro e w1 ⟨rfl,hb1⟩)
  go_ret
  exact⟨rfl,(CBox.first hb1).below⟩

end Go.Proofs.YtcmbfflemoccmaaGreat
namespace Go.Proofs.YtcmbfflemoccmaaGreat
open Go.RowKit

end Go.Proofs.YtcmbfflemoccmaaGreat
namespace Go.Proofs.YtcmbfflemoccmaaGreat
open Go.RowKit

end Go.Proofs.YtcmbfflemoccmaaGreat
namespace Go.Proofs.YtcmbfflemoccmaaGreat
open Go.RowKit

set_option maxHeartbeats 1600000 in
theorem yF (W x y:Int) (p:Option Addr) (b off c:Nat) (rs:List Rul) (w:World) (h:OkC W rs) (hs:RSrc w p b off rs) (hx:aj x) (hy:aj y) (hxy:x≤y) :
  Calls Tryz.prog 106 #[.agg #[.int .i64 W,.slice p rs.length c],.int .i64 x,.int .i64 y] w fun e w'=>e=.returned (.tuple #[.int .i64 (cntN (opB W rs) x (y - x).toNat:Nat),.int .i64 0])∧Below w.heap.size w w':=by
 have HC:Hid (∀ wx,Below w.heap.size w wx→Calls Tryz.prog 104 #[.agg #[.int .i64 W,.slice p rs.length c]] wx fun e w'=>e=.returned (.tuple #[.int .i64 0,.int .i64 0])∧Below wx.heap.size wx w'):=fun wx hb=>dv W p b off c rs 0 0 wx (.ok h) (hs.below hb) (by have:=h.len;omega)
 have HO:Hid (∀ z wx,aj z→Below w.heap.size w wx→Calls Tryz.prog 140 #[.agg #[.int .i64 W,.slice p rs.length c],.int .i64 z] wx fun e w'=>e=.returned (.bool (opB W rs z))∧Below wx.heap.size wx w'):=fun z wx hz hb=>uT W z p b off c rs wx h (hs.below hb) hz
 have hd1:=fun wx=>lE x wx
 have hd2:=fun wx=>lE y wx
 rw [decide_eq_true hx] at hd1
 rw [decide_eq_true hy] at hd2
 have HD1:=hideS hd1
 have HD2:=hideS hd2
 obtain⟨x0,x1⟩:=hx
 obtain⟨y0,y1⟩:=hy
 clear h hs hd1 hd2
 generalize opB W rs=op at *
 generalize rs.length=N at *
 have hlt:¬ y<x:=by omega
 obtain⟨R,hR⟩:∃ R:Int,((cntN op x (y - x).toNat:Nat):Int)=R:=⟨_,rfl⟩
 rw [hR]
 have HR:=hideS hR
 clear hR
 have HB0:Hid (Below w.heap.size w (w.alloc (.cells #[.int .i64 W,.slice p N c] 44))):=(Below.refl w.heap.size w).alloc (Nat.le_refl _) _
 go_enter Tryz.func106,Tryz.ntmps106
 go_wp2_with fail
 refine (HC.out _ HB0.out).mono ?_
 rintro e w1 ⟨rfl,hb1⟩
 have HB1:=hideS (CBox.first hb1)
 clear hb1
 go_wp2_with fail
 refine (HD1.out _).mono ?_
 rintro e w2 ⟨rfl,hw2⟩
 obtain rfl:=hw2.symm
 clear hw2
 go_wp2_with fail
 refine (HD2.out _).mono ?_
 rintro e w2 ⟨rfl,hw2⟩
 obtain rfl:=hw2.symm
 clear hw2
 go_wp2_with fail
 go_loopw [12,13] (fun m i wr=>∃ (k:Nat) (I M:Int),x≤I∧I≤y∧0≤M∧M≤200000∧i=.int .i64 I∧m=.int .i64 M∧Hid (I=x+k∧M=(cntN op x k:Nat))∧Hid (CBox w W (.slice p N c) wr)) (fun _ i _=>(y - intOf i).toNat)
 case atStart=>exact⟨0,x,0,by omega,by omega,by omega,by omega,rfl,rfl,⟨by omega,rfl⟩,HB1⟩
 case round=>
  clear HB1
  obtain⟨k,I,M,hI0,hI1,hM0,hM1,rfl,rfl,HI,HB⟩:=hrel
  obtain⟨c0,c1⟩:=dP HB.out
  by_cases hIy:I<y
  ·have hop:=fun wx hb=>HO.out I wx ⟨by omega,by omega⟩ hb
   have HB5:Hid (cntN op x (k+1)≤150000):=by
    have:=AX op x (k+1)
    have:=HI.out.1
    show _≤_
    omega
   cases ho:op I
   ·rw [ho] at hop
    have HOi:=hideS hop
    have HI':Hid (I+1=x+(k+1:Nat)∧M=(cntN op x (k+1):Nat)):=by
     obtain⟨e1,e2⟩:=HI.out
     refine⟨by omega,?_⟩
     show M=((cntN op x k+(if op (x+k) then 1 else 0):Nat):Int)
     rw [← e1,ho,e2];simp
    clear hop ho
    go_wp2_with (go_at_call 140;refine (HOi.out _ HB.out.below).mono ?_;rintro e w2 ⟨rfl,hb2⟩;have HB2:=hideS (HB.out.step hb2);clear hb2)
    go_roundw
    case rel=>exact⟨k+1,I+1,M,by omega,by omega,by omega,by omega,rfl,rfl,HI',HB2⟩
    case measure=>simp [intOf];omega
   ·rw [ho] at hop
    have HOi:=hideS hop
    have HI':Hid (I+1=x+(k+1:Nat)∧M+1=(cntN op x (k+1):Nat)):=by
     obtain⟨e1,e2⟩:=HI.out
     refine⟨by omega,?_⟩
     show M+1=((cntN op x k+(if op (x+k) then 1 else 0):Nat):Int)
     rw [← e1,ho,e2];simp
    clear hop ho
    go_wp2_with (go_at_call 140;refine (HOi.out _ HB.out.below).mono ?_;rintro e w2 ⟨rfl,hb2⟩;have HB2:=hideS (HB.out.step hb2);clear hb2)
    go_roundw
    case rel=>exact⟨k+1,I+1,M+1,by omega,by omega,by omega,by have:=HI'.out.2;have:=HB5.out;omega,rfl,rfl,HI',HB2⟩
    case measure=>simp [intOf];omega
  ·have HE:Hid (M=R):=by
    obtain⟨e1,e2⟩:=HI.out
    show _=_
    rw [e2,← HR.out,show (y - x).toNat=k by omega]
   go_wp2_with fail
   go_ret2
   obtain rfl:=HE.out
   exact⟨rfl,HB.out.below⟩
end Go.Proofs.YtcmbfflemoccmaaGreat
namespace Go.Proofs.YtcmbfflemoccmaaGreat
open Go.RowKit

end Go.Proofs.YtcmbfflemoccmaaGreat
namespace Go.Proofs.YtcmbfflemoccmaaGreat
open Go.RowKit

noncomputable def moD (n:Int):Int:=moI n - 12*yrI n
noncomputable def daD (n:Int):Int:=n - nyI (yrI n) - bI (yrI n) (moD n)+1
theorem jJ {n y m d:Int} (h:IsD n y m d):yrI n=y∧moD n=m∧daD n=d:=by
 have e1:=qs h
 have e2:moD n=m:=by unfold moD;rw [NQ h,e1];omega
 refine⟨e1,e2,?_⟩
 unfold daD
 rw [e1,e2]
 have:=h.2
 unfold ay at this
 omega
noncomputable def eC (op:Int→Bool) (kind a b:Int):Int:=
 if kind=1∨kind=2 then b - a else if kind=3 then cI (yrI b) b - cI (yrI a) a else if kind=6 then (cntN op a (b - a).toNat:Nat) else iM kind (yrI a) (moD a) (daD a) (yrI b) (moD b) (daD b)
def cj (kind:Int):Int:=if kind=2 then 365 else if kind=3 then 133590 else if kind=6 then 252 else 360

structure PBoxN (w:World) (W:Int) (v:Value) (wr:World):Prop where
 a0:wr.cell? ⟨w.heap.size,0,none⟩=some (.int .i64 W)
 a1:wr.cell? ⟨w.heap.size,1,none⟩=some v
 d0:wr.cell? ⟨w.heap.size+1,0,none⟩=some (.int .i64 0)
 d1:wr.cell? ⟨w.heap.size+1,1,none⟩=some (.int .i64 0)
 f0:wr.frozen? ⟨w.heap.size+1,0,none⟩=false
 f1:wr.frozen? ⟨w.heap.size+1,1,none⟩=false
 bl:Below w.heap.size w wr
 sz:w.heap.size+2≤wr.heap.size
theorem PBoxN.first (w:World) (W:Int) (v:Value):PBoxN w W v ((w.alloc (.cells #[.int .i64 W,v] 44)).alloc (.cells #[.int .i64 0,.int .i64 0] 112)):=by
 have fr:∀ k,((w.alloc (.cells #[.int .i64 W,v] 44)).alloc (.cells #[.int .i64 0,.int .i64 0] 112)).frozen? ⟨w.heap.size+1,k,none⟩=false:=fun k=>by
  rw [show w.heap.size+1=(w.alloc (.cells #[.int .i64 W,v] 44)).heap.size by simp]
  exact World.frozen?_alloc_new _ _ _ _
 exact⟨by rw [au _ _ (by simp)];simp,by rw [au _ _ (by simp)];simp,bB _ _ 0 (by simp),bB _ _ 1 (by simp),fr 0,fr 1,((Below.refl w.heap.size w).alloc (Nat.le_refl _) _).alloc (by simp) _,by simp⟩
theorem PBoxN.step {w wr w':World} {W:Int} {v:Value} (h:PBoxN w W v wr) (hb:Below wr.heap.size wr w'):PBoxN w W v w':=by
 have hz:=h.sz
 have c:∀ k<w.heap.size+2,∀ j,w'.cell? ⟨k,j,none⟩=wr.cell? ⟨k,j,none⟩:=fun k hk j=>hb.cell (p:=⟨k,j,none⟩) (by show k<_;omega)
 have f:∀ k<w.heap.size+2,∀ j,w'.frozen? ⟨k,j,none⟩=wr.frozen? ⟨k,j,none⟩:=fun k hk j=>hb.frozen (p:=⟨k,j,none⟩) (by show k<_;omega)
 exact⟨(c _ (by omega) _).trans h.a0,(c _ (by omega) _).trans h.a1,(c _ (by omega) _).trans h.d0,(c _ (by omega) _).trans h.d1,(f _ (by omega) _).trans h.f0,(f _ (by omega) _).trans h.f1,h.bl.trans (hb.mono h.bl.size),Nat.le_trans h.sz hb.size⟩
theorem nl {w:World} {b:Nat} {x y u v:Value} (d0:w.cell? ⟨b,0,none⟩=some u) (d1:w.cell? ⟨b,1,none⟩=some v) :
  ((w.setCell ⟨b,0,none⟩ x).setCell ⟨b,1,none⟩ y).cell? ⟨b,0,none⟩=some x∧((w.setCell ⟨b,0,none⟩ x).setCell ⟨b,1,none⟩ y).cell? ⟨b,1,none⟩=some y:=by
 constructor
 ·simp [d0,go_sem]
 ·simp [d1,go_sem]
theorem bR {w w1:World} {x y:Value} (h:Below w.heap.size w w1):Below w.heap.size w ((w1.setCell ⟨w.heap.size+1,0,none⟩ x).setCell ⟨w.heap.size+1,1,none⟩ y):=
 (h.setCell (p:=⟨w.heap.size+1,0,none⟩) (by show w.heap.size≤w.heap.size+1;omega) x).setCell (p:=⟨w.heap.size+1,1,none⟩) (by show w.heap.size≤w.heap.size+1;omega) y

theorem jK {w:World} {W x y:Int} {v:Value}:((w.alloc (.cells #[.int .i64 W,v] 44)).alloc (.cells #[.int .i64 x,.int .i64 y] 112)).cell? ⟨w.heap.size+1,0,none⟩=some (.int .i64 x)∧((w.alloc (.cells #[.int .i64 W,v] 44)).alloc (.cells #[.int .i64 x,.int .i64 y] 112)).cell? ⟨w.heap.size+1,1,none⟩=some (.int .i64 y)∧Below w.heap.size w ((w.alloc (.cells #[.int .i64 W,v] 44)).alloc (.cells #[.int .i64 x,.int .i64 y] 112)):=
 ⟨bB _ _ 0 (by simp),bB _ _ 1 (by simp),((Below.refl w.heap.size w).alloc (Nat.le_refl _) _).alloc (by simp) _⟩

set_option maxHeartbeats 1600000 in
theorem rG (kind W a b:Int) (v:Value) (w:World) (hk:kind=1∨kind=2) (ha:aj a) (hb:aj b) (hab:a≤b) :
  Calls Tryz.prog 64 #[.int .i64 kind,.agg #[.int .i64 W,v],.int .i64 a,.int .i64 b] w fun e w'=>e=.returned (.tuple #[.agg #[.int .i64 (b - a),.int .i64 (cj kind)],.int .i64 0])∧Below w.heap.size w w':=by
 obtain⟨a0,a1⟩:=ha
 obtain⟨b0,b1⟩:=hb
 rcases hk with rfl | rfl
 ·obtain⟨x0,x1,hB⟩:=jK (w:=w) (W:=W) (x:=b - a) (y:=360) (v:=v)
  have HX:=hideS (And.intro x0 x1)
  have HB:=hideS hB
  clear x0 x1 hB
  go_enter Tryz.func64,Tryz.ntmps64
  go_wp2_with fail
  obtain⟨x0,x1⟩:=HX.out
  exact bodyPost_ret (v:=.tuple #[.agg #[.int .i64 (b - a),.int .i64 360],.int .i64 0]) (by simp [results,Tryz.results64,go_sem,x0,x1]) rfl ⟨rfl,HB.out⟩
 ·obtain⟨x0,x1,hB⟩:=jK (w:=w) (W:=W) (x:=b - a) (y:=365) (v:=v)
  have HX:=hideS (And.intro x0 x1)
  have HB:=hideS hB
  clear x0 x1 hB
  go_enter Tryz.func64,Tryz.ntmps64
  go_wp2_with fail
  obtain⟨x0,x1⟩:=HX.out
  exact bodyPost_ret (v:=.tuple #[.agg #[.int .i64 (b - a),.int .i64 365],.int .i64 0]) (by simp [results,Tryz.results64,go_sem,x0,x1]) rfl ⟨rfl,HB.out⟩

set_option maxHeartbeats 1600000 in
theorem uU (kind W a b:Int) (v:Value) (w:World) (hk:kind=3∨kind=4∨kind=5) (ha:aj a) (hb:aj b) (hab:a≤b) (op:Int→Bool) :
  Calls Tryz.prog 64 #[.int .i64 kind,.agg #[.int .i64 W,v],.int .i64 a,.int .i64 b] w fun e w'=>e=.returned (.tuple #[.agg #[.int .i64 (eC op kind a b),.int .i64 (cj kind)],.int .i64 0])∧Below w.heap.size w w':=by
 obtain⟨ya,ma,da,hA⟩:=eI ha.1 ha.2
 obtain⟨yb,mb,db,hB⟩:=eI hb.1 hb.2
 obtain⟨e1,e2,e3⟩:=jJ hA
 obtain⟨f1,f2,f3⟩:=jJ hB
 have HAc:=hideS (fun wx=>rE a b ya ma da yb mb db wx hA hB hab)
 have HTh:=hideS (fun wx=>rF kind a b ya ma da yb mb db wx hA hB)
 obtain⟨a0,a1⟩:=ha
 obtain⟨b0,b1⟩:=hb
 have HB0:=hideS (PBoxN.first w W v)
 unfold eC cj
 rw [e1,e2,e3,f1,f2,f3]
 clear hA hB e1 e2 e3 f1 f2 f3
 rcases hk with rfl | rfl | rfl
 ·rw [if_neg (by omega),if_pos rfl,if_neg (by omega),if_pos rfl]
  generalize cI yb b - cI ya a=P at *
  go_enter Tryz.func64,Tryz.ntmps64
  go_wp2_with fail
  refine (HAc.out _).mono ?_
  rintro e w1 ⟨rfl,hb1⟩
  have HB1:=hideS (HB0.out.step hb1)
  clear hb1
  obtain⟨_,_,d0,d1,f0,f1,_,_⟩:=HB1.out
  go_wp2_with fail
  obtain⟨x0,x1⟩:=nl (x:=.int .i64 P) (y:=.int .i64 133590) d0 d1
  exact bodyPost_ret (v:=.tuple #[.agg #[.int .i64 P,.int .i64 133590],.int .i64 0]) (by simp [results,Tryz.results64,go_sem,x0,x1]) rfl ⟨rfl,bR HB1.out.bl⟩
 ·rw [if_neg (by omega),if_neg (by omega),if_neg (by omega),if_neg (by omega),if_neg (by omega),if_neg (by omega)]
  generalize iM 4 ya ma da yb mb db=P at *
  go_enter Tryz.func64,Tryz.ntmps64
  go_wp2_with fail
  refine (HTh.out _).mono ?_
  rintro e w1 ⟨rfl,hb1⟩
  have HB1:=hideS (HB0.out.step hb1)
  clear hb1
  obtain⟨_,_,d0,d1,f0,f1,_,_⟩:=HB1.out
  go_wp2_with fail
  obtain⟨x0,x1⟩:=nl (x:=.int .i64 P) (y:=.int .i64 360) d0 d1
  exact bodyPost_ret (v:=.tuple #[.agg #[.int .i64 P,.int .i64 360],.int .i64 0]) (by simp [results,Tryz.results64,go_sem,x0,x1]) rfl ⟨rfl,bR HB1.out.bl⟩
 ·rw [if_neg (by omega),if_neg (by omega),if_neg (by omega),if_neg (by omega),if_neg (by omega),if_neg (by omega)]
  generalize iM 5 ya ma da yb mb db=P at *
  go_enter Tryz.func64,Tryz.ntmps64
  go_wp2_with fail
  refine (HTh.out _).mono ?_
  rintro e w1 ⟨rfl,hb1⟩
  have HB1:=hideS (HB0.out.step hb1)
  clear hb1
  obtain⟨_,_,d0,d1,f0,f1,_,_⟩:=HB1.out
  go_wp2_with fail
  obtain⟨x0,x1⟩:=nl (x:=.int .i64 P) (y:=.int .i64 360) d0 d1
  exact bodyPost_ret (v:=.tuple #[.agg #[.int .i64 P,.int .i64 360],.int .i64 0]) (by simp [results,Tryz.results64,go_sem,x0,x1]) rfl ⟨rfl,bR HB1.out.bl⟩

set_option maxHeartbeats 1600000 in
theorem lF (W a b:Int) (p:Option Addr) (bb off c:Nat) (rs:List Rul) (w:World) (h:OkC W rs) (hs:RSrc w p bb off rs) (ha:aj a) (hb:aj b) (hab:a≤b) :
  Calls Tryz.prog 64 #[.int .i64 6,.agg #[.int .i64 W,.slice p rs.length c],.int .i64 a,.int .i64 b] w fun e w'=>e=.returned (.tuple #[.agg #[.int .i64 (eC (opB W rs) 6 a b),.int .i64 (cj 6)],.int .i64 0])∧Below w.heap.size w w':=by
 have HC:Hid (∀ wx,Below w.heap.size w wx→Calls Tryz.prog 104 #[.agg #[.int .i64 W,.slice p rs.length c]] wx fun e w'=>e=.returned (.tuple #[.int .i64 0,.int .i64 0])∧Below wx.heap.size wx w'):=fun wx hbx=>dv W p bb off c rs 0 0 wx (.ok h) (hs.below hbx) (by have:=h.len;omega)
 have HCt:Hid (∀ wx,Below w.heap.size w wx→Calls Tryz.prog 106 #[.agg #[.int .i64 W,.slice p rs.length c],.int .i64 a,.int .i64 b] wx fun e w'=>e=.returned (.tuple #[.int .i64 (cntN (opB W rs) a (b - a).toNat:Nat),.int .i64 0])∧Below wx.heap.size wx w'):=fun wx hbx=>yF W a b p bb off c rs wx h (hs.below hbx) ha hb hab
 obtain⟨a0,a1⟩:=ha
 obtain⟨b0,b1⟩:=hb
 clear h hs
 unfold eC cj
 rw [if_neg (by omega),if_neg (by omega),if_pos rfl,if_neg (by omega),if_neg (by omega),if_pos rfl]
 generalize ((cntN (opB W rs) a (b - a).toNat:Nat):Int)=P at *
 generalize rs.length=N at *
 have HB0:=hideS (PBoxN.first w W (.slice p N c))
 go_enter Tryz.func64,Tryz.ntmps64
 go_wp2_with fail
 refine (HC.out _ HB0.out.bl).mono ?_
 rintro e w1 ⟨rfl,hb1⟩
 have HB1:=hideS (HB0.out.step hb1)
 clear hb1
 have g0:=HB1.out.a0
 have g1:=HB1.out.a1
 go_wp2_with fail
 refine (HCt.out _ HB1.out.bl).mono ?_
 rintro e w2 ⟨rfl,hb2⟩
 have HB2:=hideS (HB1.out.step hb2)
 clear hb2 g0 g1
 obtain⟨_,_,d0,d1,f0,f1,_,_⟩:=HB2.out
 go_wp2_with fail
 obtain⟨x0,x1⟩:=nl (x:=.int .i64 P) (y:=.int .i64 252) d0 d1
 exact bodyPost_ret (v:=.tuple #[.agg #[.int .i64 P,.int .i64 252],.int .i64 0]) (by simp [results,Tryz.results64,go_sem,x0,x1]) rfl ⟨rfl,bR HB2.out.bl⟩
end Go.Proofs.YtcmbfflemoccmaaGreat
namespace Go.Proofs.YtcmbfflemoccmaaGreat
open Go.RowKit

set_option maxHeartbeats 1600000 in
theorem uW (kind W a b:Int) (v:Value) (w:World) (hk:¬ (1≤kind∧kind≤6)) :
  Calls Tryz.prog 64 #[.int .i64 kind,.agg #[.int .i64 W,v],.int .i64 a,.int .i64 b] w fun e w'=>e=.returned (.tuple #[.agg #[.int .i64 0,.int .i64 0],.int .i64 70])∧Below w.heap.size w w':=by
 obtain⟨x0,x1,hB⟩:=jK (w:=w) (W:=W) (x:=0) (y:=0) (v:=v)
 have HX:=hideS (And.intro x0 x1)
 have HB:=hideS hB
 clear x0 x1 hB
 by_cases h1:kind<1
 ·clear hk
  go_enter Tryz.func64,Tryz.ntmps64
  go_wp2_with fail
  obtain⟨x0,x1⟩:=HX.out
  exact bodyPost_ret (v:=.tuple #[.agg #[.int .i64 0,.int .i64 0],.int .i64 70]) (by simp [results,Tryz.results64,go_sem,x0,x1]) rfl ⟨rfl,HB.out⟩
 ·have h2:6<kind:=by omega
  clear hk
  go_enter Tryz.func64,Tryz.ntmps64
  go_wp2_with fail
  obtain⟨x0,x1⟩:=HX.out
  exact bodyPost_ret (v:=.tuple #[.agg #[.int .i64 0,.int .i64 0],.int .i64 70]) (by simp [results,Tryz.results64,go_sem,x0,x1]) rfl ⟨rfl,HB.out⟩

set_option maxHeartbeats 1600000 in
theorem yG (W a b A B:Int) (p:Option Addr) (bb off c:Nat) (rs:List Rul) (w:World) (h:ChkR W rs A B) (hA:A≠0) (hs:RSrc w p bb off rs) (hl:rs.length≤1000000) :
  Calls Tryz.prog 64 #[.int .i64 6,.agg #[.int .i64 W,.slice p rs.length c],.int .i64 a,.int .i64 b] w fun e w'=>e=.returned (.tuple #[.agg #[.int .i64 0,.int .i64 0],.int .i64 A])∧Below w.heap.size w w':=by
 have HC:Hid (∀ wx,Below w.heap.size w wx→Calls Tryz.prog 104 #[.agg #[.int .i64 W,.slice p rs.length c]] wx fun e w'=>e=.returned (.tuple #[.int .i64 A,.int .i64 B])∧Below wx.heap.size wx w'):=fun wx hbx=>dv W p bb off c rs A B wx h (hs.below hbx) hl
 have hA':A=2∨A=60:=by cases h<;>simp_all
 clear h hs hl
 generalize rs.length=N at *
 have HB0:=hideS (PBoxN.first w W (.slice p N c))
 have ha0:0<A:=by omega
 have ha1:A≤100:=by omega
 clear hA'
 go_enter Tryz.func64,Tryz.ntmps64
 go_wp2_with fail
 refine (HC.out _ HB0.out.bl).mono ?_
 rintro e w1 ⟨rfl,hb1⟩
 have HB1:=hideS (HB0.out.step hb1)
 clear hb1
 obtain⟨_,_,d0,d1,f0,f1,_,_⟩:=HB1.out
 go_wp2_with fail
 obtain⟨x0,x1⟩:=nl (x:=.int .i64 0) (y:=.int .i64 0) d0 d1
 exact bodyPost_ret (v:=.tuple #[.agg #[.int .i64 0,.int .i64 0],.int .i64 A]) (by simp [results,Tryz.results64,go_sem,x0,x1]) rfl ⟨rfl,bR HB1.out.bl⟩

def qv (a b:Int):Prop:=¬ (aj a∧aj b)
theorem badD_cases {a b:Int} (h:qv a b):a<0∨(0≤a∧109572<a)∨(0≤a∧a≤109572∧b<0)∨(0≤a∧a≤109572∧0≤b∧109572<b):=by
 unfold qv aj at h
 omega
set_option maxHeartbeats 3200000 in
theorem yH (kind W a b:Int) (v:Value) (w:World) (hk:1≤kind) (hk':kind≤5) (h:qv a b) :
  Calls Tryz.prog 64 #[.int .i64 kind,.agg #[.int .i64 W,v],.int .i64 a,.int .i64 b] w fun e w'=>e=.returned (.tuple #[.agg #[.int .i64 0,.int .i64 0],.int .i64 51])∧Below w.heap.size w w':=by
 obtain⟨x0,x1,hB⟩:=jK (w:=w) (W:=W) (x:=0) (y:=0) (v:=v)
 have HX:=hideS (And.intro x0 x1)
 have HB:=hideS hB
 clear x0 x1 hB
 rcases badD_cases h with h1 | ⟨h0,h1⟩| ⟨h0,h1,h2⟩| ⟨h0,h1,h2,h3⟩
 all_goals
  clear h
  go_enter Tryz.func64,Tryz.ntmps64
  go_wp2_with fail
  obtain⟨x0,x1⟩:=HX.out
  exact bodyPost_ret (v:=.tuple #[.agg #[.int .i64 0,.int .i64 0],.int .i64 51]) (by simp [results,Tryz.results64,go_sem,x0,x1]) rfl ⟨rfl,HB.out⟩
set_option maxHeartbeats 3200000 in
theorem uX (W a b:Int) (p:Option Addr) (bb off c:Nat) (rs:List Rul) (w:World) (h:OkC W rs) (hs:RSrc w p bb off rs) (hd:qv a b) :
  Calls Tryz.prog 64 #[.int .i64 6,.agg #[.int .i64 W,.slice p rs.length c],.int .i64 a,.int .i64 b] w fun e w'=>e=.returned (.tuple #[.agg #[.int .i64 0,.int .i64 0],.int .i64 51])∧Below w.heap.size w w':=by
 have HC:Hid (∀ wx,Below w.heap.size w wx→Calls Tryz.prog 104 #[.agg #[.int .i64 W,.slice p rs.length c]] wx fun e w'=>e=.returned (.tuple #[.int .i64 0,.int .i64 0])∧Below wx.heap.size wx w'):=fun wx hbx=>dv W p bb off c rs 0 0 wx (.ok h) (hs.below hbx) (by have:=h.len;omega)
 clear h hs
 generalize rs.length=N at *
 have HB0:=hideS (PBoxN.first w W (.slice p N c))
 rcases badD_cases hd with h1 | ⟨h0,h1⟩| ⟨h0,h1,h2⟩| ⟨h0,h1,h2,h3⟩
 all_goals
  clear hd
  go_enter Tryz.func64,Tryz.ntmps64
  go_wp2_with fail
  refine (HC.out _ HB0.out.bl).mono ?_
  rintro e w1 ⟨rfl,hb1⟩
  have HB1:=hideS (HB0.out.step hb1)
  clear hb1
  obtain⟨_,_,d0,d1,f0,f1,_,_⟩:=HB1.out
  go_wp2_with fail
  obtain⟨x0,x1⟩:=nl (x:=.int .i64 0) (y:=.int .i64 0) d0 d1
  exact bodyPost_ret (v:=.tuple #[.agg #[.int .i64 0,.int .i64 0],.int .i64 51]) (by simp [results,Tryz.results64,go_sem,x0,x1]) rfl ⟨rfl,bR HB1.out.bl⟩
end Go.Proofs.YtcmbfflemoccmaaGreat
namespace Go.Proofs.YtcmbfflemoccmaaGreat
open Go.RowKit

set_option maxHeartbeats 1600000 in
theorem uZ (kind W a b P Q:Int) (v:Value) (w:World) (hk:1≤kind) (hk':kind≤5) (ha:aj a) (hb:aj b) (hab:b<a) (hP: -1000000000≤P) (hP':P≤1000000000)
  (HF:Hid (∀ wx,Below w.heap.size w wx→Calls Tryz.prog 64 #[.int .i64 kind,.agg #[.int .i64 W,v],.int .i64 b,.int .i64 a] wx fun e w'=>e=.returned (.tuple #[.agg #[.int .i64 P,.int .i64 Q],.int .i64 0])∧Below wx.heap.size wx w')) :
  Calls Tryz.prog 64 #[.int .i64 kind,.agg #[.int .i64 W,v],.int .i64 a,.int .i64 b] w fun e w'=>e=.returned (.tuple #[.agg #[.int .i64 (-P),.int .i64 Q],.int .i64 0])∧Below w.heap.size w w':=by
 obtain⟨a0,a1⟩:=ha
 obtain⟨b0,b1⟩:=hb
 have HB0:=hideS (PBoxN.first w W v)
 go_enter Tryz.func64,Tryz.ntmps64
 go_wp2_with fail
 refine (HF.out _ HB0.out.bl).mono ?_
 rintro e w1 ⟨rfl,hb1⟩
 have HB1:=hideS (HB0.out.step hb1)
 clear hb1
 have HB2:=hideS (HB1.out.step ((Below.refl w1.heap.size w1).alloc (Nat.le_refl _) (.cells #[.int .i64 P,.int .i64 Q] 112)))
 obtain⟨_,_,d0,d1,f0,f1,_,_⟩:=HB2.out
 go_wp2_with fail
 obtain⟨x0,x1⟩:=nl (x:=.int .i64 (-P)) (y:=.int .i64 Q) d0 d1
 exact bodyPost_ret (v:=.tuple #[.agg #[.int .i64 (-P),.int .i64 Q],.int .i64 0]) (by simp [results,Tryz.results64,go_sem,x0,x1]) rfl ⟨rfl,bR HB2.out.bl⟩

set_option maxHeartbeats 1600000 in
theorem rH (W a b P Q:Int) (p:Option Addr) (bb off c:Nat) (rs:List Rul) (w:World) (h:OkC W rs) (hs:RSrc w p bb off rs) (ha:aj a) (hb:aj b) (hab:b<a) (hP: -1000000000≤P) (hP':P≤1000000000)
  (HF:Hid (∀ wx,Below w.heap.size w wx→Calls Tryz.prog 64 #[.int .i64 6,.agg #[.int .i64 W,.slice p rs.length c],.int .i64 b,.int .i64 a] wx fun e w'=>e=.returned (.tuple #[.agg #[.int .i64 P,.int .i64 Q],.int .i64 0])∧Below wx.heap.size wx w')) :
  Calls Tryz.prog 64 #[.int .i64 6,.agg #[.int .i64 W,.slice p rs.length c],.int .i64 a,.int .i64 b] w fun e w'=>e=.returned (.tuple #[.agg #[.int .i64 (-P),.int .i64 Q],.int .i64 0])∧Below w.heap.size w w':=by
 have HC:Hid (∀ wx,Below w.heap.size w wx→Calls Tryz.prog 104 #[.agg #[.int .i64 W,.slice p rs.length c]] wx fun e w'=>e=.returned (.tuple #[.int .i64 0,.int .i64 0])∧Below wx.heap.size wx w'):=fun wx hbx=>dv W p bb off c rs 0 0 wx (.ok h) (hs.below hbx) (by have:=h.len;omega)
 obtain⟨a0,a1⟩:=ha
 obtain⟨b0,b1⟩:=hb
 clear h hs
 generalize rs.length=N at *
 have HB0:=hideS (PBoxN.first w W (.slice p N c))
 go_enter Tryz.func64,Tryz.ntmps64
 go_wp2_with fail
 refine (HC.out _ HB0.out.bl).mono ?_
 rintro e w0 ⟨rfl,hb0⟩
 have HB0':=hideS (HB0.out.step hb0)
 clear hb0
 have g0:=HB0'.out.a0
 have g1:=HB0'.out.a1
 go_wp2_with fail
 refine (HF.out _ HB0'.out.bl).mono ?_
 rintro e w1 ⟨rfl,hb1⟩
 have HB1:=hideS (HB0'.out.step hb1)
 clear hb1 g0 g1
 have HB2:=hideS (HB1.out.step ((Below.refl w1.heap.size w1).alloc (Nat.le_refl _) (.cells #[.int .i64 P,.int .i64 Q] 112)))
 obtain⟨_,_,d0,d1,f0,f1,_,_⟩:=HB2.out
 go_wp2_with fail
 obtain⟨x0,x1⟩:=nl (x:=.int .i64 (-P)) (y:=.int .i64 Q) d0 d1
 exact bodyPost_ret (v:=.tuple #[.agg #[.int .i64 (-P),.int .i64 Q],.int .i64 0]) (by simp [results,Tryz.results64,go_sem,x0,x1]) rfl ⟨rfl,bR HB2.out.bl⟩
end Go.Proofs.YtcmbfflemoccmaaGreat
namespace Go.Proofs.YtcmbfflemoccmaaGreat
open Go.RowKit

theorem gN (op:Int→Bool) {kind a b:Int} (ha:aj a) (hb:aj b) (hab:a≤b): -1000000000≤eC op kind a b∧eC op kind a b≤1000000000:=by
 obtain⟨ya,ma,da,hA⟩:=eI ha.1 ha.2
 obtain⟨yb,mb,db,hB⟩:=eI hb.1 hb.2
 obtain⟨e1,e2,e3⟩:=jJ hA
 obtain⟨f1,f2,f3⟩:=jJ hB
 unfold eC
 rw [e1,e2,e3,f1,f2,f3]
 have ra:=hA.year
 have rb:=hB.year
 obtain⟨⟨a1,a2,a3,a4,a5,a6⟩,_⟩:=hA
 obtain⟨⟨b1,b2,b3,b4,b5,b6⟩,_⟩:=hB
 have la:=dO ya ma
 have lb:=dO yb mb
 have c:=AX op a (b - a).toNat
 have xa:=uS (y:=ya) (n:=a) a1 (by omega) ra.1 (by omega)
 have xb:=uS (y:=yb) (n:=b) b1 (by omega) rb.1 (by omega)
 obtain⟨a7,a8⟩:=ha
 obtain⟨b7,b8⟩:=hb
 split
 ·omega
 ·split
  ·omega
  ·split
   ·omega
   ·unfold iM
    split<;>omega
noncomputable def gc (op:Int→Bool) (kind a b:Int):Int:=if b<a then -eC op kind b a else eC op kind a b
theorem IS (op:Int→Bool) {kind a b:Int} (ha:aj a) (hb:aj b): -1000000000≤gc op kind a b∧gc op kind a b≤1000000000:=by
 unfold gc
 split
 ·have:=gN op (kind:=kind) hb ha (by omega);omega
 ·exact gN op ha hb (by omega)
theorem qw (op:Int→Bool) (kind W a b:Int) (v:Value) (w:World) (hk:1≤kind) (hk':kind≤5) (ha:aj a) (hb:aj b) (hab:a≤b) :
  Calls Tryz.prog 64 #[.int .i64 kind,.agg #[.int .i64 W,v],.int .i64 a,.int .i64 b] w fun e w'=>e=.returned (.tuple #[.agg #[.int .i64 (eC op kind a b),.int .i64 (cj kind)],.int .i64 0])∧Below w.heap.size w w':=by
 by_cases h:kind=1∨kind=2
 ·have:=rG kind W a b v w h ha hb hab
  unfold eC
  rw [if_pos h]
  exact this
 ·exact uU kind W a b v w (by omega) ha hb hab op
theorem Be (op:Int→Bool) (kind W a b:Int) (v:Value) (w:World) (hk:1≤kind) (hk':kind≤5) (ha:aj a) (hb:aj b) :
  Calls Tryz.prog 64 #[.int .i64 kind,.agg #[.int .i64 W,v],.int .i64 a,.int .i64 b] w fun e w'=>e=.returned (.tuple #[.agg #[.int .i64 (gc op kind a b),.int .i64 (cj kind)],.int .i64 0])∧Below w.heap.size w w':=by
 unfold gc
 by_cases h:b<a
 ·rw [if_pos h]
  have hP:=gN op (kind:=kind) hb ha (by omega)
  exact uZ kind W a b _ _ v w hk hk' ha hb h hP.1 hP.2 (fun wx _=>qw op kind W b a v wx hk hk' hb ha (by omega))
 ·rw [if_neg h]
  exact qw op kind W a b v w hk hk' ha hb (by omega)
theorem yI (W a b:Int) (p:Option Addr) (bb off c:Nat) (rs:List Rul) (w:World) (h:OkC W rs) (hs:RSrc w p bb off rs) (ha:aj a) (hb:aj b) :
  Calls Tryz.prog 64 #[.int .i64 6,.agg #[.int .i64 W,.slice p rs.length c],.int .i64 a,.int .i64 b] w fun e w'=>e=.returned (.tuple #[.agg #[.int .i64 (gc (opB W rs) 6 a b),.int .i64 (cj 6)],.int .i64 0])∧Below w.heap.size w w':=by
 unfold gc
 by_cases hl:b<a
 ·rw [if_pos hl]
  have hP:=gN (opB W rs) (kind:=6) hb ha (by omega)
  exact rH W a b _ _ p bb off c rs w h hs ha hb hl hP.1 hP.2 (fun wx hbx=>lF W b a p bb off c rs wx h (hs.below hbx) hb ha (by omega))
 ·rw [if_neg hl]
  exact lF W a b p bb off c rs w h hs ha hb (by omega)
end Go.Proofs.YtcmbfflemoccmaaGreat
