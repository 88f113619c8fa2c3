/-  -/
import Derived.Test.YtkooknagalgfpaaGreatHav
import Derived.Test.YtkooknagalgfpaaGreatHbn
import Derived.Test.YtkooknagalgfpaaGreatHaw
import Derived.Test.YtkooknagalgfpaaGreatHam
import Derived.Test.YtkooknagalgfpaaGreatHbf
namespace Go.Proofs.YtkooknagalgfpaaGreat
open Go.RowKit

theorem lQ (n lo hi:Int) (w:World) :
  Calls Tryz.prog 46 #[.int .i64 n,.int .i64 lo,.int .i64 hi] w fun e w'=>e=.returned (.bool (decide (lo≤n∧n≤hi)))∧w'=w:=by
 by_cases h1:lo≤n<;>by_cases h2:n≤hi
 all_goals
  first | rw [decide_eq_true (⟨h1,h2⟩:lo≤n∧n≤hi)] | rw [decide_eq_false (fun h:lo≤n∧n≤hi=>by omega)]
  go_enter Tryz.func46,Tryz.ntmps46
  go_wp2
  go_ret
  exact⟨rfl,rfl⟩
set_option maxHeartbeats 800000 in
theorem Ku (r:Nat) (w:World) :
  Calls Tryz.prog 91 #[.float .f32 r] w fun e w'=>e=.returned (.bool (finB (dblW r:Nat)))∧Below w.heap.size w w':=by
 rcases (show 2139095040<r % 2147483648∨r % 2147483648≤2139095040 by omega) with h | h
 ·obtain⟨x,hr,hx,hn⟩:=BO r h w
  have H1:=hideS fun w=>aE x w (by unfold U64;omega)
  rw [hn] at H1
  have HB:Hid (Below w.heap.size w w.drew):=⟨rfl,rfl,rfl,Nat.le_refl _,fun _ _=>rfl⟩
  rw [wT,decide_eq_false (by omega)]
  clear h hn hx
  go_enter Tryz.func91,Tryz.ntmps91
  go_wp2_with fail
  refine (H1.out _).mono ?_
  rintro e w' ⟨rfl,rfl⟩
  go_wp2_with fail
  go_ret
  exact⟨rfl,HB.out⟩
 ·have hr:∀ w,(convert 43 46 (.float .f32 r)).run Tryz.prog w=.ok (.float .f64 (dblW r)) w:=fun w=>run_convert_float_float (P:=Tryz.prog) (w:=w) 43 46 .f32 .f64 r (dblW r) (by rw [Kt];rfl) Ks (me h)
  have hn:af (dblW r:Nat)=false:=by rw [GN,decide_eq_false (by omega)]
  have hu:U64 (dblW r:Nat):=by
   have:=wU r
   unfold U64;omega
  have H1:=hideS fun w=>aE (dblW r) w hu
  rw [hn] at H1
  have H2:=hideS fun w=>kq (dblW r) _ w hu (vA hn)
  generalize finB (dblW r:Nat)=b at *
  generalize dblW r=x at *
  clear h hn hu
  cases b
  all_goals
   go_enter Tryz.func91,Tryz.ntmps91
   go_wp2_with fail
   refine (H1.out _).mono ?_
   rintro e w' ⟨rfl,rfl⟩
   go_wp2_with fail
   refine (H2.out _).mono ?_
   rintro e w' ⟨rfl,rfl⟩
   go_wp2_with fail
   go_ret
   exact⟨rfl,Below.refl _ _⟩
structure QBx (w:World) (q:Quo) (wr:World):Prop where
 t0:wr.cell? ⟨w.heap.size,0,none⟩=some (.int .i64 q.kind)
 t1:wr.cell? ⟨w.heap.size,1,none⟩=some (.int .i64 q.fin)
 t2:wr.cell? ⟨w.heap.size,2,none⟩=some (.int .i64 q.count)
 t3:wr.cell? ⟨w.heap.size,3,none⟩=some (.int .i64 q.n)
 t4:wr.cell? ⟨w.heap.size,4,none⟩=some (.float .f32 q.rate)
 bl:Below w.heap.size w wr
 lt:w.heap.size<wr.heap.size
theorem rD (w:World) (q:Quo):QBx w q (w.alloc (.cells #[.int .i64 q.kind,.int .i64 q.fin,.int .i64 q.count,.int .i64 q.n,.float .f32 q.rate] 45)):=
 ⟨by simp,by simp,by simp,by simp,by simp,(Below.refl _ _).alloc (Nat.le_refl _) _,by simp⟩
theorem QBx.step {w wr w':World} {q:Quo} (h:QBx w q wr) (hb:Below wr.heap.size wr w'):QBx w q w':=
 ⟨(hb.cell (p:=⟨w.heap.size,0,none⟩) h.lt).trans h.t0,(hb.cell (p:=⟨w.heap.size,1,none⟩) h.lt).trans h.t1,(hb.cell (p:=⟨w.heap.size,2,none⟩) h.lt).trans h.t2,(hb.cell (p:=⟨w.heap.size,3,none⟩) h.lt).trans h.t3,(hb.cell (p:=⟨w.heap.size,4,none⟩) h.lt).trans h.t4,h.bl.trans (hb.mono h.bl.size),Nat.lt_of_lt_of_le h.lt hb.size⟩

set_option maxHeartbeats 1600000 in
theorem BP (q:Quo) (w:World) :
  Calls Tryz.prog 48 #[.agg #[.int .i64 q.kind,.int .i64 q.fin,.int .i64 q.count,.int .i64 q.n,.float .f32 q.rate]] w fun e w'=>e=.returned (.bool (!jV q))∧Below w.heap.size w w':=by
 obtain⟨kind,fin,count,n,r⟩:=q
 have H0:=hideS (rD w ⟨kind,fin,count,n,r⟩)
 have HN:=hideS fun wx=>Ku r wx
 have HI:=hideS fun wx=>lQ n 1 120 wx
 have HBd:Hid (jV ⟨kind,fin,count,n,r⟩=((decide (kind≠1)&&decide (kind≠2))||(decide (kind=1)&&decide (n≠0))||(decide (kind=2)&&(decide (n<1)||decide (120<n)))||!finB (dblW r:Nat))):=rfl
 dsimp only at *
 by_cases k1:kind=1
 ·subst k1
  by_cases n0:n=0
  ·subst n0
   have hres:(!jV ⟨1,fin,count,0,r⟩)=finB (dblW r:Nat):=by rw [HBd.out];cases finB (dblW r:Nat)<;>rfl
   rw [hres]
   generalize finB (dblW r:Nat)=b at *
   clear HBd hres
   go_enter Tryz.func48,Tryz.ntmps48
   go_wp2_with fail
   refine (HN.out _).mono ?_
   rintro e w1 ⟨rfl,hb⟩
   have H1:=hideS (H0.out.step hb)
   clear hb
   go_wp2_with fail
   go_ret
   exact⟨rfl,H1.out.bl⟩
  ·have hres:(!jV ⟨1,fin,count,n,r⟩)=false:=by rw [HBd.out,decide_eq_true (show n≠0 from n0)];simp
   rw [hres]
   have d0:(n==0)=false:=beq_eq_false_iff_ne.2 n0
   clear HBd hres n0
   go_enter Tryz.func48,Tryz.ntmps48
   go_wp2_with fail
   go_ret
   exact⟨rfl,H0.out.bl⟩
 ·by_cases k2:kind=2
  ·subst k2
   by_cases hn:1≤n∧n≤120
   ·have hres:(!jV ⟨2,fin,count,n,r⟩)=finB (dblW r:Nat):=by rw [HBd.out,decide_eq_false (show ¬ n<1 by omega),decide_eq_false (show ¬ 120<n by omega)];cases finB (dblW r:Nat)<;>rfl
    rw [hres]
    rw [decide_eq_true hn] at HI
    generalize finB (dblW r:Nat)=b at *
    clear HBd hres hn k1
    go_enter Tryz.func48,Tryz.ntmps48
    go_wp2_with fail
    refine (HI.out _).mono ?_
    rintro e w1 ⟨rfl,rfl⟩
    go_wp2_with fail
    refine (HN.out _).mono ?_
    rintro e w1 ⟨rfl,hb⟩
    have H1:=hideS (H0.out.step hb)
    clear hb
    go_wp2_with fail
    go_ret
    exact⟨rfl,H1.out.bl⟩
   ·have hres:(!jV ⟨2,fin,count,n,r⟩)=false:=by
     rw [HBd.out]
     rcases (show n<1∨120<n by omega) with c | c
     ·rw [decide_eq_true c];simp
     ·rw [decide_eq_true c];simp
    rw [hres]
    rw [decide_eq_false hn] at HI
    clear HBd hres hn k1
    go_enter Tryz.func48,Tryz.ntmps48
    go_wp2_with fail
    refine (HI.out _).mono ?_
    rintro e w1 ⟨rfl,rfl⟩
    go_wp2_with fail
    go_ret
    exact⟨rfl,H0.out.bl⟩
  ·have hres:(!jV ⟨kind,fin,count,n,r⟩)=false:=by rw [HBd.out,decide_eq_true (show kind≠1 from k1),decide_eq_true (show kind≠2 from k2)];simp
   rw [hres]
   have d1:(kind==1)=false:=beq_eq_false_iff_ne.2 k1
   have d2:(kind==2)=false:=beq_eq_false_iff_ne.2 k2
   clear HBd hres k1 k2
   go_enter Tryz.func48,Tryz.ntmps48
   go_wp2_with fail
   go_ret
   exact⟨rfl,H0.out.bl⟩

set_option maxHeartbeats 1600000 in
theorem Kv (q:Quo) (last:Int) (w:World) (hl:0≤last) (hl2:last≤109572) :
  Calls Tryz.prog 24 #[.agg #[.int .i64 q.kind,.int .i64 q.fin,.int .i64 q.count,.int .i64 q.n,.float .f32 q.rate],.int .i64 last] w fun e w'=>e=.returned (.int .i64 (dw q last))∧Below w.heap.size w w':=by
 have H0:=hideS (rD w q)
 have HQ:=hideS fun wx=>BP q wx
 have HC:=hideS fun wx=>lQ q.count 1 6 wx
 have HE:=hideS fun wx=>lQ q.fin (last+1) 109572 wx
 have HF:Hid (dw q last=if jV q=true then 130 else if q.count<1∨6<q.count then 70 else if q.fin≤last∨109572<q.fin then 131 else 0):=rfl
 rw [HF.out]
 obtain⟨kind,fin,count,n,r⟩:=q
 dsimp only at *
 cases hb:jV ⟨kind,fin,count,n,r⟩ with
 | true=>
  rw [if_pos rfl]
  rw [hb] at HQ
  clear hb HF
  go_enter Tryz.func24,Tryz.ntmps24
  go_wp2_with fail
  refine (HQ.out _).mono ?_
  rintro e w1 ⟨rfl,hb⟩
  have H1:=hideS (H0.out.step hb)
  clear hb
  go_wp2_with fail
  go_ret
  exact⟨rfl,H1.out.bl⟩
 | false=>
  rw [if_neg (by simp)]
  rw [hb] at HQ
  clear hb HF
  by_cases hc:count<1∨6<count
  ·rw [if_pos hc]
   rw [decide_eq_false (fun h:1≤count∧count≤6=>by omega)] at HC
   clear hc
   go_enter Tryz.func24,Tryz.ntmps24
   go_wp2_with fail
   refine (HQ.out _).mono ?_
   rintro e w1 ⟨rfl,hb⟩
   have H1:=hideS (H0.out.step hb)
   have c2:=H1.out.t2
   dsimp only at c2
   clear hb
   go_wp2_with fail
   refine (HC.out _).mono ?_
   rintro e w2 ⟨rfl,rfl⟩
   go_wp2_with fail
   go_ret
   exact⟨rfl,H1.out.bl⟩
  ·rw [if_neg hc]
   rw [decide_eq_true (show 1≤count∧count≤6 by omega)] at HC
   clear hc
   by_cases he:fin≤last∨109572<fin
   ·rw [if_pos he]
    rw [decide_eq_false (fun h:last+1≤fin∧fin≤109572=>by omega)] at HE
    clear he
    go_enter Tryz.func24,Tryz.ntmps24
    go_wp2_with fail
    refine (HQ.out _).mono ?_
    rintro e w1 ⟨rfl,hb⟩
    have H1:=hideS (H0.out.step hb)
    have c1:=H1.out.t1
    have c2:=H1.out.t2
    dsimp only at c1 c2
    clear hb
    go_wp2_with fail
    refine (HC.out _).mono ?_
    rintro e w2 ⟨rfl,rfl⟩
    go_wp2_with fail
    refine (HE.out _).mono ?_
    rintro e w2 ⟨rfl,rfl⟩
    go_wp2_with fail
    go_ret
    exact⟨rfl,H1.out.bl⟩
   ·rw [if_neg he]
    rw [decide_eq_true (show last+1≤fin∧fin≤109572 by omega)] at HE
    clear he
    go_enter Tryz.func24,Tryz.ntmps24
    go_wp2_with fail
    refine (HQ.out _).mono ?_
    rintro e w1 ⟨rfl,hb⟩
    have H1:=hideS (H0.out.step hb)
    have c1:=H1.out.t1
    have c2:=H1.out.t2
    dsimp only at c1 c2
    clear hb
    go_wp2_with fail
    refine (HC.out _).mono ?_
    rintro e w2 ⟨rfl,rfl⟩
    go_wp2_with fail
    refine (HE.out _).mono ?_
    rintro e w2 ⟨rfl,rfl⟩
    go_wp2_with fail
    go_ret
    exact⟨rfl,H1.out.bl⟩
theorem Kw (w:World) (W:Int) (v:Value):Below w.heap.size w (w.alloc (.cells #[.int .i64 W,v] 24)):=(Below.refl _ _).alloc (Nat.le_refl _) _

inductive FrmR (base kind A:Int) (N:Nat):Int→Prop
 | base (h:base<0∨109572<base):FrmR base kind A N 51
 | kind (b0:0≤base) (b1:base≤109572) (h:kind<1∨4<kind):FrmR base kind A N 90
 | cal (b0:0≤base) (b1:base≤109572) (k1:1≤kind) (k4:kind≤4) (h:A≠0):FrmR base kind A N A
 | long (b0:0≤base) (b1:base≤109572) (k1:1≤kind) (k4:kind≤4) (a0:A=0) (h:64<N):FrmR base kind A N 2
 | none (b0:0≤base) (b1:base≤109572) (k1:1≤kind) (k4:kind≤4) (a0:A=0) (h:N=0):FrmR base kind A N 100
 | ok (b0:0≤base) (b1:base≤109572) (k1:1≤kind) (k4:kind≤4) (a0:A=0) (lo:1≤N) (hi:N≤64):FrmR base kind A N 0

set_option maxHeartbeats 1600000 in
theorem rE (base kind W A B E:Int) (v:Value) (N:Nat) (w:World) (h:FrmR base kind A N E)
  (HC:Hid (∀ wx,Below w.heap.size w wx→Calls Tryz.prog 47 #[.agg #[.int .i64 W,v]] wx fun e w'=>e=.returned (.tuple #[.int .i64 A,.int .i64 B])∧Below wx.heap.size wx w')) :
  Calls Tryz.prog 23 #[.int .i64 base,.int .i64 kind,.agg #[.int .i64 W,v],.int .i64 N] w fun e w'=>e=.returned (.int .i64 E)∧Below w.heap.size w w':=by
 have H0:=hideS (Kw w W v)
 have HB:=hideS fun wx=>lQ base 0 109572 wx
 have HK:=hideS fun wx=>lQ kind 1 4 wx
 cases h with
 | base h=>
  rw [decide_eq_false (fun c:0≤base∧base≤109572=>by omega)] at HB
  clear h HC HK
  go_enter Tryz.func23,Tryz.ntmps23
  go_wp2_with fail
  refine (HB.out _).mono ?_
  rintro e w1 ⟨rfl,rfl⟩
  go_wp2_with fail
  go_ret
  exact⟨rfl,H0.out⟩
 | kind b0 b1 h=>
  rw [decide_eq_true (⟨b0,b1⟩:0≤base∧base≤109572)] at HB
  rw [decide_eq_false (fun c:1≤kind∧kind≤4=>by omega)] at HK
  clear h HC b0 b1
  go_enter Tryz.func23,Tryz.ntmps23
  go_wp2_with fail
  refine (HB.out _).mono ?_
  rintro e w1 ⟨rfl,rfl⟩
  go_wp2_with fail
  refine (HK.out _).mono ?_
  rintro e w1 ⟨rfl,rfl⟩
  go_wp2_with fail
  go_ret
  exact⟨rfl,H0.out⟩
 | cal b0 b1 k1 k4 h=>
  rw [decide_eq_true (⟨b0,b1⟩:0≤base∧base≤109572)] at HB
  rw [decide_eq_true (⟨k1,k4⟩:1≤kind∧kind≤4)] at HK
  have d1:(A !=0)=true:=bne_iff_ne.2 h
  clear h b0 b1 k1 k4
  go_enter Tryz.func23,Tryz.ntmps23
  go_wp2_with fail
  refine (HB.out _).mono ?_
  rintro e w1 ⟨rfl,rfl⟩
  go_wp2_with fail
  refine (HK.out _).mono ?_
  rintro e w1 ⟨rfl,rfl⟩
  go_wp2_with fail
  refine (HC.out _ H0.out).mono ?_
  rintro e w1 ⟨rfl,hb1⟩
  have H1:=hideS (H0.out.trans (hb1.mono H0.out.size))
  clear hb1
  go_wp2_with fail
  go_ret
  exact⟨rfl,H1.out⟩
 | long b0 b1 k1 k4 a0 h=>
  rw [decide_eq_true (⟨b0,b1⟩:0≤base∧base≤109572)] at HB
  rw [decide_eq_true (⟨k1,k4⟩:1≤kind∧kind≤4)] at HK
  subst a0
  have d5:decide ((64:Int)<(N:Int))=true:=decide_eq_true (by omega)
  clear h b0 b1 k1 k4
  go_enter Tryz.func23,Tryz.ntmps23
  go_wp2_with fail
  refine (HB.out _).mono ?_
  rintro e w1 ⟨rfl,rfl⟩
  go_wp2_with fail
  refine (HK.out _).mono ?_
  rintro e w1 ⟨rfl,rfl⟩
  go_wp2_with fail
  refine (HC.out _ H0.out).mono ?_
  rintro e w1 ⟨rfl,hb1⟩
  have H1:=hideS (H0.out.trans (hb1.mono H0.out.size))
  clear hb1
  go_wp2_with fail
  go_ret
  exact⟨rfl,H1.out⟩
 | none b0 b1 k1 k4 a0 h=>
  rw [decide_eq_true (⟨b0,b1⟩:0≤base∧base≤109572)] at HB
  rw [decide_eq_true (⟨k1,k4⟩:1≤kind∧kind≤4)] at HK
  subst a0 h
  clear b0 b1 k1 k4
  go_enter Tryz.func23,Tryz.ntmps23
  go_wp2_with fail
  refine (HB.out _).mono ?_
  rintro e w1 ⟨rfl,rfl⟩
  go_wp2_with fail
  refine (HK.out _).mono ?_
  rintro e w1 ⟨rfl,rfl⟩
  go_wp2_with fail
  refine (HC.out _ H0.out).mono ?_
  rintro e w1 ⟨rfl,hb1⟩
  have H1:=hideS (H0.out.trans (hb1.mono H0.out.size))
  clear hb1
  go_wp2_with fail
  go_ret
  exact⟨rfl,H1.out⟩
 | ok b0 b1 k1 k4 a0 lo hi=>
  rw [decide_eq_true (⟨b0,b1⟩:0≤base∧base≤109572)] at HB
  rw [decide_eq_true (⟨k1,k4⟩:1≤kind∧kind≤4)] at HK
  subst a0
  have d5:decide ((64:Int)<(N:Int))=false:=decide_eq_false (by omega)
  have d6:((N:Int)==0)=false:=beq_eq_false_iff_ne.2 (by omega)
  clear b0 b1 k1 k4 lo hi
  go_enter Tryz.func23,Tryz.ntmps23
  go_wp2_with fail
  refine (HB.out _).mono ?_
  rintro e w1 ⟨rfl,rfl⟩
  go_wp2_with fail
  refine (HK.out _).mono ?_
  rintro e w1 ⟨rfl,rfl⟩
  go_wp2_with fail
  refine (HC.out _ H0.out).mono ?_
  rintro e w1 ⟨rfl,hb1⟩
  have H1:=hideS (H0.out.trans (hb1.mono H0.out.size))
  clear hb1
  go_wp2_with fail
  go_ret
  exact⟨rfl,H1.out⟩
end Go.Proofs.YtkooknagalgfpaaGreat
namespace Go.Proofs.YtkooknagalgfpaaGreat
open Go.RowKit

theorem bI {t:TypeId} {w:World} {base n:Nat} {v:Value} {xs:List Value} (h:w.ownsRow base t 1 v n xs):∃ q c,v=.slice q n c:=by
 rcases h.2 with⟨rfl,rfl⟩| ⟨g,cap,cur,rfl,_⟩
 ·exact⟨none,0,rfl⟩
 ·exact⟨_,_,rfl⟩
theorem mS {t t':TypeId} {w:World} {b b' n m:Nat} {v v':Value} {xs ys:List Value} (h:w.ownsRow b t 1 v n xs) (h':w.ownsRow b' t' 1 v' m ys) (ht:t≠t'):∀ g,v.ownBlock=some g→v'.ownBlock≠some g:=fun g e e'=>by
 rcases h.2 with⟨rfl,_⟩| ⟨k,cap,cur,rfl,hk,hgg,_⟩
 ·cases e
 ·rcases h'.2 with⟨rfl,_⟩| ⟨k',cap',cur',rfl,hk',hgg',_⟩
  ·cases e'
  ·have e1:k=g:=by simpa [Value.ownBlock] using e
   have e2:k'=g:=by simpa [Value.ownBlock] using e'
   subst e1
   subst e2
   rw [hgg] at hgg'
   injection hgg' with hgg'
   injection hgg' with _ hh
   exact ht hh
theorem Dq {t:TypeId} {w w':World} {base n:Nat} {v:Value} {r:Option Nat} {xs:List Value} (h:w.ownsRow base t 1 v n xs) (hw:w.grownBy w' r) (hne:∀ g,v.ownBlock=some g→r≠some g):w'.ownsRow base t 1 v n xs:=by
 refine⟨h.1,?_⟩
 rcases h.2 with hn | ⟨j,cap,cur,rfl,hk,hgg,rest⟩
 ·exact .inl hn
 ·exact .inr ⟨j,cap,cur,rfl,hk,by rw [hw.block j (Array.getElem?_eq_some_iff.1 hgg).1 (fun c=>hne j (by simp [Value.ownBlock]) c.symm)];exact hgg,rest⟩
end Go.Proofs.YtkooknagalgfpaaGreat
