/-  -/
import Derived.Test.YtkooknagalgfpaaGreatHbv
import Derived.Test.YtkooknagalgfpaaGreatHay
import Derived.Deep.RegionHeld3
namespace Go.Proofs.YtkooknagalgfpaaGreat
open Go.RowKit

theorem KY (w:World) (W:Int) (v:Value):(w.alloc (.cells #[.int .i64 W,v] 24)).cell? ⟨w.heap.size,1,none⟩=some v∧Below w.heap.size w (w.alloc (.cells #[.int .i64 W,v] 24)):=⟨by simp,(Below.refl _ _).alloc (Nat.le_refl _) _⟩
set_option maxRecDepth 20000 in
set_option maxHeartbeats 12800000 in
theorem NT (base kind W:Int) (p pq:Option Addr) (bq oq cq n c N:Nat) (qs:List Quo) (w:World) (hq:QSrc w pq bq oq qs) (hN:qs.length=N) (hk:kind=3) :
  Calls Tryz.prog 14 #[.int .i64 base,.int .i64 kind,.agg #[.int .i64 W,.slice p n c],.slice pq N cq] w fun e w'=>(∃ f,e=.returned (.bool f))∧Below w.heap.size w w':=by
 have HB:=hideS (KY w W (.slice p n c))
 have HQ:=hideS hq
 have HN:=hideS hN
 clear hq hN
 subst hk
 by_cases h1:3<N
 ·have d1:decide ((3:Int)<(N:Int))=true:=decide_eq_true (by omega)
  go_enter Tryz.func14,Tryz.ntmps14
  go_wp2_with fail
  go_ret
  exact⟨⟨_,rfl⟩,HB.out.2⟩
 have d1:decide ((3:Int)<(N:Int))=false:=decide_eq_false (by omega)
 by_cases h2:3<n
 ·have d2:decide ((3:Int)<(n:Int))=true:=decide_eq_true (by omega)
  go_enter Tryz.func14,Tryz.ntmps14
  go_wp2_with fail
  go_ret
  exact⟨⟨_,rfl⟩,HB.out.2⟩
 have d2:decide ((3:Int)<(n:Int))=false:=decide_eq_false (by omega)
 go_enter Tryz.func14,Tryz.ntmps14
 go_wp2_with fail
 clear d1 d2 h2
 obtain⟨w1,hw1⟩:∃ w1,w.alloc (.cells #[.int .i64 W,.slice p n c] 24)=w1:=⟨_,rfl⟩
 rw [hw1] at HB ⊢
 clear hw1
 go_loopw [11] (fun i wr=>∃ (k q:Nat),k≤N∧i=.int .i64 k∧wr=w1.drewN q) (fun i _=>N - (intOf i).toNat)
 case atStart=>exact⟨0,0,Nat.zero_le _,rfl,rfl⟩
 case round=>
  obtain⟨k,q,hk,rfl,rfl⟩:=hrel
  have HBq:Hid (Below w.heap.size w (w1.drewN q)):=⟨HB.out.2.os,HB.out.2.tape,HB.out.2.output,HB.out.2.size,HB.out.2.block⟩
  by_cases hlt:k<N
  ·obtain rfl:=HQ.out.at_ (by rw [HN.out];omega)
   obtain⟨c0,c1,c2,c3,_⟩:=(HQ.out.below HBq.out).cell k (by rw [HN.out];exact hlt)
   generalize (qs.getD k au).kind=qk at *
   generalize (qs.getD k au).fin=qf at *
   generalize (qs.getD k au).count=qc at *
   generalize (qs.getD k au).n=qn at *
   obtain⟨wq,hwq⟩:∃ wq,w1.drewN q=wq:=⟨_,rfl⟩
   rw [hwq] at HBq c0 c1 c2 c3 ⊢
   have HE:Hid (∀ m,∃ q,wq.drewN m=w1.drewN q):=fun m=>⟨q+m,by rw [← hwq,World.drewN_drewN]⟩
   have HBm:Hid (∀ m,Below w.heap.size w (wq.drewN m)):=fun m=>⟨HBq.out.os,HBq.out.tape,HBq.out.output,HBq.out.size,HBq.out.block⟩
   clear hwq
   have g3:(0:Int)≤(k:Int):=Int.natCast_nonneg _
   have g4:(k:Int)<(N:Int):=by omega
   have hb:(qk==2)=false∨((qk==2)=true∧decide (0<qn)=false)∨((qk==2)=true∧decide (0<qn)=true∧decide (qn≤120)=false)∨((qk==2)=true∧decide (0<qn)=true∧decide (qn≤120)=true∧decide (qf≤109572)=false)∨((qk==2)=true∧decide (0<qn)=true∧decide (qn≤120)=true∧decide (qf≤109572)=true∧decide (base<qf)=false)∨((qk==2)=true∧decide (0<qn)=true∧decide (qn≤120)=true∧decide (qf≤109572)=true∧decide (base<qf)=true):=by
    cases (qk==2)<;>cases decide (0<qn)<;>cases decide (qn≤120)<;>cases decide (qf≤109572)<;>cases decide (base<qf)<;>simp
   rcases hb with b1 | ⟨b1,b2⟩| ⟨b1,b2,b3⟩| ⟨b1,b2,b3,b4⟩| ⟨b1,b2,b3,b4,b5⟩| ⟨b1,b2,b3,b4,b5⟩
   all_goals
    go_wp2_with fail
    go_quiet (fail)
    go_wp2_with fail
    all_goals first
     | (go_ret;exact⟨⟨_,rfl⟩,HBm.out _⟩)
     | (refine⟨?_,by simp [intOf];omega⟩;obtain⟨q',hq'⟩:=HE.out _;exact⟨k+1,q',by omega,by simp,hq'⟩)
  ·obtain rfl:k=N:=by omega
   have g4:decide ((k:Int)<(k:Int))=false:=decide_eq_false (by omega)
   go_wp2_with fail
   go_ret
   exact⟨⟨_,rfl⟩,HBq.out⟩
set_option maxRecDepth 20000 in
set_option maxHeartbeats 12800000 in
theorem NU (base kind W:Int) (p pq:Option Addr) (bq oq cq n c N:Nat) (qs:List Quo) (w:World) (hq:QSrc w pq bq oq qs) (hN:qs.length=N) (hk:kind=4) :
  Calls Tryz.prog 14 #[.int .i64 base,.int .i64 kind,.agg #[.int .i64 W,.slice p n c],.slice pq N cq] w fun e w'=>(∃ f,e=.returned (.bool f))∧Below w.heap.size w w':=by
 have HB:=hideS (KY w W (.slice p n c))
 have HQ:=hideS hq
 have HN:=hideS hN
 clear hq hN
 subst hk
 by_cases h1:3<N
 ·have d1:decide ((3:Int)<(N:Int))=true:=decide_eq_true (by omega)
  go_enter Tryz.func14,Tryz.ntmps14
  go_wp2_with fail
  go_ret
  exact⟨⟨_,rfl⟩,HB.out.2⟩
 have d1:decide ((3:Int)<(N:Int))=false:=decide_eq_false (by omega)
 by_cases h2:3<n
 ·have d2:decide ((3:Int)<(n:Int))=true:=decide_eq_true (by omega)
  go_enter Tryz.func14,Tryz.ntmps14
  go_wp2_with fail
  go_ret
  exact⟨⟨_,rfl⟩,HB.out.2⟩
 have d2:decide ((3:Int)<(n:Int))=false:=decide_eq_false (by omega)
 go_enter Tryz.func14,Tryz.ntmps14
 go_wp2_with fail
 clear d1 d2 h2
 obtain⟨w1,hw1⟩:∃ w1,w.alloc (.cells #[.int .i64 W,.slice p n c] 24)=w1:=⟨_,rfl⟩
 rw [hw1] at HB ⊢
 clear hw1
 go_loopw [11] (fun i wr=>∃ (k q:Nat),k≤N∧i=.int .i64 k∧wr=w1.drewN q) (fun i _=>N - (intOf i).toNat)
 case atStart=>exact⟨0,0,Nat.zero_le _,rfl,rfl⟩
 case round=>
  obtain⟨k,q,hk,rfl,rfl⟩:=hrel
  have HBq:Hid (Below w.heap.size w (w1.drewN q)):=⟨HB.out.2.os,HB.out.2.tape,HB.out.2.output,HB.out.2.size,HB.out.2.block⟩
  by_cases hlt:k<N
  ·obtain rfl:=HQ.out.at_ (by rw [HN.out];omega)
   obtain⟨c0,c1,c2,c3,_⟩:=(HQ.out.below HBq.out).cell k (by rw [HN.out];exact hlt)
   generalize (qs.getD k au).kind=qk at *
   generalize (qs.getD k au).fin=qf at *
   generalize (qs.getD k au).count=qc at *
   generalize (qs.getD k au).n=qn at *
   obtain⟨wq,hwq⟩:∃ wq,w1.drewN q=wq:=⟨_,rfl⟩
   rw [hwq] at HBq c0 c1 c2 c3 ⊢
   have HE:Hid (∀ m,∃ q,wq.drewN m=w1.drewN q):=fun m=>⟨q+m,by rw [← hwq,World.drewN_drewN]⟩
   have HBm:Hid (∀ m,Below w.heap.size w (wq.drewN m)):=fun m=>⟨HBq.out.os,HBq.out.tape,HBq.out.output,HBq.out.size,HBq.out.block⟩
   clear hwq
   have g3:(0:Int)≤(k:Int):=Int.natCast_nonneg _
   have g4:(k:Int)<(N:Int):=by omega
   have hb:(qk==2)=false∨((qk==2)=true∧decide (0<qn)=false)∨((qk==2)=true∧decide (0<qn)=true∧decide (qn≤120)=false)∨((qk==2)=true∧decide (0<qn)=true∧decide (qn≤120)=true∧decide (qf≤109572)=false)∨((qk==2)=true∧decide (0<qn)=true∧decide (qn≤120)=true∧decide (qf≤109572)=true∧decide (base<qf)=false)∨((qk==2)=true∧decide (0<qn)=true∧decide (qn≤120)=true∧decide (qf≤109572)=true∧decide (base<qf)=true):=by
    cases (qk==2)<;>cases decide (0<qn)<;>cases decide (qn≤120)<;>cases decide (qf≤109572)<;>cases decide (base<qf)<;>simp
   rcases hb with b1 | ⟨b1,b2⟩| ⟨b1,b2,b3⟩| ⟨b1,b2,b3,b4⟩| ⟨b1,b2,b3,b4,b5⟩| ⟨b1,b2,b3,b4,b5⟩
   all_goals
    go_wp2_with fail
    go_quiet (fail)
    go_wp2_with fail
    all_goals first
     | (go_ret;exact⟨⟨_,rfl⟩,HBm.out _⟩)
     | (refine⟨?_,by simp [intOf];omega⟩;obtain⟨q',hq'⟩:=HE.out _;exact⟨k+1,q',by omega,by simp,hq'⟩)
  ·obtain rfl:k=N:=by omega
   have g4:decide ((k:Int)<(k:Int))=false:=decide_eq_false (by omega)
   go_wp2_with fail
   go_ret
   exact⟨⟨_,rfl⟩,HBq.out⟩
set_option maxRecDepth 20000 in
set_option maxHeartbeats 12800000 in
theorem NV (base kind W:Int) (p pq:Option Addr) (bq oq cq n c N:Nat) (qs:List Quo) (w:World) (hq:QSrc w pq bq oq qs) (hN:qs.length=N) (hk:kind≠3) (hk4:kind≠4) :
  Calls Tryz.prog 14 #[.int .i64 base,.int .i64 kind,.agg #[.int .i64 W,.slice p n c],.slice pq N cq] w fun e w'=>(∃ f,e=.returned (.bool f))∧Below w.heap.size w w':=by
 have HB:=hideS (KY w W (.slice p n c))
 have HQ:=hideS hq
 have HN:=hideS hN
 clear hq hN
 have e3:(kind==3)=false:=beq_eq_false_iff_ne.2 hk
 have e4:(kind==4)=false:=beq_eq_false_iff_ne.2 hk4
 clear hk hk4
 by_cases h1:5<N
 ·have d1:decide ((5:Int)<(N:Int))=true:=decide_eq_true (by omega)
  go_enter Tryz.func14,Tryz.ntmps14
  go_wp2_with fail
  go_ret
  exact⟨⟨_,rfl⟩,HB.out.2⟩
 have d1:decide ((5:Int)<(N:Int))=false:=decide_eq_false (by omega)
 by_cases h2:3<n
 ·have d2:decide ((3:Int)<(n:Int))=true:=decide_eq_true (by omega)
  go_enter Tryz.func14,Tryz.ntmps14
  go_wp2_with fail
  go_ret
  exact⟨⟨_,rfl⟩,HB.out.2⟩
 have d2:decide ((3:Int)<(n:Int))=false:=decide_eq_false (by omega)
 go_enter Tryz.func14,Tryz.ntmps14
 go_wp2_with fail
 clear d1 d2 h2
 obtain⟨w1,hw1⟩:∃ w1,w.alloc (.cells #[.int .i64 W,.slice p n c] 24)=w1:=⟨_,rfl⟩
 rw [hw1] at HB ⊢
 clear hw1
 go_loopw [11] (fun i wr=>∃ (k q:Nat),k≤N∧i=.int .i64 k∧wr=w1.drewN q) (fun i _=>N - (intOf i).toNat)
 case atStart=>exact⟨0,0,Nat.zero_le _,rfl,rfl⟩
 case round=>
  obtain⟨k,q,hk,rfl,rfl⟩:=hrel
  have HBq:Hid (Below w.heap.size w (w1.drewN q)):=⟨HB.out.2.os,HB.out.2.tape,HB.out.2.output,HB.out.2.size,HB.out.2.block⟩
  by_cases hlt:k<N
  ·obtain rfl:=HQ.out.at_ (by rw [HN.out];omega)
   obtain⟨c0,c1,c2,c3,_⟩:=(HQ.out.below HBq.out).cell k (by rw [HN.out];exact hlt)
   generalize (qs.getD k au).kind=qk at *
   generalize (qs.getD k au).fin=qf at *
   generalize (qs.getD k au).count=qc at *
   generalize (qs.getD k au).n=qn at *
   obtain⟨wq,hwq⟩:∃ wq,w1.drewN q=wq:=⟨_,rfl⟩
   rw [hwq] at HBq c0 c1 c2 c3 ⊢
   have HE:Hid (∀ m,∃ q,wq.drewN m=w1.drewN q):=fun m=>⟨q+m,by rw [← hwq,World.drewN_drewN]⟩
   have HBm:Hid (∀ m,Below w.heap.size w (wq.drewN m)):=fun m=>⟨HBq.out.os,HBq.out.tape,HBq.out.output,HBq.out.size,HBq.out.block⟩
   clear hwq
   have g3:(0:Int)≤(k:Int):=Int.natCast_nonneg _
   have g4:(k:Int)<(N:Int):=by omega
   have hb:(qk==2)=false∨((qk==2)=true∧decide (0<qn)=false)∨((qk==2)=true∧decide (0<qn)=true∧decide (qn≤120)=false)∨((qk==2)=true∧decide (0<qn)=true∧decide (qn≤120)=true∧decide (qf≤109572)=false)∨((qk==2)=true∧decide (0<qn)=true∧decide (qn≤120)=true∧decide (qf≤109572)=true∧decide (base<qf)=false)∨((qk==2)=true∧decide (0<qn)=true∧decide (qn≤120)=true∧decide (qf≤109572)=true∧decide (base<qf)=true):=by
    cases (qk==2)<;>cases decide (0<qn)<;>cases decide (qn≤120)<;>cases decide (qf≤109572)<;>cases decide (base<qf)<;>simp
   rcases hb with b1 | ⟨b1,b2⟩| ⟨b1,b2,b3⟩| ⟨b1,b2,b3,b4⟩| ⟨b1,b2,b3,b4,b5⟩| ⟨b1,b2,b3,b4,b5⟩
   all_goals
    go_wp2_with fail
    go_quiet (fail)
    go_wp2_with fail
    all_goals first
     | (go_ret;exact⟨⟨_,rfl⟩,HBm.out _⟩)
     | (refine⟨?_,by simp [intOf];omega⟩;obtain⟨q',hq'⟩:=HE.out _;exact⟨k+1,q',by omega,by simp,hq'⟩)
  ·obtain rfl:k=N:=by omega
   have g4:decide ((k:Int)<(k:Int))=false:=decide_eq_false (by omega)
   go_wp2_with fail
   go_ret
   exact⟨⟨_,rfl⟩,HBq.out⟩
theorem Gg (base kind W:Int) (p pq:Option Addr) (bq oq cq n c:Nat) (qs:List Quo) (w:World) (hq:QSrc w pq bq oq qs) :
  Calls Tryz.prog 14 #[.int .i64 base,.int .i64 kind,.agg #[.int .i64 W,.slice p n c],.slice pq qs.length cq] w fun e w'=>(∃ f,e=.returned (.bool f))∧Below w.heap.size w w':=by
 by_cases h3:kind=3
 ·exact NT base kind W p pq bq oq cq n c qs.length qs w hq rfl h3
 ·by_cases h4:kind=4
  ·exact NU base kind W p pq bq oq cq n c qs.length qs w hq rfl h4
  ·exact NV base kind W p pq bq oq cq n c qs.length qs w hq rfl h3 h4
end Go.Proofs.YtkooknagalgfpaaGreat
namespace Go.Proofs.YtkooknagalgfpaaGreat
open Go.RowKit

theorem Gh {base kind W:Int} {rs:List Rul} {qs:List Quo}:∀ k,(aq base kind W rs qs k).2.1≠0→(aq base kind W rs qs k).2.2<k∧aq base kind W rs qs ((aq base kind W rs qs k).2.2+1)=aq base kind W rs qs k∧∀ j≤(aq base kind W rs qs k).2.2,(aq base kind W rs qs j).2.1=0
 | 0,h=>absurd rfl h
 | k+1,h=>by
  by_cases c:(aq base kind W rs qs k).2.1=0
  ·by_cases d:(fy base kind W rs (aO qs (k+1)) (aq base kind W rs qs k).1 (qs.getD k au)).1=0
   ·rw [rN c d] at h
    exact absurd rfl h
   ·have e:=oH c d
    rw [e]
    refine⟨Nat.lt_succ_self k,e,fun j hj=>?_⟩
    have hj':j≤k:=hj
    by_cases z:(aq base kind W rs qs j).2.1=0
    ·exact z
    ·have:=lX z (k - j)
     rw [show j+(k - j)=k by omega] at this
     rw [this] at c
     exact absurd c z
  ·have e:=lX c 1
   rw [e]
   obtain⟨h1,h2,h3⟩:=Gh k c
   exact⟨by omega,h2,h3⟩
theorem lY {base kind W:Int} {rs:List Rul} {qs:List Quo} {k j:Nat} (h:(aq base kind W rs qs k).2.1=0) (hj:j≤k):(aq base kind W rs qs j).2.1=0:=by
 by_cases z:(aq base kind W rs qs j).2.1=0
 ·exact z
 ·have:=lX z (k - j)
  rw [show j+(k - j)=k by omega] at this
  rw [this] at h
  exact absurd h z
theorem wl {base kind W:Int} {rs:List Rul} {qs:List Quo} {n:Nat}:∀ d,(aq base kind W rs qs (n+d)).2.1=0→(aq base kind W rs qs n).1.length=n→((aq base kind W rs qs (n+d)).1.length=n+d∧∀ i<n,(aq base kind W rs qs (n+d)).1.getD i 0=(aq base kind W rs qs n).1.getD i 0)
 | 0,_,hl=>⟨hl,fun _ _=>rfl⟩
 | d+1,h,hl=>by
  have h0:=lY (k:=n+(d+1)) (j:=n+d) h (by omega)
  obtain⟨l1,l2⟩:=wl d h0 hl
  by_cases c:(fy base kind W rs (aO qs (n+d+1)) (aq base kind W rs qs (n+d)).1 (qs.getD (n+d) au)).1=0
  ·have e:=rN h0 c
   rw [show n+(d+1)=n+d+1 by omega,e]
   refine⟨by dsimp only;rw [aI,l1],fun i hi=>?_⟩
   dsimp only
   rw [du _ _ (by omega)]
   exact l2 i hi
  ·have e:=oH h0 c
   rw [show n+(d+1)=n+d+1 by omega,e] at h
   exact absurd h c
end Go.Proofs.YtkooknagalgfpaaGreat
namespace Go.Proofs.YtkooknagalgfpaaGreat
open Go.RowKit

structure CBq (w:World) (W:Int) (v:Value) (wr:World):Prop where
 k0:wr.cell? ⟨w.heap.size,0,none⟩=some (.int .i64 W)
 k1:wr.cell? ⟨w.heap.size,1,none⟩=some v
 bl:Below w.heap.size w wr
 lt:w.heap.size<wr.heap.size
theorem KZ (w:World) (W:Int) (v:Value):CBq w W v (w.alloc (.cells #[.int .i64 W,v] 24)):=⟨by simp,by simp,(Below.refl _ _).alloc (Nat.le_refl _) _,by simp⟩
theorem CBq.step {w wr w':World} {W:Int} {v:Value} (h:CBq w W v wr) (hb:Below wr.heap.size wr w'):CBq w W v w':=
 ⟨(hb.cell (p:=⟨w.heap.size,0,none⟩) h.lt).trans h.k0,(hb.cell (p:=⟨w.heap.size,1,none⟩) h.lt).trans h.k1,h.bl.trans (hb.mono h.bl.size),Nat.lt_of_lt_of_le h.lt hb.size⟩
structure Z4 (X:Nat) (w:World):Prop where
 c0:w.cell? ⟨X,0,none⟩=some (.int .i64 0)
 c1:w.cell? ⟨X,1,none⟩=some (.int .i64 0)
 c2:w.cell? ⟨X,2,none⟩=some (.slice none 0 0)
 c3:w.cell? ⟨X,3,none⟩=some (.slice none 0 0)
 fz:∀ i,w.frozen? ⟨X,i,none⟩=false
 lt:X<w.heap.size
theorem Ol (w:World):Z4 w.heap.size (w.alloc (.cells #[.int .i64 0,.int .i64 0,.slice none 0 0,.slice none 0 0] 35)):=⟨by simp,by simp,by simp,by simp,fun i=>World.frozen?_alloc_new _ _ _ _,by simp⟩
theorem Z4.below {X:Nat} {w w':World} (h:Z4 X w) (hb:Below w.heap.size w w'):Z4 X w':=
 ⟨(hb.cell (p:=⟨X,0,none⟩) h.lt).trans h.c0,(hb.cell (p:=⟨X,1,none⟩) h.lt).trans h.c1,(hb.cell (p:=⟨X,2,none⟩) h.lt).trans h.c2,(hb.cell (p:=⟨X,3,none⟩) h.lt).trans h.c3,fun i=>(hb.frozen (p:=⟨X,i,none⟩) h.lt).trans (h.fz i),Nat.lt_of_lt_of_le h.lt hb.size⟩
structure V4 (X:Nat) (x0 x1:Int) (v1 v2:Value) (w:World):Prop where
 t0:w.cell? ⟨X,0,none⟩=some (.int .i64 x0)
 t1:w.cell? ⟨X,1,none⟩=some (.int .i64 x1)
 t2:w.cell? ⟨X,2,none⟩=some v1
 t3:w.cell? ⟨X,3,none⟩=some v2
theorem V4.via {X:Nat} {x0 x1:Int} {v1 v2:Value} {w w':World} (h:V4 X x0 x1 v1 v2 w) (hc:∀ j,w'.cell? ⟨X,j,none⟩=w.cell? ⟨X,j,none⟩):V4 X x0 x1 v1 v2 w':=⟨(hc 0).trans h.t0,(hc 1).trans h.t1,(hc 2).trans h.t2,(hc 3).trans h.t3⟩
theorem V4.below {X:Nat} {x0 x1:Int} {v1 v2:Value} {w w':World} (h:V4 X x0 x1 v1 v2 w) (hb:Below w.heap.size w w'):V4 X x0 x1 v1 v2 w':=h.via (fun j=>hb.cell (p:=⟨X,j,none⟩) (dO h.t0))
def lZ (w:World) (X:Nat) (x0 x1:Int) (v1 v2:Value):World:=(((w.setCell ⟨X,0,none⟩ (.int .i64 x0)).setCell ⟨X,1,none⟩ (.int .i64 x1)).setCell ⟨X,2,none⟩ v1).setCell ⟨X,3,none⟩ v2
theorem La {w:World} {X:Nat} (x0 x1:Int) (v1 v2:Value) (h:Z4 X w):V4 X x0 x1 v1 v2 (lZ w X x0 x1 v1 v2):=by
 unfold lZ
 refine⟨?_,?_,?_,?_⟩
 ·simp [h.c0,go_sem]
 ·simp [h.c1,go_sem]
 ·simp [h.c2,go_sem]
 ·simp [h.c3,go_sem]
theorem ue {w:World} {X B:Nat} (x0 x1:Int) (v1 v2:Value) (h:B≤X):Below B w (lZ w X x0 x1 v1 v2):=((((Below.refl B w).setCell (p:=⟨X,0,none⟩) h _).setCell (p:=⟨X,1,none⟩) h _).setCell (p:=⟨X,2,none⟩) h _).setCell (p:=⟨X,3,none⟩) h _
theorem dU {B:Nat} {w w1:World} (hb:Below B w w1) (q:Nat):Below B w (w1.drewN q):=⟨hb.os,hb.tape,hb.output,hb.size,hb.block⟩

end Go.Proofs.YtkooknagalgfpaaGreat
namespace Go.Proofs.YtkooknagalgfpaaGreat
open Go.RowKit

noncomputable def wt (base kind W:Int) (rs:List Rul) (ds:List Int) (fs:List Nat) (q:Quo) (L:List Int) (n:Nat):Option Nat:=mM q.kind ⟨0,0⟩ (fun j=>(aP W rs q L j).am) (fun j=>facV base kind ds fs (aP W rs q L j).day) n (facV base kind ds fs q.fin)
theorem zV (a:A.St) (am fa:Nat→Nat) (M:Nat):∀ d,cT a am fa (M+d)=cT (cT a am fa M) (fun j=>am (M+j)) (fun j=>fa (M+j)) d
 | 0=>rfl
 | d+1=>by
  show (cT a am fa (M+d)).merge _=(cT (cT a am fa M) (fun j=>am (M+j)) (fun j=>fa (M+j)) d).merge _
  rw [zV a am fa M d]
  rfl
theorem rO {a:A.St} {am fa fb:Nat→Nat}:∀ n,(∀ j<n,fa j=fb j)→cT a am fa n=cT a am fb n
 | 0,_=>rfl
 | n+1,h=>by
  show (cT a am fa n).merge _=(cT a am fb n).merge _
  rw [rO n (fun j hj=>h j (by omega)),h n (by omega)]
theorem Lb {base kind W:Int} {rs:List Rul} {ds:List Int} {fs:List Nat} {q:Quo} {L:List Int} {n M a:Nat} (hF:CutF base q n L) (hM:SetM (ks base kind ds) (fun j=>L.getD (j+1) 0) n M) (okA:OkV base kind ds (fs++[a])) (okO:OkV base kind ds (fs++[4607182418800017408])):iZ base kind W rs ds fs q L n M a=wt base kind W rs ds (fs++[a]) q L n:=by
 have hlt:=hM.lt
 unfold iZ wt
 have e1:cT ⟨0,0⟩ (fun j=>(aP W rs q L j).am) (fun j=>facV base kind ds (fs++[4607182418800017408]) (aP W rs q L j).day) M=cT ⟨0,0⟩ (fun j=>(aP W rs q L j).am) (fun j=>facV base kind ds (fs++[a]) (aP W rs q L j).day) M:=rO M (fun j hj=>Gc okO okA (hF.in_ (i:=j+1) (by omega)).1 (hM.le j hj))
 rw [e1]
 by_cases hk:q.kind=1
 ·rw [hk]
  obtain⟨d,hd⟩:∃ d,n - M=d+1:=⟨n - M - 1,by omega⟩
  obtain⟨m,hm⟩:∃ m,n=m+1:=⟨n - 1,by omega⟩
  rw [hd,hm,lS,lS,show M+d=m by omega]
 ·rw [mO hk,mO hk]
  have e2:=zV ⟨0,0⟩ (fun j=>(aP W rs q L j).am) (fun j=>facV base kind ds (fs++[a]) (aP W rs q L j).day) M (n - M)
  rw [show M+(n - M)=n by omega] at e2
  rw [e2]
end Go.Proofs.YtkooknagalgfpaaGreat
namespace Go.Proofs.YtkooknagalgfpaaGreat
open Go.RowKit

theorem NW (w:World) (q:Quo):QSrc (w.alloc (.cells #[.int .i64 q.kind,.int .i64 q.fin,.int .i64 q.count,.int .i64 q.n,.float .f32 q.rate] 45)) (some ⟨w.heap.size,0,none⟩) w.heap.size 0 [q]:=by
 have h:=rD w q
 refine⟨fun _=>rfl,fun _=>h.lt,fun i hi=>?_⟩
 obtain rfl:i=0:=by simpa using hi
 exact⟨h.t0,h.t1,h.t2,h.t3,h.t4⟩
theorem Gi {base kind:Int} {q:Quo} (ok:OkQ base q) (b1:base≤109572) (k1:1≤kind) (k4:kind≤4):Chk13 base kind 0 [q] 0 0:=.quo ok.b0 b1 k1 k4 rfl (by simp) (by simp) 0 0 (.fine fun i hi=>by
 obtain rfl:i=0:=by simpa using hi
 exact CC ok)

set_option maxRecDepth 20000 in
set_option maxHeartbeats 6400000 in
theorem Ci {base kind W:Int} {q:Quo} {rs:List Rul} {ds:List Int} {fs:List Nat} {L:List Int} {n:Nat} (ok:OkQ base q) (hC:OkC W rs) (hc:CutR base q 0 L) (hF:CutF base q n L) (okv:OkV base kind ds fs) (hlast:q.fin≤ds.getD (ds.length - 1) 0) (p pd pf:Option Addr) (b off c bd od cd b2 o2 cf:Nat) (w:World) (hs:RSrc w p b off rs) (ht:TFl w pd pf bd od b2 o2 ds fs) :
  Calls Tryz.prog 15 #[.agg #[.int .i64 base,.int .i64 kind,.slice pd ds.length cd,.slice pf fs.length cf],.agg #[.int .i64 W,.slice p rs.length c],.agg #[.int .i64 q.kind,.int .i64 q.fin,.int .i64 q.count,.int .i64 q.n,.float .f32 q.rate]] w fun e w'=>∃ x,e=.returned (.tuple #[.float .f64 x,.int .i64 0])∧AgU (wt base kind W rs ds fs q L n) x∧Below w.heap.size w w':=by
 have H0:=hideS (vW w base kind W (.slice pd ds.length cd) (.slice pf fs.length cf) (.slice p rs.length c) q)
 have H1:=hideS fun wx hb=>im base kind pd pf bd od cd b2 o2 cf ds fs wx (ht.below (hb:Below w.heap.size w wx)) (.ok okv)
 have H2:=hideS fun (wx:World) (hb:Below w.heap.size w wx)=>kt base kind W 0 0 0 0 p (some ⟨wx.heap.size,0,none⟩) b off c wx.heap.size 0 1 rs [q] _ (.ok hC) ((hs.below hb).below ((Below.refl _ wx).alloc (Nat.le_refl _) _)) (by have:=hC.len;omega) (NW wx q) (Gi ok okv.b1 okv.k1 okv.k4)
 have H3:=hideS fun wx hb=>zH ok hc hF p b off c rs wx hC (hs.below (hb:Below w.heap.size w wx))
 have hin:∀ j<n,ss base kind ds fs (aP W rs q L j).day=0:=fun j hj=>by
  obtain⟨i1,i2⟩:=hF.in_ (i:=j+1) (by omega)
  exact vN okv i1 (Int.le_trans i2 hlast)
 have hfo:∀ j<n,FacO base kind ds fs (aP W rs q L j).day (facV base kind ds fs (aP W rs q L j).day) 0:=fun j hj=>by
  have:=fH base kind ds fs (aP W rs q L j).day
  rw [hin j hj] at this
  exact this
 have hfu:∀ j<n,facV base kind ds fs (aP W rs q L j).day<18446744073709551616∧(aP W rs q L j).am<18446744073709551616:=fun j hj=>⟨(rq okv ht.f (hin j hj)).1,BV W rs ok.fn (hF.day j (by omega)) (hF.day (j+1) (by omega))⟩
 obtain⟨m,hm⟩:∃ m,n=m+1:=⟨n - 1,by have:=hF.lo;omega⟩
 have hlst:(aP W rs q L m).day=q.fin:=by
  show L.getD (m+1) 0=q.fin
  rw [← hm,hF.lst]
 have hn2:=hF.hi
 subst hm
 have H4:=hideS fun (w0 w1:World) (g cl s L':Nat) (v:Value) (hb0:Below w.heap.size w w0) (hti:TSrcI w0 (some ⟨g,0,none⟩) g 0 (m+1) (aP W rs q L)) (hr:A.Run w0 w1 s v L' ⟨0,0⟩) (hL:L'≤20000)=>rG base kind q.kind pd pf bd od cd b2 o2 cf g 0 cl m s L' (facV base kind ds fs q.fin) ds fs (aP W rs q L) (fun j=>facV base kind ds fs (aP W rs q L j).day) v ⟨0,0⟩ w0 w1 (ht.below hb0) hti hr hL (by omega) hfo (by rw [← hlst];exact hfo m (by omega)) hfu (by rw [← hlst];exact (hfu m (by omega)).1)
 have HR:Hid (wt base kind W rs ds fs q L (m+1)=mM q.kind ⟨0,0⟩ (fun j=>(aP W rs q L j).am) (fun j=>facV base kind ds fs (aP W rs q L j).day) (m+1) (facV base kind ds fs q.fin)):=rfl
 rw [HR.out]
 clear ok hC hc hF okv hlast hs ht hin hfo hfu hlst HR
 generalize mM q.kind ⟨0,0⟩ (fun j=>(aP W rs q L j).am) (fun j=>facV base kind ds fs (aP W rs q L j).day) (m+1) (facV base kind ds fs q.fin)=R at *
 go_enter Tryz.func15,Tryz.ntmps15
 go_wp2_with fail
 refine (H1.out _ H0.out.bl).mono ?_
 rintro e w1 ⟨rfl,hb⟩
 have B1:=hideS (H0.out.stay hb H0.out.lt)
 have c0:=B1.out.c0
 have c1:=B1.out.c1
 have k0:=B1.out.k0
 have k1:=B1.out.k1
 have t0:=B1.out.t0
 have t1:=B1.out.t1
 have t2:=B1.out.t2
 have t3:=B1.out.t3
 have t4:=B1.out.t4
 have HA1:=hideS ((Below.refl _ w1).alloc (Nat.le_refl _) (.cells #[.int .i64 q.kind,.int .i64 q.fin,.int .i64 q.count,.int .i64 q.n,.float .f32 q.rate] 45))
 clear hb H1 H0
 go_wp2_with fail
 refine (H2.out _ B1.out.bl).mono ?_
 rintro e w2 ⟨rfl,hb⟩
 have B2:=hideS ((B1.out.stay HA1.out B1.out.lt).stay hb (Nat.lt_of_lt_of_le B1.out.lt HA1.out.size))
 clear hb H2 HA1 B1 c0 c1 k0 k1 t0 t1 t2 t3 t4
 have c0:=B2.out.c0
 have k0:=B2.out.k0
 have k1:=B2.out.k1
 have t0:=B2.out.t0
 have t1:=B2.out.t1
 have t2:=B2.out.t2
 have t3:=B2.out.t3
 have t4:=B2.out.t4
 go_wp2_with fail
 refine (H3.out _ B2.out.bl).mono ?_
 rintro e w3 ⟨g,cl,rfl,hti,hcl,hcm,hg,hb⟩
 have B3:=hideS (B2.out.stay hb B2.out.lt)
 have HTI:=hideS hti
 clear hb H3 B2 c0 k0 k1 t0 t1 t2 t3 t4 hti
 have c0:=B3.out.c0
 have c1:=B3.out.c1
 have c2:=B3.out.c2
 have c3:=B3.out.c3
 have t0:=B3.out.t0
 have HNw:=hideS (A.ov (w3.drewN 1) w3.heap.size (Nat.le_refl _))
 go_wp2_with fail
 go_region_held3 (fun w'=>w'.cell? ⟨w.heap.size,0,none⟩=some (.int .i64 base)∧w'.cell? ⟨w.heap.size,1,none⟩=some (.int .i64 kind)∧w'.cell? ⟨w.heap.size,2,none⟩=some (.slice pd ds.length cd)∧w'.cell? ⟨w.heap.size,3,none⟩=some (.slice pf fs.length cf)∧w'.cell? ⟨w.heap.size+1+1,0,none⟩=some (.int .i64 q.kind))
  (first | exact⟨B5.out.c0,B5.out.c1,B5.out.c2,B5.out.c3,B5.out.t0⟩| exact⟨B4.out.c0,B4.out.c1,B4.out.c2,B4.out.c3,B4.out.t0⟩| go_keep)
  (first
   | (go_at_call 31;refine HNw.out.mono ?_;rintro e w4 ⟨rfl,ha4,hb4⟩;have HB4:Hid (Below w3.heap.size w3 w4):=⟨hb4.os,hb4.tape,hb4.output,hb4.size,hb4.block⟩;have B4:=hideS (B3.out.stay HB4.out B3.out.lt);have HR4:Hid (A.Run w3 w4 (w3.drewN 1).heap.size (.slice none 0 0) 0 ⟨0,0⟩):=⟨ha4,HB4.out⟩;clear ha4 hb4)
   | (go_at_call 30;refine (H4.out w3 _ g cl _ 0 _ B3.out.bl HTI.out HR4.out (by omega)).mono ?_;rintro e w5 ⟨y,rfl,hy,hb5⟩;have HY:=hideS hy;have HB5:=hideS hb5;have B5:=hideS (B3.out.stay hb5 B3.out.lt);clear hy hb5))
 all_goals
  go_wp2_with fail
  go_ret2
  exact⟨y,rfl,HY.out,B5.out.bl⟩
end Go.Proofs.YtkooknagalgfpaaGreat
namespace Go.Proofs.YtkooknagalgfpaaGreat
open Go.RowKit

theorem PV {a b:Nat} {r:Int} (g:Gd a r) (g':Gd b r) (h0:0<r) (h1:r<9218868437227405312):a=b:=by
 have e:=(io g h0 h1).1
 have e':=(io g' h0 h1).1
 omega
theorem Cj {F:Nat→Option Int} {X N:Nat} (h:gz F 4472074429978902528 4652218415073722368=(X,N,0)):∃ x:Int,Gd X x∧4472074429978902528≤x∧x≤4652218415073722368∧(F X=some 0∨∃ v,F X=some v∧v≠0∧x+1≤4652218415073722368∧∀ c,Gd c (x+1)→∃ z,F c=some z∧z≠0∧¬ upB z=upB v):=by
 have r1:aa ((4472074429978902528:Nat):Int)=4472074429978902528:=by decide
 have r2:aa ((4652218415073722368:Nat):Int)=4652218415073722368:=by decide
 have gl:Gd 4472074429978902528 4472074429978902528:=⟨by unfold U64;omega,by decide,r1⟩
 have gh:Gd 4652218415073722368 4652218415073722368:=⟨by unfold U64;omega,by decide,r2⟩
 cases ha:F 4472074429978902528 with
 | none=>rw [vL ha] at h;injection h with _ h;injection h with _ h;cases h
 | some a=>
  cases hb:F 4652218415073722368 with
  | none=>rw [rp ha hb] at h;injection h with _ h;injection h with _ h;cases h
  | some b=>
   rw [jz ha hb] at h
   by_cases a0:a=0
   ·rw [if_pos a0] at h;injection h with h _;subst h;exact⟨_,gl,by omega,by omega,Or.inl (by rw [ha,a0])⟩
   rw [if_neg a0] at h
   by_cases c0:b=0
   ·rw [if_pos c0] at h;injection h with h _;subst h;exact⟨_,gh,by omega,by omega,Or.inl (by rw [hb,c0])⟩
   rw [if_neg c0] at h
   by_cases hu:upB a=upB b
   ·rw [if_pos hu] at h;injection h with _ h;injection h with _ h;cases h
   ·rw [if_neg hu] at h
    injection h with e1 e2
    injection e2 with e2 e3
    have hz:=mL F (upB a) 64 4472074429978902528 4652218415073722368 _ _ gl gh (by omega) (by decide) ⟨a,ha,a0,rfl⟩ ⟨b,hb,c0,fun c=>hu c.symm⟩
    rw [e1,e3] at hz
    rcases hz.2 with⟨z1,_⟩| ⟨_,x,gx,x1,x2,z2⟩
    ·cases z1
    ·refine⟨x,gx,x1,x2,?_⟩
     rcases z2 with z2 | ⟨v,c,z,p1,p2,p3,p4,p5,p6,p7,p8⟩
     ·exact Or.inl z2
     ·exact Or.inr ⟨v,p1,p2,p5,fun d hd=>⟨z,by rw [PV hd p4 (by omega) (by omega)];exact p6,p7,by rw [p3];exact p8⟩⟩
theorem Gj {base kind W:Int} {rs:List Rul} {ds:List Int} {fs:List Nat} {q:Quo} {X:Nat} (h:MetR base kind W rs ds fs q 0 X) (hOk:∀ a:Nat,cL a=true→OkV base kind ds (fs++[a])):∃ L n,CutR base q 0 L∧CutF base q n L∧∃ x:Int,Gd X x∧4472074429978902528≤x∧x≤4652218415073722368∧((wt base kind W rs ds (fs++[X]) q L n).bind rkO=some 0∨∃ v,(wt base kind W rs ds (fs++[X]) q L n).bind rkO=some v∧v≠0∧x+1≤4652218415073722368∧∀ c,Gd c (x+1)→∃ z,(wt base kind W rs ds (fs++[c]) q L n).bind rkO=some z∧z≠0∧¬ upB z=upB v):=by
 generalize hz:(0:Int)=y at h
 cases h with
 | cut E L h hE=>exact absurd hz.symm hE
 | root L n M X N E hc hF hM hV=>
  subst hz
  obtain⟨x,gx,x1,x2,h3⟩:=Cj hV
  have okO:=hOk 4607182418800017408 (by decide)
  have key:∀ {c:Nat} {r:Int},Gd c r→0<r→r<9218868437227405312→iZ base kind W rs ds fs q L n M c=wt base kind W rs ds (fs++[c]) q L n:=fun g g0 g1=>Lb hF hM (hOk _ (io g g0 g1).2) okO
  refine⟨L,n,hc,hF,x,gx,x1,x2,?_⟩
  rw [← key gx (by omega) (by omega)]
  rcases h3 with h3 | ⟨v,p1,p2,p3,p4⟩
  ·exact Or.inl h3
  ·refine Or.inr ⟨v,p1,p2,p3,fun c hc'=>?_⟩
   rw [← key hc' (by omega) (by omega)]
   exact p4 c hc'
theorem Lc {base kind W:Int} {rs:List Rul} {qs:List Quo} {N:Nat} (b0:0≤base) (b1:base≤109572) (k1:1≤kind) (k4:kind≤4) (hN:N≤64) (hf:∀ i<N,dw (qs.getD i au) (dV base qs i)=0) (hz:(aq base kind W rs qs N).2.1=0) {i:Nat} (hi:i<N):∃ X,(aq base kind W rs qs (i+1)).1=(aq base kind W rs qs i).1++[X]∧(aq base kind W rs qs N).1.getD i 0=X∧MetR base kind W rs (aO qs (i+1)) (aq base kind W rs qs i).1 (qs.getD i au) 0 X∧(∀ a:Nat,cL a=true→OkV base kind (aO qs (i+1)) ((aq base kind W rs qs i).1++[a])):=by
 have z0:=lY hz (show i≤N by omega)
 have z1:=lY hz (show i+1≤N by omega)
 obtain⟨l0,f0⟩:=jD (W:=W) (rs:=rs) b0 b1 k1 k4 hN hf i (by omega) z0
 obtain⟨l1,_⟩:=jD (W:=W) (rs:=rs) b0 b1 k1 k4 hN hf (i+1) (by omega) z1
 have okv:=fun a ha=>lW (a:=a) b0 b1 k1 k4 hN hf hi l0 (fun j hj=>(f0 j hj).1) ha
 have hm:=oE (W:=W) (rs:=rs) (fs:=(aq base kind W rs qs i).1) (oG b0 hf hi) (wc (okv 4607182418800017408 (by decide)))
 by_cases c:(fy base kind W rs (aO qs (i+1)) (aq base kind W rs qs i).1 (qs.getD i au)).1=0
 ·have e:=rN z0 c
  rw [c] at hm
  obtain⟨d,hd⟩:∃ d,N=i+1+d:=⟨N - (i+1),by omega⟩
  have hp:=wl (base:=base) (kind:=kind) (W:=W) (rs:=rs) (qs:=qs) (n:=i+1) d (by rw [← hd];exact hz) l1
  rw [← hd] at hp
  refine⟨_,by rw [e],?_,hm,okv⟩
  rw [hp.2 i (by omega),e]
  have hl:i=(aq base kind W rs qs i).1.length:=l0.symm
  dsimp only
  rw [show ((aq base kind W rs qs i).1++[(fy base kind W rs (aO qs (i+1)) (aq base kind W rs qs i).1 (qs.getD i au)).2]).getD i 0=((aq base kind W rs qs i).1++[(fy base kind W rs (aO qs (i+1)) (aq base kind W rs qs i).1 (qs.getD i au)).2]).getD (aq base kind W rs qs i).1.length 0 by rw [l0],last_at]
 ·rw [oH z0 c] at z1
  exact absurd z1 c
end Go.Proofs.YtkooknagalgfpaaGreat
