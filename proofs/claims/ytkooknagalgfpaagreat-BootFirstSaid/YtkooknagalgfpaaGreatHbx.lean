/-  -/
import Derived.Test.YtkooknagalgfpaaGreatHbw
import Derived.Test.YtkooknagalgfpaaGreatHay
import Derived.Deep.RegionHeld3
namespace Go.Proofs.YtkooknagalgfpaaGreat
open Go.RowKit

theorem Kw (w:World) (W:Int) (v:Value):(w.alloc (.cells #[.int .i64 W,v] 24)).cell? ⟨w.heap.size,1,none⟩=some v∧Below w.heap.size w (w.alloc (.cells #[.int .i64 W,v] 24)):=⟨by simp,(Below.refl _ _).alloc (Nat.le_refl _) _⟩
set_option maxRecDepth 20000 in
set_option maxHeartbeats 12800000 in
theorem Nq (base kind W:Int) (p pq:Option Addr) (bq oq cq n c N:Nat) (qs:List Quo) (w:World) (hq:QSrc w pq bq oq qs) (hN:qs.length=N) (hk:kind=3) :
  Calls Tryz.prog 14 #[.int .i64 base,.int .i64 kind,.agg #[.int .i64 W,.slice p n c],.slice pq N cq] w fun e w'=>(∃ f,e=.returned (.bool f))∧Below w.heap.size w w':=by
 have HB:=hideS (Kw w W (.slice p n c))
 have HQ:=hideS hq
 have HN:=hideS hN
 clear hq hN
 subst hk
 by_cases h1:3<N
 ·have d1:decide ((3:Int)<(N:Int))=true:=decide_eq_true (by omega)
  go_enter Tryz.func14,Tryz.ntmps14
  go_wp2_with fail
  go_ret
  exact⟨⟨_,rfl⟩,HB.out.2⟩
 have d1:decide ((3:Int)<(N:Int))=false:=decide_eq_false (by omega)
 by_cases h2:3<n
 ·have d2:decide ((3:Int)<(n:Int))=true:=decide_eq_true (by omega)
  go_enter Tryz.func14,Tryz.ntmps14
  go_wp2_with fail
  go_ret
  exact⟨⟨_,rfl⟩,HB.out.2⟩
 have d2:decide ((3:Int)<(n:Int))=false:=decide_eq_false (by omega)
 go_enter Tryz.func14,Tryz.ntmps14
 go_wp2_with fail
 clear d1 d2 h2
 obtain⟨w1,hw1⟩:∃ w1,w.alloc (.cells #[.int .i64 W,.slice p n c] 24)=w1:=⟨_,rfl⟩
 rw [hw1] at HB ⊢
 clear hw1
 go_loopw [11] (fun i wr=>∃ (k q:Nat),k≤N∧i=.int .i64 k∧wr=w1.drewN q) (fun i _=>N - (intOf i).toNat)
 case atStart=>exact⟨0,0,Nat.zero_le _,rfl,rfl⟩
 case round=>
  obtain⟨k,q,hk,rfl,rfl⟩:=hrel
  have HBq:Hid (Below w.heap.size w (w1.drewN q)):=⟨HB.out.2.os,HB.out.2.tape,HB.out.2.output,HB.out.2.size,HB.out.2.block⟩
  by_cases hlt:k<N
  ·obtain rfl:=HQ.out.at_ (by rw [HN.out];omega)
   obtain⟨c0,c1,c2,c3,_⟩:=(HQ.out.below HBq.out).cell k (by rw [HN.out];exact hlt)
   generalize (qs.getD k aB).kind=qk at *
   generalize (qs.getD k aB).fin=qf at *
   generalize (qs.getD k aB).count=qc at *
   generalize (qs.getD k aB).n=qn at *
   obtain⟨wq,hwq⟩:∃ wq,w1.drewN q=wq:=⟨_,rfl⟩
   rw [hwq] at HBq c0 c1 c2 c3 ⊢
   have HE:Hid (∀ m,∃ q,wq.drewN m=w1.drewN q):=fun m=>⟨q+m,by rw [← hwq,World.drewN_drewN]⟩
   have HBm:Hid (∀ m,Below w.heap.size w (wq.drewN m)):=fun m=>⟨HBq.out.os,HBq.out.tape,HBq.out.output,HBq.out.size,HBq.out.block⟩
   clear hwq
   have g3:(0:Int)≤(k:Int):=Int.natCast_nonneg _
   have g4:(k:Int)<(N:Int):=by omega
   have hb:(qk==2)=false∨((qk==2)=true∧decide (0<qn)=false)∨((qk==2)=true∧decide (0<qn)=true∧decide (qn≤120)=false)∨((qk==2)=true∧decide (0<qn)=true∧decide (qn≤120)=true∧decide (qf≤109572)=false)∨((qk==2)=true∧decide (0<qn)=true∧decide (qn≤120)=true∧decide (qf≤109572)=true∧decide (base<qf)=false)∨((qk==2)=true∧decide (0<qn)=true∧decide (qn≤120)=true∧decide (qf≤109572)=true∧decide (base<qf)=true):=by
    cases (qk==2)<;>cases decide (0<qn)<;>cases decide (qn≤120)<;>cases decide (qf≤109572)<;>cases decide (base<qf)<;>simp
   rcases hb with b1 | ⟨b1,b2⟩| ⟨b1,b2,b3⟩| ⟨b1,b2,b3,b4⟩| ⟨b1,b2,b3,b4,b5⟩| ⟨b1,b2,b3,b4,b5⟩
   all_goals
    go_wp2_with fail
    go_quiet (fail)
    go_wp2_with fail
    all_goals first
     | (go_ret;exact⟨⟨_,rfl⟩,HBm.out _⟩)
     | (refine⟨?_,by simp [intOf];omega⟩;obtain⟨q',hq'⟩:=HE.out _;exact⟨k+1,q',by omega,by simp,hq'⟩)
  ·obtain rfl:k=N:=by omega
   have g4:decide ((k:Int)<(k:Int))=false:=decide_eq_false (by omega)
   go_wp2_with fail
   go_ret
   exact⟨⟨_,rfl⟩,HBq.out⟩
set_option maxRecDepth 20000 in
set_option maxHeartbeats 12800000 in
theorem Nr (base kind W:Int) (p pq:Option Addr) (bq oq cq n c N:Nat) (qs:List Quo) (w:World) (hq:QSrc w pq bq oq qs) (hN:qs.length=N) (hk:kind=4) :
  Calls Tryz.prog 14 #[.int .i64 base,.int .i64 kind,.agg #[.int .i64 W,.slice p n c],.slice pq N cq] w fun e w'=>(∃ f,e=.returned (.bool f))∧Below w.heap.size w w':=by
 have HB:=hideS (Kw w W (.slice p n c))
 have HQ:=hideS hq
 have HN:=hideS hN
 clear hq hN
 subst hk
 by_cases h1:3<N
 ·have d1:decide ((3:Int)<(N:Int))=true:=decide_eq_true (by omega)
  go_enter Tryz.func14,Tryz.ntmps14
  go_wp2_with fail
  go_ret
  exact⟨⟨_,rfl⟩,HB.out.2⟩
 have d1:decide ((3:Int)<(N:Int))=false:=decide_eq_false (by omega)
 by_cases h2:3<n
 ·have d2:decide ((3:Int)<(n:Int))=true:=decide_eq_true (by omega)
  go_enter Tryz.func14,Tryz.ntmps14
  go_wp2_with fail
  go_ret
  exact⟨⟨_,rfl⟩,HB.out.2⟩
 have d2:decide ((3:Int)<(n:Int))=false:=decide_eq_false (by omega)
 go_enter Tryz.func14,Tryz.ntmps14
 go_wp2_with fail
 clear d1 d2 h2
 obtain⟨w1,hw1⟩:∃ w1,w.alloc (.cells #[.int .i64 W,.slice p n c] 24)=w1:=⟨_,rfl⟩
 rw [hw1] at HB ⊢
 clear hw1
 go_loopw [11] (fun i wr=>∃ (k q:Nat),k≤N∧i=.int .i64 k∧wr=w1.drewN q) (fun i _=>N - (intOf i).toNat)
 case atStart=>exact⟨0,0,Nat.zero_le _,rfl,rfl⟩
 case round=>
  obtain⟨k,q,hk,rfl,rfl⟩:=hrel
  have HBq:Hid (Below w.heap.size w (w1.drewN q)):=⟨HB.out.2.os,HB.out.2.tape,HB.out.2.output,HB.out.2.size,HB.out.2.block⟩
  by_cases hlt:k<N
  ·obtain rfl:=HQ.out.at_ (by rw [HN.out];omega)
   obtain⟨c0,c1,c2,c3,_⟩:=(HQ.out.below HBq.out).cell k (by rw [HN.out];exact hlt)
   generalize (qs.getD k aB).kind=qk at *
   generalize (qs.getD k aB).fin=qf at *
   generalize (qs.getD k aB).count=qc at *
   generalize (qs.getD k aB).n=qn at *
   obtain⟨wq,hwq⟩:∃ wq,w1.drewN q=wq:=⟨_,rfl⟩
   rw [hwq] at HBq c0 c1 c2 c3 ⊢
   have HE:Hid (∀ m,∃ q,wq.drewN m=w1.drewN q):=fun m=>⟨q+m,by rw [← hwq,World.drewN_drewN]⟩
   have HBm:Hid (∀ m,Below w.heap.size w (wq.drewN m)):=fun m=>⟨HBq.out.os,HBq.out.tape,HBq.out.output,HBq.out.size,HBq.out.block⟩
   clear hwq
   have g3:(0:Int)≤(k:Int):=Int.natCast_nonneg _
   have g4:(k:Int)<(N:Int):=by omega
   have hb:(qk==2)=false∨((qk==2)=true∧decide (0<qn)=false)∨((qk==2)=true∧decide (0<qn)=true∧decide (qn≤120)=false)∨((qk==2)=true∧decide (0<qn)=true∧decide (qn≤120)=true∧decide (qf≤109572)=false)∨((qk==2)=true∧decide (0<qn)=true∧decide (qn≤120)=true∧decide (qf≤109572)=true∧decide (base<qf)=false)∨((qk==2)=true∧decide (0<qn)=true∧decide (qn≤120)=true∧decide (qf≤109572)=true∧decide (base<qf)=true):=by
    cases (qk==2)<;>cases decide (0<qn)<;>cases decide (qn≤120)<;>cases decide (qf≤109572)<;>cases decide (base<qf)<;>simp
   rcases hb with b1 | ⟨b1,b2⟩| ⟨b1,b2,b3⟩| ⟨b1,b2,b3,b4⟩| ⟨b1,b2,b3,b4,b5⟩| ⟨b1,b2,b3,b4,b5⟩
   all_goals
    go_wp2_with fail
    go_quiet (fail)
    go_wp2_with fail
    all_goals first
     | (go_ret;exact⟨⟨_,rfl⟩,HBm.out _⟩)
     | (refine⟨?_,by simp [intOf];omega⟩;obtain⟨q',hq'⟩:=HE.out _;exact⟨k+1,q',by omega,by simp,hq'⟩)
  ·obtain rfl:k=N:=by omega
   have g4:decide ((k:Int)<(k:Int))=false:=decide_eq_false (by omega)
   go_wp2_with fail
   go_ret
   exact⟨⟨_,rfl⟩,HBq.out⟩
set_option maxRecDepth 20000 in
set_option maxHeartbeats 12800000 in
theorem Ns (base kind W:Int) (p pq:Option Addr) (bq oq cq n c N:Nat) (qs:List Quo) (w:World) (hq:QSrc w pq bq oq qs) (hN:qs.length=N) (hk:kind≠3) (hk4:kind≠4) :
  Calls Tryz.prog 14 #[.int .i64 base,.int .i64 kind,.agg #[.int .i64 W,.slice p n c],.slice pq N cq] w fun e w'=>(∃ f,e=.returned (.bool f))∧Below w.heap.size w w':=by
 have HB:=hideS (Kw w W (.slice p n c))
 have HQ:=hideS hq
 have HN:=hideS hN
 clear hq hN
 have e3:(kind==3)=false:=beq_eq_false_iff_ne.2 hk
 have e4:(kind==4)=false:=beq_eq_false_iff_ne.2 hk4
 clear hk hk4
 by_cases h1:5<N
 ·have d1:decide ((5:Int)<(N:Int))=true:=decide_eq_true (by omega)
  go_enter Tryz.func14,Tryz.ntmps14
  go_wp2_with fail
  go_ret
  exact⟨⟨_,rfl⟩,HB.out.2⟩
 have d1:decide ((5:Int)<(N:Int))=false:=decide_eq_false (by omega)
 by_cases h2:3<n
 ·have d2:decide ((3:Int)<(n:Int))=true:=decide_eq_true (by omega)
  go_enter Tryz.func14,Tryz.ntmps14
  go_wp2_with fail
  go_ret
  exact⟨⟨_,rfl⟩,HB.out.2⟩
 have d2:decide ((3:Int)<(n:Int))=false:=decide_eq_false (by omega)
 go_enter Tryz.func14,Tryz.ntmps14
 go_wp2_with fail
 clear d1 d2 h2
 obtain⟨w1,hw1⟩:∃ w1,w.alloc (.cells #[.int .i64 W,.slice p n c] 24)=w1:=⟨_,rfl⟩
 rw [hw1] at HB ⊢
 clear hw1
 go_loopw [11] (fun i wr=>∃ (k q:Nat),k≤N∧i=.int .i64 k∧wr=w1.drewN q) (fun i _=>N - (intOf i).toNat)
 case atStart=>exact⟨0,0,Nat.zero_le _,rfl,rfl⟩
 case round=>
  obtain⟨k,q,hk,rfl,rfl⟩:=hrel
  have HBq:Hid (Below w.heap.size w (w1.drewN q)):=⟨HB.out.2.os,HB.out.2.tape,HB.out.2.output,HB.out.2.size,HB.out.2.block⟩
  by_cases hlt:k<N
  ·obtain rfl:=HQ.out.at_ (by rw [HN.out];omega)
   obtain⟨c0,c1,c2,c3,_⟩:=(HQ.out.below HBq.out).cell k (by rw [HN.out];exact hlt)
   generalize (qs.getD k aB).kind=qk at *
   generalize (qs.getD k aB).fin=qf at *
   generalize (qs.getD k aB).count=qc at *
   generalize (qs.getD k aB).n=qn at *
   obtain⟨wq,hwq⟩:∃ wq,w1.drewN q=wq:=⟨_,rfl⟩
   rw [hwq] at HBq c0 c1 c2 c3 ⊢
   have HE:Hid (∀ m,∃ q,wq.drewN m=w1.drewN q):=fun m=>⟨q+m,by rw [← hwq,World.drewN_drewN]⟩
   have HBm:Hid (∀ m,Below w.heap.size w (wq.drewN m)):=fun m=>⟨HBq.out.os,HBq.out.tape,HBq.out.output,HBq.out.size,HBq.out.block⟩
   clear hwq
   have g3:(0:Int)≤(k:Int):=Int.natCast_nonneg _
   have g4:(k:Int)<(N:Int):=by omega
   have hb:(qk==2)=false∨((qk==2)=true∧decide (0<qn)=false)∨((qk==2)=true∧decide (0<qn)=true∧decide (qn≤120)=false)∨((qk==2)=true∧decide (0<qn)=true∧decide (qn≤120)=true∧decide (qf≤109572)=false)∨((qk==2)=true∧decide (0<qn)=true∧decide (qn≤120)=true∧decide (qf≤109572)=true∧decide (base<qf)=false)∨((qk==2)=true∧decide (0<qn)=true∧decide (qn≤120)=true∧decide (qf≤109572)=true∧decide (base<qf)=true):=by
    cases (qk==2)<;>cases decide (0<qn)<;>cases decide (qn≤120)<;>cases decide (qf≤109572)<;>cases decide (base<qf)<;>simp
   rcases hb with b1 | ⟨b1,b2⟩| ⟨b1,b2,b3⟩| ⟨b1,b2,b3,b4⟩| ⟨b1,b2,b3,b4,b5⟩| ⟨b1,b2,b3,b4,b5⟩
   all_goals
    go_wp2_with fail
    go_quiet (fail)
    go_wp2_with fail
    all_goals first
     | (go_ret;exact⟨⟨_,rfl⟩,HBm.out _⟩)
     | (refine⟨?_,by simp [intOf];omega⟩;obtain⟨q',hq'⟩:=HE.out _;exact⟨k+1,q',by omega,by simp,hq'⟩)
  ·obtain rfl:k=N:=by omega
   have g4:decide ((k:Int)<(k:Int))=false:=decide_eq_false (by omega)
   go_wp2_with fail
   go_ret
   exact⟨⟨_,rfl⟩,HBq.out⟩
theorem FE (base kind W:Int) (p pq:Option Addr) (bq oq cq n c:Nat) (qs:List Quo) (w:World) (hq:QSrc w pq bq oq qs) :
  Calls Tryz.prog 14 #[.int .i64 base,.int .i64 kind,.agg #[.int .i64 W,.slice p n c],.slice pq qs.length cq] w fun e w'=>(∃ f,e=.returned (.bool f))∧Below w.heap.size w w':=by
 by_cases h3:kind=3
 ·exact Nq base kind W p pq bq oq cq n c qs.length qs w hq rfl h3
 ·by_cases h4:kind=4
  ·exact Nr base kind W p pq bq oq cq n c qs.length qs w hq rfl h4
  ·exact Ns base kind W p pq bq oq cq n c qs.length qs w hq rfl h3 h4
end Go.Proofs.YtkooknagalgfpaaGreat
namespace Go.Proofs.YtkooknagalgfpaaGreat
open Go.RowKit

theorem take_at (qs:List Quo) {n i:Nat} (h:i<n):(qs.take n).getD i aB=qs.getD i aB:=by
 rw [List.getD_eq_getElem?_getD,List.getD_eq_getElem?_getD,List.getElem?_take_of_lt h]
theorem rg (qs:List Quo) {n k:Nat} (h:k≤n):aM (qs.take n) k=aM qs k:=by
 unfold aM
 refine List.map_congr_left (fun j hj=>?_)
 rw [take_at qs (by have:=List.mem_range.1 hj;omega)]
theorem zw (base kind W:Int) (rs:List Rul) (qs:List Quo) (n:Nat):∀ k≤n,aq base kind W rs (qs.take n) k=aq base kind W rs qs k
 | 0,_=>rfl
 | k+1,h=>by
  have ih:=zw base kind W rs qs n k (by omega)
  show (if (aq base kind W rs (qs.take n) k).2.1≠0 then aq base kind W rs (qs.take n) k else
   if (eY base kind W rs (aM (qs.take n) (k+1)) (aq base kind W rs (qs.take n) k).1 ((qs.take n).getD k aB)).1≠0 then ([],(eY base kind W rs (aM (qs.take n) (k+1)) (aq base kind W rs (qs.take n) k).1 ((qs.take n).getD k aB)).1,k)
   else ((aq base kind W rs (qs.take n) k).1++[(eY base kind W rs (aM (qs.take n) (k+1)) (aq base kind W rs (qs.take n) k).1 ((qs.take n).getD k aB)).2],0,0))=_
  rw [ih,rg qs h,take_at qs (by omega)]
  rfl
theorem tM {base kind W:Int} {rs:List Rul} {qs:List Quo}:∀ k,(aq base kind W rs qs k).2.1≠0→(aq base kind W rs qs k).2.2<k∧aq base kind W rs qs ((aq base kind W rs qs k).2.2+1)=aq base kind W rs qs k∧∀ j≤(aq base kind W rs qs k).2.2,(aq base kind W rs qs j).2.1=0
 | 0,h=>absurd rfl h
 | k+1,h=>by
  by_cases c:(aq base kind W rs qs k).2.1=0
  ·by_cases d:(eY base kind W rs (aM qs (k+1)) (aq base kind W rs qs k).1 (qs.getD k aB)).1=0
   ·rw [vM c d] at h
    exact absurd rfl h
   ·have e:=vL c d
    rw [e]
    refine⟨Nat.lt_succ_self k,e,fun j hj=>?_⟩
    have hj':j≤k:=hj
    by_cases z:(aq base kind W rs qs j).2.1=0
    ·exact z
    ·have:=jt z (k - j)
     rw [show j+(k - j)=k by omega] at this
     rw [this] at c
     exact absurd c z
  ·have e:=jt c 1
   rw [e]
   obtain⟨h1,h2,h3⟩:=tM k c
   exact⟨by omega,h2,h3⟩
theorem zA {base kind W:Int} {rs:List Rul} {qs:List Quo} {k j:Nat} (h:(aq base kind W rs qs k).2.1=0) (hj:j≤k):(aq base kind W rs qs j).2.1=0:=by
 by_cases z:(aq base kind W rs qs j).2.1=0
 ·exact z
 ·have:=jt z (k - j)
  rw [show j+(k - j)=k by omega] at this
  rw [this] at h
  exact absurd h z
theorem CX {base kind W:Int} {rs:List Rul} {qs:List Quo} {n:Nat}:∀ d,(aq base kind W rs qs (n+d)).2.1=0→(aq base kind W rs qs n).1.length=n→((aq base kind W rs qs (n+d)).1.length=n+d∧∀ i<n,(aq base kind W rs qs (n+d)).1.getD i 0=(aq base kind W rs qs n).1.getD i 0)
 | 0,_,hl=>⟨hl,fun _ _=>rfl⟩
 | d+1,h,hl=>by
  have h0:=zA (k:=n+(d+1)) (j:=n+d) h (by omega)
  obtain⟨l1,l2⟩:=CX d h0 hl
  by_cases c:(eY base kind W rs (aM qs (n+d+1)) (aq base kind W rs qs (n+d)).1 (qs.getD (n+d) aB)).1=0
  ·have e:=vM h0 c
   rw [show n+(d+1)=n+d+1 by omega,e]
   refine⟨by dsimp only;rw [aN,l1],fun i hi=>?_⟩
   dsimp only
   rw [fx _ _ (by omega)]
   exact l2 i hi
  ·have e:=vL h0 c
   rw [show n+(d+1)=n+d+1 by omega,e] at h
   exact absurd h c
theorem BI {base kind A:Int} {qs:List Quo} {n:Nat} (h:Chk13 base kind A qs 0 0) (h1:1≤n) (h2:n≤qs.length):Chk13 base kind A (qs.take n) 0 0:=by
 obtain⟨hf,b0,b1,k1,k4,a0,lo,hi⟩:=rf h
 have hl:(qs.take n).length=n:=by rw [List.length_take];omega
 refine .quo b0 b1 k1 k4 a0 (by omega) (by omega) 0 0 (.fine fun i hi'=>?_)
 rw [hl] at hi'
 have hp:dH base (qs.take n) i=dH base qs i:=by
  cases i with
  | zero=>rfl
  | succ i=>show ((qs.take n).getD i aB).fin=(qs.getD i aB).fin;rw [take_at qs (by omega)]
 rw [hp,take_at qs hi']
 exact hf i (by omega)
theorem QSrc.take {w:World} {p:Option Addr} {b off:Nat} {qs:List Quo} (h:QSrc w p b off qs) (n:Nat):QSrc w p b off (qs.take n):=
 ⟨fun hx=>h.at_ (by rw [List.length_take] at hx;omega),fun hx=>h.lt (by rw [List.length_take] at hx;omega),fun i hi=>by
  rw [List.length_take] at hi
  rw [take_at qs (by omega)]
  exact h.cell i (by omega)⟩
end Go.Proofs.YtkooknagalgfpaaGreat
namespace Go.Proofs.YtkooknagalgfpaaGreat
open Go.RowKit

structure CBq (w:World) (W:Int) (v:Value) (wr:World):Prop where
 k0:wr.cell? ⟨w.heap.size,0,none⟩=some (.int .i64 W)
 k1:wr.cell? ⟨w.heap.size,1,none⟩=some v
 bl:Below w.heap.size w wr
 lt:w.heap.size<wr.heap.size
theorem rh (w:World) (W:Int) (v:Value):CBq w W v (w.alloc (.cells #[.int .i64 W,v] 24)):=⟨by simp,by simp,(Below.refl _ _).alloc (Nat.le_refl _) _,by simp⟩
theorem CBq.step {w wr w':World} {W:Int} {v:Value} (h:CBq w W v wr) (hb:Below wr.heap.size wr w'):CBq w W v w':=
 ⟨(hb.cell (p:=⟨w.heap.size,0,none⟩) h.lt).trans h.k0,(hb.cell (p:=⟨w.heap.size,1,none⟩) h.lt).trans h.k1,h.bl.trans (hb.mono h.bl.size),Nat.lt_of_lt_of_le h.lt hb.size⟩
structure Z4 (X:Nat) (w:World):Prop where
 c0:w.cell? ⟨X,0,none⟩=some (.int .i64 0)
 c1:w.cell? ⟨X,1,none⟩=some (.int .i64 0)
 c2:w.cell? ⟨X,2,none⟩=some (.slice none 0 0)
 c3:w.cell? ⟨X,3,none⟩=some (.slice none 0 0)
 fz:∀ i,w.frozen? ⟨X,i,none⟩=false
 lt:X<w.heap.size
theorem CY (w:World):Z4 w.heap.size (w.alloc (.cells #[.int .i64 0,.int .i64 0,.slice none 0 0,.slice none 0 0] 35)):=⟨by simp,by simp,by simp,by simp,fun i=>World.frozen?_alloc_new _ _ _ _,by simp⟩
theorem Z4.below {X:Nat} {w w':World} (h:Z4 X w) (hb:Below w.heap.size w w'):Z4 X w':=
 ⟨(hb.cell (p:=⟨X,0,none⟩) h.lt).trans h.c0,(hb.cell (p:=⟨X,1,none⟩) h.lt).trans h.c1,(hb.cell (p:=⟨X,2,none⟩) h.lt).trans h.c2,(hb.cell (p:=⟨X,3,none⟩) h.lt).trans h.c3,fun i=>(hb.frozen (p:=⟨X,i,none⟩) h.lt).trans (h.fz i),Nat.lt_of_lt_of_le h.lt hb.size⟩
structure V4 (X:Nat) (x0 x1:Int) (v1 v2:Value) (w:World):Prop where
 t0:w.cell? ⟨X,0,none⟩=some (.int .i64 x0)
 t1:w.cell? ⟨X,1,none⟩=some (.int .i64 x1)
 t2:w.cell? ⟨X,2,none⟩=some v1
 t3:w.cell? ⟨X,3,none⟩=some v2
theorem V4.via {X:Nat} {x0 x1:Int} {v1 v2:Value} {w w':World} (h:V4 X x0 x1 v1 v2 w) (hc:∀ j,w'.cell? ⟨X,j,none⟩=w.cell? ⟨X,j,none⟩):V4 X x0 x1 v1 v2 w':=⟨(hc 0).trans h.t0,(hc 1).trans h.t1,(hc 2).trans h.t2,(hc 3).trans h.t3⟩
theorem V4.below {X:Nat} {x0 x1:Int} {v1 v2:Value} {w w':World} (h:V4 X x0 x1 v1 v2 w) (hb:Below w.heap.size w w'):V4 X x0 x1 v1 v2 w':=h.via (fun j=>hb.cell (p:=⟨X,j,none⟩) (dU h.t0))
def hU (w:World) (X:Nat) (x0 x1:Int) (v1 v2:Value):World:=(((w.setCell ⟨X,0,none⟩ (.int .i64 x0)).setCell ⟨X,1,none⟩ (.int .i64 x1)).setCell ⟨X,2,none⟩ v1).setCell ⟨X,3,none⟩ v2
theorem lO {w:World} {X:Nat} (x0 x1:Int) (v1 v2:Value) (h:Z4 X w):V4 X x0 x1 v1 v2 (hU w X x0 x1 v1 v2):=by
 unfold hU
 refine⟨?_,?_,?_,?_⟩
 ·simp [h.c0,go_sem]
 ·simp [h.c1,go_sem]
 ·simp [h.c2,go_sem]
 ·simp [h.c3,go_sem]
theorem ju {w:World} {X B:Nat} (x0 x1:Int) (v1 v2:Value) (h:B≤X):Below B w (hU w X x0 x1 v1 v2):=((((Below.refl B w).setCell (p:=⟨X,0,none⟩) h _).setCell (p:=⟨X,1,none⟩) h _).setCell (p:=⟨X,2,none⟩) h _).setCell (p:=⟨X,3,none⟩) h _
theorem vsrc_put4 {w:World} {p:Option Addr} {b off n X:Nat} {f:Nat→Value} (x0 x1:Int) (v1 v2:Value) (h:VSrc w p b off n f) (hb:b≠X):VSrc (hU w X x0 x1 v1 v2) p b off n f:=(((h.put (a:=⟨X,0,none⟩) _ hb).put (a:=⟨X,1,none⟩) _ hb).put (a:=⟨X,2,none⟩) _ hb).put (a:=⟨X,3,none⟩) _ hb
theorem oh {wa wz w3:World} (h:Below wa.heap.size wa wz) (h':Below (wz.drewN 1).heap.size (wz.drewN 1) w3):Below wa.heap.size wa w3:=h.trans (Below.mono (⟨h'.os,h'.tape,h'.output,h'.size,h'.block⟩:Below wz.heap.size wz w3) h.size)
theorem cD {B:Nat} {w w1:World} (hb:Below B w w1) (q:Nat):Below B w (w1.drewN q):=⟨hb.os,hb.tape,hb.output,hb.size,hb.block⟩

end Go.Proofs.YtkooknagalgfpaaGreat
namespace Go.Proofs.YtkooknagalgfpaaGreat
open Go.RowKit

set_option maxRecDepth 20000 in
set_option maxHeartbeats 6400000 in
theorem sc (base kind W:Int) (p pq:Option Addr) (n c cq N m:Nat) (w:World) (hm1:1≤m) (hm2:m≤N) (hcq:N≤cq) (_hcm:cq≤9223372036854775807) (E K:Int) (hE:E≠0) (hK:K<(m:Int))
  (HF:Hid (∀ wx,Below w.heap.size w wx→Calls Tryz.prog 14 #[.int .i64 base,.int .i64 kind,.agg #[.int .i64 W,.slice p n c],.slice pq N cq] wx fun e w'=>(∃ f,e=.returned (.bool f))∧Below wx.heap.size wx w'))
  (H1:Hid (∀ wx,Below w.heap.size w wx→Calls Tryz.prog 12 #[.int .i64 base,.int .i64 kind,.agg #[.int .i64 W,.slice p n c],.slice pq N cq] wx fun e w'=>e=.returned (.tuple #[.agg #[.int .i64 0,.int .i64 0,.slice none 0 0,.slice none 0 0],.int .i64 E,.int .i64 K])∧Below wx.heap.size wx w'))
  (H2:Hid (∀ wx,Below w.heap.size w wx→Calls Tryz.prog 12 #[.int .i64 base,.int .i64 kind,.agg #[.int .i64 W,.slice p n c],.slice pq m cq] wx fun e w'=>e=.returned (.tuple #[.agg #[.int .i64 0,.int .i64 0,.slice none 0 0,.slice none 0 0],.int .i64 E,.int .i64 K])∧Below wx.heap.size wx w'))
  (H3:Hid (∀ wx,Below w.heap.size w wx→Calls Tryz.prog 10 #[.int .i64 base,.int .i64 kind,.agg #[.int .i64 W,.slice p n c],.slice pq N cq] wx fun e w'=>e=.returned (.tuple #[.int .i64 0,.int .i64 0])∧Below wx.heap.size wx w')) :
  Calls Tryz.prog 7 #[.int .i64 base,.int .i64 kind,.agg #[.int .i64 W,.slice p n c],.slice pq N cq,.int .i64 m] w fun e w'=>e=.returned (.bool true)∧Below w.heap.size w w':=by
 have d3:(E !=0)=true:=bne_iff_ne.2 hE
 have d4:decide (K<(m:Int))=true:=decide_eq_true hK
 clear hE hK
 have HB:=hideS (rh w W (.slice p n c))
 have HA:=hideS lN
 have d1:decide ((m:Int)<1)=false:=decide_eq_false (by omega)
 have d2:decide ((N:Int)<(m:Int))=false:=decide_eq_false (by omega)
 have g1:(0:Int)≤(m:Int):=Int.natCast_nonneg _
 have g2:(m:Int)≤(cq:Int):=by omega
 have g3:m≤cq:=by omega
 go_enter Tryz.func7,Tryz.ntmps7
 go_wp2_with fail
 refine (HF.out _ HB.out.bl).mono ?_
 rintro e w1 ⟨⟨f,rfl⟩,hb⟩
 have HB1:=hideS (HB.out.step hb)
 have k0:=HB1.out.k0
 have k1:=HB1.out.k1
 clear hb HF HB
 cases f
 ·go_wp2_with fail
  refine (HA.out _).mono ?_
  rintro e w2 ⟨rfl,hb⟩
  have HB2:=hideS (HB1.out.step hb)
  clear hb
  go_wp2_with fail
  go_ret
  exact⟨rfl,HB2.out.bl⟩
 go_wp2_with fail
 refine (H1.out _ HB1.out.bl).mono ?_
 rintro e w2 ⟨rfl,hb⟩
 have HV2:=hideS (bu w2 0 0 (.slice none 0 0) (.slice none 0 0))
 have HB2:=hideS ((HB1.out.step hb).step HV2.out.bl)
 clear hb H1 k0 k1 HB1
 go_wp2_with fail
 obtain⟨wa,hwa⟩:∃ wa,w2.alloc (.cells #[.int .i64 0,.int .i64 0,.slice none 0 0,.slice none 0 0] 35)=wa:=⟨_,rfl⟩
 rw [hwa] at HV2 HB2 ⊢
 clear hwa
 have k0:=HB2.out.k0
 have k1:=HB2.out.k1
 have hz2:Below wa.heap.size wa (wa.alloc (.cells #[.int .i64 0,.int .i64 0,.slice none 0 0,.slice none 0 0] 35)):=(Below.refl _ _).alloc (Nat.le_refl _) _
 have HKa:=hideS ((H2.out (wa.drewN 1) (cD HB2.out.bl 1)).mono (fun e w' h=>(⟨h.1,⟨h.2.os,h.2.tape,h.2.output,h.2.size,h.2.block⟩⟩:_∧Below wa.heap.size wa w')))
 have HKb:=hideS ((H2.out ((wa.alloc (.cells #[.int .i64 0,.int .i64 0,.slice none 0 0,.slice none 0 0] 35)).drewN 1) (cD (HB2.out.step hz2).bl 1)).mono (fun e w' h=>(⟨h.1,oh hz2 h.2,(CY wa).below ⟨h.2.os,h.2.tape,h.2.output,h.2.size,h.2.block⟩⟩:_∧Below wa.heap.size wa w'∧Z4 wa.heap.size w')))
 clear hz2
 have hlta:w.heap.size<wa.heap.size:=HB2.out.lt
 have hnea:=Nat.ne_of_lt hlta
 go_region_held3 (fun w'=>w'.cell? ⟨w.heap.size,0,none⟩=some (.int .i64 W)∧w'.cell? ⟨w.heap.size,1,none⟩=some (.slice p n c)) (first | exact⟨HB3.out.k0,HB3.out.k1⟩| (refine⟨?_,?_⟩ <;>simp [go_sem, *]) | go_keep) (first | (go_at_call 12;refine HKa.out.mono ?_;rintro e w3 ⟨rfl,hb⟩;have HW3:=hideS hb;have HB3:=hideS (HB2.out.step hb);have hlt3:w.heap.size<w3.heap.size:=HB3.out.lt;have hne3:=Nat.ne_of_lt hlt3;have k03:=HB3.out.k0;have k13:=HB3.out.k1;clear hb) | (go_at_call 12;refine HKb.out.mono ?_;rintro e w3 ⟨rfl,hb,hz⟩;have HW3:=hideS hb;have HB3:=hideS (HB2.out.step hb);have z0:=hz.c0;have z1:=hz.c1;have z2:=hz.c2;have z3:=hz.c3;have y0:=hz.fz 0;have y1:=hz.fz 1;have y2:=hz.fz 2;have y3:=hz.fz 3;have k03:=HB3.out.k0;have k13:=HB3.out.k1;have HZ3:=hideS hz;clear hb hz))
 ·obtain⟨w5,hw5⟩:∃ w5,w3.alloc (.cells #[.int .i64 0,.int .i64 0,.slice none 0 0,.slice none 0 0] 35)=w5:=⟨_,rfl⟩
  have HBl:Hid (Below w3.heap.size w3 w5):=by show Below _ _ _;rw [← hw5];exact (Below.refl _ _).alloc (Nat.le_refl _) _
  have HWl:Hid (Below wa.heap.size w3 w5):=HBl.out.mono HW3.out.size
  have HD:Hid (V4 w3.heap.size 0 0 (.slice none 0 0) (.slice none 0 0) w5):=by show V4 _ _ _ _ _ _;rw [← hw5];exact⟨by simp,by simp,by simp,by simp⟩
  rw [hw5]
  clear hw5 k03 k13 hlt3 hne3 HKa HKb hlta hnea k0 k1 HBl
  have HW5:Hid (Below wa.heap.size wa w5):=HW3.out.trans HWl.out
  have HB5:=hideS (HB2.out.step HW5.out)
  clear HV2 HD
  have k0:=HB5.out.k0
  have k1:=HB5.out.k1
  go_wp2_with fail
  refine (H3.out _ HB5.out.bl).mono ?_
  rintro e w6 ⟨rfl,hb⟩
  have HB6:=hideS (HB5.out.step hb)
  clear hb H3 k0 k1
  go_wp2_with fail
  refine (HA.out _).mono ?_
  rintro e w7 ⟨rfl,hb⟩
  have HB7:=hideS (HB6.out.step hb)
  clear hb
  go_wp2_with fail
  go_ret
  exact⟨rfl,HB7.out.bl⟩
 ·obtain⟨w5,hw5⟩:∃ w5,hU w3 wa.heap.size 0 0 (.slice none 0 0) (.slice none 0 0)=w5:=⟨_,rfl⟩
  have HWl:Hid (Below wa.heap.size w3 w5):=by show Below _ _ _;rw [← hw5];exact ju _ _ _ _ (Nat.le_refl _)
  have HD:Hid (V4 wa.heap.size 0 0 (.slice none 0 0) (.slice none 0 0) w5):=by show V4 _ _ _ _ _ _;rw [← hw5];exact lO _ _ _ _ HZ3.out
  unfold hU at hw5
  rw [hw5]
  clear hw5 k03 k13 HKa HKb hlta hnea k0 k1 z0 z1 z2 z3 y0 y1 y2 y3 HZ3
  have HW5:Hid (Below wa.heap.size wa w5):=HW3.out.trans HWl.out
  have HB5:=hideS (HB2.out.step HW5.out)
  clear HV2 HD
  have k0:=HB5.out.k0
  have k1:=HB5.out.k1
  go_wp2_with fail
  refine (H3.out _ HB5.out.bl).mono ?_
  rintro e w6 ⟨rfl,hb⟩
  have HB6:=hideS (HB5.out.step hb)
  clear hb H3 k0 k1
  go_wp2_with fail
  refine (HA.out _).mono ?_
  rintro e w7 ⟨rfl,hb⟩
  have HB7:=hideS (HB6.out.step hb)
  clear hb
  go_wp2_with fail
  go_ret
  exact⟨rfl,HB7.out.bl⟩
end Go.Proofs.YtkooknagalgfpaaGreat
namespace Go.Proofs.YtkooknagalgfpaaGreat
open Go.RowKit

set_option maxRecDepth 20000 in
set_option maxHeartbeats 6400000 in
theorem rj (base kind W:Int) (p pq:Option Addr) (n c cq N m:Nat) (w:World) (hm1:1≤m) (hm2:m≤N) (hcq:N≤cq) (_hcm:cq≤9223372036854775807) (E K:Int) (hE:E≠0) (hK:¬ K<(m:Int)) (ds:List Int) (gs:List Nat)
  (HF:Hid (∀ wx,Below w.heap.size w wx→Calls Tryz.prog 14 #[.int .i64 base,.int .i64 kind,.agg #[.int .i64 W,.slice p n c],.slice pq N cq] wx fun e w'=>(∃ f,e=.returned (.bool f))∧Below wx.heap.size wx w'))
  (H1:Hid (∀ wx,Below w.heap.size w wx→Calls Tryz.prog 12 #[.int .i64 base,.int .i64 kind,.agg #[.int .i64 W,.slice p n c],.slice pq N cq] wx fun e w'=>e=.returned (.tuple #[.agg #[.int .i64 0,.int .i64 0,.slice none 0 0,.slice none 0 0],.int .i64 E,.int .i64 K])∧Below wx.heap.size wx w'))
  (H2:Hid (∀ wx,Below w.heap.size w wx→Calls Tryz.prog 12 #[.int .i64 base,.int .i64 kind,.agg #[.int .i64 W,.slice p n c],.slice pq m cq] wx fun e w'=>(∃ g k g' k',e=.returned (.tuple #[.agg #[.int .i64 base,.int .i64 kind,.slice (some ⟨g,0,none⟩) m k,.slice (some ⟨g',0,none⟩) m k'],.int .i64 0,.int .i64 0])∧VSrc w' (some ⟨g,0,none⟩) g 0 m (xV ds)∧VSrc w' (some ⟨g',0,none⟩) g' 0 m (flV gs)∧wx.heap.size≤g∧wx.heap.size≤g')∧Below wx.heap.size wx w'))
  (H3:Hid (∀ wx,Below w.heap.size w wx→Calls Tryz.prog 10 #[.int .i64 base,.int .i64 kind,.agg #[.int .i64 W,.slice p n c],.slice pq N cq] wx fun e w'=>e=.returned (.tuple #[.int .i64 0,.int .i64 0])∧Below wx.heap.size wx w')) :
  Calls Tryz.prog 7 #[.int .i64 base,.int .i64 kind,.agg #[.int .i64 W,.slice p n c],.slice pq N cq,.int .i64 m] w fun e w'=>e=.returned (.bool true)∧Below w.heap.size w w':=by
 have d3:(E !=0)=true:=bne_iff_ne.2 hE
 have d5:(E==0)=false:=beq_eq_false_iff_ne.2 hE
 have d4:decide (K<(m:Int))=false:=decide_eq_false hK
 have d6:decide ((0:Int)<(m:Int))=true:=decide_eq_true (by omega)
 clear hE hK
 have HB:=hideS (rh w W (.slice p n c))
 have HA:=hideS lN
 have d1:decide ((m:Int)<1)=false:=decide_eq_false (by omega)
 have d2:decide ((N:Int)<(m:Int))=false:=decide_eq_false (by omega)
 have g1:(0:Int)≤(m:Int):=Int.natCast_nonneg _
 have g2:(m:Int)≤(cq:Int):=by omega
 have g3:m≤cq:=by omega
 go_enter Tryz.func7,Tryz.ntmps7
 go_wp2_with fail
 refine (HF.out _ HB.out.bl).mono ?_
 rintro e w1 ⟨⟨f,rfl⟩,hb⟩
 have HB1:=hideS (HB.out.step hb)
 have k0:=HB1.out.k0
 have k1:=HB1.out.k1
 clear hb HF HB
 cases f
 ·go_wp2_with fail
  refine (HA.out _).mono ?_
  rintro e w2 ⟨rfl,hb⟩
  have HB2:=hideS (HB1.out.step hb)
  clear hb
  go_wp2_with fail
  go_ret
  exact⟨rfl,HB2.out.bl⟩
 go_wp2_with fail
 refine (H1.out _ HB1.out.bl).mono ?_
 rintro e w2 ⟨rfl,hb⟩
 have HV2:=hideS (bu w2 0 0 (.slice none 0 0) (.slice none 0 0))
 have HB2:=hideS ((HB1.out.step hb).step HV2.out.bl)
 clear hb H1 k0 k1 HB1
 go_wp2_with fail
 obtain⟨wa,hwa⟩:∃ wa,w2.alloc (.cells #[.int .i64 0,.int .i64 0,.slice none 0 0,.slice none 0 0] 35)=wa:=⟨_,rfl⟩
 rw [hwa] at HV2 HB2 ⊢
 clear hwa
 have k0:=HB2.out.k0
 have k1:=HB2.out.k1
 have hz2:Below wa.heap.size wa (wa.alloc (.cells #[.int .i64 0,.int .i64 0,.slice none 0 0,.slice none 0 0] 35)):=(Below.refl _ _).alloc (Nat.le_refl _) _
 have HKa:=hideS ((H2.out (wa.drewN 1) (cD HB2.out.bl 1)).mono (fun e w' h=>(⟨h.1,⟨h.2.os,h.2.tape,h.2.output,h.2.size,h.2.block⟩⟩:_∧Below wa.heap.size wa w')))
 have HKb:=hideS ((H2.out ((wa.alloc (.cells #[.int .i64 0,.int .i64 0,.slice none 0 0,.slice none 0 0] 35)).drewN 1) (cD (HB2.out.step hz2).bl 1)).mono (fun e w' h=>(⟨h.1,oh hz2 h.2,(CY wa).below ⟨h.2.os,h.2.tape,h.2.output,h.2.size,h.2.block⟩⟩:_∧Below wa.heap.size wa w'∧Z4 wa.heap.size w')))
 clear hz2
 have hlta:w.heap.size<wa.heap.size:=HB2.out.lt
 have hnea:=Nat.ne_of_lt hlta
 go_region_held3 (fun w'=>w'.cell? ⟨w.heap.size,0,none⟩=some (.int .i64 W)∧w'.cell? ⟨w.heap.size,1,none⟩=some (.slice p n c)) (first | exact⟨HB3.out.k0,HB3.out.k1⟩| (refine⟨?_,?_⟩ <;>simp [go_sem, *]) | go_keep) (first | (go_at_call 12;refine HKa.out.mono ?_;rintro e w3 ⟨⟨g,k,g',k',rfl,s1,s2,q1,q2⟩,hb⟩;have HW3:=hideS hb;have HB3:=hideS (HB2.out.step hb);have hlt3:w.heap.size<w3.heap.size:=HB3.out.lt;have hne3:=Nat.ne_of_lt hlt3;have k03:=HB3.out.k0;have k13:=HB3.out.k1;clear hb) | (go_at_call 12;refine HKb.out.mono ?_;rintro e w3 ⟨⟨g,k,g',k',rfl,s1,s2,q1,q2⟩,hb,hz⟩;have HW3:=hideS hb;have HB3:=hideS (HB2.out.step hb);have z0:=hz.c0;have z1:=hz.c1;have z2:=hz.c2;have z3:=hz.c3;have y0:=hz.fz 0;have y1:=hz.fz 1;have y2:=hz.fz 2;have y3:=hz.fz 3;have k03:=HB3.out.k0;have k13:=HB3.out.k1;have HZ3:=hideS hz;clear hb hz))
 ·obtain⟨w5,hw5⟩:∃ w5,w3.alloc (.cells #[.int .i64 base,.int .i64 kind,.slice (some ⟨g,0,none⟩) m k,.slice (some ⟨g',0,none⟩) m k'] 35)=w5:=⟨_,rfl⟩
  have HBl:Hid (Below w3.heap.size w3 w5):=by show Below _ _ _;rw [← hw5];exact (Below.refl _ _).alloc (Nat.le_refl _) _
  have HWl:Hid (Below wa.heap.size w3 w5):=HBl.out.mono HW3.out.size
  have HD:Hid (V4 w3.heap.size base kind (.slice (some ⟨g,0,none⟩) m k) (.slice (some ⟨g',0,none⟩) m k') w5):=by show V4 _ _ _ _ _ _;rw [← hw5];exact⟨by simp,by simp,by simp,by simp⟩
  rw [hw5]
  clear hw5 k03 k13 hlt3 hne3 HKa HKb hlta hnea k0 k1 HBl
  have HW5:Hid (Below wa.heap.size wa w5):=HW3.out.trans HWl.out
  have HB5:=hideS (HB2.out.step HW5.out)
  clear HV2 s1 s2 q1 q2
  have k0:=HB5.out.k0
  have k1:=HB5.out.k1
  go_wp2_with fail
  refine (H3.out _ HB5.out.bl).mono ?_
  rintro e w6 ⟨rfl,hb⟩
  have HB6:=hideS (HB5.out.step hb)
  have HD6:=hideS (HD.out.below hb)
  have u3:=HD6.out.t3
  clear hb H3 k0 k1 HD
  go_wp2_with fail
  go_loopw [19] (fun i wr=>i=.int .i64 0∧wr=w6) (fun _ _=>0)
  case atStart=>exact⟨rfl,rfl⟩
  case round=>
   obtain⟨rfl,rfl⟩:=hrel
   go_wp2_with fail
   refine (HA.out _).mono ?_
   rintro e w8 ⟨rfl,hb⟩
   have HB8:=hideS (HB6.out.step hb)
   clear hb
   go_wp2_with fail
   go_ret
   exact⟨rfl,HB8.out.bl⟩
 ·obtain⟨w5,hw5⟩:∃ w5,hU w3 wa.heap.size base kind (.slice (some ⟨g,0,none⟩) m k) (.slice (some ⟨g',0,none⟩) m k')=w5:=⟨_,rfl⟩
  have HWl:Hid (Below wa.heap.size w3 w5):=by show Below _ _ _;rw [← hw5];exact ju _ _ _ _ (Nat.le_refl _)
  have HD:Hid (V4 wa.heap.size base kind (.slice (some ⟨g,0,none⟩) m k) (.slice (some ⟨g',0,none⟩) m k') w5):=by show V4 _ _ _ _ _ _;rw [← hw5];exact lO _ _ _ _ HZ3.out
  unfold hU at hw5
  rw [hw5]
  clear hw5 k03 k13 HKa HKb hlta hnea k0 k1 z0 z1 z2 z3 y0 y1 y2 y3 HZ3
  have HW5:Hid (Below wa.heap.size wa w5):=HW3.out.trans HWl.out
  have HB5:=hideS (HB2.out.step HW5.out)
  clear HV2 s1 s2 q1 q2
  have k0:=HB5.out.k0
  have k1:=HB5.out.k1
  go_wp2_with fail
  refine (H3.out _ HB5.out.bl).mono ?_
  rintro e w6 ⟨rfl,hb⟩
  have HB6:=hideS (HB5.out.step hb)
  have HD6:=hideS (HD.out.below hb)
  have u3:=HD6.out.t3
  clear hb H3 k0 k1 HD
  go_wp2_with fail
  go_loopw [19] (fun i wr=>i=.int .i64 0∧wr=w6) (fun _ _=>0)
  case atStart=>exact⟨rfl,rfl⟩
  case round=>
   obtain⟨rfl,rfl⟩:=hrel
   go_wp2_with fail
   refine (HA.out _).mono ?_
   rintro e w8 ⟨rfl,hb⟩
   have HB8:=hideS (HB6.out.step hb)
   clear hb
   go_wp2_with fail
   go_ret
   exact⟨rfl,HB8.out.bl⟩
end Go.Proofs.YtkooknagalgfpaaGreat
namespace Go.Proofs.YtkooknagalgfpaaGreat
open Go.RowKit

set_option maxRecDepth 20000 in
set_option maxHeartbeats 6400000 in
theorem sd (base kind W:Int) (p pq:Option Addr) (n c cq N m:Nat) (w:World) (hm1:1≤m) (hm2:m≤N) (hcq:N≤cq) (_hcm:cq≤9223372036854775807) (E K:Int) (hE:E≠0)
  (HF:Hid (∀ wx,Below w.heap.size w wx→Calls Tryz.prog 14 #[.int .i64 base,.int .i64 kind,.agg #[.int .i64 W,.slice p n c],.slice pq N cq] wx fun e w'=>(∃ f,e=.returned (.bool f))∧Below wx.heap.size wx w'))
  (H1:Hid (∀ wx,Below w.heap.size w wx→Calls Tryz.prog 12 #[.int .i64 base,.int .i64 kind,.agg #[.int .i64 W,.slice p n c],.slice pq N cq] wx fun e w'=>e=.returned (.tuple #[.agg #[.int .i64 0,.int .i64 0,.slice none 0 0,.slice none 0 0],.int .i64 E,.int .i64 K])∧Below wx.heap.size wx w'))
  (H2:Hid (∀ wx,Below w.heap.size w wx→Calls Tryz.prog 12 #[.int .i64 base,.int .i64 kind,.agg #[.int .i64 W,.slice p n c],.slice pq m cq] wx fun e w'=>(∃ x0 x1 p1 n1 kp p2 n2 kq E2 K2,e=.returned (.tuple #[.agg #[.int .i64 x0,.int .i64 x1,.slice p1 n1 kp,.slice p2 n2 kq],.int .i64 E2,.int .i64 K2]))∧Below wx.heap.size wx w'))
  (H3:Hid (∀ wx,Below w.heap.size w wx→Calls Tryz.prog 10 #[.int .i64 base,.int .i64 kind,.agg #[.int .i64 W,.slice p n c],.slice pq N cq] wx fun e w'=>e=.returned (.tuple #[.int .i64 E,.int .i64 K])∧Below wx.heap.size wx w')) :
  Calls Tryz.prog 7 #[.int .i64 base,.int .i64 kind,.agg #[.int .i64 W,.slice p n c],.slice pq N cq,.int .i64 m] w fun e w'=>e=.returned (.bool true)∧Below w.heap.size w w':=by
 have d3:(E !=0)=true:=bne_iff_ne.2 hE
 clear hE
 have HB:=hideS (rh w W (.slice p n c))
 have HA:=hideS lN
 have d1:decide ((m:Int)<1)=false:=decide_eq_false (by omega)
 have d2:decide ((N:Int)<(m:Int))=false:=decide_eq_false (by omega)
 have g1:(0:Int)≤(m:Int):=Int.natCast_nonneg _
 have g2:(m:Int)≤(cq:Int):=by omega
 have g3:m≤cq:=by omega
 go_enter Tryz.func7,Tryz.ntmps7
 go_wp2_with fail
 refine (HF.out _ HB.out.bl).mono ?_
 rintro e w1 ⟨⟨f,rfl⟩,hb⟩
 have HB1:=hideS (HB.out.step hb)
 have k0:=HB1.out.k0
 have k1:=HB1.out.k1
 clear hb HF HB
 cases f
 ·go_wp2_with fail
  refine (HA.out _).mono ?_
  rintro e w2 ⟨rfl,hb⟩
  have HB2:=hideS (HB1.out.step hb)
  clear hb
  go_wp2_with fail
  go_ret
  exact⟨rfl,HB2.out.bl⟩
 go_wp2_with fail
 refine (H1.out _ HB1.out.bl).mono ?_
 rintro e w2 ⟨rfl,hb⟩
 have HV2:=hideS (bu w2 0 0 (.slice none 0 0) (.slice none 0 0))
 have HB2:=hideS ((HB1.out.step hb).step HV2.out.bl)
 clear hb H1 k0 k1 HB1
 go_wp2_with fail
 obtain⟨wa,hwa⟩:∃ wa,w2.alloc (.cells #[.int .i64 0,.int .i64 0,.slice none 0 0,.slice none 0 0] 35)=wa:=⟨_,rfl⟩
 rw [hwa] at HV2 HB2 ⊢
 clear hwa
 have k0:=HB2.out.k0
 have k1:=HB2.out.k1
 have hz2:Below wa.heap.size wa (wa.alloc (.cells #[.int .i64 0,.int .i64 0,.slice none 0 0,.slice none 0 0] 35)):=(Below.refl _ _).alloc (Nat.le_refl _) _
 have HKa:=hideS ((H2.out (wa.drewN 1) (cD HB2.out.bl 1)).mono (fun e w' h=>(⟨h.1,⟨h.2.os,h.2.tape,h.2.output,h.2.size,h.2.block⟩⟩:_∧Below wa.heap.size wa w')))
 have HKb:=hideS ((H2.out ((wa.alloc (.cells #[.int .i64 0,.int .i64 0,.slice none 0 0,.slice none 0 0] 35)).drewN 1) (cD (HB2.out.step hz2).bl 1)).mono (fun e w' h=>(⟨h.1,oh hz2 h.2,(CY wa).below ⟨h.2.os,h.2.tape,h.2.output,h.2.size,h.2.block⟩⟩:_∧Below wa.heap.size wa w'∧Z4 wa.heap.size w')))
 clear hz2
 have hlta:w.heap.size<wa.heap.size:=HB2.out.lt
 have hnea:=Nat.ne_of_lt hlta
 go_region_held3 (fun w'=>w'.cell? ⟨w.heap.size,0,none⟩=some (.int .i64 W)∧w'.cell? ⟨w.heap.size,1,none⟩=some (.slice p n c)) (first | exact⟨HB3.out.k0,HB3.out.k1⟩| (refine⟨?_,?_⟩ <;>simp [go_sem, *]) | go_keep) (first | (go_at_call 12;refine HKa.out.mono ?_;rintro e w3 ⟨⟨x0,x1,p1,n1,kp,p2,n2,kq,E2,K2,rfl⟩,hb⟩;have HW3:=hideS hb;have HB3:=hideS (HB2.out.step hb);have hlt3:w.heap.size<w3.heap.size:=HB3.out.lt;have hne3:=Nat.ne_of_lt hlt3;have k03:=HB3.out.k0;have k13:=HB3.out.k1;clear hb) | (go_at_call 12;refine HKb.out.mono ?_;rintro e w3 ⟨⟨x0,x1,p1,n1,kp,p2,n2,kq,E2,K2,rfl⟩,hb,hz⟩;have HW3:=hideS hb;have HB3:=hideS (HB2.out.step hb);have z0:=hz.c0;have z1:=hz.c1;have z2:=hz.c2;have z3:=hz.c3;have y0:=hz.fz 0;have y1:=hz.fz 1;have y2:=hz.fz 2;have y3:=hz.fz 3;have k03:=HB3.out.k0;have k13:=HB3.out.k1;have HZ3:=hideS hz;clear hb hz))
 ·obtain⟨w5,hw5⟩:∃ w5,w3.alloc (.cells #[.int .i64 x0,.int .i64 x1,.slice p1 n1 kp,.slice p2 n2 kq] 35)=w5:=⟨_,rfl⟩
  have HBl:Hid (Below w3.heap.size w3 w5):=by show Below _ _ _;rw [← hw5];exact (Below.refl _ _).alloc (Nat.le_refl _) _
  have HWl:Hid (Below wa.heap.size w3 w5):=HBl.out.mono HW3.out.size
  have HD:Hid (V4 w3.heap.size x0 x1 (.slice p1 n1 kp) (.slice p2 n2 kq) w5):=by show V4 _ _ _ _ _ _;rw [← hw5];exact⟨by simp,by simp,by simp,by simp⟩
  rw [hw5]
  clear hw5 k03 k13 hlt3 hne3 HKa HKb hlta hnea k0 k1 HBl
  have HW5:Hid (Below wa.heap.size wa w5):=HW3.out.trans HWl.out
  have HB5:=hideS (HB2.out.step HW5.out)
  clear HV2 HD
  have k0:=HB5.out.k0
  have k1:=HB5.out.k1
  go_wp2_with fail
  refine (H3.out _ HB5.out.bl).mono ?_
  rintro e w6 ⟨rfl,hb⟩
  have HB6:=hideS (HB5.out.step hb)
  clear hb H3 k0 k1
  go_wp2_with fail
  refine (HA.out _).mono ?_
  rintro e w7 ⟨rfl,hb⟩
  have HB7:=hideS (HB6.out.step hb)
  clear hb
  go_wp2_with fail
  go_ret
  exact⟨rfl,HB7.out.bl⟩
 ·obtain⟨w5,hw5⟩:∃ w5,hU w3 wa.heap.size x0 x1 (.slice p1 n1 kp) (.slice p2 n2 kq)=w5:=⟨_,rfl⟩
  have HWl:Hid (Below wa.heap.size w3 w5):=by show Below _ _ _;rw [← hw5];exact ju _ _ _ _ (Nat.le_refl _)
  have HD:Hid (V4 wa.heap.size x0 x1 (.slice p1 n1 kp) (.slice p2 n2 kq) w5):=by show V4 _ _ _ _ _ _;rw [← hw5];exact lO _ _ _ _ HZ3.out
  unfold hU at hw5
  rw [hw5]
  clear hw5 k03 k13 HKa HKb hlta hnea k0 k1 z0 z1 z2 z3 y0 y1 y2 y3 HZ3
  have HW5:Hid (Below wa.heap.size wa w5):=HW3.out.trans HWl.out
  have HB5:=hideS (HB2.out.step HW5.out)
  clear HV2 HD
  have k0:=HB5.out.k0
  have k1:=HB5.out.k1
  go_wp2_with fail
  refine (H3.out _ HB5.out.bl).mono ?_
  rintro e w6 ⟨rfl,hb⟩
  have HB6:=hideS (HB5.out.step hb)
  clear hb H3 k0 k1
  go_wp2_with fail
  refine (HA.out _).mono ?_
  rintro e w7 ⟨rfl,hb⟩
  have HB7:=hideS (HB6.out.step hb)
  clear hb
  go_wp2_with fail
  go_ret
  exact⟨rfl,HB7.out.bl⟩
end Go.Proofs.YtkooknagalgfpaaGreat
namespace Go.Proofs.YtkooknagalgfpaaGreat
open Go.RowKit

set_option maxRecDepth 20000 in
set_option maxHeartbeats 6400000 in
theorem rl (base kind W:Int) (p pq:Option Addr) (n c cq N m:Nat) (w:World) (hm1:1≤m) (hm2:m≤N) (hcq:N≤cq) (hcm:cq≤9223372036854775807) (ds:List Int) (gs:List Nat) (dn:List Int) (fn:List Nat) (hfs:∀ i<m,fn.getD i 0=gs.getD i 0) (hds:∀ i<m,dn.getD i 0=ds.getD i 0)
  (HF:Hid (∀ wx,Below w.heap.size w wx→Calls Tryz.prog 14 #[.int .i64 base,.int .i64 kind,.agg #[.int .i64 W,.slice p n c],.slice pq N cq] wx fun e w'=>(∃ f,e=.returned (.bool f))∧Below wx.heap.size wx w'))
  (H1:Hid (∀ wx,Below w.heap.size w wx→Calls Tryz.prog 12 #[.int .i64 base,.int .i64 kind,.agg #[.int .i64 W,.slice p n c],.slice pq N cq] wx fun e w'=>(∃ g k g' k',e=.returned (.tuple #[.agg #[.int .i64 base,.int .i64 kind,.slice (some ⟨g,0,none⟩) N k,.slice (some ⟨g',0,none⟩) N k'],.int .i64 0,.int .i64 0])∧VSrc w' (some ⟨g,0,none⟩) g 0 N (xV dn)∧VSrc w' (some ⟨g',0,none⟩) g' 0 N (flV fn)∧wx.heap.size≤g∧wx.heap.size≤g')∧Below wx.heap.size wx w'))
  (H2:Hid (∀ wx,Below w.heap.size w wx→Calls Tryz.prog 12 #[.int .i64 base,.int .i64 kind,.agg #[.int .i64 W,.slice p n c],.slice pq m cq] wx fun e w'=>(∃ g k g' k',e=.returned (.tuple #[.agg #[.int .i64 base,.int .i64 kind,.slice (some ⟨g,0,none⟩) m k,.slice (some ⟨g',0,none⟩) m k'],.int .i64 0,.int .i64 0])∧VSrc w' (some ⟨g,0,none⟩) g 0 m (xV ds)∧VSrc w' (some ⟨g',0,none⟩) g' 0 m (flV gs)∧wx.heap.size≤g∧wx.heap.size≤g')∧Below wx.heap.size wx w'))
  (H3:Hid (∀ wx,Below w.heap.size w wx→Calls Tryz.prog 10 #[.int .i64 base,.int .i64 kind,.agg #[.int .i64 W,.slice p n c],.slice pq N cq] wx fun e w'=>e=.returned (.tuple #[.int .i64 0,.int .i64 0])∧Below wx.heap.size wx w')) :
  Calls Tryz.prog 7 #[.int .i64 base,.int .i64 kind,.agg #[.int .i64 W,.slice p n c],.slice pq N cq,.int .i64 m] w fun e w'=>e=.returned (.bool true)∧Below w.heap.size w w':=by
 have HEq:=hideS (And.intro hfs hds)
 have d6:decide ((0:Int)<(m:Int))=true:=decide_eq_true (by omega)
 clear hfs hds
 have HB:=hideS (rh w W (.slice p n c))
 have HA:=hideS lN
 have d1:decide ((m:Int)<1)=false:=decide_eq_false (by omega)
 have d2:decide ((N:Int)<(m:Int))=false:=decide_eq_false (by omega)
 have g1:(0:Int)≤(m:Int):=Int.natCast_nonneg _
 have g2:(m:Int)≤(cq:Int):=by omega
 have g3:m≤cq:=by omega
 go_enter Tryz.func7,Tryz.ntmps7
 go_wp2_with fail
 refine (HF.out _ HB.out.bl).mono ?_
 rintro e w1 ⟨⟨f,rfl⟩,hb⟩
 have HB1:=hideS (HB.out.step hb)
 have k0:=HB1.out.k0
 have k1:=HB1.out.k1
 clear hb HF HB
 cases f
 ·go_wp2_with fail
  refine (HA.out _).mono ?_
  rintro e w2 ⟨rfl,hb⟩
  have HB2:=hideS (HB1.out.step hb)
  clear hb
  go_wp2_with fail
  go_ret
  exact⟨rfl,HB2.out.bl⟩
 go_wp2_with fail
 refine (H1.out _ HB1.out.bl).mono ?_
 rintro e w2 ⟨⟨gc,kc,gd,kd,rfl,sc1,sc2,_,_⟩,hb⟩
 have HV2:=hideS (bu w2 base kind (.slice (some ⟨gc,0,none⟩) N kc) (.slice (some ⟨gd,0,none⟩) N kd))
 have HS0:=hideS (And.intro sc1 sc2)
 clear sc1 sc2
 have HB2:=hideS ((HB1.out.step hb).step HV2.out.bl)
 clear hb H1 k0 k1 HB1
 go_wp2_with fail
 obtain⟨wa,hwa⟩:∃ wa,w2.alloc (.cells #[.int .i64 base,.int .i64 kind,.slice (some ⟨gc,0,none⟩) N kc,.slice (some ⟨gd,0,none⟩) N kd] 35)=wa:=⟨_,rfl⟩
 rw [hwa] at HV2 HB2 ⊢
 clear hwa
 have HSc:=hideS (And.intro (HS0.out.1.below HV2.out.bl) (HS0.out.2.below HV2.out.bl))
 have HCb:Hid (V4 w2.heap.size base kind (.slice (some ⟨gc,0,none⟩) N kc) (.slice (some ⟨gd,0,none⟩) N kd) wa):=⟨HV2.out.t0,HV2.out.t1,HV2.out.t2,HV2.out.t3⟩
 have HCl:Hid (w2.heap.size<wa.heap.size):=HV2.out.lt
 clear HS0
 have k0:=HB2.out.k0
 have k1:=HB2.out.k1
 have hz2:Below wa.heap.size wa (wa.alloc (.cells #[.int .i64 0,.int .i64 0,.slice none 0 0,.slice none 0 0] 35)):=(Below.refl _ _).alloc (Nat.le_refl _) _
 have HKa:=hideS ((H2.out (wa.drewN 1) (cD HB2.out.bl 1)).mono (fun e w' h=>(⟨h.1,⟨h.2.os,h.2.tape,h.2.output,h.2.size,h.2.block⟩⟩:_∧Below wa.heap.size wa w')))
 have HKb:=hideS ((H2.out ((wa.alloc (.cells #[.int .i64 0,.int .i64 0,.slice none 0 0,.slice none 0 0] 35)).drewN 1) (cD (HB2.out.step hz2).bl 1)).mono (fun e w' h=>(⟨h.1,oh hz2 h.2,(CY wa).below ⟨h.2.os,h.2.tape,h.2.output,h.2.size,h.2.block⟩⟩:_∧Below wa.heap.size wa w'∧Z4 wa.heap.size w')))
 clear hz2
 have hlta:w.heap.size<wa.heap.size:=HB2.out.lt
 have hnea:=Nat.ne_of_lt hlta
 go_region_held3 (fun w'=>w'.cell? ⟨w.heap.size,0,none⟩=some (.int .i64 W)∧w'.cell? ⟨w.heap.size,1,none⟩=some (.slice p n c)) (first | exact⟨HB3.out.k0,HB3.out.k1⟩| (refine⟨?_,?_⟩ <;>simp [go_sem, *]) | go_keep) (first | (go_at_call 12;refine HKa.out.mono ?_;rintro e w3 ⟨⟨g,k,g',k',rfl,s1,s2,q1,q2⟩,hb⟩;have HW3:=hideS hb;have HB3:=hideS (HB2.out.step hb);have hlt3:w.heap.size<w3.heap.size:=HB3.out.lt;have hne3:=Nat.ne_of_lt hlt3;have k03:=HB3.out.k0;have k13:=HB3.out.k1;clear hb) | (go_at_call 12;refine HKb.out.mono ?_;rintro e w3 ⟨⟨g,k,g',k',rfl,s1,s2,q1,q2⟩,hb,hz⟩;have HW3:=hideS hb;have HB3:=hideS (HB2.out.step hb);have z0:=hz.c0;have z1:=hz.c1;have z2:=hz.c2;have z3:=hz.c3;have y0:=hz.fz 0;have y1:=hz.fz 1;have y2:=hz.fz 2;have y3:=hz.fz 3;have k03:=HB3.out.k0;have k13:=HB3.out.k1;have HZ3:=hideS hz;clear hb hz))
 ·obtain⟨w5,hw5⟩:∃ w5,w3.alloc (.cells #[.int .i64 base,.int .i64 kind,.slice (some ⟨g,0,none⟩) m k,.slice (some ⟨g',0,none⟩) m k'] 35)=w5:=⟨_,rfl⟩
  have HBl:Hid (Below w3.heap.size w3 w5):=by show Below _ _ _;rw [← hw5];exact (Below.refl _ _).alloc (Nat.le_refl _) _
  have HWl:Hid (Below wa.heap.size w3 w5):=HBl.out.mono HW3.out.size
  have HD:Hid (V4 w3.heap.size base kind (.slice (some ⟨g,0,none⟩) m k) (.slice (some ⟨g',0,none⟩) m k') w5):=by show V4 _ _ _ _ _ _;rw [← hw5];exact⟨by simp,by simp,by simp,by simp⟩
  rw [hw5]
  clear hw5 k03 k13 hlt3 hne3 HKa HKb hlta hnea k0 k1
  have HW5:Hid (Below wa.heap.size wa w5):=HW3.out.trans HWl.out
  have HB5:=hideS (HB2.out.step HW5.out)
  have HSd:=hideS (And.intro (s1.below HBl.out) (s2.below HBl.out))
  clear s1 s2 q1 q2
  have k0:=HB5.out.k0
  have k1:=HB5.out.k1
  go_wp2_with fail
  refine (H3.out _ HB5.out.bl).mono ?_
  rintro e w6 ⟨rfl,hb⟩
  have HB6:=hideS (HB5.out.step hb)
  have HD6:=hideS (HD.out.below hb)
  have HC6:=hideS ((HCb.out.via (fun j=>HW5.out.cell (p:=⟨w2.heap.size,j,none⟩) HCl.out)).below hb)
  have HSd6:=hideS (And.intro (HSd.out.1.below hb) (HSd.out.2.below hb))
  have HSc6:=hideS (And.intro ((HSc.out.1.below HW5.out).below hb) ((HSc.out.2.below HW5.out).below hb))
  have u2:=HD6.out.t2
  have u3:=HD6.out.t3
  have r2:=HC6.out.t2
  have r3:=HC6.out.t3
  clear hb H3 k0 k1 HD HSd HCb HSc HCl
  go_wp2_with fail
  go_loopw [19] (fun i wr=>∃ (j q:Nat),j≤m∧i=.int .i64 j∧wr=w6.drewN q) (fun i _=>m - (intOf i).toNat)
  case atStart=>exact⟨0,0,Nat.zero_le _,rfl,rfl⟩
  case round=>
   obtain⟨j,q,hj,rfl,rfl⟩:=hrel
   by_cases hlt:j<m
   ·have a1:w6.cell? ⟨gd,j,none⟩=some (.float .f64 (fn.getD j 0)):=by have:=HSc6.out.2.cell j (by omega);rw [Nat.zero_add] at this;exact this
    have a2:w6.cell? ⟨g',j,none⟩=some (.float .f64 (fn.getD j 0)):=by have:=HSd6.out.2.cell j hlt;rw [Nat.zero_add] at this;rw [HEq.out.1 j hlt];exact this
    have a3:w6.cell? ⟨gc,j,none⟩=some (.int .i64 (dn.getD j 0)):=by have:=HSc6.out.1.cell j (by omega);rw [Nat.zero_add] at this;exact this
    have a4:w6.cell? ⟨g,j,none⟩=some (.int .i64 (dn.getD j 0)):=by have:=HSd6.out.1.cell j hlt;rw [Nat.zero_add] at this;rw [HEq.out.2 j hlt];exact this
    generalize fn.getD j 0=x at *
    generalize dn.getD j 0=y at *
    obtain⟨wq,hwq⟩:∃ wq,w6.drewN q=wq:=⟨_,rfl⟩
    have HE:Hid (∀ l,∃ q,wq.drewN l=w6.drewN q):=fun l=>⟨q+l,by rw [← hwq,World.drewN_drewN]⟩
    have f1:wq.cell? ⟨gd,j,none⟩=some (.float .f64 x):=by rw [← hwq];exact a1
    have f2:wq.cell? ⟨g',j,none⟩=some (.float .f64 x):=by rw [← hwq];exact a2
    have f3:wq.cell? ⟨gc,j,none⟩=some (.int .i64 y):=by rw [← hwq];exact a3
    have f4:wq.cell? ⟨g,j,none⟩=some (.int .i64 y):=by rw [← hwq];exact a4
    have e2:wq.cell? ⟨w3.heap.size,2,none⟩=some (.slice (some ⟨g,0,none⟩) m k):=by rw [← hwq];exact u2
    have e3:wq.cell? ⟨w3.heap.size,3,none⟩=some (.slice (some ⟨g',0,none⟩) m k'):=by rw [← hwq];exact u3
    have e4:wq.cell? ⟨w2.heap.size,2,none⟩=some (.slice (some ⟨gc,0,none⟩) N kc):=by rw [← hwq];exact r2
    have e5:wq.cell? ⟨w2.heap.size,3,none⟩=some (.slice (some ⟨gd,0,none⟩) N kd):=by rw [← hwq];exact r3
    rw [hwq]
    clear hwq a1 a2 a3 a4 u2 u3 r2 r3
    have l1:(0:Int)≤(j:Int):=Int.natCast_nonneg _
    have l2:(j:Int)<(m:Int):=by omega
    have l3:(j:Int)<(N:Int):=by omega
    have l4:j<N:=by omega
    go_wp2_with fail
    go_quiet ((go_at_call 21;exact Calls.quiet_of_same (kt _ _)))
    go_wp2_with fail
    go_roundw
    case rel=>obtain⟨q',hq'⟩:=HE.out _;exact⟨j+1,q',by omega,by simp,hq'⟩
    case measure=>simp [intOf];omega
   ·obtain rfl:j=m:=by omega
    have l5:decide ((j:Int)<(j:Int))=false:=decide_eq_false (by omega)
    have HB6q:Hid (CBq w W (.slice p n c) (w6.drewN q)):=HB6.out.step (cD (Below.refl _ _) q)
    go_wp2_with fail
    refine (HA.out _).mono ?_
    rintro e w7 ⟨rfl,hb⟩
    have HB7:=hideS (HB6q.out.step hb)
    clear hb
    go_wp2_with fail
    go_ret
    exact⟨rfl,HB7.out.bl⟩
 ·obtain⟨w5,hw5⟩:∃ w5,hU w3 wa.heap.size base kind (.slice (some ⟨g,0,none⟩) m k) (.slice (some ⟨g',0,none⟩) m k')=w5:=⟨_,rfl⟩
  have HWl:Hid (Below wa.heap.size w3 w5):=by show Below _ _ _;rw [← hw5];exact ju _ _ _ _ (Nat.le_refl _)
  have HD:Hid (V4 wa.heap.size base kind (.slice (some ⟨g,0,none⟩) m k) (.slice (some ⟨g',0,none⟩) m k') w5):=by show V4 _ _ _ _ _ _;rw [← hw5];exact lO _ _ _ _ HZ3.out
  have HW5e:=hideS hw5
  unfold hU at hw5
  rw [hw5]
  clear hw5 k03 k13 HKa HKb hlta hnea k0 k1 z0 z1 z2 z3 y0 y1 y2 y3 HZ3
  have HW5:Hid (Below wa.heap.size wa w5):=HW3.out.trans HWl.out
  have HB5:=hideS (HB2.out.step HW5.out)
  have hg1:g≠wa.heap.size:=by simp at q1;omega
  have hg2:g'≠wa.heap.size:=by simp at q2;omega
  have HSd:=hideS (And.intro (vsrc_put4 base kind (.slice (some ⟨g,0,none⟩) m k) (.slice (some ⟨g',0,none⟩) m k') s1 hg1) (vsrc_put4 base kind (.slice (some ⟨g,0,none⟩) m k) (.slice (some ⟨g',0,none⟩) m k') s2 hg2))
  rw [HW5e.out] at HSd
  clear s1 s2 q1 q2 hg1 hg2
  have k0:=HB5.out.k0
  have k1:=HB5.out.k1
  go_wp2_with fail
  refine (H3.out _ HB5.out.bl).mono ?_
  rintro e w6 ⟨rfl,hb⟩
  have HB6:=hideS (HB5.out.step hb)
  have HD6:=hideS (HD.out.below hb)
  have HC6:=hideS ((HCb.out.via (fun j=>HW5.out.cell (p:=⟨w2.heap.size,j,none⟩) HCl.out)).below hb)
  have HSd6:=hideS (And.intro (HSd.out.1.below hb) (HSd.out.2.below hb))
  have HSc6:=hideS (And.intro ((HSc.out.1.below HW5.out).below hb) ((HSc.out.2.below HW5.out).below hb))
  have u2:=HD6.out.t2
  have u3:=HD6.out.t3
  have r2:=HC6.out.t2
  have r3:=HC6.out.t3
  clear hb H3 k0 k1 HD HSd HCb HSc HCl
  go_wp2_with fail
  go_loopw [19] (fun i wr=>∃ (j q:Nat),j≤m∧i=.int .i64 j∧wr=w6.drewN q) (fun i _=>m - (intOf i).toNat)
  case atStart=>exact⟨0,0,Nat.zero_le _,rfl,rfl⟩
  case round=>
   obtain⟨j,q,hj,rfl,rfl⟩:=hrel
   by_cases hlt:j<m
   ·have a1:w6.cell? ⟨gd,j,none⟩=some (.float .f64 (fn.getD j 0)):=by have:=HSc6.out.2.cell j (by omega);rw [Nat.zero_add] at this;exact this
    have a2:w6.cell? ⟨g',j,none⟩=some (.float .f64 (fn.getD j 0)):=by have:=HSd6.out.2.cell j hlt;rw [Nat.zero_add] at this;rw [HEq.out.1 j hlt];exact this
    have a3:w6.cell? ⟨gc,j,none⟩=some (.int .i64 (dn.getD j 0)):=by have:=HSc6.out.1.cell j (by omega);rw [Nat.zero_add] at this;exact this
    have a4:w6.cell? ⟨g,j,none⟩=some (.int .i64 (dn.getD j 0)):=by have:=HSd6.out.1.cell j hlt;rw [Nat.zero_add] at this;rw [HEq.out.2 j hlt];exact this
    generalize fn.getD j 0=x at *
    generalize dn.getD j 0=y at *
    obtain⟨wq,hwq⟩:∃ wq,w6.drewN q=wq:=⟨_,rfl⟩
    have HE:Hid (∀ l,∃ q,wq.drewN l=w6.drewN q):=fun l=>⟨q+l,by rw [← hwq,World.drewN_drewN]⟩
    have f1:wq.cell? ⟨gd,j,none⟩=some (.float .f64 x):=by rw [← hwq];exact a1
    have f2:wq.cell? ⟨g',j,none⟩=some (.float .f64 x):=by rw [← hwq];exact a2
    have f3:wq.cell? ⟨gc,j,none⟩=some (.int .i64 y):=by rw [← hwq];exact a3
    have f4:wq.cell? ⟨g,j,none⟩=some (.int .i64 y):=by rw [← hwq];exact a4
    have e2:wq.cell? ⟨wa.heap.size,2,none⟩=some (.slice (some ⟨g,0,none⟩) m k):=by rw [← hwq];exact u2
    have e3:wq.cell? ⟨wa.heap.size,3,none⟩=some (.slice (some ⟨g',0,none⟩) m k'):=by rw [← hwq];exact u3
    have e4:wq.cell? ⟨w2.heap.size,2,none⟩=some (.slice (some ⟨gc,0,none⟩) N kc):=by rw [← hwq];exact r2
    have e5:wq.cell? ⟨w2.heap.size,3,none⟩=some (.slice (some ⟨gd,0,none⟩) N kd):=by rw [← hwq];exact r3
    rw [hwq]
    clear hwq a1 a2 a3 a4 u2 u3 r2 r3
    have l1:(0:Int)≤(j:Int):=Int.natCast_nonneg _
    have l2:(j:Int)<(m:Int):=by omega
    have l3:(j:Int)<(N:Int):=by omega
    have l4:j<N:=by omega
    go_wp2_with fail
    go_quiet ((go_at_call 21;exact Calls.quiet_of_same (kt _ _)))
    go_wp2_with fail
    go_roundw
    case rel=>obtain⟨q',hq'⟩:=HE.out _;exact⟨j+1,q',by omega,by simp,hq'⟩
    case measure=>simp [intOf];omega
   ·obtain rfl:j=m:=by omega
    have l5:decide ((j:Int)<(j:Int))=false:=decide_eq_false (by omega)
    have HB6q:Hid (CBq w W (.slice p n c) (w6.drewN q)):=HB6.out.step (cD (Below.refl _ _) q)
    go_wp2_with fail
    refine (HA.out _).mono ?_
    rintro e w7 ⟨rfl,hb⟩
    have HB7:=hideS (HB6q.out.step hb)
    clear hb
    go_wp2_with fail
    go_ret
    exact⟨rfl,HB7.out.bl⟩
end Go.Proofs.YtkooknagalgfpaaGreat
