/-  -/
import Derived.Test.YtjjlnmihkadlmaaGreatHac
import Derived.Lib.MinMax
import Derived.Test.YtjjlnmihkadlmaaGreatHas
namespace Go.Proofs.YtjjlnmihkadlmaaGreat
open Go.RowKit

theorem DN.form {w:World} {v:Value} {N:Nat} (h:DN w v N):∃ p c,v=.slice p (nd N) c:=by
 rcases h with⟨h0,p,c,rfl⟩| ⟨h0,g,c,rfl,_⟩
 ·exact⟨p,c,by rw [h0];rfl⟩
 ·exact⟨_,_,rfl⟩

set_option maxRecDepth 10000 in
set_option maxHeartbeats 800000 in
theorem lE (p q:Option Addr) (c d m n L A B:Nat) (w:World) (hA:Hid (DN w (.slice p m c) A)) (hB:Hid (DN w (.slice q n d) B)) (hL:max (m:Int) (n:Int)=(L:Int)) (hm:m≤10000000) (hn:n≤10000000) (hA2:Hid (A<2^(32*m))) (hB2:Hid (B<2^(32*n))) :
  Calls Tryz.prog 125 #[.slice p m c,.slice q n d] w fun e w'=>∃ v,e=.returned v∧DN w' v (A+B)∧From w.heap.size v∧Below w.heap.size w w':=by
 have hL1:m≤L:=by omega
 have hL2:n≤L:=by omega
 have hL3:L≤10000000:=by omega
 have hmk:=fun w=>run_make_row' (P:=Tryz.prog) 30 57 (.int .u64 0) 8 Tryz.underlying30 dq rfl .i64 .i64 (L+1) (by omega) (by omega) w
 have ec:((L+1:Nat):Int)=(L:Int)+1:=by omega
 rw [ec] at hmk
 clear ec
 have HO:=aa (gK w (L+1) (A+B))
 go_enter Tryz.func125,Tryz.ntmps125
 go_wp2_with fail
 go_loopw [7,8] (fun s i wr=>∃ k c:Nat,k≤L+1∧c≤1∧i=.int .i64 k∧s=.int .u64 c∧Hid (c=cry A B k)∧Hid (nu wr w.heap.size (L+1) (A+B) k)∧Hid (Below w.heap.size w wr)) (fun _ i _=>L+1 - (intOf i).toNat)
 case atStart=>exact⟨0,0,Nat.zero_le _,Nat.zero_le _,rfl,rfl,(rO A B).symm,HO,(Below.refl _ _).alloc (Nat.le_refl _) _⟩
 case round=>
  clear HO hmk
  obtain⟨k,x,hk,hx,rfl,rfl,HC,HH,HB⟩:=hrel
  by_cases hlt:k<L+1
  ·have H1:=aa (gJ _ A k wr (hA.out.below HB.out))
   have H2:=aa (gJ _ B k wr (hB.out.below HB.out))
   have b1:=aX A k
   have b2:=aX B k
   have h1:=HH.out.cell (i:=k) (by omega)
   have f1:=HH.out.frozen k
   have HS:=aa fun a b (ha:a=dgt A k) (hb:b=dgt B k)=>yj (s:=a+b+x) ha hb HC.out rfl
   generalize hD:dgt A k=a at H1 b1
   generalize hE:dgt B k=b at H2 b2
   have HS:=aa (HS.out a b hD.symm hE.symm)
   clear hD hE
   go_wp2_with fail
   refine H1.out.mono ?_
   rintro e w' ⟨rfl,rfl⟩
   go_wp2_with fail
   refine H2.out.mono ?_
   rintro e w' ⟨rfl,rfl⟩
   go_wp2_with fail
   go_roundw
   case rel=>exact⟨k+1,(a+b+x) / 4294967296,by omega,by omega,by go_num,by go_num,HS.out.2,gL HH.out (by rw [← HS.out.1];omega),HB.out.setCell (Nat.le_refl _) _⟩
   case measure=>simp [intOf];omega
  ·obtain rfl:k=L+1:=by omega
   have HO2:=aa (iZ HH.out)
   have hM:Hid (A+B<2^(32*(L+1))):=sum_lt hA2.out hB2.out (by omega) (by omega)
   have hlt2:=HO2.out.lt
   have HD:=aa (kq HO2.out.row hM.out (Nat.le_refl _) hlt2)
   go_wp2_with fail
   refine (cN _ _ _ _ _ HO2.out.row hM.out (Nat.le_refl _) (by omega)).mono ?_
   rintro e w' ⟨rfl,rfl⟩
   go_wp2_with fail
   go_ret
   exact⟨_,rfl,HD.out,ft _ _ _ _ (Nat.le_refl _),HB.out⟩

theorem ii (u v:Value) (A B:Nat) (w:World) (hA:DN w u A) (hB:DN w v B) (ha:nd A≤10000000) (hb:nd B≤10000000) :
  Calls Tryz.prog 125 #[u,v] w fun e w'=>∃ v,e=.returned v∧DN w' v (A+B)∧From w.heap.size v∧Below w.heap.size w w':=by
 obtain⟨p,c,rfl⟩:=hA.form
 obtain⟨q,d,rfl⟩:=hB.form
 exact lE p q c d (nd A) (nd B) (max (nd A) (nd B)) A B w hA hB (by omega) ha hb (cG A) (cG B)

set_option maxRecDepth 10000 in
set_option maxHeartbeats 400000 in
theorem nD (p:Option Addr) (c:Nat) (v:Value) (w:World) :
  Calls Tryz.prog 127 #[.slice p 0 c,v] w fun e w'=>∃ v,e=.returned v∧DN w' v 0∧From w.heap.size v∧Below w.heap.size w w':=by
 have hmk:=fun w=>run_make_row' (P:=Tryz.prog) 30 57 (.int .u64 0) 8 Tryz.underlying30 dq rfl .i64 .i64 0 (by omega) (by omega) w
 rw [show ((0:Nat):Int)=0 from rfl] at hmk
 go_enter Tryz.func127,Tryz.ntmps127
 go_wp2_with fail
 go_loopw [6,7] (fun s i wr=>i=.int .i64 0∧s=.int .u64 0∧Hid (Below w.heap.size w wr)) (fun _ _ _=>0)
 case atStart=>exact⟨rfl,rfl,(Below.refl _ _).alloc (Nat.le_refl _) _⟩
 case round=>
  obtain⟨rfl,rfl,HB⟩:=hrel
  go_wp2_with fail
  refine (cN w.heap.size 0 0 0 _ (fun i hi=>absurd hi (by omega)) (by decide) (Nat.le_refl _) (by omega)).mono ?_
  rintro e w' ⟨rfl,rfl⟩
  go_wp2_with fail
  go_ret
  exact⟨_,rfl,Or.inl ⟨rfl,_,_,rfl⟩,ft _ _ _ _ (Nat.le_refl _),HB.out⟩

set_option maxRecDepth 10000 in
set_option maxHeartbeats 800000 in
theorem nE (g:Nat) (v:Value) (c m B D:Nat) (w:World) (hrow:Hid (RowIs w g m (B+D))) (hg:g<w.heap.size) (hB:Hid (DN w v B)) (hm:m≤10000000) (hA2:Hid (B+D<2^(32*m))) :
  Calls Tryz.prog 127 #[.slice (some ⟨g,0,none⟩) m c,v] w fun e w'=>∃ v,e=.returned v∧DN w' v D∧From w.heap.size v∧Below w.heap.size w w':=by
 have hmk:=fun w=>run_make_row' (P:=Tryz.prog) 30 57 (.int .u64 0) 8 Tryz.underlying30 dq rfl .i64 .i64 m (by omega) (by omega) w
 have HO:=aa (gK w m D)
 go_enter Tryz.func127,Tryz.ntmps127
 go_wp2_with fail
 go_loopw [6,7] (fun s i wr=>∃ k c:Nat,k≤m∧c≤1∧i=.int .i64 k∧s=.int .u64 c∧Hid (c=cry B D k)∧Hid (nu wr w.heap.size m D k)∧Hid (Below w.heap.size w wr)) (fun _ i _=>m - (intOf i).toNat)
 case atStart=>exact⟨0,0,Nat.zero_le _,Nat.zero_le _,rfl,rfl,(rO B D).symm,HO,(Below.refl _ _).alloc (Nat.le_refl _) _⟩
 case round=>
  clear HO hmk
  obtain⟨k,x,hk,hx,rfl,rfl,HC,HH,HB⟩:=hrel
  by_cases hlt:k<m
  ·have hc:wr.cell? ⟨g,k,none⟩=some (.int .u64 (dgt (B+D) k:Int)):=(HB.out.cell (p:=⟨g,k,none⟩) hg).trans (hrow.out k hlt)
   have H2:=aa fun q=>gJ _ B k (wr.drewN q) (hB.out.below (below_drewN HB.out q))
   have b1:=aX (B+D) k
   have b2:=aX B k
   have h1:=HH.out.cell (i:=k) (by omega)
   have f1:=HH.out.frozen k
   have HS:=aa (yk (k:=k) rfl rfl HC.out)
   generalize dgt (B+D) k=a at hc b1 HS
   generalize dgt B k=b at H2 b2 HS
   have hle:=HS.out.1
   have hle2:=HS.out.2.2.1
   have w1:IntKind.u64.wrap ((a:Int)+4294967296)=(a:Int)+4294967296:=by rw [IntKind.wrap_u64];omega
   have w2:IntKind.u64.wrap ((a:Int)+4294967296 - (b:Int))=(a:Int)+4294967296 - (b:Int):=by rw [IntKind.wrap_u64];omega
   have w3:IntKind.u64.wrap ((a:Int)+4294967296 - (b:Int) - (x:Int))=((a+4294967296 - b - x:Nat):Int):=by rw [IntKind.wrap_u64];omega
   have hs:a+4294967296 - b - x<8589934592:=by omega
   generalize a+4294967296 - b - x=s at w3 HS hle2 hs
   go_wp2_with fail
   go_quiet ((go_at_call 161;exact Calls.quiet_of_same (H2.out _)))
   go_wp2_with fail
   go_roundw
   case rel=>exact⟨k+1,1 - s / 4294967296,by omega,by omega,by go_num,by go_num,HS.out.2.2.2,gL (w:=wr.drewN nq) HH.out (by rw [← HS.out.2.1];omega),(below_drewN HB.out _).setCell (Nat.le_refl _) _⟩
   case measure=>simp [intOf];omega
  ·obtain rfl:k=m:=by omega
   have HO2:=aa (iZ HH.out)
   have hM:Hid (D<2^(32*k)):=by show _<_;have:=hA2.out;omega
   have hlt2:=HO2.out.lt
   have HD:=aa (kq HO2.out.row hM.out (Nat.le_refl _) hlt2)
   go_wp2_with fail
   refine (cN _ _ _ _ _ HO2.out.row hM.out (Nat.le_refl _) (by omega)).mono ?_
   rintro e w' ⟨rfl,rfl⟩
   go_wp2_with fail
   go_ret
   exact⟨_,rfl,HD.out,ft _ _ _ _ (Nat.le_refl _),HB.out⟩

theorem df (u v:Value) (A B:Nat) (w:World) (hA:DN w u A) (hB:DN w v B) (ha:nd A≤10000000) (hle:B≤A) :
  Calls Tryz.prog 127 #[u,v] w fun e w'=>∃ v,e=.returned v∧DN w' v (A - B)∧From w.heap.size v∧Below w.heap.size w w':=by
 obtain⟨D,rfl⟩:∃ D,A=B+D:=⟨A - B,by omega⟩
 rw [Nat.add_sub_cancel_left]
 rcases hA with⟨h0,p,c,rfl⟩| ⟨h0,g,c,rfl,hc,hg,hr⟩
 ·rw [show D=0 by omega];exact nD p c v w
 ·exact nE g v c (nd (B+D)) B D w hr hg hB ha (cG _)

theorem nF (p q:Option Addr) (m n c d A B:Nat) (w:World) (hA:Hid (nd A=m)) (hB:Hid (nd B=n)) (hne:m≠n) :
  Calls Tryz.prog 126 #[.slice p m c,.slice q n d] w fun e w'=>e=.returned (.int .i64 (jP A B))∧∃ q,w'=w.drewN q:=by
 rcases Nat.lt_or_gt_of_ne hne with h | h
 ·have e:jP A B= -1:=jb (rQ (by rw [hA.out,hB.out];exact h))
  rw [e]
  go_enter Tryz.func126,Tryz.ntmps126
  go_wp2
  go_ret
  exact⟨rfl,0,rfl⟩
 ·have e:jP A B=1:=jd (rQ (by rw [hA.out,hB.out];exact h))
  rw [e]
  go_enter Tryz.func126,Tryz.ntmps126
  go_wp2
  go_ret
  exact⟨rfl,0,rfl⟩

theorem rR {A n:Nat} (h:A<2^(32*n)):A / 2^(32*n)=0:=Nat.div_eq_of_lt h

set_option maxHeartbeats 800000 in
theorem nG (g f n c d A B:Nat) (w:World) (hrA:Hid (RowIs w g n A)) (hrB:Hid (RowIs w f n B)) (hA:Hid (A<2^(32*n))) (hB:Hid (B<2^(32*n))) (hn:n≤10000000) :
  Calls Tryz.prog 126 #[.slice (some ⟨g,0,none⟩) n c,.slice (some ⟨f,0,none⟩) n d] w fun e w'=>e=.returned (.int .i64 (jP A B))∧∃ q,w'=w.drewN q:=by
 go_enter Tryz.func126,Tryz.ntmps126
 go_wp2_with fail
 go_loopw [5] (fun i wr=>∃ k:Nat,k≤n∧i=.int .i64 ((k:Int) - 1)∧Hid (A / 2^(32*k)=B / 2^(32*k))∧Hid (∃ q,wr=w.drewN q)) (fun i _=>(intOf i+1).toNat)
 case atStart=>exact⟨n,Nat.le_refl _,rfl,by show _=_;rw [rR hA.out,rR hB.out],0,rfl⟩
 case round=>
  obtain⟨k,hk,rfl,HE,HQ⟩:=hrel
  cases k with
  | zero=>
   have e:jP A B=0:=jc (by have:=HE.out;rw [Nat.mul_zero,Nat.pow_zero,Nat.div_one,Nat.div_one] at this;exact this)
   have E:=aa e.symm
   clear e
   go_wp2_with fail
   go_ret
   exact⟨bW E.out,HQ.out⟩
  | succ j=>
   have e1:((j+1:Nat):Int) - 1=(j:Int):=by omega
   rw [e1]
   have hc1:wr.cell? ⟨g,j,none⟩=some (.int .u64 (dgt A j:Int)):=by obtain⟨q,rfl⟩:=HQ.out;exact hrA.out j (by omega)
   have hc2:wr.cell? ⟨f,j,none⟩=some (.int .u64 (dgt B j:Int)):=by obtain⟨q,rfl⟩:=HQ.out;exact hrB.out j (by omega)
   clear e1
   have H1:=aa fun h=>jb (om HE.out h)
   have H2:=aa fun h=>jd (om HE.out.symm h)
   have H3:=aa fun h=>yl HE.out h
   generalize dgt A j=a at hc1 H1 H2 H3
   generalize dgt B j=b at hc2 H1 H2 H3
   clear HE
   rcases Nat.lt_trichotomy a b with h | h | h
   ·have e:=H1.out h
    have E:=aa e.symm
    clear e H1 H2 H3
    go_wp2_with fail
    go_quiet (fail)
    go_wp2_with fail
    go_ret
    refine⟨bW E.out,?_⟩
    obtain⟨q,rfl⟩:=HQ.out;exact⟨_,World.drewN_drewN _ _ _⟩
   ·have H4:=aa (H3.out h)
    clear H1 H2 H3
    subst h
    go_wp2_with fail
    go_quiet (fail)
    go_wp2_with fail
    go_quiet (fail)
    go_wp2_with fail
    go_roundw
    case rel=>
     refine⟨j,by omega,by go_num,H4,?_⟩
     obtain⟨q,rfl⟩:=HQ.out
     exact⟨_,by first | exact World.drewN_drewN _ _ _ | rw [World.drewN_drewN,World.drewN_drewN]⟩
    case measure=>simp [intOf]
   ·have e:=H2.out h
    have E:=aa e.symm
    clear e H1 H2 H3
    go_wp2_with fail
    go_quiet (fail)
    go_wp2_with fail
    go_quiet (fail)
    go_wp2_with fail
    go_ret
    refine⟨bW E.out,?_⟩
    obtain⟨q,rfl⟩:=HQ.out;exact⟨_,by first | exact World.drewN_drewN _ _ _ | rw [World.drewN_drewN,World.drewN_drewN]⟩

set_option maxHeartbeats 800000 in
theorem nH (p q:Option Addr) (c d:Nat) (w:World) :
  Calls Tryz.prog 126 #[.slice p 0 c,.slice q 0 d] w fun e w'=>e=.returned (.int .i64 0)∧∃ q,w'=w.drewN q:=by
 go_enter Tryz.func126,Tryz.ntmps126
 go_wp2_with fail
 go_loop [5] (fun i=>i=.int .i64 (-1)) (fun _=>0)
 case atStart=>rfl
 case round=>
  subst hrel
  go_wp2_with fail
  go_ret
  exact⟨rfl,0,rfl⟩

theorem ck (u v:Value) (A B:Nat) (w:World) (hA:DN w u A) (hB:DN w v B) (ha:nd A≤10000000) :
  Calls Tryz.prog 126 #[u,v] w fun e w'=>e=.returned (.int .i64 (jP A B))∧∃ q,w'=w.drewN q:=by
 by_cases hne:nd A=nd B
 ·rcases hA with⟨h0,p,c,rfl⟩| ⟨h0,g,c,rfl,hc,hg,hr⟩
  ·rcases hB with⟨h1,q,d,rfl⟩| ⟨h1,f,d,rfl,hd,hf,hs⟩
   ·rw [jc (h0.trans h1.symm)];exact nH p q c d w
   ·exfalso;have h2:=dw h1;rw [h0,pM] at hne;omega
  ·rcases hB with⟨h1,q,d,rfl⟩| ⟨h1,f,d,rfl,hd,hf,hs⟩
   ·exfalso;have h2:=dw h0;rw [h1,pM] at hne;omega
   ·rw [← hne] at hs ⊢
    exact nG g f (nd A) c d A B w hr hs (cG A) (by show _<_;rw [hne];exact cG B) ha
 ·obtain⟨p,c,rfl⟩:=hA.form
  obtain⟨q,d,rfl⟩:=hB.form
  exact nF p q _ _ c d A B w rfl rfl hne

end Go.Proofs.YtjjlnmihkadlmaaGreat
namespace Go.Proofs.YtjjlnmihkadlmaaGreat
open Go.RowKit

def gk (X:Nat) (ex:Int) (Y:Nat) (ey:Int):Int:=if X=0 then ey else if Y=0 then ex else min ex ey
def sg (neg:Bool) (N:Nat):Int:=if neg then -(N:Int) else (N:Int)

abbrev boxN (w:World) (n:Bool) (v:Value) (e:Int):World:=w.alloc (.cells #[.bool n,v,.int .i64 e] 32)
theorem aH (w:World) (n:Bool) (v:Value) (e:Int):Below w.heap.size w (boxN w n v e):=(Below.refl _ _).alloc (Nat.le_refl _) _

def Six (w:World) (B:Nat) (nx:Bool) (vx:Value) (ex:Int) (ny:Bool) (vy:Value) (ey:Int):Prop:=
 w.cell? ⟨B,0,none⟩=some (.bool nx)∧w.cell? ⟨B,1,none⟩=some vx∧w.cell? ⟨B,2,none⟩=some (.int .i64 ex)∧
 w.cell? ⟨B+1,0,none⟩=some (.bool ny)∧w.cell? ⟨B+1,1,none⟩=some vy∧w.cell? ⟨B+1,2,none⟩=some (.int .i64 ey)
theorem pT (w:World) (nx:Bool) (vx:Value) (ex:Int) (ny:Bool) (vy:Value) (ey:Int):Six (boxN (boxN w nx vx ex) ny vy ey) w.heap.size nx vx ex ny vy ey:=by
 have hb:=aH (boxN w nx vx ex) ny vy ey
 have hs:w.heap.size<(boxN w nx vx ex).heap.size:=by simp
 refine⟨?_,?_,?_,?_,?_,?_⟩
 ·rw [hb.cell (p:=⟨w.heap.size,0,none⟩) hs];simp
 ·rw [hb.cell (p:=⟨w.heap.size,1,none⟩) hs];simp
 ·rw [hb.cell (p:=⟨w.heap.size,2,none⟩) hs];simp
 ·have e:w.heap.size+1=(boxN w nx vx ex).heap.size:=by simp
  rw [e];simp
 ·have e:w.heap.size+1=(boxN w nx vx ex).heap.size:=by simp
  rw [e];simp
 ·have e:w.heap.size+1=(boxN w nx vx ex).heap.size:=by simp
  rw [e];simp
theorem Six.below {w w':World} {B:Nat} {nx ny:Bool} {vx vy:Value} {ex ey:Int} {s:Nat} (h:Six w B nx vx ex ny vy ey) (hb:Below s w w') (hs:B+1<s):Six w' B nx vx ex ny vy ey:=by
 obtain⟨a,b,c,d,e,f⟩:=h
 exact⟨(hb.cell (p:=⟨B,0,none⟩) (by show B<s;omega)).trans a,(hb.cell (p:=⟨B,1,none⟩) (by show B<s;omega)).trans b,(hb.cell (p:=⟨B,2,none⟩) (by show B<s;omega)).trans c,(hb.cell (p:=⟨B+1,0,none⟩) hs).trans d,(hb.cell (p:=⟨B+1,1,none⟩) hs).trans e,(hb.cell (p:=⟨B+1,2,none⟩) hs).trans f⟩
theorem eO (w:World) (nx:Bool) (vx:Value) (ex:Int) (ny:Bool) (vy:Value) (ey:Int):(boxN (boxN w nx vx ex) ny vy ey).heap.size=w.heap.size+2:=by simp

set_option maxHeartbeats 800000 in
theorem rS (nx ny:Bool) (vx vy:Value) (ex ey:Int) (X Y:Nat) (w:World) (hX:DN w vx X) (hY:DN w vy Y) :
  Calls Tryz.prog 123 #[.agg #[.bool nx,vx,.int .i64 ex],.agg #[.bool ny,vy,.int .i64 ey]] w fun e w'=>e=.returned (.int .i64 (gk X ex Y ey))∧Below w.heap.size w w':=by
 have hbx:=aH w nx vx ex
 have hby:Below w.heap.size w (boxN (boxN w nx vx ex) ny vy ey):=hbx.trans ((aH (boxN w nx vx ex) ny vy ey).mono (by simp))
 have H1:=aa (hX.below hby)
 have H2:=aa (hY.below hby)
 have HB:=aa hby
 have H6:=aa (pT w nx vx ex ny vy ey)
 have HZ:=aa (eO w nx vx ex ny vy ey)
 clear hbx hby hX hY
 unfold gk
 by_cases h0:X=0
 ·subst h0
  rw [if_pos rfl]
  go_enter Tryz.func123,Tryz.ntmps123
  go_wp2_with fail
  refine (aR _ _ _ 0 true _ H1.out rfl).mono ?_
  rintro x w1 ⟨rfl,hb1⟩
  have H7:=aa (H6.out.below hb1 (by rw [HZ.out];omega))
  have hz:w.heap.size+1<w1.heap.size:=by have h9:=hb1.size;rw [HZ.out] at h9;omega
  obtain⟨c0,c1,c2,c3,c4,c5⟩:=H7.out
  have HB1:=aa hb1
  clear hb1
  go_wp2_with fail
  go_ret
  exact⟨rfl,HB.out.trans (HB1.out.mono (by rw [HZ.out];omega))⟩
 ·rw [if_neg h0]
  have HX:=aa h0
  clear h0
  by_cases h0:Y=0
  ·subst h0
   rw [if_pos rfl]
   go_enter Tryz.func123,Tryz.ntmps123
   go_wp2_with fail
   refine (aR _ _ _ X false _ H1.out (decide_eq_false HX.out)).mono ?_
   rintro x w1 ⟨rfl,hb1⟩
   have H7:=aa (H6.out.below hb1 (by rw [HZ.out];omega))
   have hz:w.heap.size+1<w1.heap.size:=by have h9:=hb1.size;rw [HZ.out] at h9;omega
   obtain⟨c0,c1,c2,c3,c4,c5⟩:=H7.out
   have HB1:=aa hb1
   have H2:=aa (H2.out.below hb1)
   clear hb1
   go_wp2_with fail
   refine (aR _ _ _ 0 true _ H2.out rfl).mono ?_
   rintro x w2 ⟨rfl,hb2⟩
   obtain⟨d0,d1,d2,d3,d4,d5⟩:=H7.out.below hb2 hz
   clear c0 c1 c2 c3 c4 c5
   have HB2:=aa hb2
   clear hb2
   go_wp2_with fail
   go_ret
   exact⟨rfl,(HB.out.trans (HB1.out.mono (by rw [HZ.out];omega))).trans (HB2.out.mono (by omega))⟩
  ·rw [if_neg h0]
   have HY:=aa h0
   clear h0
   go_enter Tryz.func123,Tryz.ntmps123
   go_wp2_with fail
   refine (aR _ _ _ X false _ H1.out (decide_eq_false HX.out)).mono ?_
   rintro x w1 ⟨rfl,hb1⟩
   have H7:=aa (H6.out.below hb1 (by rw [HZ.out];omega))
   have hz:w.heap.size+1<w1.heap.size:=by have h9:=hb1.size;rw [HZ.out] at h9;omega
   obtain⟨c0,c1,c2,c3,c4,c5⟩:=H7.out
   have HB1:=aa hb1
   have H2:=aa (H2.out.below hb1)
   clear hb1
   go_wp2_with fail
   refine (aR _ _ _ Y false _ H2.out (decide_eq_false HY.out)).mono ?_
   rintro x w2 ⟨rfl,hb2⟩
   obtain⟨d0,d1,d2,d3,d4,d5⟩:=H7.out.below hb2 hz
   clear c0 c1 c2 c3 c4 c5
   have HB2:=aa hb2
   clear hb2
   go_wp2_with fail
   go_ret
   exact⟨rfl,(HB.out.trans (HB1.out.mono (by rw [HZ.out];omega))).trans (HB2.out.mono (by omega))⟩

set_option maxHeartbeats 800000 in
theorem kT (nx:Bool) (vx:Value) (ex e:Int) (X n:Nat) (w:World) (hX:DN w vx X) (hn:X≠0→ex - e=(n:Int)) (hn1:n≤100000000) (hnd:nd X≤10000000) :
  Calls Tryz.prog 124 #[.agg #[.bool nx,vx,.int .i64 ex],.int .i64 e] w fun x w'=>∃ v,x=.returned v∧DN w' v (X*2^n)∧Below w.heap.size w w':=by
 have HB:=aa (aH w nx vx ex)
 have H1:=aa (hX.below HB.out)
 clear hX
 by_cases h0:X=0
 ·subst h0
  rw [Nat.zero_mul]
  go_enter Tryz.func124,Tryz.ntmps124
  go_wp2_with fail
  refine (aR _ _ _ 0 true _ H1.out rfl).mono ?_
  rintro x w1 ⟨rfl,hb1⟩
  have HB1:=aa hb1
  clear hb1
  go_wp2_with fail
  go_ret
  exact⟨_,rfl,Or.inl ⟨rfl,_,_,rfl⟩,HB.out.trans (HB1.out.mono (by simp))⟩
 ·have he:=hn h0
  have HX:=aa h0
  clear h0 hn
  go_enter Tryz.func124,Tryz.ntmps124
  go_wp2_with fail
  refine (aR _ _ _ X false _ H1.out (decide_eq_false HX.out)).mono ?_
  rintro x w1 ⟨rfl,hb1⟩
  obtain⟨c1,f1⟩:=rL hb1
  have HB1:=aa hb1
  have H2:=aa (H1.out.below hb1)
  clear hb1
  go_wp2_with fail
  refine (ks vx X n _ H2.out hnd hn1).mono ?_
  rintro x w2 ⟨v2,rfl,hd2,hb2⟩
  have HB2:=aa hb2
  have HD2:=aa hd2
  clear hb2 hd2
  have hz:w.heap.size≤w1.heap.size:=by have:=HB1.out.size;simp at this;omega
  go_wp2_with fail
  go_ret
  exact⟨_,rfl,HD2.out,(HB.out.trans (HB1.out.mono (by simp))).trans (HB2.out.mono hz)⟩

end Go.Proofs.YtjjlnmihkadlmaaGreat
namespace Go.Proofs.YtjjlnmihkadlmaaGreat
open Go.RowKit

abbrev pbox (w:World) (nx:Bool) (vx:Value) (ex:Int) (ny:Bool) (vy:Value) (ey:Int):World:=boxN (boxN (boxN w nx vx ex) ny vy ey) false (.slice none 0 0) 0
theorem gN (w:World) (nx:Bool) (vx:Value) (ex:Int) (ny:Bool) (vy:Value) (ey:Int):(pbox w nx vx ex ny vy ey).heap.size=w.heap.size+3:=by simp
theorem cW (w:World) (nx:Bool) (vx:Value) (ex:Int) (ny:Bool) (vy:Value) (ey:Int):Below w.heap.size w (pbox w nx vx ex ny vy ey):=
 ((aH w nx vx ex).trans ((aH (boxN w nx vx ex) ny vy ey).mono (by simp))).trans ((aH _ _ _ _).mono (by rw [eO];omega))
theorem je (w:World) (nx:Bool) (vx:Value) (ex:Int) (ny:Bool) (vy:Value) (ey:Int):Six (pbox w nx vx ex ny vy ey) w.heap.size nx vx ex ny vy ey:=
 (pT w nx vx ex ny vy ey).below (aH _ _ _ _) (by rw [eO];omega)
theorem From.mono {A B:Nat} {v:Value} (h:From B v) (hle:A≤B):From A v:=fun a l c e=>Nat.le_trans hle (h a l c e)

theorem DU (w:World) (n:Bool) (v:Value) (e:Int) :
  ((boxN w n v e).cell? ⟨w.heap.size,0,none⟩=some (.bool n)∧(boxN w n v e).cell? ⟨w.heap.size,1,none⟩=some v∧(boxN w n v e).cell? ⟨w.heap.size,2,none⟩=some (.int .i64 e))∧
  ((boxN w n v e).frozen? ⟨w.heap.size,0,none⟩=false∧(boxN w n v e).frozen? ⟨w.heap.size,1,none⟩=false∧(boxN w n v e).frozen? ⟨w.heap.size,2,none⟩=false):=by
 refine⟨⟨?_,?_,?_⟩,?_,?_,?_⟩ <;>first | exact World.frozen?_alloc_new _ _ _ _ | simp
theorem cm {w w':World} {nx ny:Bool} {vx vy:Value} {ex ey:Int} (hb:Below (w.heap.size+3) (pbox w nx vx ex ny vy ey) w') :
  (w'.cell? ⟨w.heap.size+1+1,0,none⟩=some (.bool false)∧w'.cell? ⟨w.heap.size+1+1,1,none⟩=some (.slice none 0 0)∧w'.cell? ⟨w.heap.size+1+1,2,none⟩=some (.int .i64 0))∧
  (w'.frozen? ⟨w.heap.size+1+1,0,none⟩=false∧w'.frozen? ⟨w.heap.size+1+1,1,none⟩=false∧w'.frozen? ⟨w.heap.size+1+1,2,none⟩=false):=by
 have hs:w.heap.size+1+1<w.heap.size+3:=by omega
 have h:=DU (boxN (boxN w nx vx ex) ny vy ey) false (.slice none 0 0) 0
 rw [eO] at h
 obtain⟨⟨a,b,c⟩,d,e,f⟩:=h
 exact⟨⟨(hb.cell (p:=⟨w.heap.size+1+1,0,none⟩) hs).trans a,(hb.cell (p:=⟨w.heap.size+1+1,1,none⟩) hs).trans b,(hb.cell (p:=⟨w.heap.size+1+1,2,none⟩) hs).trans c⟩,
  (hb.frozen (p:=⟨w.heap.size+1+1,0,none⟩) hs).trans d,(hb.frozen (p:=⟨w.heap.size+1+1,1,none⟩) hs).trans e,(hb.frozen (p:=⟨w.heap.size+1+1,2,none⟩) hs).trans f⟩

def ei (w:World) (E S:Int) (x:Ending) (w':World):Prop:=
 ∃ neg' v' N' E',x=.returned (.agg #[.bool neg',v',.int .i64 E'])∧DN w' v' N'∧From w.heap.size v'∧sg neg' N'=S∧(E'=E∨(E'=0∧N'=0))∧Below w.heap.size w w'

theorem cX {w w4:World} {nx ny neg:Bool} {vx vy v:Value} {ex ey E S:Int} {N:Nat} (hb:Below (w.heap.size+3) (pbox w nx vx ex ny vy ey) w4) (hd:DN w4 v N) (hf:From (w.heap.size+3) v) (hs:sg neg N=S) :
  ei w E S (.returned (.agg #[.bool neg,v,.int .i64 E])) (((w4.setCell ⟨w.heap.size+1+1,0,none⟩ (.bool neg)).setCell ⟨w.heap.size+1+1,1,none⟩ v).setCell ⟨w.heap.size+1+1,2,none⟩ (.int .i64 E)):=by
 refine⟨neg,v,N,E,rfl,((hd.set hf (a:=⟨w.heap.size+1+1,0,none⟩) (Nat.lt_succ_self _) _).set hf (a:=⟨w.heap.size+1+1,1,none⟩) (Nat.lt_succ_self _) _).set hf (a:=⟨w.heap.size+1+1,2,none⟩) (Nat.lt_succ_self _) _,hf.mono (by omega),hs,Or.inl rfl,?_⟩
 have h9:w.heap.size≤w.heap.size+1+1:=by omega
 exact ((((cW w nx vx ex ny vy ey).trans (hb.mono (by omega))).setCell h9 _).setCell h9 _).setCell h9 _

set_option maxHeartbeats 1600000 in
theorem Bc (nx ny:Bool) (vx vy:Value) (ex ey E:Int) (X Y n m a b:Nat) (w:World) (hX:DN w vx X) (hY:DN w vy Y)
  (hE:Hid (gk X ex Y ey=E)) (hn:X≠0→ex - E=(n:Int)) (hm:Y≠0→ey - E=(m:Int)) (hn1:n≤1000000) (hm1:m≤1000000) (hXd:nd X≤1000000) (hYd:nd Y≤1000000)
  (ha:Hid (X*2^n=a)) (hb:Hid (Y*2^m=b)) (had:nd a≤10000000) (hbd:nd b≤10000000) (hc:nx=ny∨a=0∨b=0) :
  Calls Tryz.prog 88 #[.agg #[.bool nx,vx,.int .i64 ex],.agg #[.bool ny,vy,.int .i64 ey]] w (ei w E (sg nx a+sg ny b)):=by
 have HB0:=aa (cW w nx vx ex ny vy ey)
 have HZ:=aa (gN w nx vx ex ny vy ey)
 have H60:=aa (je w nx vx ex ny vy ey)
 have HX0:=aa (hX.below HB0.out)
 have HY0:=aa (hY.below HB0.out)
 have HBo:=aa (rS nx ny vx vy ex ey X Y _ HX0.out HY0.out)
 rw [hE.out] at HBo
 have HNx:=aa hn
 have HM:=aa hm
 have HC:=aa hc
 clear hX hY hn hm hc
 go_enter Tryz.func88,Tryz.ntmps88
 go_wp2_with fail
 refine HBo.out.mono ?_
 rintro x w1 ⟨rfl,hb1⟩
 have hz1:w.heap.size+3≤w1.heap.size:=by have h9:=hb1.size;rw [HZ.out] at h9;exact h9
 have H61:=aa (H60.out.below hb1 (by rw [HZ.out];omega))
 have HX1:=aa (HX0.out.below hb1)
 have HY1:=aa (HY0.out.below hb1)
 have HB1:Hid (Below (w.heap.size+3) (pbox w nx vx ex ny vy ey) w1):=hb1.mono (by rw [HZ.out];omega)
 obtain⟨c0,c1,c2,c3,c4,c5⟩:=H61.out
 clear hb1
 go_wp2_with fail
 refine (kT nx vx ex E X n _ HX1.out HNx.out (by omega) (by omega)).mono ?_
 rintro x w2 ⟨va,rfl,hd2,hb2⟩
 rw [ha.out] at hd2
 have hz2:w.heap.size+3≤w2.heap.size:=by have h9:=hb2.size;omega
 have H62:=aa (H61.out.below hb2 (by omega))
 have HY2:=aa (HY1.out.below hb2)
 have HA2:=aa hd2
 have HB2:Hid (Below (w.heap.size+3) (pbox w nx vx ex ny vy ey) w2):=HB1.out.trans (hb2.mono hz1)
 clear hb2 hd2 c0 c1 c2 c3 c4 c5
 obtain⟨c0,c1,c2,c3,c4,c5⟩:=H62.out
 go_wp2_with fail
 refine (kT ny vy ey E Y m _ HY2.out HM.out (by omega) (by omega)).mono ?_
 rintro x w3 ⟨vb,rfl,hd3,hb3⟩
 rw [hb.out] at hd3
 have hz3:w.heap.size+3≤w3.heap.size:=by have h9:=hb3.size;omega
 have H63:=aa (H62.out.below hb3 (by omega))
 have HA3:=aa (HA2.out.below hb3)
 have HV3:=aa hd3
 have HB3:Hid (Below (w.heap.size+3) (pbox w nx vx ex ny vy ey) w3):=HB2.out.trans (hb3.mono hz2)
 clear hb3 hd3 c0 c1 c2 c3 c4 c5 HA2
 obtain⟨c0,c1,c2,c3,c4,c5⟩:=H63.out
 obtain⟨p,c,rfl⟩:=HA3.out.form
 obtain⟨q,d,rfl⟩:=HV3.out.form
 have HAdd:=aa (ii _ _ a b w3 HA3.out HV3.out had hbd)
 obtain⟨N,hN⟩:∃ N,a+b=N:=⟨_,rfl⟩
 rw [hN] at HAdd
 have HN:=aa hN
 clear hN
 clear HA3 HV3
 have ea:a=0→nd a=0:=fun h=>by rw [h];rfl
 have eb:b=0→nd b=0:=fun h=>by rw [h];rfl
 have ea1:a≠0→1≤nd a:=dw
 have eb1:b≠0→1≤nd b:=dw
 clear hXd hYd HX0 HY0 HX1 HY1 HY2 H60 H61 H62 H63 HB1 HB2 HBo HNx HM hE ha hb HB0 HZ
 generalize nd a=la at *
 generalize nd b=lb at *
 by_cases ha0:a=0
 ·have hl:=ea ha0
  subst hl
  by_cases hb0:b=0
  ·have hl:=eb hb0
   subst hl ha0 hb0
   clear ea eb ea1 eb1
   cases nx<;>cases ny
   all_goals
    go_wp2_with fail
    refine HAdd.out.mono ?_
    rintro x w4 ⟨v4,rfl,hd4,hf4,hb4⟩
    have HB4:=aa (HB3.out.trans (hb4.mono hz3))
    obtain⟨⟨r0,r1,r2⟩,f0,f1,f2⟩:=cm HB4.out
    obtain⟨p4,c4,rfl⟩:=hd4.form
    have HD4:=aa hd4
    have HF4:=aa (hf4.mono hz3)
    clear hd4 hf4 hb4
    go_wp2_with fail
    refine bodyPost_ret (v:=.agg #[.bool _,.slice p4 _ c4,.int .i64 E]) (by simp [results,Tryz.results88,go_sem,r0,r1,r2]) rfl (cX HB4.out HD4.out HF4.out ?_)
    rw [← HN.out]
    simp [sg]
    try omega
  ·have hl:=eb1 hb0
   subst ha0
   clear ea eb ea1 eb1 hb0
   cases nx<;>cases ny
   all_goals
    go_wp2_with fail
    refine HAdd.out.mono ?_
    rintro x w4 ⟨v4,rfl,hd4,hf4,hb4⟩
    have HB4:=aa (HB3.out.trans (hb4.mono hz3))
    obtain⟨⟨r0,r1,r2⟩,f0,f1,f2⟩:=cm HB4.out
    obtain⟨p4,c4,rfl⟩:=hd4.form
    have HD4:=aa hd4
    have HF4:=aa (hf4.mono hz3)
    clear hd4 hf4 hb4
    go_wp2_with fail
    refine bodyPost_ret (v:=.agg #[.bool _,.slice p4 _ c4,.int .i64 E]) (by simp [results,Tryz.results88,go_sem,r0,r1,r2]) rfl (cX HB4.out HD4.out HF4.out ?_)
    rw [← HN.out]
    simp [sg]
    try omega
 ·have hl:=ea1 ha0
  by_cases hb0:b=0
  ·have hl:=eb hb0
   subst hl hb0
   clear ea eb ea1 eb1 ha0
   cases nx<;>cases ny
   all_goals
    go_wp2_with fail
    refine HAdd.out.mono ?_
    rintro x w4 ⟨v4,rfl,hd4,hf4,hb4⟩
    have HB4:=aa (HB3.out.trans (hb4.mono hz3))
    obtain⟨⟨r0,r1,r2⟩,f0,f1,f2⟩:=cm HB4.out
    obtain⟨p4,c4,rfl⟩:=hd4.form
    have HD4:=aa hd4
    have HF4:=aa (hf4.mono hz3)
    clear hd4 hf4 hb4
    go_wp2_with fail
    refine bodyPost_ret (v:=.agg #[.bool _,.slice p4 _ c4,.int .i64 E]) (by simp [results,Tryz.results88,go_sem,r0,r1,r2]) rfl (cX HB4.out HD4.out HF4.out ?_)
    rw [← HN.out]
    simp [sg]
    try omega
  ·have hl2:=eb1 hb0
   clear ea eb ea1 eb1
   have hs:nx=ny:=by
    rcases HC.out with h | h | h
    ·exact h
    ·exact absurd h ha0
    ·exact absurd h hb0
   clear ha0 hb0
   ·subst hs
    cases nx
    all_goals
     go_wp2_with fail
     refine HAdd.out.mono ?_
     rintro x w4 ⟨v4,rfl,hd4,hf4,hb4⟩
     have HB4:=aa (HB3.out.trans (hb4.mono hz3))
     obtain⟨⟨r0,r1,r2⟩,f0,f1,f2⟩:=cm HB4.out
     obtain⟨p4,c4,rfl⟩:=hd4.form
     have HD4:=aa hd4
     have HF4:=aa (hf4.mono hz3)
     clear hd4 hf4 hb4
     go_wp2_with fail
     refine bodyPost_ret (v:=.agg #[.bool _,.slice p4 _ c4,.int .i64 E]) (by simp [results,Tryz.results88,go_sem,r0,r1,r2]) rfl (cX HB4.out HD4.out HF4.out ?_)
     rw [← HN.out]
     simp [sg]
     try omega

end Go.Proofs.YtjjlnmihkadlmaaGreat
namespace Go.Proofs.YtjjlnmihkadlmaaGreat
open Go.RowKit

theorem jQ {w w4:World} {nx ny:Bool} {vx vy:Value} {ex ey E S:Int} (hb:Below (w.heap.size+3) (pbox w nx vx ex ny vy ey) w4) (hs:0=S) :
  ei w E S (.returned (.agg #[.bool false,.slice none 0 0,.int .i64 0])) (((w4.setCell ⟨w.heap.size+1+1,0,none⟩ (.bool false)).setCell ⟨w.heap.size+1+1,1,none⟩ (.slice none 0 0)).setCell ⟨w.heap.size+1+1,2,none⟩ (.int .i64 0)):=by
 refine⟨false,.slice none 0 0,0,0,rfl,Or.inl ⟨rfl,_,_,rfl⟩,iY _,hs,Or.inr ⟨rfl,rfl⟩,?_⟩
 have h9:w.heap.size≤w.heap.size+1+1:=by omega
 exact ((((cW w nx vx ex ny vy ey).trans (hb.mono (by omega))).setCell h9 _).setCell h9 _).setCell h9 _

set_option maxHeartbeats 1600000 in
theorem uJ (nx ny:Bool) (vx vy:Value) (ex ey E:Int) (X Y n m a b:Nat) (w:World) (hX:DN w vx X) (hY:DN w vy Y)
  (hE:Hid (gk X ex Y ey=E)) (hn:X≠0→ex - E=(n:Int)) (hm:Y≠0→ey - E=(m:Int)) (hn1:n≤1000000) (hm1:m≤1000000) (hXd:nd X≤1000000) (hYd:nd Y≤1000000)
  (ha:Hid (X*2^n=a)) (hb:Hid (Y*2^m=b)) (had:nd a≤10000000) (hbd:nd b≤10000000) (hs:nx≠ny) (ha0:a≠0) (hb0:b≠0) :
  Calls Tryz.prog 88 #[.agg #[.bool nx,vx,.int .i64 ex],.agg #[.bool ny,vy,.int .i64 ey]] w (ei w E (sg nx a+sg ny b)):=by
 have HB0:=aa (cW w nx vx ex ny vy ey)
 have HZ:=aa (gN w nx vx ex ny vy ey)
 have H60:=aa (je w nx vx ex ny vy ey)
 have HX0:=aa (hX.below HB0.out)
 have HY0:=aa (hY.below HB0.out)
 have HBo:=aa (rS nx ny vx vy ex ey X Y _ HX0.out HY0.out)
 rw [hE.out] at HBo
 have HNx:=aa hn
 have HM:=aa hm
 clear hX hY hn hm
 go_enter Tryz.func88,Tryz.ntmps88
 go_wp2_with fail
 refine HBo.out.mono ?_
 rintro x w1 ⟨rfl,hb1⟩
 have hz1:w.heap.size+3≤w1.heap.size:=by have h9:=hb1.size;rw [HZ.out] at h9;exact h9
 have H61:=aa (H60.out.below hb1 (by rw [HZ.out];omega))
 have HX1:=aa (HX0.out.below hb1)
 have HY1:=aa (HY0.out.below hb1)
 have HB1:Hid (Below (w.heap.size+3) (pbox w nx vx ex ny vy ey) w1):=hb1.mono (by rw [HZ.out];omega)
 obtain⟨c0,c1,c2,c3,c4,c5⟩:=H61.out
 clear hb1
 go_wp2_with fail
 refine (kT nx vx ex E X n _ HX1.out HNx.out (by omega) (by omega)).mono ?_
 rintro x w2 ⟨va,rfl,hd2,hb2⟩
 rw [ha.out] at hd2
 have hz2:w.heap.size+3≤w2.heap.size:=by have h9:=hb2.size;omega
 have H62:=aa (H61.out.below hb2 (by omega))
 have HY2:=aa (HY1.out.below hb2)
 have HA2:=aa hd2
 have HB2:Hid (Below (w.heap.size+3) (pbox w nx vx ex ny vy ey) w2):=HB1.out.trans (hb2.mono hz1)
 clear hb2 hd2 c0 c1 c2 c3 c4 c5
 obtain⟨c0,c1,c2,c3,c4,c5⟩:=H62.out
 go_wp2_with fail
 refine (kT ny vy ey E Y m _ HY2.out HM.out (by omega) (by omega)).mono ?_
 rintro x w3 ⟨vb,rfl,hd3,hb3⟩
 rw [hb.out] at hd3
 have hz3:w.heap.size+3≤w3.heap.size:=by have h9:=hb3.size;omega
 have H63:=aa (H62.out.below hb3 (by omega))
 have HA3:=aa (HA2.out.below hb3)
 have HV3:=aa hd3
 have HB3:Hid (Below (w.heap.size+3) (pbox w nx vx ex ny vy ey) w3):=HB2.out.trans (hb3.mono hz2)
 clear hb3 hd3 c0 c1 c2 c3 c4 c5 HA2
 obtain⟨c0,c1,c2,c3,c4,c5⟩:=H63.out
 obtain⟨p,c,rfl⟩:=HA3.out.form
 obtain⟨q,d,rfl⟩:=HV3.out.form
 have HCmp:=aa (ck _ _ a b w3 HA3.out HV3.out had)
 have HSub:=aa fun w' (hb':Below w3.heap.size w3 w') (hle:b≤a)=>df _ _ a b w' (HA3.out.below hb') (HV3.out.below hb') had hle
 have HSub2:=aa fun w' (hb':Below w3.heap.size w3 w') (hle:a≤b)=>df _ _ b a w' (HV3.out.below hb') (HA3.out.below hb') hbd hle
 clear HA3 HV3
 have hl:((nd a:Int)==0)=false:=by have:=dw ha0;simp;omega
 have hl2:((nd b:Int)==0)=false:=by have:=dw hb0;simp;omega
 clear hXd hYd HX0 HY0 HX1 HY1 HY2 H60 H61 H62 H63 HB1 HB2 HBo HNx HM hE ha hb HB0 HZ ha0 hb0
 generalize nd a=la at *
 generalize nd b=lb at *
 rcases Nat.lt_trichotomy a b with h | h | h
 ·rw [jb h] at HCmp
  have HL:=aa (Nat.le_of_lt h)
  clear HSub h
  cases nx<;>cases ny
  all_goals first | exact absurd rfl hs | skip
  all_goals
   go_wp2_with fail
   refine HCmp.out.mono ?_
   rintro x w5 ⟨rfl,qq,hq⟩
   have HQ:=aa (show Below w3.heap.size w3 w5 by rw [hq];exact below_drewN (Below.refl _ _) _)
   have g3:=(HQ.out.cell (p:=⟨w.heap.size+1,0,none⟩) (by show w.heap.size+1<_;omega)).trans c3
   have hz5:w.heap.size+3≤w5.heap.size:=by have:=HQ.out.size;omega
   clear hq
   go_wp2_with fail
   go_region_with ((go_at_call 127;refine (HSub2.out _ (HQ.out.drew) HL.out).mono ?_;rintro x w4 ⟨v4,rfl,hd4,hf4,hb4⟩;obtain⟨p4,c4,rfl⟩:=hd4.form;have HB4:=aa ((HB3.out.trans (HQ.out.mono hz3)).drew.trans (hb4.mono hz5));obtain⟨⟨r0,r1,r2⟩,f0,f1,f2⟩:=cm HB4.out;have k3:=(hb4.cell (p:=⟨w.heap.size+1,0,none⟩) (by show w.heap.size+1<w5.heap.size;omega)).trans g3;have HD4:=aa hd4;have HF4:=aa (hf4.mono (show w.heap.size+3≤_ from hz5));clear hd4 hf4 hb4))
   all_goals
    go_wp2_with fail
    refine bodyPost_ret (v:=.agg #[.bool _,.slice p4 _ c4,.int .i64 E]) (by simp [results,Tryz.results88,go_sem,r0,r1,r2]) rfl (cX HB4.out HD4.out HF4.out ?_)
    have h9:=HL.out
    simp [sg]
    try omega
 ·rw [jc h] at HCmp
  have HL:=aa h
  clear HSub HSub2 h
  cases nx<;>cases ny
  all_goals first | exact absurd rfl hs | skip
  all_goals
   go_wp2_with fail
   refine HCmp.out.mono ?_
   rintro x w5 ⟨rfl,qq,hq⟩
   have HQ:=aa (show Below w3.heap.size w3 w5 by rw [hq];exact below_drewN (Below.refl _ _) _)
   have HB4:=aa (HB3.out.trans (HQ.out.mono hz3))
   obtain⟨⟨r0,r1,r2⟩,f0,f1,f2⟩:=cm HB4.out
   clear hq
   go_wp2_with fail
   refine bodyPost_ret (v:=.agg #[.bool false,.slice none 0 0,.int .i64 0]) (by simp [results,Tryz.results88,go_sem,r0,r1,r2]) rfl (jQ HB4.out ?_)
   have h9:=HL.out
   simp [sg]
   try omega
 ·rw [jd h] at HCmp
  have HL:=aa (Nat.le_of_lt h)
  clear HSub2 h
  cases nx<;>cases ny
  all_goals first | exact absurd rfl hs | skip
  all_goals
   go_wp2_with fail
   refine HCmp.out.mono ?_
   rintro x w5 ⟨rfl,qq,hq⟩
   have HQ:=aa (show Below w3.heap.size w3 w5 by rw [hq];exact below_drewN (Below.refl _ _) _)
   have g3:=(HQ.out.cell (p:=⟨w.heap.size,0,none⟩) (by show w.heap.size<_;omega)).trans c0
   have hz5:w.heap.size+3≤w5.heap.size:=by have:=HQ.out.size;omega
   clear hq
   go_wp2_with fail
   go_region_with ((go_at_call 127;refine (HSub.out _ (HQ.out.drew) HL.out).mono ?_;rintro x w4 ⟨v4,rfl,hd4,hf4,hb4⟩;obtain⟨p4,c4,rfl⟩:=hd4.form;have HB4:=aa ((HB3.out.trans (HQ.out.mono hz3)).drew.trans (hb4.mono hz5));obtain⟨⟨r0,r1,r2⟩,f0,f1,f2⟩:=cm HB4.out;have k3:=(hb4.cell (p:=⟨w.heap.size,0,none⟩) (by show w.heap.size<w5.heap.size;omega)).trans g3;have HD4:=aa hd4;have HF4:=aa (hf4.mono (show w.heap.size+3≤_ from hz5));clear hd4 hf4 hb4))
   all_goals
    go_wp2_with fail
    refine bodyPost_ret (v:=.agg #[.bool _,.slice p4 _ c4,.int .i64 E]) (by simp [results,Tryz.results88,go_sem,r0,r1,r2]) rfl (cX HB4.out HD4.out HF4.out ?_)
    have h9:=HL.out
    simp [sg]
    try omega

theorem plus_any (nx ny:Bool) (vx vy:Value) (ex ey E:Int) (X Y n m:Nat) (w:World) (hX:DN w vx X) (hY:DN w vy Y)
  (hE:gk X ex Y ey=E) (hn:X≠0→ex - E=(n:Int)) (hm:Y≠0→ey - E=(m:Int)) (hn1:n≤1000000) (hm1:m≤1000000) (hXd:nd X≤1000000) (hYd:nd Y≤1000000)
  (had:nd (X*2^n)≤10000000) (hbd:nd (Y*2^m)≤10000000) :
  Calls Tryz.prog 88 #[.agg #[.bool nx,vx,.int .i64 ex],.agg #[.bool ny,vy,.int .i64 ey]] w (ei w E (sg nx (X*2^n)+sg ny (Y*2^m))):=by
 by_cases hc:nx=ny∨X*2^n=0∨Y*2^m=0
 ·exact Bc nx ny vx vy ex ey E X Y n m _ _ w hX hY hE hn hm hn1 hm1 hXd hYd rfl rfl had hbd hc
 ·exact uJ nx ny vx vy ex ey E X Y n m _ _ w hX hY hE hn hm hn1 hm1 hXd hYd rfl rfl had hbd (fun h=>hc (Or.inl h)) (fun h=>hc (Or.inr (Or.inl h))) (fun h=>hc (Or.inr (Or.inr h)))

end Go.Proofs.YtjjlnmihkadlmaaGreat
