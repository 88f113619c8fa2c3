/-  -/
import Derived.Test.YtjjlnmihkadlmaaGreatHbo
import Derived.Deep.QuietTactic
namespace Go.Proofs.YtjjlnmihkadlmaaGreat
open Go.RowKit

structure SmB (w:World) (base kind:Int) (vx vy ux uy:Value) (wr:World):Prop where
 t0:wr.cell? ⟨w.heap.size,0,none⟩=some (.int .i64 base)
 t1:wr.cell? ⟨w.heap.size,1,none⟩=some (.int .i64 kind)
 t2:wr.cell? ⟨w.heap.size,2,none⟩=some vx
 t3:wr.cell? ⟨w.heap.size,3,none⟩=some vy
 d0:wr.cell? ⟨w.heap.size+1,0,none⟩=some (.int .i64 base)
 d1:wr.cell? ⟨w.heap.size+1,1,none⟩=some (.int .i64 kind)
 d2:wr.cell? ⟨w.heap.size+1,2,none⟩=some ux
 d3:wr.cell? ⟨w.heap.size+1,3,none⟩=some uy
 bl:Below w.heap.size w wr
theorem Hc (w:World) (base kind:Int) (vx vy ux uy:Value):SmB w base kind vx vy ux uy ((w.alloc (.cells #[.int .i64 base,.int .i64 kind,vx,vy] 43)).alloc (.cells #[.int .i64 base,.int .i64 kind,ux,uy] 64)):=
 ⟨by simp,by simp,by simp,by simp,by simp,by simp,by simp,by simp,((Below.refl _ _).alloc (Nat.le_refl _) _).alloc (by simp) _⟩
theorem SmB.drewN {w wr:World} {base kind:Int} {vx vy ux uy:Value} (h:SmB w base kind vx vy ux uy wr) (q:Nat):SmB w base kind vx vy ux uy (wr.drewN q):=
 ⟨h.t0,h.t1,h.t2,h.t3,h.d0,h.d1,h.d2,h.d3,⟨h.bl.os,h.bl.tape,h.bl.output,h.bl.size,h.bl.block⟩⟩
theorem TFl.drewN {w:World} {px py:Option Addr} {bx ox b2 oy:Nat} {xs:List Int} {ys:List Nat} (h:TFl w px py bx ox b2 oy xs ys) (q:Nat):TFl (w.drewN q) px py bx ox b2 oy xs ys:=⟨⟨h.x.at_,h.x.lt,h.x.cell⟩,⟨h.y.at_,h.y.lt,h.y.cell⟩,h.f⟩
theorem CSrcD.drewN {w:World} {pd pf:Option Addr} {bd od b2 o2:Nat} {ds:List Int} {fs:List Nat} (h:CSrcD w pd pf bd od b2 o2 ds fs) (q:Nat):CSrcD (w.drewN q) pd pf bd od b2 o2 ds fs:=⟨⟨h.d.at_,h.d.lt,h.d.cell⟩,⟨h.f.at_,h.f.lt,h.f.cell⟩,h.u⟩
set_option maxRecDepth 20000 in
set_option maxHeartbeats 6400000 in
theorem jw (base kind:Int) (px py qx qy:Option Addr) (bx ox cx b2 oy cy b3 o3 c3 b4 o4 c4 n m:Nat) (xs:List Int) (ys:List Nat) (w:World) (hx:xs.length=n) (hy:ys.length=m) (hn:n≤1000) (hm:m≤1000) (hs:TFl w px py bx ox b2 oy xs ys) (hd:CSrcD w qx qy b3 o3 b4 o4 xs ys) :
  Calls Tryz.prog 29 #[.agg #[.int .i64 base,.int .i64 kind,.slice px n cx,.slice py m cy],.agg #[.int .i64 base,.int .i64 kind,.slice qx n c3,.slice qy m c4]] w fun e w'=>e=.returned (.bool true)∧Below w.heap.size w w':=by
 have HB:=hideS (Hc w base kind (.slice px n cx) (.slice py m cy) (.slice qx n c3) (.slice qy m c4))
 obtain⟨w2,hw2⟩:∃ w2,(w.alloc (.cells #[.int .i64 base,.int .i64 kind,.slice px n cx,.slice py m cy] 43)).alloc (.cells #[.int .i64 base,.int .i64 kind,.slice qx n c3,.slice qy m c4] 64)=w2:=⟨_,rfl⟩
 rw [hw2] at HB
 have HS:=hideS (hs.below HB.out.bl)
 have HD:=hideS (hd.below HB.out.bl)
 have Hx:=hideS hx
 have Hy:=hideS hy
 clear hs hd hx hy
 obtain⟨t0,t1,t2,t3,d0,d1,d2,d3,_⟩:=HB.out
 go_enter Tryz.func29,Tryz.ntmps29
 go_wp2_with fail
 clear hw2 t0 t1 t2 t3 d0 d1 d2 d3
 go_loopw [5] (fun i wr=>∃ (k q:Nat),k≤n∧i=.int .i64 k∧wr=w2.drewN q) (fun i _=>n - (intOf i).toNat)
 case atStart=>exact⟨0,0,Nat.zero_le _,rfl,rfl⟩
 case round=>
  obtain⟨k,q,hk,rfl,rfl⟩:=hrel
  have HBq:=hideS (HB.out.drewN q)
  have HSq:=hideS (HS.out.drewN q)
  have HDq:=hideS (HD.out.drewN q)
  obtain⟨wq,hwq⟩:∃ wq,w2.drewN q=wq:=⟨_,rfl⟩
  have HE:Hid (∀ l,∃ q,wq.drewN l=w2.drewN q):=fun l=>⟨q+l,by rw [← hwq,World.drewN_drewN]⟩
  rw [hwq] at HBq HSq HDq ⊢
  by_cases hlt:k<n
  ·obtain rfl:=HSq.out.x.at_ (by rw [Hx.out];omega)
   obtain rfl:=HDq.out.d.at_ (by rw [Hx.out];omega)
   have a1:=HSq.out.x.cell k (by rw [Hx.out];exact hlt)
   have a2:=HDq.out.d.cell k (by rw [Hx.out];exact hlt)
   unfold xV at a1 a2
   have t2:=HBq.out.t2
   have d2:=HBq.out.d2
   generalize xs.getD k 0=z at *
   have l1:(0:Int)≤(k:Int):=Int.natCast_nonneg _
   have l2:(k:Int)<(n:Int):=by omega
   clear hwq
   go_wp2_with fail
   go_quiet (fail)
   go_wp2_with fail
   go_roundw
   case rel=>
    obtain⟨q',hq'⟩:=HE.out _
    exact⟨k+1,q',by omega,by simp,hq'⟩
   case measure=>simp [intOf];omega
  ·obtain rfl:k=n:=by omega
   have d2:=HBq.out.d2
   clear hwq
   go_wp2_with fail
   clear d2
   go_loopw [6] (fun i wr=>∃ (j q:Nat),j≤m∧i=.int .i64 j∧wr=wq.drewN q) (fun i _=>m - (intOf i).toNat)
   case atStart=>exact⟨0,0,Nat.zero_le _,rfl,rfl⟩
   case round=>
    obtain⟨j,r,hj,rfl,rfl⟩:=hrel
    have HBr:=hideS (HBq.out.drewN r)
    have HSr:=hideS (HSq.out.drewN r)
    have HDr:=hideS (HDq.out.drewN r)
    obtain⟨wr,hwr⟩:∃ wr,wq.drewN r=wr:=⟨_,rfl⟩
    have HEr:Hid (∀ l,∃ q,wr.drewN l=wq.drewN q):=fun l=>⟨r+l,by rw [← hwr,World.drewN_drewN]⟩
    rw [hwr] at HBr HSr HDr ⊢
    by_cases hlt:j<m
    ·obtain rfl:=HSr.out.y.at_ (by rw [Hy.out];omega)
     obtain rfl:=HDr.out.f.at_ (by rw [Hy.out];omega)
     have a1:=HSr.out.y.cell j (by rw [Hy.out];exact hlt)
     have a2:=HDr.out.f.cell j (by rw [Hy.out];exact hlt)
     unfold flV at a1
     unfold yV at a2
     have t3:=HBr.out.t3
     have d3:=HBr.out.d3
     generalize ys.getD j 0=z at *
     have l1:(0:Int)≤(j:Int):=Int.natCast_nonneg _
     have l2:(j:Int)<(m:Int):=by omega
     clear hwr
     go_wp2_with fail
     go_quiet ((go_at_call 32;exact Calls.quiet_of_same (iE _ _)))
     go_wp2_with fail
     go_roundw
     case rel=>
      obtain⟨q',hq'⟩:=HEr.out _
      exact⟨j+1,q',by omega,by simp,hq'⟩
     case measure=>simp [intOf];omega
    ·obtain rfl:j=m:=by omega
     have d3:=HBr.out.d3
     clear hwr
     go_wp2_with fail
     go_ret
     exact⟨rfl,HBr.out.bl⟩
end Go.Proofs.YtjjlnmihkadlmaaGreat
