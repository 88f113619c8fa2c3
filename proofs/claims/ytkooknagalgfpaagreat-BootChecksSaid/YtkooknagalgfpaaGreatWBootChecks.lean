/-  -/
import Derived.Test.YtkooknagalgfpaaGreatHbx
import Derived.Test.YtkooknagalgfpaaGreatBqC
import Derived.Test.YtkooknagalgfpaaGreatHbu
import Derived.Test.YtkooknagalgfpaaGreatHay
namespace Go.Proofs.YtkooknagalgfpaaGreat
open Go.RowKit

structure CBk (w:World) (W:Int) (v:Value) (wr:World):Prop where
 k0:wr.cell? ⟨w.heap.size,0,none⟩=some (.int .i64 W)
 k1:wr.cell? ⟨w.heap.size,1,none⟩=some v
 bl:Below w.heap.size w wr
 lt:w.heap.size<wr.heap.size
theorem KT (w:World) (W:Int) (v:Value):CBk w W v (w.alloc (.cells #[.int .i64 W,v] 24)):=⟨by simp,by simp,(Below.refl _ _).alloc (Nat.le_refl _) _,by simp⟩
theorem CBk.step {w wr w':World} {W:Int} {v:Value} (h:CBk w W v wr) (hb:Below wr.heap.size wr w'):CBk w W v w':=
 ⟨(hb.cell (p:=⟨w.heap.size,0,none⟩) h.lt).trans h.k0,(hb.cell (p:=⟨w.heap.size,1,none⟩) h.lt).trans h.k1,h.bl.trans (hb.mono h.bl.size),Nat.lt_of_lt_of_le h.lt hb.size⟩

set_option maxRecDepth 20000 in
set_option maxHeartbeats 3200000 in
theorem rG (base kind W:Int) (p pq:Option Addr) (c cq n m:Nat) (w:World) (h:100<m∨100<n) :
  Calls Tryz.prog 3 #[.int .i64 base,.int .i64 kind,.agg #[.int .i64 W,.slice p n c],.slice pq m cq] w fun e w'=>e=.returned (.bool true)∧Below w.heap.size w w':=by
 have HB:=hideS (KT w W (.slice p n c))
 have HA:=hideS Dg
 rcases (show 100<m∨(¬ 100<m∧100<n) by omega) with h1 | ⟨h1,h2⟩
 ·have d1:decide ((100:Int)<(m:Int))=true:=decide_eq_true (by omega)
  clear h h1
  go_enter Tryz.func3,Tryz.ntmps3
  go_wp2_with fail
  refine (HA.out _).mono ?_
  rintro e w1 ⟨rfl,hb⟩
  have HB1:=hideS (HB.out.step hb)
  clear hb
  go_wp2_with fail
  go_ret
  exact⟨rfl,HB1.out.bl⟩
 ·have d1:decide ((100:Int)<(m:Int))=false:=decide_eq_false (by omega)
  have d2:decide ((100:Int)<(n:Int))=true:=decide_eq_true (by omega)
  clear h h1 h2
  go_enter Tryz.func3,Tryz.ntmps3
  go_wp2_with fail
  refine (HA.out _).mono ?_
  rintro e w1 ⟨rfl,hb⟩
  have HB1:=hideS (HB.out.step hb)
  clear hb
  go_wp2_with fail
  go_ret
  exact⟨rfl,HB1.out.bl⟩
set_option maxRecDepth 20000 in
set_option maxHeartbeats 3200000 in
theorem sy (base kind W E K:Int) (p pq:Option Addr) (c cq n m:Nat) (w:World) (h:¬ (100<m∨100<n))
  (H1:Hid (∀ wx,Below w.heap.size w wx→Calls Tryz.prog 10 #[.int .i64 base,.int .i64 kind,.agg #[.int .i64 W,.slice p n c],.slice pq m cq] wx fun e w'=>e=.returned (.tuple #[.int .i64 E,.int .i64 K])∧Below wx.heap.size wx w'))
  (H2:Hid (∀ wx,Below w.heap.size w wx→Calls Tryz.prog 11 #[.int .i64 base,.int .i64 kind,.agg #[.int .i64 W,.slice p n c],.slice pq m cq] wx fun e w'=>e=.returned (.tuple #[.int .i64 E,.int .i64 K])∧Below wx.heap.size wx w'))
  (H3:Hid (E≠0→∀ wx,Below w.heap.size w wx→Calls Tryz.prog 12 #[.int .i64 base,.int .i64 kind,.agg #[.int .i64 W,.slice p n c],.slice pq m cq] wx fun e w'=>e=.returned (.tuple #[.agg #[.int .i64 0,.int .i64 0,.slice none 0 0,.slice none 0 0],.int .i64 E,.int .i64 K])∧Below wx.heap.size wx w')) :
  Calls Tryz.prog 3 #[.int .i64 base,.int .i64 kind,.agg #[.int .i64 W,.slice p n c],.slice pq m cq] w fun e w'=>e=.returned (.bool true)∧Below w.heap.size w w':=by
 have HB:=hideS (KT w W (.slice p n c))
 have HA:=hideS Dg
 have HSm:=hideS sw
 have d1:decide ((100:Int)<(m:Int))=false:=decide_eq_false (by omega)
 have d2:decide ((100:Int)<(n:Int))=false:=decide_eq_false (by omega)
 clear h
 by_cases hE:E=0
 ·subst hE
  clear H3
  go_enter Tryz.func3,Tryz.ntmps3
  go_wp2_with fail
  refine (H1.out _ HB.out.bl).mono ?_
  rintro e w1 ⟨rfl,hb⟩
  have HB1:=hideS (HB.out.step hb)
  have k0:=HB1.out.k0
  have k1:=HB1.out.k1
  clear hb H1
  go_wp2_with fail
  refine (H2.out _ HB1.out.bl).mono ?_
  rintro e w2 ⟨rfl,hb⟩
  have HB2:=hideS (HB1.out.step hb)
  clear hb H2 k0 k1
  go_wp2_with fail
  refine (HA.out _).mono ?_
  rintro e w3 ⟨rfl,hb⟩
  have HB3:=hideS (HB2.out.step hb)
  clear hb
  go_wp2_with fail
  go_ret
  exact⟨rfl,HB3.out.bl⟩
 ·have H4:=hideS (H3.out hE)
  have d3:(E !=0)=true:=bne_iff_ne.2 hE
  clear H3 hE
  go_enter Tryz.func3,Tryz.ntmps3
  go_wp2_with fail
  refine (H1.out _ HB.out.bl).mono ?_
  rintro e w1 ⟨rfl,hb⟩
  have HB1:=hideS (HB.out.step hb)
  have k0:=HB1.out.k0
  have k1:=HB1.out.k1
  clear hb H1
  go_wp2_with fail
  refine (H2.out _ HB1.out.bl).mono ?_
  rintro e w2 ⟨rfl,hb⟩
  have HB2:=hideS (HB1.out.step hb)
  clear hb H2 k0 k1
  have k0:=HB2.out.k0
  have k1:=HB2.out.k1
  go_wp2_with fail
  refine (H4.out _ HB2.out.bl).mono ?_
  rintro e w3 ⟨rfl,hb⟩
  have HB3:=hideS (HB2.out.step hb)
  have HB4:=hideS fun o=>HB3.out.step ((Below.refl _ w3).alloc (Nat.le_refl _) o)
  clear hb H4 k0 k1
  go_wp2_with fail
  refine (HSm.out _).mono ?_
  rintro e w5 ⟨rfl,hb⟩
  have HB5:=hideS ((HB4.out _).step hb)
  clear hb HSm
  go_wp2_with fail
  refine (HA.out _).mono ?_
  rintro e w6 ⟨rfl,hb⟩
  have HB6:=hideS (HB5.out.step hb)
  clear hb
  go_wp2_with fail
  go_ret
  exact⟨rfl,HB6.out.bl⟩
theorem nO (base kind W:Int) (p:Option Addr) (b off c:Nat) (rs:List Rul) (pq:Option Addr) (bq oq cq:Nat) (qs:List Quo) (w:World) (hs:RSrc w p b off rs) (hl:rs.length≤9223372036854775807) (hq:QSrc w pq bq oq qs) (hI:∀ q ∈ qs,QuoI q) (_h1:qs.length≤cq) (_h2:cq≤9223372036854775807) (_h3:I64 base) (_h4:I64 kind) :
  Calls Tryz.prog 3 #[.int .i64 base,.int .i64 kind,.agg #[.int .i64 W,.slice p rs.length c],.slice pq qs.length cq] w fun e w'=>e=.returned (.bool true)∧Below w.heap.size w w':=by
 by_cases h:100<qs.length∨100<rs.length
 ·exact rG base kind W p pq c cq rs.length qs.length w h
 ·obtain⟨A,B,hA⟩:=Ou W rs
  obtain⟨E,K,hE⟩:=Gs base kind A qs
  refine sy base kind W E K p pq c cq rs.length qs.length w h (fun wx hb=>ik base kind W A B E K p pq b off c bq oq cq rs qs wx hA (hs.below hb) hl (hq.below hb) hE) (fun wx hb=>rF base kind W A B E K p pq b off c bq oq cq rs qs wx hA (hs.below hb) (by omega) (hq.below hb) (by omega) (fun i hi=>?_) hE) (fun h0 wx hb=>rD base kind W E K _ _ wx h0 (fun wy hy=>ik base kind W A B E K p pq b off c bq oq cq rs qs wy hA (hs.below (hb.trans (hy.mono hb.size))) hl (hq.below (hb.trans (hy.mono hb.size))) hE))
  have hm:qs.getD i aF ∈ qs:=by rw [List.getD_eq_getElem?_getD,List.getElem?_eq_getElem hi];exact List.getElem_mem hi
  exact (hI _ hm).rate
end Go.Proofs.YtkooknagalgfpaaGreat
