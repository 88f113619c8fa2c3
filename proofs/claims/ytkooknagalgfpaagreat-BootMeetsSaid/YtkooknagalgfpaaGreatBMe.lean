/-  -/
import Derived.Test.YtkooknagalgfpaaGreatHbw
namespace Go.Proofs.YtkooknagalgfpaaGreat
open Go.RowKit

theorem Gk {v z:Int} (h2:v≠0) (z2:z≠0) (z3:¬ upB z=upB v):(0<v∧z<0)∨(v<0∧0<z):=by
 unfold upB at z3
 by_cases a:0<v
 ·by_cases b:0<z
  ·exact absurd (by rw [decide_eq_true a,decide_eq_true b]) z3
  ·exact Or.inl ⟨a,by omega⟩
 ·by_cases b:0<z
  ·exact Or.inr ⟨by omega,b⟩
  ·exact absurd (by rw [decide_eq_false a,decide_eq_false b]) z3
theorem Ld {w:World} {t:TypeId} {B g n c:Nat} {xs:List Value} (h:w.ownsRow B t 1 (.slice (some ⟨g,0,none⟩) n c) n xs) (j:Nat):w.frozen? ⟨g,j,none⟩=false:=by
 rcases h.2 with hn | ⟨g',cap,cur,e,hg,hh,_⟩
 ·exact absurd hn.1 (by intro h;cases h)
 ·injection e with e _ _
  injection e with e
  injection e with e _ _
  subst e
  simp [World.frozen?,hh]
theorem Gl {w:World} {g k:Nat} {l:List Nat} {X:Nat} (h:VSrc w (some ⟨g,0,none⟩) g 0 (k+1) (flV (l++[X]))) (hl:l.length=k) (Y:Nat):VSrc (w.setCell ⟨g,k,none⟩ (.float .f64 Y)) (some ⟨g,0,none⟩) g 0 (k+1) (flV (l++[Y])):=by
 refine⟨fun _=>rfl,fun _=>by rw [aW];exact h.lt (by omega),fun j hj=>?_⟩
 subst hl
 by_cases c:j=l.length
 ·subst c
  show _=some (Value.float .f64 ((l++[Y]).getD l.length 0))
  rw [last_at,Nat.zero_add]
  have h1:=h.cell l.length (by omega)
  rw [Nat.zero_add] at h1
  exact World.cell?_setCell_same _ _ _ h1
 ·show _=some (Value.float .f64 ((l++[Y]).getD j 0))
  rw [du l Y (by omega),World.cell?_setCell_other (h:=fun e=>c (by injection e with _ e _;omega))]
  rw [h.cell j (by omega)]
  show some (Value.float .f64 ((l++[X]).getD j 0))=_
  rw [du l X (by omega)]
theorem zW {w:World} {X:Nat} {x0 x1:Int} {v1 v2:Value} (h:Z4 X w):V4 X x0 x1 v1 v2 (lZ w X x0 x1 v1 v2):=La x0 x1 v1 v2 h
theorem zX {w:World} {X B g n c:Nat} {x0 x1:Int} {v1 v2:Value} {xs:List Value} (h:w.ownsRow B 46 1 (.slice (some ⟨g,0,none⟩) n c) n xs) (hg:g≠X):(lZ w X x0 x1 v1 v2).ownsRow B 46 1 (.slice (some ⟨g,0,none⟩) n c) n xs:=by
 have e:∀ j,(Value.slice (some ⟨g,0,none⟩) n c).ownBlock≠some (⟨X,j,none⟩:Addr).block:=fun j e=>hg (by simpa [Value.ownBlock] using e)
 exact ownsRow_setCell_other (ownsRow_setCell_other (ownsRow_setCell_other (ownsRow_setCell_other h (e 0) _) (e 1) _) (e 2) _) (e 3) _
theorem Dx (w:World) (t:TypeId):(w.alloc (.cells #[] t)).ownsRow w.heap.size t 1 (.slice (some ⟨w.heap.size,0,none⟩) 0 0) 0 []:=⟨rfl,.inr ⟨w.heap.size,0,#[],rfl,Nat.le_refl _,heap_alloc_new w _,Nat.le_refl _,by unfold maxLen;omega,rfl,rfl⟩⟩
theorem QU {s l c g:Nat} (h:(Value.slice (some ⟨s,0,none⟩) l c).ownBlock=some g):g≠s+1:=by
 have:s=g:=by simpa [Value.ownBlock] using h
 omega
theorem QV {s l c g:Nat} (h:(Value.slice (some ⟨s+1,0,none⟩) l c).ownBlock=some g):g≠s:=by
 have:s+1=g:=by simpa [Value.ownBlock] using h
 omega
theorem Z4.grown {X:Nat} {w w':World} {r:Option Nat} (h:Z4 X w) (hg:w.grownBy w' r) (hr:∀ k,r=some k→k≠X):Z4 X w':=by
 have hb:=hg.block X h.lt (fun e=>hr X e.symm rfl)
 have hc:∀ j,w'.cell? ⟨X,j,none⟩=w.cell? ⟨X,j,none⟩:=fun j=>World.cell?_of_block hb
 have hz:∀ j,w'.frozen? ⟨X,j,none⟩=w.frozen? ⟨X,j,none⟩:=fun j=>by simp only [World.frozen?];rw [hb]
 exact⟨(hc 0).trans h.c0,(hc 1).trans h.c1,(hc 2).trans h.c2,(hc 3).trans h.c3,fun i=>(hz i).trans (h.fz i),Nat.lt_of_lt_of_le h.lt hg.size⟩
theorem oI {w5:World} {B k:Nat} {v5:Value} {ys:List Nat} (h:w5.ownsRow B 46 1 v5 (0+(k+1)) (([]++ys).map fV)) (_hl:ys.length=k+1):w5.ownsRow B 46 1 v5 (k+1) (ys.map fV):=by
 rw [Nat.zero_add,List.nil_append] at h;exact h
theorem mX {w5:World} {B k:Nat} {v5:Value} {ys:List Nat} (h:w5.ownsRow B 46 1 v5 (0+(k+1)) (([]++ys).map fV)) (hl:ys.length=k+1):∃ g c,v5=.slice (some ⟨g,0,none⟩) (k+1) c∧B≤g:=by
 obtain⟨g,c,e,_,hb,_⟩:=bO (xs:=ys) (oI h hl) hl (by omega)
 exact⟨g,c,e,hb⟩

set_option maxRecDepth 20000 in
set_option maxHeartbeats 12800000 in
theorem sE (base kind W:Int) (p pq:Option Addr) (n c cq N:Nat) (w:World) (E K:Int) (hE:E≠0)
  (HF:Hid (∀ wx,Below w.heap.size w wx→Calls Tryz.prog 14 #[.int .i64 base,.int .i64 kind,.agg #[.int .i64 W,.slice p n c],.slice pq N cq] wx fun e w'=>(∃ f,e=.returned (.bool f))∧Below wx.heap.size wx w'))
  (H1:Hid (∀ wx,Below w.heap.size w wx→Calls Tryz.prog 12 #[.int .i64 base,.int .i64 kind,.agg #[.int .i64 W,.slice p n c],.slice pq N cq] wx fun e w'=>e=.returned (.tuple #[.agg #[.int .i64 0,.int .i64 0,.slice none 0 0,.slice none 0 0],.int .i64 E,.int .i64 K])∧Below wx.heap.size wx w')) :
  Calls Tryz.prog 6 #[.int .i64 base,.int .i64 kind,.agg #[.int .i64 W,.slice p n c],.slice pq N cq] w fun e w'=>e=.returned (.bool true)∧Below w.heap.size w w':=by
 have d3:(E !=0)=true:=bne_iff_ne.2 hE
 clear hE
 have HB:=hideS (KZ w W (.slice p n c))
 have HA:=hideS Dw
 go_enter Tryz.func6,Tryz.ntmps6
 go_wp2_with fail
 refine (HF.out _ HB.out.bl).mono ?_
 rintro e w1 ⟨⟨f,rfl⟩,hb⟩
 have HB1:=hideS (HB.out.step hb)
 have k0:=HB1.out.k0
 have k1:=HB1.out.k1
 clear hb HF HB
 cases f
 ·go_wp2_with fail
  refine (HA.out _).mono ?_
  rintro e w2 ⟨rfl,hb⟩
  have HB2:=hideS (HB1.out.step hb)
  clear hb
  go_wp2_with fail
  go_ret
  exact⟨rfl,HB2.out.bl⟩
 go_wp2_with fail
 refine (H1.out _ HB1.out.bl).mono ?_
 rintro e w2 ⟨rfl,hb⟩
 have HB2:=hideS fun o=>(HB1.out.step hb).step ((Below.refl _ w2).alloc (Nat.le_refl _) o)
 clear hb H1 k0 k1 HB1
 go_wp2_with fail
 refine (HA.out _).mono ?_
 rintro e w3 ⟨rfl,hb⟩
 have HB3:=hideS ((HB2.out _).step hb)
 clear hb
 go_wp2_with fail
 go_ret
 exact⟨rfl,HB3.out.bl⟩
set_option maxRecDepth 20000 in
set_option maxHeartbeats 12800000 in
theorem wu (base kind W:Int) (p pq:Option Addr) (n c cq N:Nat) (w:World) (bq oq:Nat) (qs:List Quo) (dn:List Int) (fn:List Nat) (hN:N≤64) (hdl:dn.length=N) (hfl:fn.length=N) (hpq:pq=some ⟨bq,oq,none⟩) (hqs:QSrc w pq bq oq qs) (hql:qs.length=N) (hE:∀ k<N,dn.getD k 0=(qs.getD k au).fin)
  (HF:Hid (∀ wx,Below w.heap.size w wx→Calls Tryz.prog 14 #[.int .i64 base,.int .i64 kind,.agg #[.int .i64 W,.slice p n c],.slice pq N cq] wx fun e w'=>(∃ f,e=.returned (.bool f))∧Below wx.heap.size wx w'))
  (H1:Hid (∀ wx,Below w.heap.size w wx→Calls Tryz.prog 12 #[.int .i64 base,.int .i64 kind,.agg #[.int .i64 W,.slice p n c],.slice pq N cq] wx fun e w'=>(∃ g k g' k',e=.returned (.tuple #[.agg #[.int .i64 base,.int .i64 kind,.slice (some ⟨g,0,none⟩) N k,.slice (some ⟨g',0,none⟩) N k'],.int .i64 0,.int .i64 0])∧VSrc w' (some ⟨g,0,none⟩) g 0 N (xV dn)∧VSrc w' (some ⟨g',0,none⟩) g' 0 N (flV fn)∧N≤k∧N≤k')∧Below wx.heap.size wx w'))
  (HM:Hid (∀ k<N,∃ (R:Nat→Option Nat) (x:Int),Gd (fn.getD k 0) x∧4472074429978902528≤x∧x≤4652218415073722368∧((R (fn.getD k 0)).bind rkO=some 0∨∃ v,(R (fn.getD k 0)).bind rkO=some v∧v≠0∧x+1≤4652218415073722368∧∀ d,Gd d (x+1)→∃ z,(R d).bind rkO=some z∧z≠0∧¬ upB z=upB v)∧∀ (wx:World) (d:Nat) (r:Int) (g1 k1 g2 k2:Nat),Below w.heap.size w wx→Gd d r→4472074429978902528≤r→r≤4652218415073722368→VSrc wx (some ⟨g1,0,none⟩) g1 0 (k+1) (xV (dn.take (k+1)))→VSrc wx (some ⟨g2,0,none⟩) g2 0 (k+1) (flV (fn.take k++[d]))→Calls Tryz.prog 15 #[.agg #[.int .i64 base,.int .i64 kind,.slice (some ⟨g1,0,none⟩) (k+1:Nat) k1,.slice (some ⟨g2,0,none⟩) (k+1:Nat) k2],.agg #[.int .i64 W,.slice p n c],.agg #[.int .i64 (qs.getD k au).kind,.int .i64 (qs.getD k au).fin,.int .i64 (qs.getD k au).count,.int .i64 (qs.getD k au).n,.float .f32 (qs.getD k au).rate]] wx fun e w'=>∃ y,e=.returned (.tuple #[.float .f64 y,.int .i64 0])∧AgU (R d) y∧Below wx.heap.size wx w')) :
  Calls Tryz.prog 6 #[.int .i64 base,.int .i64 kind,.agg #[.int .i64 W,.slice p n c],.slice pq N cq] w fun e w'=>e=.returned (.bool true)∧Below w.heap.size w w':=by
 subst hpq
 have HQ:=hideS (And.intro hqs (And.intro hql hE))
 clear hqs hql hE
 have HB:=hideS (KZ w W (.slice p n c))
 have HA:=hideS Dw
 go_enter Tryz.func6,Tryz.ntmps6
 go_wp2_with fail
 refine (HF.out _ HB.out.bl).mono ?_
 rintro e w1 ⟨⟨f,rfl⟩,hb⟩
 have HB1:=hideS (HB.out.step hb)
 have k0:=HB1.out.k0
 have k1:=HB1.out.k1
 clear hb HF HB
 cases f
 ·go_wp2_with fail
  refine (HA.out _).mono ?_
  rintro e w2 ⟨rfl,hb⟩
  have HB2:=hideS (HB1.out.step hb)
  clear hb
  go_wp2_with fail
  go_ret
  exact⟨rfl,HB2.out.bl⟩
 go_wp2_with fail
 refine (H1.out _ HB1.out.bl).mono ?_
 rintro e w2 ⟨⟨gc,kc,gd,kd,rfl,sc1,sc2,cc1,cc2⟩,hb⟩
 have HV2:=hideS (bX w2 base kind (.slice (some ⟨gc,0,none⟩) N kc) (.slice (some ⟨gd,0,none⟩) N kd))
 have HS0:=hideS (And.intro sc1 sc2)
 have HB2:=hideS ((HB1.out.step hb).step HV2.out.bl)
 clear hb H1 k0 k1 HB1 sc1 sc2
 go_wp2_with fail
 obtain⟨wa,hwa⟩:∃ wa,w2.alloc (.cells #[.int .i64 base,.int .i64 kind,.slice (some ⟨gc,0,none⟩) N kc,.slice (some ⟨gd,0,none⟩) N kd] 35)=wa:=⟨_,rfl⟩
 rw [hwa] at HV2 HB2 ⊢
 clear hwa
 have HSc:=hideS (And.intro (HS0.out.1.below HV2.out.bl) (HS0.out.2.below HV2.out.bl))
 have HCb:Hid (V4 w2.heap.size base kind (.slice (some ⟨gc,0,none⟩) N kc) (.slice (some ⟨gd,0,none⟩) N kd) wa):=⟨HV2.out.t0,HV2.out.t1,HV2.out.t2,HV2.out.t3⟩
 clear HS0 HV2
 go_loopw [12] (fun i wr=>∃ (k:Nat),k≤N∧i=.int .i64 k∧Hid (Below wa.heap.size wa wr)) (fun i _=>N - (intOf i).toNat)
 case atStart=>exact⟨0,Nat.zero_le _,rfl,Below.refl _ _⟩
 case round=>
  obtain⟨k,hk,rfl,HW⟩:=hrel
  by_cases hlt:k<N
  ·have HCr:=hideS (HCb.out.below HW.out)
   have HSr:=hideS (And.intro (HSc.out.1.below HW.out) (HSc.out.2.below HW.out))
   have r2:=HCr.out.t2
   have r3:=HCr.out.t3
   have l1:(0:Int)≤(k:Int):=Int.natCast_nonneg _
   have l2:IntKind.i64.wrap ((k:Int)+1)=(k:Int)+1:=by rw [IntKind.wrap_i64];omega
   have l3:(0:Int)≤(k:Int)+1:=by omega
   have l4:(k:Int)+1≤(kc:Int):=by omega
   have l5:(k:Int)+1≤(kd:Int):=by omega
   have l6:((k:Int)+1).toNat=k+1:=by omega
   have l7:k+1≤kc:=by omega
   have l8:k+1≤kd:=by omega
   have l9:¬ ((kc:Int)<(k:Int)+1):=by omega
   have m1:¬ ((kd:Int)<(k:Int)+1):=by omega
   have m2:¬ ((k:Int)+1<0):=by omega
   have m3:k<kc:=by omega
   have m4:k<kd:=by omega
   have HYl:Hid ((fn.take (k+1)).length=k+1):=by show _=_;rw [List.length_take];omega
   have HSx:Hid (∀ wx,Below wr.heap.size wr wx→∀ j<k+1,wx.cell? ⟨gd,0+j,none⟩=some (flV (fn.take (k+1)) j)):=fun wx hb j hj=>by
    rw [(HSr.out.2.below hb).cell j (by omega)]
    show some (Value.float .f64 (fn.getD j 0))=some (.float .f64 ((fn.take (k+1)).getD j 0))
    rw [List.getD_eq_getElem?_getD,List.getD_eq_getElem?_getD,List.getElem?_take_of_lt hj]
   have bA:∀ o,Below wr.heap.size wr ((wr.drewN 1).alloc o):=fun o=>(dU (Below.refl _ wr) 1).alloc (Nat.le_refl _) o
   have bB:∀ o o',Below wr.heap.size wr (((wr.drewN 1).alloc o).alloc o'):=fun o o'=>(bA o).alloc (bA o).size o'
   have HO1:Hid (((wr.drewN 1).alloc (.cells #[] 46)).ownsRow wr.heap.size 46 1 (.slice (some ⟨wr.heap.size,0,none⟩) 0 0) 0 (([]:List Nat).map fV)):=Dx (wr.drewN 1) 46
   have HO2:Hid ((((wr.drewN 1).alloc (.cells #[] 46)).alloc (.cells #[.int .i64 0,.int .i64 0,.slice none 0 0,.slice none 0 0] 35)).ownsRow wr.heap.size 46 1 (.slice (some ⟨wr.heap.size,0,none⟩) 0 0) 0 (([]:List Nat).map fV)):=aL HO1.out ((Below.refl _ _).alloc (Nat.le_refl _) _)
   have hsz:((wr.drewN 1).alloc (.cells #[.int .i64 0,.int .i64 0,.slice none 0 0,.slice none 0 0] 35)).heap.size=wr.heap.size+1:=by simp
   have hsz2:((wr.drewN 1).alloc (.cells #[] 46)).heap.size=wr.heap.size+1:=by simp
   have HO3:Hid ((((wr.drewN 1).alloc (.cells #[.int .i64 0,.int .i64 0,.slice none 0 0,.slice none 0 0] 35)).alloc (.cells #[] 46)).ownsRow wr.heap.size 46 1 (.slice (some ⟨wr.heap.size+1,0,none⟩) 0 0) 0 (([]:List Nat).map fV)):=by
    have:=Dx ((wr.drewN 1).alloc (.cells #[.int .i64 0,.int .i64 0,.slice none 0 0,.slice none 0 0] 35)) 46
    rw [hsz] at this
    exact gB this (Nat.le_succ _)
   have HZ2:Hid (Z4 (wr.heap.size+1) (((wr.drewN 1).alloc (.cells #[] 46)).alloc (.cells #[.int .i64 0,.int .i64 0,.slice none 0 0,.slice none 0 0] 35))):=by have:=Ol ((wr.drewN 1).alloc (.cells #[] 46));rw [hsz2] at this;exact this
   have HZ3:Hid (Z4 wr.heap.size (((wr.drewN 1).alloc (.cells #[.int .i64 0,.int .i64 0,.slice none 0 0,.slice none 0 0] 35)).alloc (.cells #[] 46))):=(Ol (wr.drewN 1)).below ((Below.refl _ _).alloc (Nat.le_refl _) _)
   have HN1:=hideS (bA (.cells #[] 46)).size
   have HN2:=hideS (bB (.cells #[] 46) (.cells #[.int .i64 0,.int .i64 0,.slice none 0 0,.slice none 0 0] 35)).size
   have HN3:=hideS (bB (.cells #[.int .i64 0,.int .i64 0,.slice none 0 0,.slice none 0 0] 35) (.cells #[] 46)).size
   have HL2:Hid (w2.heap.size<wr.heap.size):=Nat.lt_of_lt_of_le (dO HCb.out.t0) HW.out.size
   have hn1:w2.heap.size≠wr.heap.size:=Nat.ne_of_lt HL2.out
   have hn2:w2.heap.size≠wr.heap.size+1:=by have:=HL2.out;omega
   clear hsz hsz2
   go_wp2_with fail
   go_region_held3 (fun w'=>w'.cell? ⟨w2.heap.size,2,none⟩=some (.slice (some ⟨gc,0,none⟩) N kc)∧w'.cell? ⟨w2.heap.size,3,none⟩=some (.slice (some ⟨gd,0,none⟩) N kd))
    (first | go_keep | exact⟨HC5.out.t2,HC5.out.t3⟩| (refine⟨?_,?_⟩ <;>simp [go_sem, *]))
    (first
     | (refine bE rfl (.tmp 87) (.tmp 92) rfl wr.heap.size (.slice (some ⟨wr.heap.size,0,none⟩) 0 0) 0 [] rfl HO1.out gd 0 kd (k+1) (fn.take (k+1)) rfl HYl.out (HSx.out _ (bA _)) (by omega) (by omega) HN1.out ?_;intro v5 w5 ho5 hg5;have HP:=hideS (oI ho5 HYl.out);obtain⟨gf,kf,rfl,hgf⟩:=mX ho5 HYl.out;have HW5:=hideS ((bA (.cells #[] 46)).trans (aT HO1.out hg5 HN1.out));have HC5:=hideS (HCr.out.below HW5.out);have hn5:w2.heap.size≠w5.heap.size:=Nat.ne_of_lt (Nat.lt_of_lt_of_le HL2.out HW5.out.size);have r25:=HC5.out.t2;have r35:=HC5.out.t3;clear ho5 hg5)
     | (refine bE rfl (.tmp 87) (.tmp 92) rfl wr.heap.size (.slice (some ⟨wr.heap.size,0,none⟩) 0 0) 0 [] rfl HO2.out gd 0 kd (k+1) (fn.take (k+1)) rfl HYl.out (HSx.out _ (bB _ _)) (by omega) (by omega) HN2.out ?_;intro v5 w5 ho5 hg5;have HP:=hideS (oI ho5 HYl.out);obtain⟨gf,kf,rfl,hgf⟩:=mX ho5 HYl.out;have HW5:=hideS ((bB (.cells #[] 46) (.cells #[.int .i64 0,.int .i64 0,.slice none 0 0,.slice none 0 0] 35)).trans (aT HO2.out hg5 HN2.out));have HC5:=hideS (HCr.out.below HW5.out);have HZ5:=hideS (HZ2.out.grown hg5 (fun g hg=>QU hg));have z0:=HZ5.out.c0;have z1:=HZ5.out.c1;have z2:=HZ5.out.c2;have z3:=HZ5.out.c3;have y0:=HZ5.out.fz 0;have y1:=HZ5.out.fz 1;have y2:=HZ5.out.fz 2;have y3:=HZ5.out.fz 3;have r25:=HC5.out.t2;have r35:=HC5.out.t3;clear ho5 hg5)
     | (refine bE rfl (.tmp 87) (.tmp 92) rfl wr.heap.size (.slice (some ⟨wr.heap.size+1,0,none⟩) 0 0) 0 [] rfl HO3.out gd 0 kd (k+1) (fn.take (k+1)) rfl HYl.out (HSx.out _ (bB _ _)) (by omega) (by omega) HN3.out ?_;intro v5 w5 ho5 hg5;have HP:=hideS (oI ho5 HYl.out);obtain⟨gf,kf,rfl,hgf⟩:=mX ho5 HYl.out;have HW5:=hideS ((bB (.cells #[.int .i64 0,.int .i64 0,.slice none 0 0,.slice none 0 0] 35) (.cells #[] 46)).trans (aT HO3.out hg5 HN3.out));have HC5:=hideS (HCr.out.below HW5.out);have HZ5:=hideS (HZ3.out.grown hg5 (fun g hg=>QV hg));have z0:=HZ5.out.c0;have z1:=HZ5.out.c1;have z2:=HZ5.out.c2;have z3:=HZ5.out.c3;have y0:=HZ5.out.fz 0;have y1:=HZ5.out.fz 1;have y2:=HZ5.out.fz 2;have y3:=HZ5.out.fz 3;have r25:=HC5.out.t2;have r35:=HC5.out.t3;clear ho5 hg5))
   obtain⟨w6,hw6⟩:∃ w6,w5.alloc (.cells #[.int .i64 base,.int .i64 kind,.slice (some ⟨gc,0,none⟩) (k+1) kc,.slice (some ⟨gf,0,none⟩) (k+1) kf] 35)=w6:=⟨_,rfl⟩
   have HL6:Hid (Below w5.heap.size w5 w6):=by show Below _ _ _;rw [← hw6];exact (Below.refl _ _).alloc (Nat.le_refl _) _
   have HD:Hid (V4 w5.heap.size base kind (.slice (some ⟨gc,0,none⟩) (k+1) kc) (.slice (some ⟨gf,0,none⟩) (k+1) kf) w6):=by show V4 _ _ _ _ _ _;rw [← hw6];exact⟨by simp,by simp,by simp,by simp⟩
   have HR6:=hideS (aL HP.out HL6.out)
   have HBl:Hid (Below wr.heap.size wr w6):=HW5.out.trans (HL6.out.mono HW5.out.size)
   have HNe:Hid (gf≠w5.heap.size):=Nat.ne_of_lt (lU HP.out (g:=gf) rfl)
   rw [hw6]
   clear hw6 HL6 hn5
   generalize w5.heap.size=D at HD HNe ⊢
   rotate_left
   obtain⟨w6,hw6⟩:∃ w6,lZ w5 (wr.heap.size+1) base kind (.slice (some ⟨gc,0,none⟩) (k+1) kc) (.slice (some ⟨gf,0,none⟩) (k+1) kf)=w6:=⟨_,rfl⟩
   have HNe:Hid (gf≠wr.heap.size+1):=fun e=>by
    have h1:=(bO (xs:=fn.take (k+1)) HP.out HYl.out (Nat.succ_pos k))
    obtain⟨g1,c1,e1,s1,_⟩:=h1
    injection e1 with e1 _ _
    injection e1 with e1
    injection e1 with e1 _ _
    subst e1
    have h2:=s1.cell 0 (Nat.succ_pos k)
    rw [e] at h2
    exact absurd (h2.symm.trans z0) (by intro h;cases h)
   have HD:Hid (V4 (wr.heap.size+1) base kind (.slice (some ⟨gc,0,none⟩) (k+1) kc) (.slice (some ⟨gf,0,none⟩) (k+1) kf) w6):=by show V4 _ _ _ _ _ _;rw [← hw6];exact zW HZ5.out
   have HR6:Hid (w6.ownsRow wr.heap.size 46 1 (.slice (some ⟨gf,0,none⟩) (k+1) kf) (k+1) ((fn.take (k+1)).map fV)):=by show World.ownsRow _ _ _ _ _ _ _;rw [← hw6];exact zX HP.out HNe.out
   have HBl:Hid (Below wr.heap.size wr w6):=by show Below _ _ _;rw [← hw6];exact HW5.out.trans (ue _ _ _ _ (by omega))
   unfold lZ at hw6
   rw [hw6]
   clear hw6 HZ5 z0 z1 z2 z3 y0 y1 y2 y3
   generalize wr.heap.size+1=D at HD HNe ⊢
   rotate_left
   obtain⟨w6,hw6⟩:∃ w6,lZ w5 (wr.heap.size) base kind (.slice (some ⟨gc,0,none⟩) (k+1) kc) (.slice (some ⟨gf,0,none⟩) (k+1) kf)=w6:=⟨_,rfl⟩
   have HNe:Hid (gf≠wr.heap.size):=fun e=>by
    have h1:=(bO (xs:=fn.take (k+1)) HP.out HYl.out (Nat.succ_pos k))
    obtain⟨g1,c1,e1,s1,_⟩:=h1
    injection e1 with e1 _ _
    injection e1 with e1
    injection e1 with e1 _ _
    subst e1
    have h2:=s1.cell 0 (Nat.succ_pos k)
    rw [e] at h2
    exact absurd (h2.symm.trans z0) (by intro h;cases h)
   have HD:Hid (V4 (wr.heap.size) base kind (.slice (some ⟨gc,0,none⟩) (k+1) kc) (.slice (some ⟨gf,0,none⟩) (k+1) kf) w6):=by show V4 _ _ _ _ _ _;rw [← hw6];exact zW HZ5.out
   have HR6:Hid (w6.ownsRow wr.heap.size 46 1 (.slice (some ⟨gf,0,none⟩) (k+1) kf) (k+1) ((fn.take (k+1)).map fV)):=by show World.ownsRow _ _ _ _ _ _ _;rw [← hw6];exact zX HP.out HNe.out
   have HBl:Hid (Below wr.heap.size wr w6):=by show Below _ _ _;rw [← hw6];exact HW5.out.trans (ue _ _ _ _ (by omega))
   unfold lZ at hw6
   rw [hw6]
   clear hw6 HZ5 z0 z1 z2 z3 y0 y1 y2 y3
   generalize wr.heap.size=D at HD HNe ⊢
   rotate_left
   all_goals (
    have HB6:=hideS (HB2.out.step (HW.out.trans (HBl.out.mono HW.out.size)))
    clear HW5 HC5 r25 r35 HO1 HO2 HO3 HZ2 HZ3 HN1 HN2 HN3 bA bB HSx HP hn1 hn2 r2 r3
    have HGf:=hideS hgf
    clear hgf
    have HC6:=hideS (HCr.out.below HBl.out)
    have HS6:=hideS (And.intro (HSr.out.1.below HBl.out) (HSr.out.2.below HBl.out))
    obtain⟨R,x,gX,x1,x2,hdis,hcl⟩:=HM.out k hlt
    have HX:=hideS (And.intro gX (And.intro x1 (And.intro x2 (And.intro hdis hcl))))
    have hfk:fn.take (k+1)=fn.take k++[fn.getD k 0]:=by
     rw [List.take_add_one,List.getD_eq_getElem?_getD,List.getElem?_eq_getElem (by omega)];rfl
    have HFk:=hideS hfk
    obtain⟨c0,c1,c2,c3,c4⟩:=(HQ.out.1.below HB6.out.bl).cell k (by rw [HQ.out.2.1];exact hlt)
    have HDk:=HQ.out.2.2 k hlt
    have a2:w6.cell? ⟨gc,k,none⟩=some (.int .i64 (dn.getD k 0)):=by have:=HS6.out.1.cell k hlt;rw [Nat.zero_add] at this;exact this
    rw [HDk] at a2
    have HV6:Hid (VSrc w6 (some ⟨gf,0,none⟩) gf 0 (k+1) (flV (fn.take k++[fn.getD k 0]))):=by
     obtain⟨g1,q1,e1,s1,_⟩:=bO (xs:=fn.take (k+1)) HR6.out HYl.out (Nat.succ_pos k)
     injection e1 with e1 _ _
     injection e1 with e1
     injection e1 with e1 _ _
     subst e1
     rw [← HFk.out];exact s1
    have a1:w6.cell? ⟨gf,k,none⟩=some (.float .f64 (fn.getD k 0)):=by
     have:=HV6.out.cell k (Nat.lt_succ_self k)
     rw [Nat.zero_add] at this
     rw [this]
     show some (Value.float .f64 ((fn.take k++[fn.getD k 0]).getD k 0))=_
     have hl:(fn.take k).length=k:=by rw [List.length_take];omega
     have:=last_at (fn.take k) (fn.getD k 0)
     rw [hl] at this
     rw [this]
    have HDy:Hid (VSrc w6 (some ⟨gc,0,none⟩) gc 0 (k+1) (xV (dn.take (k+1)))):=⟨fun _=>rfl,fun _=>HS6.out.1.lt (by omega),fun j hj=>by
     rw [HS6.out.1.cell j (by omega)]
     show some (Value.int .i64 (dn.getD j 0))=some (.int .i64 ((dn.take (k+1)).getD j 0))
     rw [List.getD_eq_getElem?_getD,List.getD_eq_getElem?_getD,List.getElem?_take_of_lt hj]⟩
    have o1:=tU (a:=fn.getD k 0) (b:=4472074429978902528) gX.u (by unfold U64;omega) gX.n (by decide)
    have o2:=Ge (a:=fn.getD k 0) (b:=4652218415073722368) gX.u (by unfold U64;omega) gX.n (by decide)
    rw [gX.e,show aa ((4472074429978902528:Nat):Int)=4472074429978902528 from by decide,decide_eq_false (show ¬ x<4472074429978902528 by omega),Bool.not_false] at o1
    rw [gX.e,show aa ((4652218415073722368:Nat):Int)=4652218415073722368 from by decide,decide_eq_true x2] at o2
    clear gX x1 x2 hdis hcl HDk hfk
    generalize hXe:fn.getD k 0=X at *
    have u0:=HD.out.t0
    have u1:=HD.out.t1
    have u2:=HD.out.t2
    have u3:=HD.out.t3
    have r2:=HC6.out.t2
    have k0:=HB6.out.k0
    have k1:=HB6.out.k1
    generalize hq1:(qs.getD k au).kind=qk at *
    generalize hq2:(qs.getD k au).fin=qf at *
    generalize hq3:(qs.getD k au).count=qc at *
    generalize hq4:(qs.getD k au).n=qn at *
    generalize hq5:(qs.getD k au).rate=qr at *
    have j1:(k:Int)<(N:Int):=by omega
    have j2:(k:Int)<(k:Int)+1:=by omega
    have j3:k<k+1:=Nat.lt_succ_self k
    go_wp2_with fail
    go_quiet (fail)
    go_wp2_with fail
    obtain⟨wn,hwn⟩:∃ wn,w6.drewN nq=wn:=⟨_,rfl⟩
    rw [hwn]
    have HLn:Hid (Below w6.heap.size w6 wn):=by show Below _ _ _;rw [← hwn];exact dU (Below.refl _ _) _
    have HDn:=hideS (HD.out.below HLn.out)
    have HBn:=hideS (HB6.out.step HLn.out)
    have HVn:=hideS (HV6.out.below HLn.out)
    have HDm:=hideS (HDy.out.below HLn.out)
    have HRn:=hideS (aL HR6.out HLn.out)
    clear hwn u0 u1 u2 u3 k0 k1 c0 c1 c2 c3 c4 a1 a2 r2 HD HB6 HV6 HDy HR6 o1 o2
    have HWk:=hideS (HX.out.2.2.2.2 (wn.drewN 1) X x gc kc gf kf (dU HBn.out.bl 1) HX.out.1 HX.out.2.1 HX.out.2.2.1 (HDm.out.below (dU (Below.refl _ _) 1)) (HVn.out.below (dU (Below.refl _ _) 1)))
    have HQk:Hid (∀ wx,Below w.heap.size w wx→wx.cell? ⟨bq,oq+k*5,none⟩=some (.int .i64 qk)∧wx.cell? ⟨bq,oq+k*5+1,none⟩=some (.int .i64 qf)∧wx.cell? ⟨bq,oq+k*5+2,none⟩=some (.int .i64 qc)∧wx.cell? ⟨bq,oq+k*5+3,none⟩=some (.int .i64 qn)∧wx.cell? ⟨bq,oq+k*5+4,none⟩=some (.float .f32 qr)):=fun wx hb=>by
     obtain⟨b0,b1,b2,b3,b4⟩:=(HQ.out.1.below hb).cell k (by rw [HQ.out.2.1];exact hlt)
     rw [hq1] at b0;rw [hq2] at b1;rw [hq3] at b2;rw [hq4] at b3;rw [hq5] at b4
     exact⟨b0,b1,b2,b3,b4⟩
    obtain⟨c0,c1,c2,c3,c4⟩:=HQk.out wn HBn.out.bl
    have u0:=HDn.out.t0
    have u1:=HDn.out.t1
    have u2:=HDn.out.t2
    have u3:=HDn.out.t3
    have k0:=HBn.out.k0
    have k1:=HBn.out.k1
    go_region_held3 (fun w'=>w'.cell? ⟨D,0,none⟩=some (.int .i64 base)∧w'.cell? ⟨D,1,none⟩=some (.int .i64 kind)∧w'.cell? ⟨D,2,none⟩=some (.slice (some ⟨gc,0,none⟩) (k+1) kc)∧w'.cell? ⟨D,3,none⟩=some (.slice (some ⟨gf,0,none⟩) (k+1) kf)∧w'.cell? ⟨w.heap.size,0,none⟩=some (.int .i64 W)∧w'.cell? ⟨w.heap.size,1,none⟩=some (.slice p n c)∧w'.cell? ⟨bq,oq+k*5,none⟩=some (.int .i64 qk)∧w'.cell? ⟨bq,oq+k*5+1,none⟩=some (.int .i64 qf)∧w'.cell? ⟨bq,oq+k*5+2,none⟩=some (.int .i64 qc)∧w'.cell? ⟨bq,oq+k*5+3,none⟩=some (.int .i64 qn)∧w'.cell? ⟨bq,oq+k*5+4,none⟩=some (.float .f32 qr))
     (first | go_keep | exact⟨HD7.out.t0,HD7.out.t1,HD7.out.t2,HD7.out.t3,HB7.out.k0,HB7.out.k1,HQ7.out.1,HQ7.out.2.1,HQ7.out.2.2.1,HQ7.out.2.2.2.1,HQ7.out.2.2.2.2⟩)
     ((go_at_call 15;refine HWk.out.mono ?_;rintro e w7 ⟨y,rfl,hy,hb7⟩;have HY:=hideS hy;have HL7:Hid (Below wn.heap.size wn w7):=⟨hb7.os,hb7.tape,hb7.output,hb7.size,hb7.block⟩;have HD7:=hideS (HDn.out.below HL7.out);have HB7:=hideS (HBn.out.step HL7.out);have HQ7:=hideS (HQk.out w7 HB7.out.bl);clear hy hb7))
    clear c0 c1 c2 c3 c4 u0 u1 u2 u3 k0 k1
    have HW7:Hid (Below wa.heap.size wa w7):=HW.out.trans (((HBl.out.trans (HLn.out.mono HBl.out.size)).trans (HL7.out.mono (Nat.le_trans HBl.out.size HLn.out.size))).mono HW.out.size)
    have ry:=BN HY.out
    have yu:U64 (y:Int):=by have:=HY.out.2;unfold U64;omega
    rcases HX.out.2.2.2.1 with h0 | ⟨v,h1,h2,h3,h4⟩
    ·rw [h0] at ry
     obtain⟨yn,ye⟩:=lL ry
     have q1:=bK (a:=y) (b:=0) yu (by unfold U64;omega) yn (by decide)
     rw [ye,show aa ((0:Nat):Int)=0 from by decide,decide_eq_true rfl] at q1
     clear ry ye yn yu h0
     go_wp2_with fail
     go_roundw
     case rel=>exact⟨k+1,by omega,by simp,HW7.out⟩
     case measure=>simp [intOf];omega
    ·rw [h1] at ry
     obtain⟨yn,ye⟩:=lL ry
     have q1:=bK (a:=y) (b:=0) yu (by unfold U64;omega) yn (by decide)
     rw [ye,show aa ((0:Nat):Int)=0 from by decide,decide_eq_false h2] at q1
     have q2:=cI (a:=y) (b:=0) yu (by unfold U64;omega) yn (by decide)
     have q3:=eA (a:=y) (b:=0) yu (by unfold U64;omega) yn (by decide)
     rw [ye,show aa ((0:Nat):Int)=0 from by decide] at q2 q3
     have gU:=QL HX.out.1 (by omega)
     obtain⟨z,z1,z2,z3⟩:=h4 _ gU
     have HU:Hid (∀ wx,Calls Tryz.prog 20 #[.float .f64 X] wx fun e w'=>e=.returned (.float .f64 (upI (X:Int) 1).toNat)∧w'=wx):=fun wx=>PZ X X wx rfl HX.out.1.u
     generalize (upI (X:Int) 1).toNat=X' at *
     have HQq:=hideS (And.intro q2 (And.intro q3 (And.intro gU (And.intro h3 (And.intro z1 (And.intro z2 z3))))))
     clear ry ye yn yu h1 h4 q2 q3 gU z1 z2 z3 h3
     have HV7:=hideS (HVn.out.below HL7.out)
     have HDr:=hideS (HDm.out.below HL7.out)
     have HR7:=hideS (aL HRn.out HL7.out)
     have f0:=Ld HR7.out k
     have a1:w7.cell? ⟨gf,k,none⟩=some (.float .f64 X):=by
      have:=HV7.out.cell k (Nat.lt_succ_self k)
      rw [Nat.zero_add] at this
      rw [this]
      show some (Value.float .f64 ((fn.take k++[X]).getD k 0))=_
      have hl:(fn.take k).length=k:=by rw [List.length_take];omega
      have:=last_at (fn.take k) X
      rw [hl] at this
      rw [this]
     have u3:=HD7.out.t3
     have hst:=dH
     have n1:gf≠D:=HNe.out
     have n2:D≠gf:=HNe.out.symm
     have j4:(k:Int)<((k+1:Nat):Int):=by omega
     go_wp2_with fail
     go_region_held3 (fun w'=>w'.cell? ⟨D,3,none⟩=some (.slice (some ⟨gf,0,none⟩) (k+1) kf))
      (first | go_keep | exact u3 | exact (World.cell?_setCell_far w7 ⟨gf,k,none⟩ ⟨D,3,none⟩ _ HNe.out).trans u3 | simp [go_sem, *])
      ((go_at_call 20;refine (HU.out _).mono ?_;rintro e w' ⟨rfl,rfl⟩))
     all_goals (
      obtain⟨w8,hw8⟩:∃ w8,(w7.setCell ⟨gf,k,none⟩ (.float .f64 X')).drew=w8:=⟨_,rfl⟩
      have HT:Hid (Below (w7.setCell ⟨gf,k,none⟩ (.float .f64 X')).heap.size (w7.setCell ⟨gf,k,none⟩ (.float .f64 X')) w8):=by
       show Below _ _ _;rw [← hw8];exact⟨rfl,(Below.refl 0 _).tape,rfl,Nat.le_refl _,fun _ _=>rfl⟩
      rw [hw8]
      clear hw8 hst u3 a1 f0
      have HD8:Hid (V4 D base kind (.slice (some ⟨gc,0,none⟩) (k+1) kc) (.slice (some ⟨gf,0,none⟩) (k+1) kf) w8):=(HD7.out.via (fun j=>World.cell?_setCell_far w7 ⟨gf,k,none⟩ ⟨D,j,none⟩ _ HNe.out)).below HT.out
      have HW8:Hid (Below wa.heap.size wa w8):=by
       have h:=HW7.out.setCell (p:=⟨gf,k,none⟩) (Nat.le_trans HW.out.size HGf.out) (.float .f64 X')
       exact h.trans (HT.out.mono h.size)
      have HB8:=hideS (HB2.out.step HW8.out)
      have HV8:Hid (VSrc w8 (some ⟨gf,0,none⟩) gf 0 (k+1) (flV (fn.take k++[X']))):=(Gl HV7.out (by rw [List.length_take];omega) X').below HT.out
      have HDs:Hid (VSrc w8 (some ⟨gc,0,none⟩) gc 0 (k+1) (xV (dn.take (k+1)))):=(HDr.out.put (a:=⟨gf,k,none⟩) _ (Nat.ne_of_lt (Nat.lt_of_lt_of_le (HSr.out.1.lt (by omega)) HGf.out))).below HT.out
      have HWk8:=hideS (HX.out.2.2.2.2 (w8.drewN 1) X' (x+1) gc kc gf kf (dU HB8.out.bl 1) HQq.out.2.2.1 (Int.le_trans HX.out.2.1 (by omega)) HQq.out.2.2.2.1 (HDs.out.below (dU (Below.refl _ _) 1)) (HV8.out.below (dU (Below.refl _ _) 1)))
      clear HT HWk HVn HDm HRn HDn HBn HLn HL7 HV7 HDr HR7 HD7 HB7 HQ7 HW7 HV8 HDs
      obtain⟨c0,c1,c2,c3,c4⟩:=HQk.out w8 HB8.out.bl
      have u0:=HD8.out.t0
      have u1:=HD8.out.t1
      have u2:=HD8.out.t2
      have u3:=HD8.out.t3
      have k0:=HB8.out.k0
      have k1:=HB8.out.k1
      go_wp2_with fail
      go_region_held3 (fun w'=>w'.cell? ⟨D,0,none⟩=some (.int .i64 base)∧w'.cell? ⟨D,1,none⟩=some (.int .i64 kind)∧w'.cell? ⟨D,2,none⟩=some (.slice (some ⟨gc,0,none⟩) (k+1) kc)∧w'.cell? ⟨D,3,none⟩=some (.slice (some ⟨gf,0,none⟩) (k+1) kf)∧w'.cell? ⟨w.heap.size,0,none⟩=some (.int .i64 W)∧w'.cell? ⟨w.heap.size,1,none⟩=some (.slice p n c)∧w'.cell? ⟨bq,oq+k*5,none⟩=some (.int .i64 qk)∧w'.cell? ⟨bq,oq+k*5+1,none⟩=some (.int .i64 qf)∧w'.cell? ⟨bq,oq+k*5+2,none⟩=some (.int .i64 qc)∧w'.cell? ⟨bq,oq+k*5+3,none⟩=some (.int .i64 qn)∧w'.cell? ⟨bq,oq+k*5+4,none⟩=some (.float .f32 qr))
       (first | go_keep | exact⟨HD9.out.t0,HD9.out.t1,HD9.out.t2,HD9.out.t3,HB9.out.k0,HB9.out.k1,HQ9.out.1,HQ9.out.2.1,HQ9.out.2.2.1,HQ9.out.2.2.2.1,HQ9.out.2.2.2.2⟩)
       ((go_at_call 15;refine HWk8.out.mono ?_;rintro e w9 ⟨y9,rfl,hy,hb9⟩;have HY9:=hideS hy;have HL9:Hid (Below w8.heap.size w8 w9):=⟨hb9.os,hb9.tape,hb9.output,hb9.size,hb9.block⟩;have HD9:=hideS (HD8.out.below HL9.out);have HB9:=hideS (HB8.out.step HL9.out);have HQ9:=hideS (HQk.out w9 HB9.out.bl);clear hy hb9))
      all_goals (
       clear c0 c1 c2 c3 c4 u0 u1 u2 u3 k0 k1
       have HW9:Hid (Below wa.heap.size wa w9):=HW8.out.trans (HL9.out.mono HW8.out.size)
       have ry:=BN HY9.out
       have yu:U64 (y9:Int):=by have:=HY9.out.2;unfold U64;omega
       obtain⟨q2,q3,_,_,z1,z2,z3⟩:=HQq.out
       rw [z1] at ry
       obtain⟨yn,ye⟩:=lL ry
       have p2:=cI (a:=y9) (b:=0) yu (by unfold U64;omega) yn (by decide)
       have p3:=eA (a:=y9) (b:=0) yu (by unfold U64;omega) yn (by decide)
       rw [ye,show aa ((0:Nat):Int)=0 from by decide] at p2 p3
       have hv:=Gk h2 z2 z3
       clear ry yu yn ye z1 z2 z3 HQq HWk8 HY HY9 HD8 HD9 HB8 HB9 HQ9 HW8 HL9 h2
       rcases hv with⟨v1,v2⟩| ⟨v1,v2⟩
       ·rw [decide_eq_true v1] at q2
        rw [decide_eq_false (show ¬ v<0 by omega)] at q3
        rw [decide_eq_false (show ¬ 0<z by omega)] at p2
        rw [decide_eq_true v2] at p3
        clear v1 v2
        go_wp2_with fail
        go_roundw
        case rel=>exact⟨k+1,by omega,by simp,HW9.out⟩
        case measure=>simp [intOf];omega
       ·rw [decide_eq_false (show ¬ 0<v by omega)] at q2
        rw [decide_eq_true v1] at q3
        rw [decide_eq_true v2] at p2
        rw [decide_eq_false (show ¬ z<0 by omega)] at p3
        clear v1 v2
        go_wp2_with fail
        go_roundw
        case rel=>exact⟨k+1,by omega,by simp,HW9.out⟩
        case measure=>simp [intOf];omega)))
  ·obtain rfl:k=N:=by omega
   have l5:decide ((k:Int)<(k:Int))=false:=decide_eq_false (by omega)
   have HBk:=hideS (HB2.out.step HW.out)
   go_wp2_with fail
   refine (HA.out _).mono ?_
   rintro e w7 ⟨rfl,hb⟩
   have HB7:=hideS (HBk.out.step hb)
   clear hb
   go_wp2_with fail
   go_ret
   exact⟨rfl,HB7.out.bl⟩
end Go.Proofs.YtkooknagalgfpaaGreat
