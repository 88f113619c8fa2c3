/-  -/
import Derived.Test.YtjjlnmihkadlmaaGreatHbo
import Derived.Test.YtjjlnmihkadlmaaGreatXmA
import Derived.Lib.SliceRun
import Derived.Test.YtjjlnmihkadlmaaGreatHbd
import Derived.Test.YtjjlnmihkadlmaaGreatHbi
import Derived.Test.YtjjlnmihkadlmaaGreatRwK
namespace Go.Proofs.YtjjlnmihkadlmaaGreat
open Go.RowKit

theorem Ih (w:World) (a:Option Addr) (n c:Nat):(binOp .eql 22 (.slice a n c) (.slice none 0 0)).run Tryz.prog w=.ok (.bool a.isNone) w:=Go.Lib.run_eql_slice_nil w _ _ a n c 0 0 Tryz.underlying22
set_option maxRecDepth 20000 in
set_option maxHeartbeats 1600000 in
theorem wD (l:List Flw) (B N:Nat) (v:Value) (w:World) (ho:w.ownsRow B 77 3 v N (aw aF l)) (hl:l.length=N) (hN:N≤100000) :
  Calls Tryz.prog 59 #[v] w fun e w'=>(∃ u,e=.returned u∧w'.ownsRow w.heap.size 77 3 u N (aw aF l))∧Below w.heap.size w w':=by
 obtain⟨p,b,c,hv,hs,_,hNc,hcm⟩:=av ho hl
 subst hv
 cases p with
 | none=>
  have h0:N=0:=by
   rcases ho.2 with⟨_,h⟩| ⟨g,cap,cs,e,_⟩
   ·exact h
   ·cases e
  subst h0
  obtain rfl:=List.length_eq_zero_iff.1 hl
  have h1:c=0:=by
   rcases ho.2 with⟨h,_⟩| ⟨g,cap,cs,e,_⟩
   ·injection h
   ·cases e
  subst h1
  clear ho hs
  have hq:=fun w=>Ih w none 0 0
  go_enter Tryz.func59,Tryz.ntmps59
  go_wp2_with fail
  go_ret
  exact⟨⟨_,rfl,cL _ _ _ _⟩,Below.refl _ _⟩
 | some ad=>
  have HQ:=hideS hs
  have HN:=hideS hl
  have HE:=hideS (iM w)
  have HB0:=hideS ((Below.refl _ w).alloc (Nat.le_refl _) (.cells #[] 77))
  clear ho hs hl hNc hcm
  have hq:=fun w=>Ih w (some ad) N c
  go_enter Tryz.func59,Tryz.ntmps59
  go_wp2_with (at_builtin;refine aT _ rfl _ _ rfl w.heap.size (.slice (some ⟨w.heap.size,0,none⟩) 0 0) 0 [] rfl HE.out (some ad) b 0 c N l rfl HN.out (HQ.out.below HB0.out) (fun h=>by cases h) (by omega) HB0.out.size ?_)
  intro v1 w1 ho hg
  have hb1:Below w.heap.size w w1:=HB0.out.trans (bm HE.out hg HB0.out.size)
  have HO:=hideS (And.intro ho hb1)
  clear ho hb1 hg HE HB0
  go_wp2_with fail
  go_ret
  exact⟨⟨_,rfl,HO.out.1⟩,HO.out.2⟩
theorem fj (B b g L:Nat) (cur day N:Int) (v:Value) (l:List Flw) (w:World) (hx:LdA w B b g cur day N L v l) (hl:l.length≤100000) :
  Calls Tryz.prog 26 #[.pointer (some ⟨b,0,none⟩)] w fun e w'=>(∃ u,e=.returned u∧w'.ownsRow w.heap.size 77 3 u l.length (aw aF l))∧Below w.heap.size w w':=by
 obtain⟨⟨_,_,_,c3⟩,_⟩:=hx.cells
 have HC:=hideS (wD l B l.length v w hx.own rfl hl)
 clear hx
 go_enter Tryz.func26,Tryz.ntmps26
 go_wp2_with fail
 refine (HC.out).mono ?_
 rintro e w2 ⟨⟨u,rfl,ho⟩,hb⟩
 have HO:=hideS (And.intro ho hb)
 clear ho hb
 go_wp2_with fail
 go_ret
 exact⟨⟨_,rfl,HO.out.1⟩,HO.out.2⟩
set_option maxRecDepth 20000 in
set_option maxHeartbeats 1600000 in
theorem pk (B b g L:Nat) (cur day n N E:Int) (v:Value) (l:List Flw) (w:World) (hx:LdA w B b g cur day N L v l) (hE:(¬ (0≤n∧n≤109572)∧E=51)∨((0≤n∧n≤109572)∧n<day∧E=240)) :
  Calls Tryz.prog 13 #[.pointer (some ⟨b,0,none⟩),.int .i64 n] w fun e w'=>e=.returned (.tuple #[.slice none 0 0,.int .i64 E])∧Below w.heap.size w w':=by
 have HDy:=hideS fun wx=>nh n wx
 have hb1:Below w.heap.size w (w.alloc (.cells #[.int .i64 n] 3)):=(Below.refl _ _).alloc (Nat.le_refl _) _
 have HB:=hideS hb1
 have HX1:=hideS (hx.below hb1)
 obtain⟨⟨_,_,c2,_⟩,_⟩:=HX1.out.cells
 clear hx hb1
 rcases hE with⟨h,rfl⟩| ⟨h,h2,rfl⟩
 ·rw [decide_eq_false h] at HDy
  go_enter Tryz.func13,Tryz.ntmps13
  go_wp2_with fail
  refine (HDy.out _).mono ?_
  rintro e w' ⟨rfl,rfl⟩
  go_wp2_with fail
  go_ret2
  exact⟨rfl,HB.out⟩
 ·rw [decide_eq_true h] at HDy
  have q1:decide (n<day)=true:=decide_eq_true h2
  clear h h2
  go_enter Tryz.func13,Tryz.ntmps13
  go_wp2_with fail
  refine (turned (HDy.out _)).mono ?_
  rintro e w' ⟨rfl,rfl⟩
  go_wp2_with fail
  go_quiet (fail)
  go_wp2_with fail
  go_ret2
  exact⟨rfl,cz HB.out _⟩
def cuB (cur:Int) (f:Flw):Bool:=decide (f.cur=cur)
def paB (cur day:Int) (f:Flw):Bool:=decide (f.cur=cur)&&decide (f.day<day)
theorem xI {l:List Flw} {k:Nat} (cur:Int) (h:k<l.length):(l.take (k+1)).filter (cuB cur)=(l.take k).filter (cuB cur)++(if (l.getD k ak).cur=cur then [l.getD k ak] else []):=by
 rw [dp h,List.filter_append]
 congr 1
 simp only [List.filter_cons,List.filter_nil,cuB,decide_eq_true_eq]
inductive TkO (w:World) (B b g:Nat) (cur day N:Int) (L:Nat) (v:Value) (l x:List Flw) (e:Ending) (w':World):Prop
 | past (h:∃ f ∈ x,paB cur day f=true) (he:e=.returned (.int .i64 240)) (hb:Below w.heap.size w w'):TkO w B b g cur day N L v l x e w'
 | many (h:∀ f ∈ x,paB cur day f=false) (hm:4096<l.length+(x.filter (cuB cur)).length) (he:e=.returned (.int .i64 81)) (hb:Below w.heap.size w w'):TkO w B b g cur day N L v l x e w'
 | ok (h:∀ f ∈ x,paB cur day f=false) (hm:l.length+(x.filter (cuB cur)).length≤4096) (he:e=.returned (.int .i64 0)) (v':Value) (hx:LdA w' B b g cur day N L v' (l++x.filter (cuB cur))) (hc:Ch (LdS b v) w w'):TkO w B b g cur day N L v l x e w'
set_option maxRecDepth 20000 in
set_option maxHeartbeats 6400000 in
theorem zY (B b g L:Nat) (cur day N:Int) (v:Value) (l x:List Flw) (p:Option Addr) (bx off c M:Nat) (w:World) (hx:LdA w B b g cur day N L v l) (hl:JSrc aF w p bx off x) (hM:x.length=M) (hM2:M≤10000) (hll:l.length≤4096) :
  Calls Tryz.prog 41 #[.pointer (some ⟨b,0,none⟩),.slice p M c] w fun e w'=>TkO w B b g cur day N L v l x e w':=by
 have HX:=hideS hx
 have HQ:=hideS hl
 have HM:=hideS hM
 have HP:Hid (0<M→p=some ⟨bx,off,none⟩):=fun h=>hl.at_ (by omega)
 have HLl:=hideS hll
 have HO0:=hideS (cL aF w w.heap.size 77)
 clear hx hl hM hll
 go_enter Tryz.func41,Tryz.ntmps41
 go_wp2_with fail
 go_loopw [5,10] (fun u i wr=>∃ (k m:Nat) (q:Option Addr) (cp:Nat),k≤M∧i=.int .i64 k∧u=.slice q m cp∧m≤k∧Hid (m=((x.take k).filter (cuB cur)).length)∧Hid (wr.ownsRow w.heap.size 77 3 (.slice q m cp) m (aw aF ((x.take k).filter (cuB cur))))∧Hid (∀ i<k,paB cur day (x.getD i ak)=false)∧Hid (Below w.heap.size w wr)) (fun _ i _=>M - (intOf i).toNat)
 case atStart=>exact⟨0,0,none,0,Nat.zero_le _,rfl,rfl,Nat.le_refl _,rfl,HO0,(fun i hi=>by omega),Below.refl _ _⟩
 case round=>
  clear HO0
  obtain⟨k,m,q0,cp,hk,rfl,rfl,hmk,HMl,HO,HA,HB⟩:=hrel
  by_cases hlt:k<M
  ·obtain rfl:=HP.out (by omega)
   obtain⟨c0,c1,c2⟩:=(HQ.out.below HB.out).cell k (by rw [HM.out];exact hlt)
   have HS:=hideS (xI cur (l:=x) (k:=k) (by rw [HM.out];exact hlt))
   have HAn:Hid (paB cur day (x.getD k ak)=false→∀ i<k+1,paB cur day (x.getD i ak)=false):=fun h i hi=>by
    by_cases e:i<k
    ·exact HA.out i e
    ·obtain rfl:i=k:=by omega
     exact h
   have HAb:Hid (paB cur day (x.getD k ak)=true→∃ f ∈ x,paB cur day f=true):=fun h=>⟨_,fe (by rw [HM.out];exact hlt),h⟩
   have HQB:=hideS (fU wr (x.getD k ak))
   obtain⟨⟨z0,z1,z2⟩,fz⟩:=cM wr
   have y0:=fz 0
   have y1:=fz 1
   have y2:=fz 2
   clear fz
   obtain⟨f,hf⟩:∃ f,x.getD k ak=f:=⟨_,rfl⟩
   rw [hf] at HS HQB c0 c1 c2 HAn HAb
   clear hf
   obtain⟨qd,qa,qc⟩:=f
   dsimp only [aF] at *
   obtain⟨w2,hw2⟩:∃ w2,wr.alloc aZ=w2:=⟨_,rfl⟩
   rw [hw2] at z0 z1 z2 y0 y1 y2 HQB
   unfold aZ at hw2
   obtain⟨w3,hw3⟩:∃ w3,kN w2 wr.heap.size ⟨qd,qa,qc⟩=w3:=⟨_,rfl⟩
   rw [hw3] at HQB
   unfold kN at hw3
   dsimp only at hw3
   have t0:=HQB.out.t0
   have t1:=HQB.out.t1
   have t2:=HQB.out.t2
   dsimp only at t0 t1 t2
   have hst:=cF
   have HX3:=hideS ((HX.out.below HB.out).below HQB.out.bl)
   obtain⟨⟨_,d1,d2,_⟩,_⟩:=HX3.out.cells
   have HB3:Hid (Below w.heap.size w w3):=HB.out.trans (HQB.out.bl.mono HB.out.size)
   by_cases h1:qc=cur
   ·have e1:(qc !=cur)=false:=by rw [h1];simp
    by_cases h2:qd<day
    ·have e2:decide (qd<day)=true:=decide_eq_true h2
     have HAb2:=hideS (HAb.out (by unfold paB;rw [decide_eq_true h1,decide_eq_true h2];rfl))
     clear h1 h2 HS HAn HAb
     go_wp2_with fail
     go_quiet (fail)
     go_wp2_with fail
     go_quiet (fail)
     go_wp2_with fail
     go_ret
     exact .past HAb2.out rfl (cz (cz HB3.out _) _)
    ·have e2:decide (qd<day)=false:=decide_eq_false h2
     have HAn2:=hideS (HAn.out (by unfold paB;rw [decide_eq_false h2,Bool.and_false]))
     rw [if_pos h1] at HS
     clear h1 h2 HAn HAb
     have HLn:Hid (((x.take (k+1)).filter (cuB cur)).length=m+1):=by show _=_;rw [HS.out,List.length_append,← HMl.out];rfl
     have HB4:Hid (∀ q,Below w3.heap.size w3 ((w3.drewN q).alloc (.cells #[.int .i64 qd,.float .f64 qa,.int .i64 qc] 77))):=fun q=>(cz (Below.refl _ _) q).trans ((Below.refl w3.heap.size (w3.drewN q)).alloc (Nat.le_refl w3.heap.size) _)
     have HO4:Hid (∀ q,((w3.drewN q).alloc (.cells #[.int .i64 qd,.float .f64 qa,.int .i64 qc] 77)).ownsRow w.heap.size 77 3 (.slice q0 m cp) m (aw aF ((x.take k).filter (cuB cur)))):=fun q=>ap (ap HO.out HQB.out.bl) (HB4.out q)
     have HS4:Hid (∀ q,w.heap.size≤((w3.drewN q).alloc (.cells #[.int .i64 qd,.float .f64 qa,.int .i64 qc] 77)).heap.size):=fun q=>Nat.le_trans HB3.out.size (HB4.out q).size
     have HFc:Hid (∀ q,FCells aF ((w3.drewN q).alloc (.cells #[.int .i64 qd,.float .f64 qa,.int .i64 qc] 77)) w3.heap.size 0 ⟨qd,qa,qc⟩):=fun q=>lm (w3.drewN q) ⟨qd,qa,qc⟩
     have HBw:Hid (∀ q w5,Below w.heap.size ((w3.drewN q).alloc (.cells #[.int .i64 qd,.float .f64 qa,.int .i64 qc] 77)) w5→Below w.heap.size w w5):=fun q w5 h=>(HB3.out.trans ((HB4.out q).mono HB3.out.size)).trans h
     have hm9:(m+1)*24≤140737488355328:=by omega
     go_wp2_with fail
     go_quiet (fail)
     go_wp2_with fail
     go_quiet (fail)
     go_wp2_with (at_builtin;refine eK _ rfl (.tmp 28) (.tmp 30) rfl w.heap.size (.slice q0 m cp) m ((x.take k).filter (cuB cur)) rfl (HO4.out _) (HS4.out _) w3.heap.size ⟨qd,qa,qc⟩ rfl (HFc.out _) hm9 ?_;intro v5 w5 ho5 hb5;rw [← HS.out] at ho5;have HB5:=hideS (HBw.out _ _ hb5);obtain⟨q5,g5,k5,hv5,_,_,_,hm5⟩:=av ho5 HLn.out;subst hv5;have HO5:=hideS ho5;clear ho5 hb5)
     go_roundw
     case rel=>exact⟨k+1,m+1,q5,k5,by omega,by go_num,rfl,by omega,HLn.out.symm,HO5,HAn2,HB5⟩
     case measure=>simp [intOf];omega
   ·have e1:(qc !=cur)=true:=bne_iff_ne.2 h1
    have HAn2:=hideS (HAn.out (by unfold paB;rw [decide_eq_false h1,Bool.false_and]))
    rw [if_neg h1,List.append_nil] at HS
    clear h1 HAn HAb
    go_wp2_with fail
    go_quiet (fail)
    go_wp2_with fail
    go_roundw
    case rel=>
     refine⟨k+1,m,q0,cp,by omega,by go_num,rfl,by omega,?_,?_,HAn2,cz HB3.out _⟩
     ·show _=_
      rw [HS.out];exact HMl.out
     ·show World.ownsRow _ _ _ _ _ _ _
      rw [HS.out]
      exact ap HO.out (cz HQB.out.bl _)
    case measure=>simp [intOf];omega
  ·obtain rfl:k=M:=by omega
   have hall:x.take k=x:=by rw [← HM.out,List.take_length]
   rw [hall] at HMl HO
   clear hall
   have HXr:=hideS (HX.out.below HB.out)
   have HNp:Hid (∀ f ∈ x,paB cur day f=false):=fun f hf=>by
    obtain⟨i,hi,rfl⟩:=kl hf
    exact HA.out i (by rw [HM.out] at hi;exact hi)
   obtain⟨⟨_,_,_,d3⟩,fz⟩:=HXr.out.cells
   have f3:=fz 3
   clear fz
   obtain⟨pv,gv,cv,hv,hsv,_,hnc,hcm⟩:=av HXr.out.own rfl
   have HLx:Hid (l.length≤4096∧m≤10000):=⟨HLl.out,by omega⟩
   have hlw:(0:Int)≤(l.length:Int)∧(l.length:Int)≤4096:=⟨by omega,by have:=HLl.out;omega⟩
   obtain⟨n0,hn0⟩:∃ n0,l.length=n0:=⟨_,rfl⟩
   have HN0:=hideS hn0
   rw [hn0] at hv hlw HLx
   obtain⟨hl0,hl1⟩:=hlw
   subst hv
   clear hn0 hsv
   by_cases hmn:4096<n0+m
   ·have e1:decide (4096<(n0:Int)+(m:Int))=true:=decide_eq_true (by omega)
    have HMn:Hid (4096<l.length+(x.filter (cuB cur)).length):=by show _<_;rw [HN0.out,← HMl.out];exact hmn
    clear hmn
    go_wp2_with fail
    go_ret
    exact .many HNp.out HMn.out rfl HB.out
   ·have e1:decide (4096<(n0:Int)+(m:Int))=false:=decide_eq_false (by omega)
    have HMn:Hid (l.length+(x.filter (cuB cur)).length≤4096):=by show _≤_;rw [HN0.out,← HMl.out];omega
    obtain⟨po,go,co,ho,hso,_,_,_⟩:=av HO.out HMl.out.symm
    have HSo:=hideS hso
    have hnil:po=none→m=0∧co=0:=fun h=>by
     subst h
     rcases HO.out.2 with⟨e,h⟩| ⟨g',cap,cs,e,_⟩
     ·injection e with _ e1 e2
      injection ho with _ h1 h2
      exact⟨h,by rw [← h2];exact e2⟩
     ·injection e with e;injection ho with h1;rw [h1] at e;cases e
    have HNil:=hideS hnil
    have hB:B≤wr.heap.size:=Nat.le_trans HXr.out.lo (Nat.le_of_lt HXr.out.lt)
    have HBs:=hideS hB
    have hoo:=HXr.out.own
    rw [HN0.out] at hoo
    have HOo:=hideS hoo
    injection ho with ho1 ho2 ho3
    subst ho1 ho3
    clear hnil hB hoo hso hmn ho2
    go_wp2_with (at_builtin;refine aT _ rfl (.tmp 46) (.tmp 47) rfl B (.slice pv n0 cv) n0 l rfl HOo.out q0 go 0 cp m (x.filter (cuB cur)) rfl HMl.out.symm HSo.out HNil.out (by have:=HLx.out;omega) HBs.out ?_;intro v5 w5 ho5 hg5;have HO5:=hideS ho5;have HG5:=hideS hg5;obtain⟨q5,g5,k5,hv5,_,_,_,_⟩:=av ho5 (by rw [List.length_append,HN0.out,← HMl.out]);subst hv5;have hblk5:=(hg5.block b HXr.out.lt (fun e=>HXr.out.ne e.symm)).trans HXr.out.blk;have r3:w5.cell? ⟨b,3,none⟩=some (.slice pv n0 cv):=(by simp [World.cell?,hblk5]);have y3:w5.frozen? ⟨b,3,none⟩=false:=frozen_of_row _ _ 3 _ _ hblk5;have HBk:=hideS hblk5;clear ho5 hg5 hblk5)
    go_ret
    have hc5:Ch (LdS b (.slice pv n0 cv)) wr w5:=⟨HG5.out.os,HG5.out.tape,HG5.out.output,HG5.out.size,fun k hk hn=>HG5.out.block k hk (fun e=>hn (Or.inr e.symm))⟩
    have hc6:Ch (fun k=>k=b) w5 (w5.setCell ⟨b,3,none⟩ (.slice q5 (n0+m) k5)):=(Ch.refl (fun k=>k=b) w5).set (S:=fun k=>k=b) rfl _
    have o5:Oth w5 (fun k=>k=b):=fun k cs t fz e h=>by
     subst e;rw [HBk.out] at h;injection h with h;injection h with _ h _;subst h;decide
    refine .ok HNp.out HMn.out rfl (.slice q5 (n0+m) k5) ⟨aW _ HBk.out,HXr.out.lo,?_,(HXr.out.cash.ch hc5 HXr.out.oth).ch hc6 o5⟩ ((Ch.of_below HB.out).trans (hc5.trans (hc6.mono fun k _ hk=>Or.inl hk)))
    have h7:=bq HO5.out hc6 (fun k hk c=>by
     subst c
     obtain⟨_,_,cs,e⟩:=aM HO5.out hk
     rw [HBk.out] at e;injection e with e;injection e with _ e _;revert e;decide)
    rw [List.length_append,HN0.out,← HMl.out]
    exact h7
end Go.Proofs.YtjjlnmihkadlmaaGreat
namespace Go.Proofs.YtjjlnmihkadlmaaGreat
open Go.RowKit

inductive NwR (l:List Flw) (cur day:Int):Int→Prop
 | flow (E K:Int) (h:ChkF l E K) (hE:E≠0):NwR l cur day E
 | cur (h:ChkF l 0 0) (hc:¬ (1≤cur∧cur≤8)):NwR l cur day 140
 | day (h:ChkF l 0 0) (hc:1≤cur∧cur≤8) (hd:¬ (0≤day∧day≤109572)):NwR l cur day 51
 | past (h:ChkF l 0 0) (hc:1≤cur∧cur≤8) (hd:0≤day∧day≤109572) (hp:∃ f ∈ l,paB cur day f=true):NwR l cur day 240
 | ok (h:ChkF l 0 0) (hc:1≤cur∧cur≤8) (hd:0≤day∧day≤109572) (hp:∀ f ∈ l,paB cur day f=false):NwR l cur day 0
theorem GQ (l:List Flw) (cur day:Int):∃ E,NwR l cur day E:=by
 obtain⟨e,k,h⟩:=kR l
 by_cases he:e=0
 ·subst he
  obtain rfl:=cK h
  by_cases hc:1≤cur∧cur≤8
  ·by_cases hd:0≤day∧day≤109572
   ·by_cases hp:∃ f ∈ l,paB cur day f=true
    ·exact⟨240,.past h hc hd hp⟩
    ·exact⟨0,.ok h hc hd fun f hf=>by
      cases e:paB cur day f
      ·rfl
      ·exact absurd ⟨f,hf,e⟩ hp⟩
   ·exact⟨51,.day h hc hd⟩
  ·exact⟨140,.cur h hc⟩
 ·exact⟨e,.flow e k h he⟩
theorem GR {w:World} {g L B:Nat} (cur day:Int) (h:WAt w g 0 L) (hB:B≤w.heap.size):LdA (w.alloc (.cells #[.pointer (some ⟨g,0,none⟩),.int .i64 cur,.int .i64 day,.slice none 0 0] 98)) B w.heap.size g cur day 0 L (.slice none 0 0) []:=
 ⟨heap_alloc_new _ _,hB,cL _ _ _ _,h.below ((Below.refl _ _).alloc (Nat.le_refl _) _)⟩
def NwO (w:World) (cur day:Int) (l:List Flw) (E:Int) (e:Ending) (w':World):Prop:=
 (E≠0∧e=.returned (.tuple #[.pointer none,.int .i64 E]))∨(E=0∧∃ b g v,e=.returned (.tuple #[.pointer (some ⟨b,0,none⟩),.int .i64 0])∧LdA w' w.heap.size b g cur day 0 70 v (l.filter (cuB cur)))
set_option maxRecDepth 20000 in
set_option maxHeartbeats 3200000 in
theorem nl (l:List Flw) (cur day E:Int) (p:Option Addr) (bx off c M:Nat) (w:World) (hE:NwR l cur day E) (hl:JSrc aF w p bx off l) (hM:l.length=M) (hM2:M≤9223372036854775807) (hf:dm l) :
  Calls Tryz.prog 9 #[.slice p M c,.int .i64 cur,.int .i64 day] w fun e w'=>NwO w cur day l E e w'∧Below w.heap.size w w':=by
 obtain⟨E1,K1,h1⟩:=kR l
 have HC:=hideS (ll l p bx off c M E1 K1 w hl hM hM2 hf h1)
 have HI:=hideS fun wx=>xH cur 1 8 wx
 have HDy:=hideS fun wx=>nh day wx
 have HEm:=hideS fun wx=>ww wx
 have HQ:=hideS hl
 have HM:=hideS hM
 have HE:=hideS hE
 have H1:=hideS h1
 clear hl hM hf hE h1
 by_cases e1:E1=0
 ·subst e1
  have hlen:M≤4096:=by
   have:=H1.out
   rw [cK this] at this
   rw [← HM.out];exact (qU this).1
  by_cases hc:1≤cur∧cur≤8
  ·by_cases hd:0≤day∧day≤109572
   ·rw [decide_eq_true hc] at HI
    rw [decide_eq_true hd] at HDy
    have HK:=hideS (And.intro hc hd)
    have HTk:=hideS fun (b g:Nat) (wx:World) (hx:LdA wx w.heap.size b g cur day 0 70 (.slice none 0 0) []) (hb:Below w.heap.size w wx)=>zY w.heap.size b g 70 cur day 0 (.slice none 0 0) [] l p bx off c M wx hx (HQ.out.below hb) HM.out (by omega) (by simp)
    clear hc hd HQ
    go_enter Tryz.func9,Tryz.ntmps9
    go_wp2_with fail
    refine (HC.out).mono ?_
    rintro e w2 ⟨rfl,hb2⟩
    have HB2:=hideS hb2
    clear hb2 HC
    go_wp2_with fail
    refine (turned (HI.out _)).mono ?_
    rintro e w' ⟨rfl,rfl⟩
    go_wp2_with fail
    refine (turned (HDy.out _)).mono ?_
    rintro e w' ⟨rfl,rfl⟩
    go_wp2_with fail
    refine (HEm.out _).mono ?_
    rintro e w3 ⟨g,rfl,hw3,hb3⟩
    have HB3:Hid (Below w.heap.size w w3):=HB2.out.trans (hb3.mono HB2.out.size)
    have HLd:=hideS (GR cur day hw3 HB3.out.size)
    have HB4:Hid (Below w.heap.size w (w3.alloc (.cells #[.pointer (some ⟨g,0,none⟩),.int .i64 cur,.int .i64 day,.slice none 0 0] 98))):=HB3.out.alloc HB3.out.size _
    have HT4:=hideS (HTk.out _ _ _ HLd.out HB4.out)
    clear hw3 hb3 HEm HI HDy HTk HB2
    go_wp2_with fail
    refine (HT4.out).mono ?_
    intro e w5 ht5
    cases ht5 with
    | past h he hb=>
     subst he
     have HP:=hideS (And.intro h hb)
     clear h hb
     go_wp2_with fail
     go_ret2
     refine⟨Or.inl ?_,HB4.out.trans (HP.out.2.mono HB4.out.size)⟩
     have e9:E=240:=by
      have h0:=H1.out
      rw [cK h0] at h0
      obtain⟨f,hf,hp⟩:=HP.out.1
      cases HE.out with
      | flow E K h hE=>exact absurd (aj h h0).1 hE
      | cur _ hc=>exact absurd HK.out.1 hc
      | day _ _ hd=>exact absurd HK.out.2 hd
      | past=>rfl
      | ok _ _ _ hn=>have:=hn f hf;rw [hp] at this;cases this
     subst e9
     exact⟨by decide,rfl⟩
    | many h hm he hb=>
     exfalso
     have:=List.length_filter_le (cuB cur) l
     have hM3:=HM.out
     simp only [List.length_nil] at hm
     omega
    | ok h hm he v' hx hc=>
     subst he
     have HP:=hideS (And.intro h (And.intro hx hc))
     clear h hx hc hm
     go_wp2_with fail
     go_ret2
     have e9:E=0:=by
      have h0:=H1.out
      rw [cK h0] at h0
      cases HE.out with
      | flow E K h hE=>exact absurd (aj h h0).1 hE
      | cur _ hc=>exact absurd HK.out.1 hc
      | day _ _ hd=>exact absurd HK.out.2 hd
      | past _ _ _ hp=>obtain⟨f,hf,hp⟩:=hp;have:=HP.out.1 f hf;rw [hp] at this;cases this
      | ok=>rfl
     refine⟨Or.inr ⟨e9,_,g,v',rfl,?_⟩,HB4.out.trans (HP.out.2.2.below HB4.out.size fun k hk=>HLd.out.low hk)⟩
     have:=HP.out.2.1
     rw [List.nil_append] at this
     exact this
   ·rw [decide_eq_true hc] at HI
    rw [decide_eq_false hd] at HDy
    have HK:=hideS (And.intro hc hd)
    clear hc hd HQ HEm
    go_enter Tryz.func9,Tryz.ntmps9
    go_wp2_with fail
    refine (HC.out).mono ?_
    rintro e w2 ⟨rfl,hb2⟩
    have HB2:=hideS hb2
    clear hb2 HC
    go_wp2_with fail
    refine (turned (HI.out _)).mono ?_
    rintro e w' ⟨rfl,rfl⟩
    go_wp2_with fail
    refine (turned (HDy.out _)).mono ?_
    rintro e w' ⟨rfl,rfl⟩
    go_wp2_with fail
    go_ret2
    refine⟨Or.inl ?_,HB2.out⟩
    have e9:E=51:=by
     have h0:=H1.out
     rw [cK h0] at h0
     cases HE.out with
     | flow E K h hE=>exact absurd (aj h h0).1 hE
     | cur _ hc=>exact absurd HK.out.1 hc
     | day=>rfl
     | past _ _ hd=>exact absurd hd HK.out.2
     | ok _ _ hd=>exact absurd hd HK.out.2
    subst e9
    exact⟨by decide,rfl⟩
  ·rw [decide_eq_false hc] at HI
   have HK:=hideS hc
   clear hc HQ HEm HDy
   go_enter Tryz.func9,Tryz.ntmps9
   go_wp2_with fail
   refine (HC.out).mono ?_
   rintro e w2 ⟨rfl,hb2⟩
   have HB2:=hideS hb2
   clear hb2 HC
   go_wp2_with fail
   refine (turned (HI.out _)).mono ?_
   rintro e w' ⟨rfl,rfl⟩
   go_wp2_with fail
   go_ret2
   refine⟨Or.inl ?_,HB2.out⟩
   have e9:E=140:=by
    have h0:=H1.out
    rw [cK h0] at h0
    cases HE.out with
    | flow E K h hE=>exact absurd (aj h h0).1 hE
    | cur=>rfl
    | day _ hc _=>exact absurd hc HK.out
    | past _ hc _=>exact absurd hc HK.out
    | ok _ hc _=>exact absurd hc HK.out
   subst e9
   exact⟨by decide,rfl⟩
 ·have d1:(E1 !=0)=true:=bne_iff_ne.2 e1
  have HN:=hideS e1
  clear e1 HQ HEm HDy HI
  go_enter Tryz.func9,Tryz.ntmps9
  go_wp2_with fail
  refine (HC.out).mono ?_
  rintro e w2 ⟨rfl,hb2⟩
  have HB2:=hideS hb2
  clear hb2 HC
  go_wp2_with fail
  go_ret2
  refine⟨Or.inl ?_,HB2.out⟩
  have e9:E=E1:=by
   have h0:=H1.out
   cases HE.out with
   | flow E K h hE=>exact (aj h h0).1
   | cur h _=>exact absurd (aj h0 h).1 HN.out
   | day h _ _=>exact absurd (aj h0 h).1 HN.out
   | past h _ _=>exact absurd (aj h0 h).1 HN.out
   | ok h _ _=>exact absurd (aj h0 h).1 HN.out
  rw [e9]
  exact⟨HN.out,rfl⟩
end Go.Proofs.YtjjlnmihkadlmaaGreat
namespace Go.Proofs.YtjjlnmihkadlmaaGreat
open Go.RowKit

theorem iO (n:Int) (w:World) :
  Calls Tryz.prog 44 #[.int .i64 n] w fun e w'=>e=.returned (.bool (decide (0≤n∧n≤109572)))∧w'=w:=by
 by_cases h1:0≤n<;>by_cases h2:n≤109572
 all_goals
  first | rw [decide_eq_true (⟨h1,h2⟩:0≤n∧n≤109572)] | rw [decide_eq_false (fun h:0≤n∧n≤109572=>by omega)]
  go_enter Tryz.func44,Tryz.ntmps44
  go_wp2
  go_ret
  exact⟨rfl,rfl⟩
def im (cur day:Int) (l:List Flw):Bool:=l.any (paB cur day)
theorem zZ {l:List Flw} {k:Nat} (cur day:Int) (h:k<l.length):im cur day (l.take (k+1))=(im cur day (l.take k)||paB cur day (l.getD k ak)):=by
 unfold im
 rw [dp h,List.any_append]
 simp
set_option maxRecDepth 20000 in
set_option maxHeartbeats 3200000 in
theorem Aa (l:List Flw) (cur day:Int) (p:Option Addr) (b off c M:Nat) (w:World) (hl:JSrc aB w p b off l) (hM:l.length=M) (hM2:M≤10000) :
  Calls Tryz.prog 45 #[.slice p M c,.int .i64 cur,.int .i64 day] w fun e w'=>(∃ u,e=.returned (.tuple #[u,.bool (im cur day l)])∧w'.ownsRow w.heap.size 104 3 u (l.filter (cuB cur)).length (aw aB (l.filter (cuB cur))))∧Below w.heap.size w w':=by
 have HQ:=hideS hl
 have HM:=hideS hM
 have HP:Hid (0<M→p=some ⟨b,off,none⟩):=fun h=>hl.at_ (by omega)
 have HO0:=hideS (cL aB w w.heap.size 104)
 clear hl hM
 go_enter Tryz.func45,Tryz.ntmps45
 go_wp2_with fail
 go_loopw [8,9,10] (fun u pa i wr=>∃ (k m:Nat) (q:Option Addr) (cp:Nat) (B:Bool),k≤M∧i=.int .i64 k∧u=.slice q m cp∧pa=.bool B∧m≤k∧Hid (m=((l.take k).filter (cuB cur)).length)∧Hid (B=im cur day (l.take k))∧Hid (wr.ownsRow w.heap.size 104 3 (.slice q m cp) m (aw aB ((l.take k).filter (cuB cur))))∧Hid (Below w.heap.size w wr)) (fun _ _ i _=>M - (intOf i).toNat)
 case atStart=>exact⟨0,0,none,0,false,Nat.zero_le _,rfl,rfl,rfl,Nat.le_refl _,rfl,rfl,HO0,Below.refl _ _⟩
 case round=>
  clear HO0
  obtain⟨k,m,q0,cp,B,hk,rfl,rfl,rfl,hmk,HMl,HPa,HO,HB⟩:=hrel
  by_cases hlt:k<M
  ·obtain rfl:=HP.out (by omega)
   obtain⟨c0,c1,c2⟩:=(HQ.out.below HB.out).cell k (by rw [HM.out];exact hlt)
   have HS:=hideS (xI cur (l:=l) (k:=k) (by rw [HM.out];exact hlt))
   have HPn:=hideS (zZ cur day (l:=l) (k:=k) (by rw [HM.out];exact hlt))
   obtain⟨f,hf⟩:∃ f,l.getD k ak=f:=⟨_,rfl⟩
   rw [hf] at HS HPn c0 c1 c2
   have HDq:Hid ((l.getD k ak).day=f.day):=by show _=_;rw [hf]
   clear hf
   obtain⟨qd,qa,qc⟩:=f
   dsimp only [aB] at *
   by_cases h1:qc=cur
   ·have e1:(qc==cur)=true:=beq_iff_eq.2 h1
    rw [if_pos h1] at HS
    have HLn:Hid (((l.take (k+1)).filter (cuB cur)).length=m+1):=by show _=_;rw [HS.out,List.length_append,← HMl.out];rfl
    have HBa:Hid (Below wr.heap.size wr (wr.alloc (.cells #[.int .i64 qd,.int .u64 (qa:Int),.int .i64 qc] 104))):=(Below.refl _ _).alloc (Nat.le_refl _) _
    have HO4:=hideS (ap HO.out HBa.out)
    have HFc:=hideS (iN wr ⟨qd,qa,qc⟩)
    have HB4:=hideS (HB.out.trans (HBa.out.mono HB.out.size))
    have hm9:(m+1)*24≤140737488355328:=by omega
    have HPv:Hid ((B||decide (qd<day))=im cur day (l.take (k+1))):=by
     show _=_
     rw [HPn.out,HPa.out]
     unfold paB
     rw [decide_eq_true h1,Bool.true_and]
    obtain⟨t,ht⟩:∃ t,decide (qd<day)=t:=⟨_,rfl⟩
    rw [ht] at HPv
    clear h1
    cases B
    ·go_wp2_with (at_builtin;refine fl _ rfl (.tmp 24) (.tmp 29) rfl w.heap.size (.slice q0 m cp) m ((l.take k).filter (cuB cur)) rfl HO4.out HB4.out.size wr.heap.size ⟨qd,qa,qc⟩ rfl HFc.out hm9 ?_;intro v5 w5 ho5 hb5;rw [← HS.out] at ho5;have HB5:=hideS (HB4.out.trans hb5);obtain⟨q5,g5,k5,hv5,_,_,_,hm5⟩:=av ho5 HLn.out;subst hv5;have HO5:=hideS ho5;have c3:=((HQ.out.below HB5.out).cell k (by rw [HM.out];exact hlt)).c0;rw [HDq.out] at c3;clear ho5 hb5)
     go_roundw
     case rel=>exact⟨k+1,m+1,q5,k5,t,by omega,by go_num,rfl,rfl,by omega,HLn.out.symm,HPv,HO5,HB5⟩
     case measure=>simp [intOf];omega
    ·go_wp2_with (at_builtin;refine fl _ rfl (.tmp 24) (.tmp 29) rfl w.heap.size (.slice q0 m cp) m ((l.take k).filter (cuB cur)) rfl HO4.out HB4.out.size wr.heap.size ⟨qd,qa,qc⟩ rfl HFc.out hm9 ?_;intro v5 w5 ho5 hb5;rw [← HS.out] at ho5;have HB5:=hideS (HB4.out.trans hb5);obtain⟨q5,g5,k5,hv5,_,_,_,hm5⟩:=av ho5 HLn.out;subst hv5;have HO5:=hideS ho5;clear ho5 hb5)
     go_roundw
     case rel=>exact⟨k+1,m+1,q5,k5,true,by omega,by go_num,rfl,rfl,by omega,HLn.out.symm,HPv,HO5,HB5⟩
     case measure=>simp [intOf];omega
   ·have e1:(qc==cur)=false:=beq_eq_false_iff_ne.2 h1
    rw [if_neg h1,List.append_nil] at HS
    have HPv:Hid (B=im cur day (l.take (k+1))):=by
     show _=_
     rw [HPn.out,HPa.out]
     unfold paB
     rw [decide_eq_false h1,Bool.false_and,Bool.or_false]
    clear h1
    go_wp2_with fail
    go_roundw
    case rel=>exact⟨k+1,m,q0,cp,B,by omega,by go_num,rfl,rfl,by omega,by (show _=_;rw [HS.out];exact HMl.out),HPv,by (show World.ownsRow _ _ _ _ _ _ _;rw [HS.out];exact HO.out),HB⟩
    case measure=>simp [intOf];omega
  ·obtain rfl:k=M:=by omega
   have hall:l.take k=l:=by rw [← HM.out,List.take_length]
   rw [hall] at HMl HPa HO
   clear hall
   go_wp2_with fail
   go_ret2
   refine⟨⟨.slice q0 m cp,congrArg (fun t=>Ending.returned (.tuple #[.slice q0 m cp,.bool t])) HPa.out,?_⟩,HB.out⟩
   rw [← HMl.out]
   exact HO.out
abbrev LV (cur day:Int) (vl:Value) (s:Int) (neg:Bool) (v:Value) (e:Int):Value:=.agg #[.int .i64 cur,.int .i64 day,vl,.int .i64 s,.bool neg,v,.int .i64 e]
structure LB (w:World) (g:Nat) (cur day:Int) (vl:Value) (s:Int) (neg:Bool) (v:Value) (e:Int):Prop where
 blk:w.heap[g]? =some (.cells #[.int .i64 cur,.int .i64 day,vl,.int .i64 s,.bool neg,v,.int .i64 e] 36)
theorem ns (w:World) (cur day:Int) (vl:Value) (s:Int) (neg:Bool) (v:Value) (e:Int):LB (w.alloc (.cells #[.int .i64 cur,.int .i64 day,vl,.int .i64 s,.bool neg,v,.int .i64 e] 36)) w.heap.size cur day vl s neg v e:=⟨heap_alloc_new _ _⟩
section
variable {w w':World} {g:Nat} {cur day:Int} {vl:Value} {s:Int} {neg:Bool} {v:Value} {e:Int}
theorem LB.lt (h:LB w g cur day vl s neg v e):g<w.heap.size:=(Array.getElem?_eq_some_iff.1 h.blk).1
theorem LB.step (h:LB w g cur day vl s neg v e) (hb:Below w.heap.size w w'):LB w' g cur day vl s neg v e:=⟨(hb.block g h.lt).trans h.blk⟩
theorem LB.far (h:LB w g cur day vl s neg v e) (hb:w'.heap[g]? =w.heap[g]?):LB w' g cur day vl s neg v e:=⟨hb.trans h.blk⟩
theorem LB.c (h:LB w g cur day vl s neg v e):(w.cell? ⟨g,0,none⟩=some (.int .i64 cur)∧w.cell? ⟨g,1,none⟩=some (.int .i64 day)∧w.cell? ⟨g,2,none⟩=some vl∧w.cell? ⟨g,3,none⟩=some (.int .i64 s)∧w.cell? ⟨g,4,none⟩=some (.bool neg)∧w.cell? ⟨g,5,none⟩=some v∧w.cell? ⟨g,6,none⟩=some (.int .i64 e))∧∀ i,w.frozen? ⟨g,i,none⟩=false:=by
 have hb:=h.blk
 exact⟨⟨by simp [World.cell?,hb],by simp [World.cell?,hb],by simp [World.cell?,hb],by simp [World.cell?,hb],by simp [World.cell?,hb],by simp [World.cell?,hb],by simp [World.cell?,hb]⟩,fun i=>frozen_of_row _ _ i _ _ hb⟩
end
def GS (w:World) (g:Nat) (x0 x1 x2 x3 x4 x5 x6:Value):World:=((((((w.setCell ⟨g,0,none⟩ x0).setCell ⟨g,1,none⟩ x1).setCell ⟨g,2,none⟩ x2).setCell ⟨g,3,none⟩ x3).setCell ⟨g,4,none⟩ x4).setCell ⟨g,5,none⟩ x5).setCell ⟨g,6,none⟩ x6
theorem cC {B:Nat} {w w1:World} {g:Nat} (h:Below B w w1) (hg:B≤g) (x0 x1 x2 x3 x4 x5 x6:Value):Below B w (GS w1 g x0 x1 x2 x3 x4 x5 x6):=
 ((((((h.setCell (p:=⟨g,0,none⟩) hg x0).setCell (p:=⟨g,1,none⟩) hg x1).setCell (p:=⟨g,2,none⟩) hg x2).setCell (p:=⟨g,3,none⟩) hg x3).setCell (p:=⟨g,4,none⟩) hg x4).setCell (p:=⟨g,5,none⟩) hg x5).setCell (p:=⟨g,6,none⟩) hg x6
theorem xJ (w:World) (g:Nat) (x0 x1 x2 x3 x4 x5 x6:Value):Ch (fun k=>k=g) w (GS w g x0 x1 x2 x3 x4 x5 x6):=
 (((((((Ch.refl (fun k=>k=g) w).set (S:=fun k=>k=g) rfl x0).set (S:=fun k=>k=g) rfl x1).set (S:=fun k=>k=g) rfl x2).set (S:=fun k=>k=g) rfl x3).set (S:=fun k=>k=g) rfl x4).set (S:=fun k=>k=g) rfl x5).set (S:=fun k=>k=g) rfl x6
def DnO (w:World) (cur day:Int) (l:List Flw) (E:Int) (e:Ending) (w':World):Prop:=
 (E≠0∧e=.returned (.tuple #[LV 0 0 (.slice none 0 0) 0 false (.slice none 0 0) 0,.int .i64 E]))∨(E=0∧∃ q m c,m=(l.filter (cuB cur)).length∧e=.returned (.tuple #[LV cur day (.slice q m c) 0 false (.slice none 0 0) 0,.int .i64 0])∧w'.ownsRow w.heap.size 104 3 (.slice q m c) m (aw aB (l.filter (cuB cur))))
set_option maxRecDepth 20000 in
set_option maxHeartbeats 3200000 in
theorem uc (l:List Flw) (cur day E:Int) (p:Option Addr) (bx off c M:Nat) (w:World) (hE:NwR l cur day E) (hl:JSrc aB w p bx off l) (hM:l.length=M) (hM2:M≤10000) (hf:dm l) :
  Calls Tryz.prog 10 #[.slice p M c,.int .i64 cur,.int .i64 day] w fun e w'=>DnO w cur day l E e w'∧Below w.heap.size w w':=by
 obtain⟨E1,K1,h1⟩:=kR l
 have hb1:Below w.heap.size w (w.alloc (.cells #[.int .i64 0,.int .i64 0,.slice none 0 0,.int .i64 0,.bool false,.slice none 0 0,.int .i64 0] 36)):=(Below.refl _ _).alloc (Nat.le_refl _) _
 have HL1:=hideS (ns w 0 0 (.slice none 0 0) 0 false (.slice none 0 0) 0)
 obtain⟨w1,hw1⟩:∃ w1,w.alloc (.cells #[.int .i64 0,.int .i64 0,.slice none 0 0,.int .i64 0,.bool false,.slice none 0 0,.int .i64 0] 36)=w1:=⟨_,rfl⟩
 rw [hw1] at hb1 HL1
 have HB1:=hideS hb1
 have HC:=hideS (nr l p bx off c M E1 K1 w1 (hl.below hb1) hM (by omega) hf h1)
 have HI:=hideS fun wx=>jG cur wx
 have HDy:=hideS fun wx=>iO day wx
 have HMn:=hideS fun wx (hb:Below w.heap.size w wx)=>Aa l cur day p bx off c M wx (hl.below hb) hM hM2
 have HE:=hideS hE
 have H1:=hideS h1
 have HM:=hideS hM
 clear hl hM hf hE h1 hb1
 have err:∀ (E':Int) (w2:World),LB w2 w.heap.size 0 0 (.slice none 0 0) 0 false (.slice none 0 0) 0→Below w.heap.size w w2→True:=fun _ _ _ _=>trivial
 clear err
 by_cases e1:E1=0
 ·subst e1
  have h0:=H1.out
  rw [cK h0] at h0
  have H0:=hideS h0
  clear h0
  by_cases hc:1≤cur∧cur≤8
  ·by_cases hd:0≤day∧day≤109572
   ·rw [decide_eq_true hc] at HI
    rw [decide_eq_true hd] at HDy
    have HK:=hideS (And.intro hc hd)
    clear hc hd
    go_enter Tryz.func10,Tryz.ntmps10
    go_wp2_with fail
    refine (HC.out).mono ?_
    rintro e w2 ⟨rfl,hb2⟩
    have HL2:=hideS (HL1.out.step hb2)
    have HB2:Hid (Below w.heap.size w w2):=HB1.out.trans (hb2.mono HB1.out.size)
    clear hb2 HC HL1 HB1 hw1
    go_wp2_with fail
    refine (turned (HI.out _)).mono ?_
    rintro e w' ⟨rfl,rfl⟩
    go_wp2_with fail
    refine (turned (HDy.out _)).mono ?_
    rintro e w' ⟨rfl,rfl⟩
    go_wp2_with fail
    refine (HMn.out _ HB2.out).mono ?_
    rintro e w3 ⟨⟨u,rfl,ho3⟩,hb3⟩
    obtain⟨q3,_,c3,hv3,_,_,_,_⟩:=av ho3 rfl
    obtain⟨m3,hm3⟩:∃ m,(l.filter (cuB cur)).length=m:=⟨_,rfl⟩
    rw [hm3] at hv3 ho3
    subst hv3
    have HO3:=hideS ho3
    have HM3:=hideS hm3
    have HL3:=hideS (HL2.out.step hb3)
    have HB3:Hid (Below w.heap.size w w3):=HB2.out.trans (hb3.mono HB2.out.size)
    have HlT:Hid (w.heap.size<w2.heap.size):=HL2.out.lt
    clear ho3 hb3 hm3 HL2 HI HDy HMn
    obtain⟨⟨k0,k1,k2,k3,k4,k5,k6⟩,fz⟩:=HL3.out.c
    have z0:=fz 0
    have z1:=fz 1
    have z2:=fz 2
    have z3:=fz 3
    have z4:=fz 4
    have z5:=fz 5
    have z6:=fz 6
    clear fz
    obtain⟨B,hB⟩:∃ B,im cur day l=B:=⟨_,rfl⟩
    have HP:=hideS hB
    rw [hB]
    clear hB
    cases B
    ·go_wp2_with fail
     refine bodyPost_ret (v:=.tuple #[LV cur day (.slice q3 m3 c3) 0 false (.slice none 0 0) 0,.int .i64 0]) (by simp [results,Tryz.results10,go_sem,k0,k1,k2,k3,k4,k5,k6]) rfl ?_
     have e9:E=0:=by
      cases HE.out with
      | flow E K h hE=>exact absurd (aj h H0.out).1 hE
      | cur _ hc=>exact absurd HK.out.1 hc
      | day _ _ hd=>exact absurd HK.out.2 hd
      | past _ _ _ hp=>
       obtain⟨f,hf,hp⟩:=hp
       have:=HP.out
       unfold im at this
       rw [List.any_eq_false] at this
       exact absurd hp (this f hf)
      | ok=>rfl
     have hch:=xJ w3 w.heap.size (.int .i64 cur) (.int .i64 day) (.slice q3 m3 c3) (.int .i64 0) (.bool false) (.slice none 0 0) (.int .i64 0)
     refine⟨Or.inr ⟨e9,q3,m3,c3,HM3.out.symm,rfl,?_⟩,cC HB3.out (Nat.le_refl _) _ _ _ _ _ _ _⟩
     exact cT (bq HO3.out hch (fun k hk c=>by have:=(aM HO3.out hk).1;have:=HlT.out;omega)) HB2.out.size
    ·go_wp2_with fail
     refine bodyPost_ret (v:=.tuple #[LV 0 0 (.slice none 0 0) 0 false (.slice none 0 0) 0,.int .i64 240]) (by simp [results,Tryz.results10,go_sem,k0,k1,k2,k3,k4,k5,k6]) rfl ?_
     have e9:E=240:=by
      have hp:∃ f ∈ l,paB cur day f=true:=by
       have:=HP.out
       unfold im at this
       rw [List.any_eq_true] at this
       exact this
      obtain⟨f,hf,hp⟩:=hp
      cases HE.out with
      | flow E K h hE=>exact absurd (aj h H0.out).1 hE
      | cur _ hc=>exact absurd HK.out.1 hc
      | day _ _ hd=>exact absurd HK.out.2 hd
      | past=>rfl
      | ok _ _ _ hn=>have:=hn f hf;rw [hp] at this;cases this
     subst e9
     exact⟨Or.inl ⟨by decide,rfl⟩,cC HB3.out (Nat.le_refl _) _ _ _ _ _ _ _⟩
   ·rw [decide_eq_true hc] at HI
    rw [decide_eq_false hd] at HDy
    have HK:=hideS (And.intro hc hd)
    have e9:E=51:=by
     cases HE.out with
     | flow E K h hE=>exact absurd (aj h H0.out).1 hE
     | cur _ hc=>exact absurd HK.out.1 hc
     | day=>rfl
     | past _ _ hd=>exact absurd hd HK.out.2
     | ok _ _ hd=>exact absurd hd HK.out.2
    clear hc hd HMn HE
    subst e9
    go_enter Tryz.func10,Tryz.ntmps10
    go_wp2_with fail
    refine (HC.out).mono ?_
    rintro e w2 ⟨rfl,hb2⟩
    have HL2:=hideS (HL1.out.step hb2)
    have HB2:Hid (Below w.heap.size w w2):=HB1.out.trans (hb2.mono HB1.out.size)
    clear hb2 HC HL1 HB1 hw1
    obtain⟨⟨k0,k1,k2,k3,k4,k5,k6⟩,fz⟩:=HL2.out.c
    have z0:=fz 0
    have z1:=fz 1
    have z2:=fz 2
    have z3:=fz 3
    have z4:=fz 4
    have z5:=fz 5
    have z6:=fz 6
    clear fz
    go_wp2_with fail
    refine (turned (HI.out _)).mono ?_
    rintro e w' ⟨rfl,rfl⟩
    go_wp2_with fail
    refine (turned (HDy.out _)).mono ?_
    rintro e w' ⟨rfl,rfl⟩
    go_wp2_with fail
    refine bodyPost_ret (v:=.tuple #[LV 0 0 (.slice none 0 0) 0 false (.slice none 0 0) 0,.int .i64 51]) (by simp [results,Tryz.results10,go_sem,k0,k1,k2,k3,k4,k5,k6]) rfl ?_
    exact⟨Or.inl ⟨by decide,rfl⟩,cC HB2.out (Nat.le_refl _) _ _ _ _ _ _ _⟩
  ·rw [decide_eq_false hc] at HI
   have HK:=hideS hc
   have e9:E=140:=by
    cases HE.out with
    | flow E K h hE=>exact absurd (aj h H0.out).1 hE
    | cur=>rfl
    | day _ hc _=>exact absurd hc HK.out
    | past _ hc _=>exact absurd hc HK.out
    | ok _ hc _=>exact absurd hc HK.out
   clear hc HMn HE HDy
   subst e9
   go_enter Tryz.func10,Tryz.ntmps10
   go_wp2_with fail
   refine (HC.out).mono ?_
   rintro e w2 ⟨rfl,hb2⟩
   have HL2:=hideS (HL1.out.step hb2)
   have HB2:Hid (Below w.heap.size w w2):=HB1.out.trans (hb2.mono HB1.out.size)
   clear hb2 HC HL1 HB1 hw1
   obtain⟨⟨k0,k1,k2,k3,k4,k5,k6⟩,fz⟩:=HL2.out.c
   have z0:=fz 0
   have z1:=fz 1
   have z2:=fz 2
   have z3:=fz 3
   have z4:=fz 4
   have z5:=fz 5
   have z6:=fz 6
   clear fz
   go_wp2_with fail
   refine (turned (HI.out _)).mono ?_
   rintro e w' ⟨rfl,rfl⟩
   go_wp2_with fail
   refine bodyPost_ret (v:=.tuple #[LV 0 0 (.slice none 0 0) 0 false (.slice none 0 0) 0,.int .i64 140]) (by simp [results,Tryz.results10,go_sem,k0,k1,k2,k3,k4,k5,k6]) rfl ?_
   exact⟨Or.inl ⟨by decide,rfl⟩,cC HB2.out (Nat.le_refl _) _ _ _ _ _ _ _⟩
 ·have d1:(E1 !=0)=true:=bne_iff_ne.2 e1
  have HN:=hideS e1
  have e9:E=E1:=by
   have h0:=H1.out
   cases HE.out with
   | flow E K h hE=>exact (aj h h0).1
   | cur h _=>exact absurd (aj h0 h).1 HN.out
   | day h _ _=>exact absurd (aj h0 h).1 HN.out
   | past h _ _=>exact absurd (aj h0 h).1 HN.out
   | ok h _ _=>exact absurd (aj h0 h).1 HN.out
  clear e1 HMn HE HDy HI
  subst e9
  go_enter Tryz.func10,Tryz.ntmps10
  go_wp2_with fail
  refine (HC.out).mono ?_
  rintro e w2 ⟨rfl,hb2⟩
  have HL2:=hideS (HL1.out.step hb2)
  have HB2:Hid (Below w.heap.size w w2):=HB1.out.trans (hb2.mono HB1.out.size)
  clear hb2 HC HL1 HB1 hw1
  obtain⟨⟨k0,k1,k2,k3,k4,k5,k6⟩,fz⟩:=HL2.out.c
  have z0:=fz 0
  have z1:=fz 1
  have z2:=fz 2
  have z3:=fz 3
  have z4:=fz 4
  have z5:=fz 5
  have z6:=fz 6
  clear fz
  go_wp2_with fail
  refine bodyPost_ret (v:=.tuple #[LV 0 0 (.slice none 0 0) 0 false (.slice none 0 0) 0,.int .i64 E]) (by simp [results,Tryz.results10,go_sem,k0,k1,k2,k3,k4,k5,k6]) rfl ?_
  exact⟨Or.inl ⟨HN.out,rfl⟩,cC HB2.out (Nat.le_refl _) _ _ _ _ _ _ _⟩
end Go.Proofs.YtjjlnmihkadlmaaGreat
namespace Go.Proofs.YtjjlnmihkadlmaaGreat
open Go.RowKit

theorem qZ {w w':World} {v:Value} {M:Nat} (h:DN w v M) (hs:w.heap.size≤w'.heap.size) (hk:M≠0→∀ g,v.ownBlock=some g→w'.heap[g]? =w.heap[g]?):DN w' v M:=by
 rcases h with h | ⟨h0,g,c,rfl,hc,hg,hr⟩
 ·exact Or.inl h
 ·exact Or.inr ⟨h0,g,c,rfl,hc,Nat.lt_of_lt_of_le hg hs,fun i hi=>(World.cell?_of_block (hk h0 g rfl)).trans (hr i hi)⟩
theorem ue {w:World} {v:Value} {M:Nat} (h:DN w v M) (h0:M≠0) {g:Nat} (hg:v.ownBlock=some g):g<w.heap.size:=by
 rcases h with⟨h,_⟩| ⟨_,g',c,rfl,hc,hg',hr⟩
 ·exact absurd h h0
 ·have e:g'=g:=by injection hg
  rw [← e];exact hg'
structure DpI (w:World) (cur day:Int) (n:Int) (vL:Value) (l:List Flw) (k:Nat) (vp vl:Value) (m1 m2:Nat) (s:Nat) (neg:Bool) (vd:Value) (e:Int) (M:Nat) (N:Int) (kd:Nat) (wr:World):Prop where
 bl:Below w.heap.size w wr
 box:LB wr w.heap.size cur day vL (s:Int) neg vd e
 res:LB wr (w.heap.size+1) 0 0 (.slice none 0 0) 0 false (.slice none 0 0) 0
 p:wr.ownsRow (w.heap.size+2) 104 3 vp m1 (aw aB ((l.take k).filter (fun f=>decide (f.day<n))))
 q:wr.ownsRow (w.heap.size+2) 104 3 vl m2 (aw aB ((l.take k).filter (aQ n)))
 pq:∀ g,vp.ownBlock=some g→vl.ownBlock≠some g
 dn:DN wr vd M
 dv:DV s neg M e N kd
 da:M≠0→∀ g,vd.ownBlock=some g→w.heap.size+1<g∧vp.ownBlock≠some g∧vl.ownBlock≠some g
 sz:w.heap.size+2≤wr.heap.size
section
variable {w wr w':World} {cur day n:Int} {vL:Value} {l:List Flw} {k m1 m2 s M kd:Nat} {vp vl vd:Value} {neg:Bool} {e N:Int}
theorem DpI.below (h:DpI w cur day n vL l k vp vl m1 m2 s neg vd e M N kd wr) (hb:Below wr.heap.size wr w'):DpI w cur day n vL l k vp vl m1 m2 s neg vd e M N kd w':=
 ⟨h.bl.trans (hb.mono h.bl.size),h.box.step hb,h.res.step hb,ap h.p hb,ap h.q hb,h.pq,h.dn.below hb,h.dv,h.da,Nat.le_trans h.sz hb.size⟩
theorem DpI.paid (h:DpI w cur day n vL l k vp vl m1 m2 s neg vd e M N kd wr) (hk:k<l.length) (hd:(l.getD k ak).day<n) {vp':Value} (ho:w'.ownsRow (w.heap.size+2) 104 3 vp' (m1+1) (aw aB ((l.take k).filter (fun f=>decide (f.day<n))++[l.getD k ak]))) (hg:wr.grownBy w' vp.ownBlock) (hn:vp'.ownBlock=vp.ownBlock∨vp'.ownBlock=some wr.heap.size) :
  DpI w cur day n vL l (k+1) vp' vl (m1+1) m2 s neg vd e M N kd w':=by
 have hc:Ch (fun g=>vp.ownBlock=some g) wr w':=⟨hg.os,hg.tape,hg.output,hg.size,fun k hk hn=>hg.block k hk (fun e=>hn e.symm)⟩
 have hlo:∀ g,vp.ownBlock=some g→w.heap.size+2≤g:=fun g hk=>(aM h.p hk).1
 have hql:∀ g,vl.ownBlock=some g→g<wr.heap.size:=fun g hk=>(aM h.q hk).2.1
 have hsz:=h.sz
 have e1:(l.take (k+1)).filter (fun f=>decide (f.day<n))=(l.take k).filter (fun f=>decide (f.day<n))++[l.getD k ak]:=by
  rw [dp hk,List.filter_append,List.filter_cons_of_pos (by simpa using hd)];rfl
 have e2:(l.take (k+1)).filter (aQ n)=(l.take k).filter (aQ n):=by
  rw [bP n hk,if_neg (by unfold aQ;rw [decide_eq_true_eq];omega),List.append_nil]
 refine⟨h.bl.trans (hc.below h.bl.size (fun k hk=>by have:=hlo k hk;omega)),h.box.far (hc.block _ h.box.lt (fun c=>by have:=hlo _ c;omega)),h.res.far (hc.block _ h.res.lt (fun c=>by have:=hlo _ c;omega)),by rw [e1];exact ho,by rw [e2];exact bq h.q hc (fun g hk c=>h.pq g c hk),fun g hk hl=>?_,qZ h.dn hc.size (fun h0 g hk=>hc.block g (ue h.dn h0 hk) (fun c=>(h.da h0 g hk).2.1 c)),h.dv,fun h0 g hk=>?_,Nat.le_trans h.sz hc.size⟩
 ·rcases hn with e | e
  ·rw [e] at hk;exact h.pq g hk hl
  ·rw [e] at hk
   have e2:wr.heap.size=g:=by injection hk
   have:=hql g hl;omega
 ·obtain⟨a1,a2,a3⟩:=h.da h0 g hk
  refine⟨a1,fun c=>?_,a3⟩
  rcases hn with e | e
  ·rw [e] at c;exact a2 c
  ·rw [e] at c
   have e2:wr.heap.size=g:=by injection c
   have:=ue h.dn h0 hk;omega
theorem DpI.added (h:DpI w cur day n vL l k vp vl m1 m2 s neg vd e M N kd wr) {w6:World} {s':Nat} {neg':Bool} {v':Value} {M':Nat} {e' N':Int} (hb:Below wr.heap.size wr w6) (hd:DN w6 v' M') (hv:DV s' neg' M' e' N' (kd+1)) (hf:v'=vd∧M'=M∨From wr.heap.size v') :
  DpI w cur day n vL l k vp vl m1 m2 s' neg' v' e' M' N' (kd+1) ((((w6.setCell ⟨w.heap.size,3,none⟩ (.int .i64 s')).setCell ⟨w.heap.size,4,none⟩ (.bool neg')).setCell ⟨w.heap.size,5,none⟩ v').setCell ⟨w.heap.size,6,none⟩ (.int .i64 e')):=by
 have h6:=h.below hb
 have hc:Ch (fun g=>g=w.heap.size) w6 ((((w6.setCell ⟨w.heap.size,3,none⟩ (.int .i64 s')).setCell ⟨w.heap.size,4,none⟩ (.bool neg')).setCell ⟨w.heap.size,5,none⟩ v').setCell ⟨w.heap.size,6,none⟩ (.int .i64 e')):=
  ((((Ch.refl (fun g=>g=w.heap.size) w6).set (S:=fun g=>g=w.heap.size) rfl _).set (S:=fun g=>g=w.heap.size) rfl _).set (S:=fun g=>g=w.heap.size) rfl _).set (S:=fun g=>g=w.heap.size) rfl _
 have hsz:=h6.sz
 have hda:M'≠0→∀ g,v'.ownBlock=some g→w.heap.size+1<g∧vp.ownBlock≠some g∧vl.ownBlock≠some g:=fun h0 g hg=>by
  rcases hf with⟨rfl,rfl⟩| hf
  ·exact h.da h0 g hg
  ·have hgl:wr.heap.size≤g:=by
    rcases hd with⟨h1,_⟩| ⟨_,g',c,rfl,_⟩
    ·exact absurd h1 h0
    ·have e2:g'=g:=by injection hg
     have:=hf _ _ _ rfl
     rw [← e2];exact this
   have hs:=h.sz
   exact⟨by omega,fun c=>by have:=(aM h.p c).2.1;omega,fun c=>by have:=(aM h.q c).2.1;omega⟩
 refine⟨hc.below h6.bl.size (fun k hk=>by omega) |> fun hb=>h6.bl.trans hb,⟨aW _ (aW _ (aW _ (aW _ h6.box.blk)))⟩,h6.res.far (hc.block _ h6.res.lt (by omega)),bq h6.p hc (fun g hk c=>by have:=(aM h6.p hk).1;omega),bq h6.q hc (fun g hk c=>by have:=(aM h6.q hk).1;omega),h6.pq,qZ hd hc.size (fun h0 g hk=>hc.block g (ue hd h0 hk) (fun c=>by have:=(hda h0 g hk).1;omega)),hv,hda,Nat.le_trans h6.sz hc.size⟩
theorem DpI.left (h:DpI w cur day n vL l k vp vl m1 m2 s neg vd e M N kd wr) (hk:k<l.length) (hd:¬ (l.getD k ak).day<n) {vl':Value} (ho:w'.ownsRow (w.heap.size+2) 104 3 vl' (m2+1) (aw aB ((l.take k).filter (aQ n)++[l.getD k ak]))) (hg:wr.grownBy w' vl.ownBlock) (hn:vl'.ownBlock=vl.ownBlock∨vl'.ownBlock=some wr.heap.size) :
  DpI w cur day n vL l (k+1) vp vl' m1 (m2+1) s neg vd e M N kd w':=by
 have hc:Ch (fun g=>vl.ownBlock=some g) wr w':=⟨hg.os,hg.tape,hg.output,hg.size,fun k hk hn=>hg.block k hk (fun e=>hn e.symm)⟩
 have hlo:∀ g,vl.ownBlock=some g→w.heap.size+2≤g:=fun g hk=>(aM h.q hk).1
 have hpl:∀ g,vp.ownBlock=some g→g<wr.heap.size:=fun g hk=>(aM h.p hk).2.1
 have hsz:=h.sz
 have e1:(l.take (k+1)).filter (fun f=>decide (f.day<n))=(l.take k).filter (fun f=>decide (f.day<n)):=by
  rw [dp hk,List.filter_append,List.filter_cons_of_neg (by simpa using hd)];simp
 have e2:(l.take (k+1)).filter (aQ n)=(l.take k).filter (aQ n)++[l.getD k ak]:=by
  rw [bP n hk,if_pos (show aQ n (l.getD k ak)=true from decide_eq_true (by omega))]
 refine⟨h.bl.trans (hc.below h.bl.size (fun k hk=>by have:=hlo k hk;omega)),h.box.far (hc.block _ h.box.lt (fun c=>by have:=hlo _ c;omega)),h.res.far (hc.block _ h.res.lt (fun c=>by have:=hlo _ c;omega)),?_,by rw [e2];exact ho,fun g hk hl=>?_,qZ h.dn hc.size (fun h0 g hk=>hc.block g (ue h.dn h0 hk) (fun c=>(h.da h0 g hk).2.2 c)),h.dv,fun h0 g hk=>?_,Nat.le_trans h.sz hc.size⟩
 ·rw [e1];exact bq h.p hc (fun g hk c=>h.pq g hk c)
 ·rcases hn with e | e
  ·rw [e] at hl;exact h.pq g hk hl
  ·rw [e] at hl
   have e2:wr.heap.size=g:=by injection hl
   have:=hpl g hk;omega
 ·obtain⟨a1,a2,a3⟩:=h.da h0 g hk
  refine⟨a1,a2,fun c=>?_⟩
  rcases hn with e | e
  ·rw [e] at c;exact a3 c
  ·rw [e] at c
   have e2:wr.heap.size=g:=by injection c
   have:=ue h.dn h0 hk;omega
end
theorem Ii {k:Nat} (h:k≤100):EC k:=⟨150,rfl,by have:2^7≤2^150:=Nat.pow_le_pow_right (by decide) (by decide);omega⟩
set_option maxRecDepth 20000 in
set_option maxHeartbeats 3200000 in
theorem Ac (cur day n E:Int) (q:Option Addr) (m c:Nat) (s:Int) (neg:Bool) (qv:Option Addr) (mv cv:Nat) (ee:Int) (w:World) (hE:(¬ (0≤n∧n≤109572)∧E=51)∨((0≤n∧n≤109572)∧n<day∧E=240)) :
  Calls Tryz.prog 14 #[LV cur day (.slice q m c) s neg (.slice qv mv cv) ee,.int .i64 n] w fun e w'=>e=.returned (.tuple #[LV cur day (.slice q m c) s neg (.slice qv mv cv) ee,.slice none 0 0,.int .i64 E])∧Below w.heap.size w w':=by
 have HDy:=hideS fun wx=>iO n wx
 have HL1:=hideS (ns w cur day (.slice q m c) s neg (.slice qv mv cv) ee)
 obtain⟨w1,hw1⟩:∃ w1,w.alloc (.cells #[.int .i64 cur,.int .i64 day,.slice q m c,.int .i64 s,.bool neg,.slice qv mv cv,.int .i64 ee] 36)=w1:=⟨_,rfl⟩
 have hb1:Below w.heap.size w w1:=by rw [← hw1];exact (Below.refl _ _).alloc (Nat.le_refl _) _
 have hz1:w1.heap.size=w.heap.size+1:=by rw [← hw1];simp
 rw [hw1] at HL1
 have HR2:=hideS (ns w1 0 0 (.slice none 0 0) 0 false (.slice none 0 0) 0)
 obtain⟨w2,hw2⟩:∃ w2,w1.alloc (.cells #[.int .i64 0,.int .i64 0,.slice none 0 0,.int .i64 0,.bool false,.slice none 0 0,.int .i64 0] 36)=w2:=⟨_,rfl⟩
 have hb2:Below w1.heap.size w1 w2:=by rw [← hw2];exact (Below.refl _ _).alloc (Nat.le_refl _) _
 rw [hw2,hz1] at HR2
 have HL2:=hideS (HL1.out.step hb2)
 have HB2:Hid (Below w.heap.size w w2):=hb1.trans (hb2.mono hb1.size)
 have hw1z:w1.heap.size=w.heap.size+1:=hz1
 clear hb1 hb2 HL1
 obtain⟨⟨k0,k1,k2,k3,k4,k5,k6⟩,_⟩:=HL2.out.c
 obtain⟨⟨r0,r1,r2,r3,r4,r5,r6⟩,fz⟩:=HR2.out.c
 have z0:=fz 0
 have z1:=fz 1
 have z2:=fz 2
 have z3:=fz 3
 have z4:=fz 4
 have z5:=fz 5
 have z6:=fz 6
 clear fz
 rcases hE with⟨h,rfl⟩| ⟨h,h2,rfl⟩
 ·rw [decide_eq_false h] at HDy
  clear h
  go_enter Tryz.func14,Tryz.ntmps14
  go_wp2_with fail
  refine (turned (HDy.out _)).mono ?_
  rintro e w' ⟨rfl,rfl⟩
  go_wp2_with fail
  refine bodyPost_ret (v:=.tuple #[LV cur day (.slice q m c) s neg (.slice qv mv cv) ee,.slice none 0 0,.int .i64 51]) (by simp [results,Tryz.results14,go_sem,r0,r1,r2,r3,r4,r5,r6]) rfl ?_
  exact⟨rfl,cC HB2.out (by omega) _ _ _ _ _ _ _⟩
 ·rw [decide_eq_true h] at HDy
  have q1:decide (n<day)=true:=decide_eq_true h2
  clear h h2
  go_enter Tryz.func14,Tryz.ntmps14
  go_wp2_with fail
  refine (turned (HDy.out _)).mono ?_
  rintro e w' ⟨rfl,rfl⟩
  go_wp2_with fail
  refine bodyPost_ret (v:=.tuple #[LV cur day (.slice q m c) s neg (.slice qv mv cv) ee,.slice none 0 0,.int .i64 240]) (by simp [results,Tryz.results14,go_sem,r0,r1,r2,r3,r4,r5,r6]) rfl ?_
  exact⟨rfl,cC HB2.out (by omega) _ _ _ _ _ _ _⟩
end Go.Proofs.YtjjlnmihkadlmaaGreat
