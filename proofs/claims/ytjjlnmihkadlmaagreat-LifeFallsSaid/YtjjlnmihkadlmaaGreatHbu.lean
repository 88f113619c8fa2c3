/-  -/
import Derived.Test.YtjjlnmihkadlmaaGreatHbt
import Derived.Test.YtjjlnmihkadlmaaGreatXmA
import Derived.Lib.SliceRun
import Derived.Test.YtjjlnmihkadlmaaGreatHbs
import Derived.Test.YtjjlnmihkadlmaaGreatHbf
import Derived.Test.YtjjlnmihkadlmaaGreatHbc
import Derived.Test.YtjjlnmihkadlmaaGreatFCal
import Derived.Test.YtjjlnmihkadlmaaGreatHas
import Derived.Test.YtjjlnmihkadlmaaGreatHbo
import Derived.Test.YtjjlnmihkadlmaaGreatRkN
import Derived.Test.YtjjlnmihkadlmaaGreatHau
namespace Go.Proofs.YtjjlnmihkadlmaaGreat
open Go.RowKit

theorem Im (w:World) (a:Option Addr) (n c:Nat):(binOp .eql 22 (.slice a n c) (.slice none 0 0)).run Tryz.prog w=.ok (.bool a.isNone) w:=Go.Lib.run_eql_slice_nil w _ _ a n c 0 0 Tryz.underlying22
set_option maxRecDepth 20000 in
set_option maxHeartbeats 1600000 in
theorem wE (l:List Flw) (B N:Nat) (v:Value) (w:World) (ho:w.ownsRow B 77 3 v N (aE aF l)) (hl:l.length=N) (hN:N≤100000) :
  Calls Tryz.prog 59 #[v] w fun e w'=>(∃ u,e=.returned u∧w'.ownsRow w.heap.size 77 3 u N (aE aF l))∧Below w.heap.size w w':=by
 obtain⟨p,b,c,hv,hs,_,hNc,hcm⟩:=bC ho hl
 subst hv
 cases p with
 | none=>
  have h0:N=0:=by
   rcases ho.2 with⟨_,h⟩| ⟨g,cap,cs,e,_⟩
   ·exact h
   ·cases e
  subst h0
  obtain rfl:=List.length_eq_zero_iff.1 hl
  have h1:c=0:=by
   rcases ho.2 with⟨h,_⟩| ⟨g,cap,cs,e,_⟩
   ·injection h
   ·cases e
  subst h1
  clear ho hs
  have hq:=fun w=>Im w none 0 0
  go_enter Tryz.func59,Tryz.ntmps59
  go_wp2_with fail
  go_ret
  exact⟨⟨_,rfl,iG _ _ _ _⟩,Below.refl _ _⟩
 | some ad=>
  have HQ:=hideS hs
  have HN:=hideS hl
  have HE:=hideS (wD w)
  have HB0:=hideS ((Below.refl _ w).alloc (Nat.le_refl _) (.cells #[] 77))
  clear ho hs hl hNc hcm
  have hq:=fun w=>Im w (some ad) N c
  go_enter Tryz.func59,Tryz.ntmps59
  go_wp2_with (at_builtin;refine ef _ rfl _ _ rfl w.heap.size (.slice (some ⟨w.heap.size,0,none⟩) 0 0) 0 [] rfl HE.out (some ad) b 0 c N l rfl HN.out (HQ.out.below HB0.out) (fun h=>by cases h) (by omega) HB0.out.size ?_)
  intro v1 w1 ho hg
  have hb1:Below w.heap.size w w1:=HB0.out.trans (iH HE.out hg HB0.out.size)
  have HO:=hideS (And.intro ho hb1)
  clear ho hb1 hg HE HB0
  go_wp2_with fail
  go_ret
  exact⟨⟨_,rfl,HO.out.1⟩,HO.out.2⟩
theorem Ai (B b g L:Nat) (cur day N:Int) (v:Value) (l:List Flw) (w:World) (hx:LdA w B b g cur day N L v l) (hl:l.length≤100000) :
  Calls Tryz.prog 26 #[.pointer (some ⟨b,0,none⟩)] w fun e w'=>(∃ u,e=.returned u∧w'.ownsRow w.heap.size 77 3 u l.length (aE aF l))∧Below w.heap.size w w':=by
 obtain⟨⟨_,_,_,c3⟩,_⟩:=hx.cells
 have HC:=hideS (wE l B l.length v w hx.own rfl hl)
 clear hx
 go_enter Tryz.func26,Tryz.ntmps26
 go_wp2_with fail
 refine (HC.out).mono ?_
 rintro e w2 ⟨⟨u,rfl,ho⟩,hb⟩
 have HO:=hideS (And.intro ho hb)
 clear ho hb
 go_wp2_with fail
 go_ret
 exact⟨⟨_,rfl,HO.out.1⟩,HO.out.2⟩
set_option maxRecDepth 20000 in
set_option maxHeartbeats 1600000 in
theorem Aj (B b g L:Nat) (cur day n N E:Int) (v:Value) (l:List Flw) (w:World) (hx:LdA w B b g cur day N L v l) (hE:(¬ (0≤n∧n≤109572)∧E=51)∨((0≤n∧n≤109572)∧n<day∧E=240)) :
  Calls Tryz.prog 13 #[.pointer (some ⟨b,0,none⟩),.int .i64 n] w fun e w'=>e=.returned (.tuple #[.slice none 0 0,.int .i64 E])∧Below w.heap.size w w':=by
 have HDy:=hideS fun wx=>mT n wx
 have hb1:Below w.heap.size w (w.alloc (.cells #[.int .i64 n] 3)):=(Below.refl _ _).alloc (Nat.le_refl _) _
 have HB:=hideS hb1
 have HX1:=hideS (hx.below hb1)
 obtain⟨⟨_,_,c2,_⟩,_⟩:=HX1.out.cells
 clear hx hb1
 rcases hE with⟨h,rfl⟩| ⟨h,h2,rfl⟩
 ·rw [decide_eq_false h] at HDy
  go_enter Tryz.func13,Tryz.ntmps13
  go_wp2_with fail
  refine (HDy.out _).mono ?_
  rintro e w' ⟨rfl,rfl⟩
  go_wp2_with fail
  go_ret2
  exact⟨rfl,HB.out⟩
 ·rw [decide_eq_true h] at HDy
  have q1:decide (n<day)=true:=decide_eq_true h2
  clear h h2
  go_enter Tryz.func13,Tryz.ntmps13
  go_wp2_with fail
  refine (turned (HDy.out _)).mono ?_
  rintro e w' ⟨rfl,rfl⟩
  go_wp2_with fail
  go_quiet (fail)
  go_wp2_with fail
  go_ret2
  exact⟨rfl,cm HB.out _⟩
def cuB (cur:Int) (f:Flw):Bool:=decide (f.cur=cur)
def paB (cur day:Int) (f:Flw):Bool:=decide (f.cur=cur)&&decide (f.day<day)
theorem Fr {l:List Flw} {k:Nat} (cur:Int) (h:k<l.length):(l.take (k+1)).filter (cuB cur)=(l.take k).filter (cuB cur)++(if (l.getD k an).cur=cur then [l.getD k an] else []):=by
 rw [kd h,List.filter_append]
 congr 1
 simp only [List.filter_cons,List.filter_nil,cuB,decide_eq_true_eq]
inductive TkO (w:World) (B b g:Nat) (cur day N:Int) (L:Nat) (v:Value) (l x:List Flw) (e:Ending) (w':World):Prop
 | past (h:∃ f ∈ x,paB cur day f=true) (he:e=.returned (.int .i64 240)) (hb:Below w.heap.size w w'):TkO w B b g cur day N L v l x e w'
 | many (h:∀ f ∈ x,paB cur day f=false) (hm:4096<l.length+(x.filter (cuB cur)).length) (he:e=.returned (.int .i64 81)) (hb:Below w.heap.size w w'):TkO w B b g cur day N L v l x e w'
 | ok (h:∀ f ∈ x,paB cur day f=false) (hm:l.length+(x.filter (cuB cur)).length≤4096) (he:e=.returned (.int .i64 0)) (v':Value) (hx:LdA w' B b g cur day N L v' (l++x.filter (cuB cur))) (hc:Ch (LdS b v) w w'):TkO w B b g cur day N L v l x e w'
set_option maxRecDepth 20000 in
set_option maxHeartbeats 6400000 in
theorem Ak (B b g L:Nat) (cur day N:Int) (v:Value) (l x:List Flw) (p:Option Addr) (bx off c M:Nat) (w:World) (hx:LdA w B b g cur day N L v l) (hl:JSrc aF w p bx off x) (hM:x.length=M) (hM2:M≤10000) (hll:l.length≤4096) :
  Calls Tryz.prog 41 #[.pointer (some ⟨b,0,none⟩),.slice p M c] w fun e w'=>TkO w B b g cur day N L v l x e w':=by
 have HX:=hideS hx
 have HQ:=hideS hl
 have HM:=hideS hM
 have HP:Hid (0<M→p=some ⟨bx,off,none⟩):=fun h=>hl.at_ (by omega)
 have HLl:=hideS hll
 have HO0:=hideS (iG aF w w.heap.size 77)
 clear hx hl hM hll
 go_enter Tryz.func41,Tryz.ntmps41
 go_wp2_with fail
 go_loopw [5,10] (fun u i wr=>∃ (k m:Nat) (q:Option Addr) (cp:Nat),k≤M∧i=.int .i64 k∧u=.slice q m cp∧m≤k∧Hid (m=((x.take k).filter (cuB cur)).length)∧Hid (wr.ownsRow w.heap.size 77 3 (.slice q m cp) m (aE aF ((x.take k).filter (cuB cur))))∧Hid (∀ i<k,paB cur day (x.getD i an)=false)∧Hid (Below w.heap.size w wr)) (fun _ i _=>M - (intOf i).toNat)
 case atStart=>exact⟨0,0,none,0,Nat.zero_le _,rfl,rfl,Nat.le_refl _,rfl,HO0,(fun i hi=>by omega),Below.refl _ _⟩
 case round=>
  clear HO0
  obtain⟨k,m,q0,cp,hk,rfl,rfl,hmk,HMl,HO,HA,HB⟩:=hrel
  by_cases hlt:k<M
  ·obtain rfl:=HP.out (by omega)
   obtain⟨c0,c1,c2⟩:=(HQ.out.below HB.out).cell k (by rw [HM.out];exact hlt)
   have HS:=hideS (Fr cur (l:=x) (k:=k) (by rw [HM.out];exact hlt))
   have HAn:Hid (paB cur day (x.getD k an)=false→∀ i<k+1,paB cur day (x.getD i an)=false):=fun h i hi=>by
    by_cases e:i<k
    ·exact HA.out i e
    ·obtain rfl:i=k:=by omega
     exact h
   have HAb:Hid (paB cur day (x.getD k an)=true→∃ f ∈ x,paB cur day f=true):=fun h=>⟨_,eV (by rw [HM.out];exact hlt),h⟩
   have HQB:=hideS (fS wr (x.getD k an))
   obtain⟨⟨z0,z1,z2⟩,fz⟩:=cB wr
   have y0:=fz 0
   have y1:=fz 1
   have y2:=fz 2
   clear fz
   obtain⟨f,hf⟩:∃ f,x.getD k an=f:=⟨_,rfl⟩
   rw [hf] at HS HQB c0 c1 c2 HAn HAb
   clear hf
   obtain⟨qd,qa,qc⟩:=f
   dsimp only [aF] at *
   obtain⟨w2,hw2⟩:∃ w2,wr.alloc aR=w2:=⟨_,rfl⟩
   rw [hw2] at z0 z1 z2 y0 y1 y2 HQB
   unfold aR at hw2
   obtain⟨w3,hw3⟩:∃ w3,kD w2 wr.heap.size ⟨qd,qa,qc⟩=w3:=⟨_,rfl⟩
   rw [hw3] at HQB
   unfold kD at hw3
   dsimp only at hw3
   have t0:=HQB.out.t0
   have t1:=HQB.out.t1
   have t2:=HQB.out.t2
   dsimp only at t0 t1 t2
   have hst:=eB
   have HX3:=hideS ((HX.out.below HB.out).below HQB.out.bl)
   obtain⟨⟨_,d1,d2,_⟩,_⟩:=HX3.out.cells
   have HB3:Hid (Below w.heap.size w w3):=HB.out.trans (HQB.out.bl.mono HB.out.size)
   by_cases h1:qc=cur
   ·have e1:(qc !=cur)=false:=by rw [h1];simp
    by_cases h2:qd<day
    ·have e2:decide (qd<day)=true:=decide_eq_true h2
     have HAb2:=hideS (HAb.out (by unfold paB;rw [decide_eq_true h1,decide_eq_true h2];rfl))
     clear h1 h2 HS HAn HAb
     go_wp2_with fail
     go_quiet (fail)
     go_wp2_with fail
     go_quiet (fail)
     go_wp2_with fail
     go_ret
     exact .past HAb2.out rfl (cm (cm HB3.out _) _)
    ·have e2:decide (qd<day)=false:=decide_eq_false h2
     have HAn2:=hideS (HAn.out (by unfold paB;rw [decide_eq_false h2,Bool.and_false]))
     rw [if_pos h1] at HS
     clear h1 h2 HAn HAb
     have HLn:Hid (((x.take (k+1)).filter (cuB cur)).length=m+1):=by show _=_;rw [HS.out,List.length_append,← HMl.out];rfl
     have HB4:Hid (∀ q,Below w3.heap.size w3 ((w3.drewN q).alloc (.cells #[.int .i64 qd,.float .f64 qa,.int .i64 qc] 77))):=fun q=>(cm (Below.refl _ _) q).trans ((Below.refl w3.heap.size (w3.drewN q)).alloc (Nat.le_refl w3.heap.size) _)
     have HO4:Hid (∀ q,((w3.drewN q).alloc (.cells #[.int .i64 qd,.float .f64 qa,.int .i64 qc] 77)).ownsRow w.heap.size 77 3 (.slice q0 m cp) m (aE aF ((x.take k).filter (cuB cur)))):=fun q=>aQ (aQ HO.out HQB.out.bl) (HB4.out q)
     have HS4:Hid (∀ q,w.heap.size≤((w3.drewN q).alloc (.cells #[.int .i64 qd,.float .f64 qa,.int .i64 qc] 77)).heap.size):=fun q=>Nat.le_trans HB3.out.size (HB4.out q).size
     have HFc:Hid (∀ q,FCells aF ((w3.drewN q).alloc (.cells #[.int .i64 qd,.float .f64 qa,.int .i64 qc] 77)) w3.heap.size 0 ⟨qd,qa,qc⟩):=fun q=>kZ (w3.drewN q) ⟨qd,qa,qc⟩
     have HBw:Hid (∀ q w5,Below w.heap.size ((w3.drewN q).alloc (.cells #[.int .i64 qd,.float .f64 qa,.int .i64 qc] 77)) w5→Below w.heap.size w w5):=fun q w5 h=>(HB3.out.trans ((HB4.out q).mono HB3.out.size)).trans h
     have hm9:(m+1)*24≤140737488355328:=by omega
     go_wp2_with fail
     go_quiet (fail)
     go_wp2_with fail
     go_quiet (fail)
     go_wp2_with (at_builtin;refine eC _ rfl (.tmp 28) (.tmp 30) rfl w.heap.size (.slice q0 m cp) m ((x.take k).filter (cuB cur)) rfl (HO4.out _) (HS4.out _) w3.heap.size ⟨qd,qa,qc⟩ rfl (HFc.out _) hm9 ?_;intro v5 w5 ho5 hb5;rw [← HS.out] at ho5;have HB5:=hideS (HBw.out _ _ hb5);obtain⟨q5,g5,k5,hv5,_,_,_,hm5⟩:=bC ho5 HLn.out;subst hv5;have HO5:=hideS ho5;clear ho5 hb5)
     go_roundw
     case rel=>exact⟨k+1,m+1,q5,k5,by omega,by go_num,rfl,by omega,HLn.out.symm,HO5,HAn2,HB5⟩
     case measure=>simp [intOf];omega
   ·have e1:(qc !=cur)=true:=bne_iff_ne.2 h1
    have HAn2:=hideS (HAn.out (by unfold paB;rw [decide_eq_false h1,Bool.false_and]))
    rw [if_neg h1,List.append_nil] at HS
    clear h1 HAn HAb
    go_wp2_with fail
    go_quiet (fail)
    go_wp2_with fail
    go_roundw
    case rel=>
     refine⟨k+1,m,q0,cp,by omega,by go_num,rfl,by omega,?_,?_,HAn2,cm HB3.out _⟩
     ·show _=_
      rw [HS.out];exact HMl.out
     ·show World.ownsRow _ _ _ _ _ _ _
      rw [HS.out]
      exact aQ HO.out (cm HQB.out.bl _)
    case measure=>simp [intOf];omega
  ·obtain rfl:k=M:=by omega
   have hall:x.take k=x:=by rw [← HM.out,List.take_length]
   rw [hall] at HMl HO
   clear hall
   have HXr:=hideS (HX.out.below HB.out)
   have HNp:Hid (∀ f ∈ x,paB cur day f=false):=fun f hf=>by
    obtain⟨i,hi,rfl⟩:=oU hf
    exact HA.out i (by rw [HM.out] at hi;exact hi)
   obtain⟨⟨_,_,_,d3⟩,fz⟩:=HXr.out.cells
   have f3:=fz 3
   clear fz
   obtain⟨pv,gv,cv,hv,hsv,_,hnc,hcm⟩:=bC HXr.out.own rfl
   have HLx:Hid (l.length≤4096∧m≤10000):=⟨HLl.out,by omega⟩
   have hlw:(0:Int)≤(l.length:Int)∧(l.length:Int)≤4096:=⟨by omega,by have:=HLl.out;omega⟩
   obtain⟨n0,hn0⟩:∃ n0,l.length=n0:=⟨_,rfl⟩
   have HN0:=hideS hn0
   rw [hn0] at hv hlw HLx
   obtain⟨hl0,hl1⟩:=hlw
   subst hv
   clear hn0 hsv
   by_cases hmn:4096<n0+m
   ·have e1:decide (4096<(n0:Int)+(m:Int))=true:=decide_eq_true (by omega)
    have HMn:Hid (4096<l.length+(x.filter (cuB cur)).length):=by show _<_;rw [HN0.out,← HMl.out];exact hmn
    clear hmn
    go_wp2_with fail
    go_ret
    exact .many HNp.out HMn.out rfl HB.out
   ·have e1:decide (4096<(n0:Int)+(m:Int))=false:=decide_eq_false (by omega)
    have HMn:Hid (l.length+(x.filter (cuB cur)).length≤4096):=by show _≤_;rw [HN0.out,← HMl.out];omega
    obtain⟨po,go,co,ho,hso,_,_,_⟩:=bC HO.out HMl.out.symm
    have HSo:=hideS hso
    have hnil:po=none→m=0∧co=0:=fun h=>by
     subst h
     rcases HO.out.2 with⟨e,h⟩| ⟨g',cap,cs,e,_⟩
     ·injection e with _ e1 e2
      injection ho with _ h1 h2
      exact⟨h,by rw [← h2];exact e2⟩
     ·injection e with e;injection ho with h1;rw [h1] at e;cases e
    have HNil:=hideS hnil
    have hB:B≤wr.heap.size:=Nat.le_trans HXr.out.lo (Nat.le_of_lt HXr.out.lt)
    have HBs:=hideS hB
    have hoo:=HXr.out.own
    rw [HN0.out] at hoo
    have HOo:=hideS hoo
    injection ho with ho1 ho2 ho3
    subst ho1 ho3
    clear hnil hB hoo hso hmn ho2
    go_wp2_with (at_builtin;refine ef _ rfl (.tmp 46) (.tmp 47) rfl B (.slice pv n0 cv) n0 l rfl HOo.out q0 go 0 cp m (x.filter (cuB cur)) rfl HMl.out.symm HSo.out HNil.out (by have:=HLx.out;omega) HBs.out ?_;intro v5 w5 ho5 hg5;have HO5:=hideS ho5;have HG5:=hideS hg5;obtain⟨q5,g5,k5,hv5,_,_,_,_⟩:=bC ho5 (by rw [List.length_append,HN0.out,← HMl.out]);subst hv5;have hblk5:=(hg5.block b HXr.out.lt (fun e=>HXr.out.ne e.symm)).trans HXr.out.blk;have r3:w5.cell? ⟨b,3,none⟩=some (.slice pv n0 cv):=(by simp [World.cell?,hblk5]);have y3:w5.frozen? ⟨b,3,none⟩=false:=frozen_of_row _ _ 3 _ _ hblk5;have HBk:=hideS hblk5;clear ho5 hg5 hblk5)
    go_ret
    have hc5:Ch (LdS b (.slice pv n0 cv)) wr w5:=⟨HG5.out.os,HG5.out.tape,HG5.out.output,HG5.out.size,fun k hk hn=>HG5.out.block k hk (fun e=>hn (Or.inr e.symm))⟩
    have hc6:Ch (fun k=>k=b) w5 (w5.setCell ⟨b,3,none⟩ (.slice q5 (n0+m) k5)):=(Ch.refl (fun k=>k=b) w5).set (S:=fun k=>k=b) rfl _
    have o5:Oth w5 (fun k=>k=b):=fun k cs t fz e h=>by
     subst e;rw [HBk.out] at h;injection h with h;injection h with _ h _;subst h;decide
    refine .ok HNp.out HMn.out rfl (.slice q5 (n0+m) k5) ⟨ct _ HBk.out,HXr.out.lo,?_,(HXr.out.cash.ch hc5 HXr.out.oth).ch hc6 o5⟩ ((Ch.of_below HB.out).trans (hc5.trans (hc6.mono fun k _ hk=>Or.inl hk)))
    have h7:=fL HO5.out hc6 (fun k hk c=>by
     subst c
     obtain⟨_,_,cs,e⟩:=qU HO5.out hk
     rw [HBk.out] at e;injection e with e;injection e with _ e _;revert e;decide)
    rw [List.length_append,HN0.out,← HMl.out]
    exact h7
end Go.Proofs.YtjjlnmihkadlmaaGreat
namespace Go.Proofs.YtjjlnmihkadlmaaGreat
open Go.RowKit

inductive NwR (l:List Flw) (cur day:Int):Int→Prop
 | flow (E K:Int) (h:ChkF l E K) (hE:E≠0):NwR l cur day E
 | cur (h:ChkF l 0 0) (hc:¬ (1≤cur∧cur≤8)):NwR l cur day 140
 | day (h:ChkF l 0 0) (hc:1≤cur∧cur≤8) (hd:¬ (0≤day∧day≤109572)):NwR l cur day 51
 | past (h:ChkF l 0 0) (hc:1≤cur∧cur≤8) (hd:0≤day∧day≤109572) (hp:∃ f ∈ l,paB cur day f=true):NwR l cur day 240
 | ok (h:ChkF l 0 0) (hc:1≤cur∧cur≤8) (hd:0≤day∧day≤109572) (hp:∀ f ∈ l,paB cur day f=false):NwR l cur day 0
theorem GW {w:World} {g L B:Nat} (cur day:Int) (h:WAt w g 0 L) (hB:B≤w.heap.size):LdA (w.alloc (.cells #[.pointer (some ⟨g,0,none⟩),.int .i64 cur,.int .i64 day,.slice none 0 0] 98)) B w.heap.size g cur day 0 L (.slice none 0 0) []:=
 ⟨heap_alloc_new _ _,hB,iG _ _ _ _,h.below ((Below.refl _ _).alloc (Nat.le_refl _) _)⟩
def NwO (w:World) (cur day:Int) (l:List Flw) (E:Int) (e:Ending) (w':World):Prop:=
 (E≠0∧e=.returned (.tuple #[.pointer none,.int .i64 E]))∨(E=0∧∃ b g v,e=.returned (.tuple #[.pointer (some ⟨b,0,none⟩),.int .i64 0])∧LdA w' w.heap.size b g cur day 0 70 v (l.filter (cuB cur)))
set_option maxRecDepth 20000 in
set_option maxHeartbeats 3200000 in
theorem Dv (l:List Flw) (cur day E:Int) (p:Option Addr) (bx off c M:Nat) (w:World) (hE:NwR l cur day E) (hl:JSrc aF w p bx off l) (hM:l.length=M) (hM2:M≤9223372036854775807) (hf:kC l) :
  Calls Tryz.prog 9 #[.slice p M c,.int .i64 cur,.int .i64 day] w fun e w'=>NwO w cur day l E e w'∧Below w.heap.size w w':=by
 obtain⟨E1,K1,h1⟩:=wM l
 have HC:=hideS (kY l p bx off c M E1 K1 w hl hM hM2 hf h1)
 have HI:=hideS fun wx=>xN cur 1 8 wx
 have HDy:=hideS fun wx=>mT day wx
 have HEm:=hideS fun wx=>wv wx
 have HQ:=hideS hl
 have HM:=hideS hM
 have HE:=hideS hE
 have H1:=hideS h1
 clear hl hM hf hE h1
 by_cases e1:E1=0
 ·subst e1
  have hlen:M≤4096:=by
   have:=H1.out
   rw [dA this] at this
   rw [← HM.out];exact (wl this).1
  by_cases hc:1≤cur∧cur≤8
  ·by_cases hd:0≤day∧day≤109572
   ·rw [decide_eq_true hc] at HI
    rw [decide_eq_true hd] at HDy
    have HK:=hideS (And.intro hc hd)
    have HTk:=hideS fun (b g:Nat) (wx:World) (hx:LdA wx w.heap.size b g cur day 0 70 (.slice none 0 0) []) (hb:Below w.heap.size w wx)=>Ak w.heap.size b g 70 cur day 0 (.slice none 0 0) [] l p bx off c M wx hx (HQ.out.below hb) HM.out (by omega) (by simp)
    clear hc hd HQ
    go_enter Tryz.func9,Tryz.ntmps9
    go_wp2_with fail
    refine (HC.out).mono ?_
    rintro e w2 ⟨rfl,hb2⟩
    have HB2:=hideS hb2
    clear hb2 HC
    go_wp2_with fail
    refine (turned (HI.out _)).mono ?_
    rintro e w' ⟨rfl,rfl⟩
    go_wp2_with fail
    refine (turned (HDy.out _)).mono ?_
    rintro e w' ⟨rfl,rfl⟩
    go_wp2_with fail
    refine (HEm.out _).mono ?_
    rintro e w3 ⟨g,rfl,hw3,hb3⟩
    have HB3:Hid (Below w.heap.size w w3):=HB2.out.trans (hb3.mono HB2.out.size)
    have HLd:=hideS (GW cur day hw3 HB3.out.size)
    have HB4:Hid (Below w.heap.size w (w3.alloc (.cells #[.pointer (some ⟨g,0,none⟩),.int .i64 cur,.int .i64 day,.slice none 0 0] 98))):=HB3.out.alloc HB3.out.size _
    have HT4:=hideS (HTk.out _ _ _ HLd.out HB4.out)
    clear hw3 hb3 HEm HI HDy HTk HB2
    go_wp2_with fail
    refine (HT4.out).mono ?_
    intro e w5 ht5
    cases ht5 with
    | past h he hb=>
     subst he
     have HP:=hideS (And.intro h hb)
     clear h hb
     go_wp2_with fail
     go_ret2
     refine⟨Or.inl ?_,HB4.out.trans (HP.out.2.mono HB4.out.size)⟩
     have e9:E=240:=by
      have h0:=H1.out
      rw [dA h0] at h0
      obtain⟨f,hf,hp⟩:=HP.out.1
      cases HE.out with
      | flow E K h hE=>exact absurd (ap h h0).1 hE
      | cur _ hc=>exact absurd HK.out.1 hc
      | day _ _ hd=>exact absurd HK.out.2 hd
      | past=>rfl
      | ok _ _ _ hn=>have:=hn f hf;rw [hp] at this;cases this
     subst e9
     exact⟨by decide,rfl⟩
    | many h hm he hb=>
     exfalso
     have:=List.length_filter_le (cuB cur) l
     have hM3:=HM.out
     simp only [List.length_nil] at hm
     omega
    | ok h hm he v' hx hc=>
     subst he
     have HP:=hideS (And.intro h (And.intro hx hc))
     clear h hx hc hm
     go_wp2_with fail
     go_ret2
     have e9:E=0:=by
      have h0:=H1.out
      rw [dA h0] at h0
      cases HE.out with
      | flow E K h hE=>exact absurd (ap h h0).1 hE
      | cur _ hc=>exact absurd HK.out.1 hc
      | day _ _ hd=>exact absurd HK.out.2 hd
      | past _ _ _ hp=>obtain⟨f,hf,hp⟩:=hp;have:=HP.out.1 f hf;rw [hp] at this;cases this
      | ok=>rfl
     refine⟨Or.inr ⟨e9,_,g,v',rfl,?_⟩,HB4.out.trans (HP.out.2.2.below HB4.out.size fun k hk=>HLd.out.low hk)⟩
     have:=HP.out.2.1
     rw [List.nil_append] at this
     exact this
   ·rw [decide_eq_true hc] at HI
    rw [decide_eq_false hd] at HDy
    have HK:=hideS (And.intro hc hd)
    clear hc hd HQ HEm
    go_enter Tryz.func9,Tryz.ntmps9
    go_wp2_with fail
    refine (HC.out).mono ?_
    rintro e w2 ⟨rfl,hb2⟩
    have HB2:=hideS hb2
    clear hb2 HC
    go_wp2_with fail
    refine (turned (HI.out _)).mono ?_
    rintro e w' ⟨rfl,rfl⟩
    go_wp2_with fail
    refine (turned (HDy.out _)).mono ?_
    rintro e w' ⟨rfl,rfl⟩
    go_wp2_with fail
    go_ret2
    refine⟨Or.inl ?_,HB2.out⟩
    have e9:E=51:=by
     have h0:=H1.out
     rw [dA h0] at h0
     cases HE.out with
     | flow E K h hE=>exact absurd (ap h h0).1 hE
     | cur _ hc=>exact absurd HK.out.1 hc
     | day=>rfl
     | past _ _ hd=>exact absurd hd HK.out.2
     | ok _ _ hd=>exact absurd hd HK.out.2
    subst e9
    exact⟨by decide,rfl⟩
  ·rw [decide_eq_false hc] at HI
   have HK:=hideS hc
   clear hc HQ HEm HDy
   go_enter Tryz.func9,Tryz.ntmps9
   go_wp2_with fail
   refine (HC.out).mono ?_
   rintro e w2 ⟨rfl,hb2⟩
   have HB2:=hideS hb2
   clear hb2 HC
   go_wp2_with fail
   refine (turned (HI.out _)).mono ?_
   rintro e w' ⟨rfl,rfl⟩
   go_wp2_with fail
   go_ret2
   refine⟨Or.inl ?_,HB2.out⟩
   have e9:E=140:=by
    have h0:=H1.out
    rw [dA h0] at h0
    cases HE.out with
    | flow E K h hE=>exact absurd (ap h h0).1 hE
    | cur=>rfl
    | day _ hc _=>exact absurd hc HK.out
    | past _ hc _=>exact absurd hc HK.out
    | ok _ hc _=>exact absurd hc HK.out
   subst e9
   exact⟨by decide,rfl⟩
 ·have d1:(E1 !=0)=true:=bne_iff_ne.2 e1
  have HN:=hideS e1
  clear e1 HQ HEm HDy HI
  go_enter Tryz.func9,Tryz.ntmps9
  go_wp2_with fail
  refine (HC.out).mono ?_
  rintro e w2 ⟨rfl,hb2⟩
  have HB2:=hideS hb2
  clear hb2 HC
  go_wp2_with fail
  go_ret2
  refine⟨Or.inl ?_,HB2.out⟩
  have e9:E=E1:=by
   have h0:=H1.out
   cases HE.out with
   | flow E K h hE=>exact (ap h h0).1
   | cur h _=>exact absurd (ap h0 h).1 HN.out
   | day h _ _=>exact absurd (ap h0 h).1 HN.out
   | past h _ _=>exact absurd (ap h0 h).1 HN.out
   | ok h _ _=>exact absurd (ap h0 h).1 HN.out
  rw [e9]
  exact⟨HN.out,rfl⟩
end Go.Proofs.YtjjlnmihkadlmaaGreat
namespace Go.Proofs.YtjjlnmihkadlmaaGreat
open Go.RowKit

def fA24:Flw:=⟨10,4616189618054758400,1⟩
def nN:Flw:=⟨20,4620693217682128896,1⟩
def Iz:Flw:=⟨10,4607182418800017408,2⟩
def l24:List Flw:=[fA24,nN,Iz]
def c24d:List Int:=[100,200]
def c24f:List Nat:=[4602678819172646912,4598175219545276416]
theorem Fv:∀ f ∈ l24,dQ f=0:=by
 intro f hf
 unfold l24 at hf
 simp only [List.mem_cons,List.not_mem_nil,or_false] at hf
 rcases hf with rfl | rfl | rfl<;>decide
theorem Fw:kC l24:=fun i=>by
 rcases i with _ | _ | _ | i
 ·decide
 ·decide
 ·decide
 ·show (an).am<_;decide
theorem GY:NwR l24 1 5 0:=.ok (.fine (by decide) fun i hi=>Fv _ (eV hi)) (by decide) (by decide) (by
 intro f hf
 unfold l24 at hf
 simp only [List.mem_cons,List.not_mem_nil,or_false] at hf
 rcases hf with rfl | rfl | rfl<;>decide)
theorem GZ:l24.filter (cuB 1)=[fA24,nN]:=rfl
theorem tW:([fA24,nN]:List Flw).filter (fun f=>decide (f.day<11))=[fA24]:=rfl
theorem Dy:([fA24,nN]:List Flw).filter (bJ 11)=[nN]:=rfl
theorem v24:jJ (0+wsI 1 parC [fA24])=4616189618054758400:=by
 have h1:wsI 1 parC [fA24]=(A.ji (4616189618054758400:Nat) (4607182418800017408:Nat)).N:=by
  unfold wsI wsI ctI prI
  rw [if_pos (by decide)]
  have:parC.V fA24.day=4607182418800017408:=GV (by decide) (by decide)
  rw [this,Int.add_zero]
  rfl
 rw [h1,Int.zero_add]
 decide+kernel
theorem In:OkV 0 2 c24d c24f:=⟨by decide,by decide,by decide,by decide,by decide,by decide,rfl,fun i hi=>by
 rcases i with _ | _ | i
 ·decide
 ·decide
 ·simp [c24d] at hi;omega⟩
theorem q24:qW 4598175219545276416 4602678819172646912=4602678819172646912:=by decide+kernel
theorem Hb (pd pf:Option Addr) (bd od cd b2 o2 cf:Nat) (w:World) (hs:TFl w pd pf bd od b2 o2 c24d c24f) :
  Calls Tryz.prog 27 #[.agg #[.int .i64 0,.int .i64 2,.slice pd 2 cd,.slice pf 2 cf],.int .i64 100] w fun e w'=>∃ gx cx gy cy,e=.returned (.tuple #[.agg #[.int .i64 100,.int .i64 2,.slice (some ⟨gx,0,none⟩) 1 cx,.slice (some ⟨gy,0,none⟩) 1 cy],.int .i64 0])∧w'.cell? ⟨gy,0,none⟩=some (.float .f64 4602678819172646912)∧Below w.heap.size w w':=by
 refine (oY 0 2 100 pd pf bd od cd b2 o2 cf c24d c24f w hs).mono fun e w' h=>?_
 obtain⟨h,hb⟩:=h
 have hl:c24d.length=2:=rfl
 cases h with
 | bad E hE h0 he=>exact absurd (bj In hE) h0
 | out ok h he=>
  have e1:c24d.getD (c24d.length - 1) 0=200:=rfl
  rw [e1] at h;omega
 | in_ ok h0 h1 s hs h=>
  have hF:=(zS In (i:=0) (by decide)).1
  have hF2:facV 0 2 c24d c24f 100=4602678819172646912:=hF
  have es:s=1:=by
   have a:=hs.lt
   have b:=hs.le
   have c:=hs.gt
   rw [hl] at a
   rcases (show s=0∨s=1 by omega) with rfl | rfl
   ·have:=c 0 (Nat.le_refl _) (by decide)
    have e2:c24d.getD 0 0=100:=rfl
    rw [e2] at this;omega
   ·rfl
  subst es
  rw [hF2] at h
  have hg:gdQ (qW (c24f.getD 1 0) 4602678819172646912):=by
   have e3:c24f.getD 1 0=4598175219545276416:=rfl
   rw [e3,q24];unfold gdQ;omega
  rcases h with⟨_,j,h2,h3,h4⟩| ⟨gx,cx,gy,cy,_,he,_,hy⟩
  ·rw [hl] at h3
   obtain rfl:j=1:=by omega
   exact absurd hg h4
  ·refine⟨gx,cx,gy,cy,he,?_,hb⟩
   obtain⟨g,c,e4,s4,_⟩:=dB (xs:=qL c24f 4602678819172646912 1) hy (by rw [fM];rfl) (by decide)
   injection e4 with e4
   injection e4 with e4
   injection e4 with e4
   subst e4
   have h5:=s4.cell 0 (by decide)
   rw [Nat.zero_add] at h5
   rw [h5]
   show some (Value.float .f64 ((qL c24f 4602678819172646912 1).getD 0 0))=_
   rw [kA c24f _ (s:=1) (j:=0) (by decide)]
   have e3:c24f.getD (1+0) 0=4598175219545276416:=rfl
   rw [e3,q24]
theorem Io (w:World):JSrc aF (w.alloc (.cells #[.int .i64 10,.float .f64 4616189618054758400,.int .i64 1,.int .i64 20,.float .f64 4620693217682128896,.int .i64 1,.int .i64 10,.float .f64 4607182418800017408,.int .i64 2] 77)) (some ⟨w.heap.size,0,none⟩) w.heap.size 0 l24:=by
 refine⟨fun _=>rfl,fun _=>by simp,fun i hi=>?_⟩
 have hc:∀ j,(w.alloc (.cells #[.int .i64 10,.float .f64 4616189618054758400,.int .i64 1,.int .i64 20,.float .f64 4620693217682128896,.int .i64 1,.int .i64 10,.float .f64 4607182418800017408,.int .i64 2] 77)).cell? ⟨w.heap.size,j,none⟩=(#[.int .i64 10,.float .f64 4616189618054758400,.int .i64 1,.int .i64 20,.float .f64 4620693217682128896,.int .i64 1,.int .i64 10,.float .f64 4607182418800017408,.int .i64 2]:Array Value)[j]? :=fun j=>dj w _ _ j
 rcases i with _ | _ | _ | i
 ·exact⟨hc 0,hc 1,hc 2⟩
 ·exact⟨hc 3,hc 4,hc 5⟩
 ·exact⟨hc 6,hc 7,hc 8⟩
 ·simp [l24] at hi;omega
theorem Ip (w:World):TFl ((w.alloc (.cells #[.int .i64 100,.int .i64 200] 3)).alloc (.cells #[.float .f64 4602678819172646912,.float .f64 4598175219545276416] 54)) (some ⟨w.heap.size,0,none⟩) (some ⟨w.heap.size+1,0,none⟩) w.heap.size 0 (w.heap.size+1) 0 c24d c24f:=by
 obtain⟨w1,hw1⟩:∃ w1,w.alloc (.cells #[.int .i64 100,.int .i64 200] 3)=w1:=⟨_,rfl⟩
 have z1:w.heap.size+1=w1.heap.size:=by rw [← hw1];simp
 have c1:∀ j,w1.cell? ⟨w.heap.size,j,none⟩=(#[.int .i64 100,.int .i64 200]:Array Value)[j]? :=fun j=>by rw [← hw1];exact dj w _ _ j
 rw [hw1,z1]
 have c2:∀ j,(w1.alloc (.cells #[.float .f64 4602678819172646912,.float .f64 4598175219545276416] 54)).cell? ⟨w1.heap.size,j,none⟩=(#[.float .f64 4602678819172646912,.float .f64 4598175219545276416]:Array Value)[j]? :=fun j=>dj w1 _ _ j
 have hb:Below w1.heap.size w1 (w1.alloc (.cells #[.float .f64 4602678819172646912,.float .f64 4598175219545276416] 54)):=(Below.refl _ _).alloc (Nat.le_refl _) _
 refine⟨⟨fun _=>rfl,fun _=>by simp;omega,fun j hj=>?_⟩,⟨fun _=>rfl,fun _=>by simp,fun j hj=>?_⟩,fun i hi=>?_⟩
 ·refine (hb.cell (p:=⟨w.heap.size,0+j,none⟩) (by show w.heap.size<w1.heap.size;omega)).trans ((c1 (0+j)).trans ?_)
  rcases j with _ | _ | j
  ·rfl
  ·rfl
  ·simp [c24d] at hj;omega
 ·refine (c2 (0+j)).trans ?_
  rcases j with _ | _ | j
  ·rfl
  ·rfl
  ·simp [c24f] at hj;omega
 ·rcases i with _ | _ | i
  ·decide
  ·decide
  ·simp [c24f] at hi;omega
theorem Iq:(FloatKind.f64.format.order 4616189618054758400 4616189618054758400==some .eq)=true∧(FloatKind.f64.format.order 4602678819172646912 4602678819172646912==some .eq)=true:=by decide+kernel
set_option maxRecDepth 40000 in
set_option maxHeartbeats 6400000 in
theorem kP (w:World):Calls Tryz.prog 8 #[] w fun e w'=>e=.returned (.bool true)∧Below w.heap.size w w':=by
 obtain⟨w1,hw1⟩:∃ w1,w.alloc (.cells #[.int .i64 10,.float .f64 4616189618054758400,.int .i64 1,.int .i64 20,.float .f64 4620693217682128896,.int .i64 1,.int .i64 10,.float .f64 4607182418800017408,.int .i64 2] 77)=w1:=⟨_,rfl⟩
 have hb1:Below w.heap.size w w1:=by rw [← hw1];exact (Below.refl _ _).alloc (Nat.le_refl _) _
 have hs1:=Io w
 rw [hw1] at hs1
 have HN:=hideS (Dv l24 1 5 0 (some ⟨w.heap.size,0,none⟩) w.heap.size 0 3 3 w1 GY hs1 rfl (by omega) Fw)
 have HB1:=hideS hb1
 clear hb1 hs1
 go_enter Tryz.func8,Tryz.ntmps8
 go_wp2_with fail
 refine (HN.out).mono ?_
 rintro e w2 ⟨h2,hb2⟩
 rcases h2 with⟨h,_⟩| ⟨_,b,g,v,rfl,hx2⟩
 ·exact absurd rfl h
 rw [GZ] at hx2
 have HX2:=hideS hx2
 have HB2:Hid (Below w.heap.size w w2∧w.heap.size≤w1.heap.size):=⟨HB1.out.trans (hb2.mono HB1.out.size),HB1.out.size⟩
 have HPs:=hideS (Du w1.heap.size b g 70 1 5 11 0 v [fA24,nN] w2 hx2 (by decide) (by decide) (by decide) (by
  intro f hf
  simp only [List.mem_cons,List.not_mem_nil,or_false] at hf
  rcases hf with rfl | rfl<;>decide) (by decide) (by decide) (by
  intro f hf
  simp only [List.mem_cons,List.not_mem_nil,or_false] at hf
  rcases hf with rfl | rfl<;>decide) (fun i=>by
  rcases i with _ | _ | i
  ·decide
  ·decide
  ·show (an).am<_;decide) (by omega))
 clear hx2 hb2 HN HB1 hw1
 go_wp2_with fail
 refine (HPs.out).mono ?_
 intro e w3 h3
 obtain⟨⟨u,rfl,ho⟩,⟨g3,v3,_,hx3⟩,hc3⟩:=h3
 rw [tW] at hx3
 rw [Dy] at hx3
 rw [tW] at ho
 obtain⟨pu,_,cu,hu,_,_,_,_⟩:=bC ho rfl
 subst hu
 have HX3:=hideS hx3
 have HB3:Hid (Below w.heap.size w w3):=HB2.out.1.trans (hc3.below HB2.out.1.size fun k hk=>by have:=HX2.out.low hk;have:=HB2.out.2;omega)
 have HCs:=hideS (Ah w1.heap.size b g3 _ 1 11 _ v3 [nN] w3 hx3 (by omega))
 have hv:=v24
 rw [hv] at HCs
 have ht:Fj 4616189618054758400=4616189618054758400∧Fk 4616189618054758400=0:=by decide
 rw [ht.1,ht.2] at HCs
 clear hx3 hc3 ho HPs hv ht HX2 HB2
 go_wp2_with fail
 refine (HCs.out).mono ?_
 rintro e w4 ⟨rfl,hb4⟩
 have HX4:=hideS (HX3.out.below hb4)
 have HB4:Hid (Below w.heap.size w w4):=HB3.out.trans (hb4.mono HB3.out.size)
 have HPb:=hideS (Aj w1.heap.size b g3 _ 1 11 10 _ 240 v3 [nN] w4 HX4.out (Or.inr ⟨by decide,by decide,rfl⟩))
 clear hb4 HX3 HB3 HCs
 go_wp2_with fail
 refine (HPb.out).mono ?_
 rintro e w5 ⟨rfl,hb5⟩
 have HX5:=hideS (HX4.out.below hb5)
 have HB5:Hid (Below w.heap.size w w5):=HB4.out.trans (hb5.mono HB4.out.size)
 have HRl:=hideS (Hb _ _ _ _ 2 _ _ 2 _ (Ip w5))
 have HA6:Hid (Below w5.heap.size w5 ((w5.alloc (.cells #[.int .i64 100,.int .i64 200] 3)).alloc (.cells #[.float .f64 4602678819172646912,.float .f64 4598175219545276416] 54))):=((Below.refl _ _).alloc (Nat.le_refl _) _).alloc (by simp) _
 clear hb5 HX4 HB4 HPb
 go_wp2_with fail
 refine (HRl.out).mono ?_
 rintro e w6 ⟨gx,cx,gy,cy,rfl,hc6,hb6⟩
 have HB56:Hid (Below w5.heap.size w5 w6):=HA6.out.trans (hb6.mono HA6.out.size)
 have HX6:=hideS (HX5.out.below HB56.out)
 have HB6:Hid (Below w.heap.size w w6):=HB5.out.trans (HB56.out.mono HB5.out.size)
 have hlt:=World.block_lt_of_cell? _ _ hc6
 have HC6:=hideS hc6
 obtain⟨w7,hw7⟩:∃ w7,w6.alloc (.cells #[.int .i64 100,.int .i64 2,.slice (some ⟨gx,0,none⟩) 1 cx,.slice (some ⟨gy,0,none⟩) 1 cy] 43)=w7:=⟨_,rfl⟩
 have hb7:Below w6.heap.size w6 w7:=by rw [← hw7];exact (Below.refl _ _).alloc (Nat.le_refl _) _
 have hk7:w7.heap[w6.heap.size]? =some (.cells #[.int .i64 100,.int .i64 2,.slice (some ⟨gx,0,none⟩) 1 cx,.slice (some ⟨gy,0,none⟩) 1 cy] 43):=by rw [← hw7];exact heap_alloc_new _ _
 have HX7:=hideS (HX6.out.below hb7)
 have HB7:Hid (Below w.heap.size w w7):=HB6.out.trans (hb7.mono HB6.out.size)
 have hc7:w7.cell? ⟨gy,0,none⟩=some (.float .f64 4602678819172646912):=(hb7.cell (p:=⟨gy,0,none⟩) hlt).trans hc6
 have HC7:=hideS (And.intro hc7 hk7)
 have HDy:=hideS (ww w1.heap.size b g3 _ 1 11 _ v3 [nN] w7 HX7.out)
 have HLf:=hideS (Ai w1.heap.size b g3 _ 1 11 _ v3 [nN] w7 HX7.out (by decide))
 obtain⟨o1,o2⟩:=Iq
 clear hc6 hb6 hlt hb7 hk7 hc7 HX5 HB5 HRl HA6 HX6 HB6 HC6 HB56
 go_wp2_with fail
 refine (turned (HDy.out)).mono ?_
 rintro e w' ⟨rfl,rfl⟩
 go_wp2_with fail
 refine (HLf.out).mono ?_
 rintro e w8 ⟨⟨u8,rfl,ho8⟩,hb8⟩
 obtain⟨pu8,_,cu8,hu8,_,_,_,_⟩:=bC ho8 rfl
 subst hu8
 have hk8:w8.heap[w6.heap.size]? =some (.cells #[.int .i64 100,.int .i64 2,.slice (some ⟨gx,0,none⟩) 1 cx,.slice (some ⟨gy,0,none⟩) 1 cy] 43):=(hb8.block _ (Array.getElem?_eq_some_iff.1 HC7.out.2).1).trans HC7.out.2
 have k3:w8.cell? ⟨w6.heap.size,3,none⟩=some (.slice (some ⟨gy,0,none⟩) 1 cy):=by simp [World.cell?,hk8]
 have k4:w8.cell? ⟨gy,0,none⟩=some (.float .f64 4602678819172646912):=(hb8.cell (p:=⟨gy,0,none⟩) (World.block_lt_of_cell? _ _ HC7.out.1)).trans HC7.out.1
 have HB8:Hid (Below w.heap.size w w8):=HB7.out.trans (hb8.mono HB7.out.size)
 clear ho8 hb8 hk8 hw7
 dsimp only [List.length_cons,List.length_nil]
 go_wp2_with fail
 go_ret
 exact⟨rfl,HB8.out⟩
end Go.Proofs.YtjjlnmihkadlmaaGreat
namespace Go.Proofs.YtjjlnmihkadlmaaGreat
open Go.RowKit
end Go.Proofs.YtjjlnmihkadlmaaGreat
namespace Go.Proofs.YtjjlnmihkadlmaaGreat
open Go.RowKit

end Go.Proofs.YtjjlnmihkadlmaaGreat
namespace Go.Proofs.YtjjlnmihkadlmaaGreat
open Go.RowKit

end Go.Proofs.YtjjlnmihkadlmaaGreat
namespace Go.Proofs.YtjjlnmihkadlmaaGreat
open Go.RowKit

inductive OutR (base kind n:Int) (ds:List Int) (fs:List Nat):Int→Int→List Int→List Nat→Int→Prop
 | bad (E:Int) (hE:CurR base kind ds fs E) (h0:E≠0):OutR base kind n ds fs 0 0 [] [] E
 | out (ok:OkV base kind ds fs) (h:n<base∨ds.getD (ds.length - 1) 0≤n):OutR base kind n ds fs 0 0 [] [] 51
 | zero (ok:OkV base kind ds fs) (h0:base≤n) (h1:n<ds.getD (ds.length - 1) 0) (s:Nat) (hs:SkN ds n s) (j:Nat) (j0:s≤j) (j1:j<ds.length) (hj:¬ gdQ (qW (fs.getD j 0) (facV base kind ds fs n))):OutR base kind n ds fs 0 0 [] [] 91
 | ok (ok:OkV base kind ds fs) (h0:base≤n) (h1:n<ds.getD (ds.length - 1) 0) (s:Nat) (hs:SkN ds n s) (hg:∀ j,s≤j→j<ds.length→gdQ (qW (fs.getD j 0) (facV base kind ds fs n))):OutR base kind n ds fs n kind (ds.drop s) (qL fs (facV base kind ds fs n) s) 0
theorem FA (base kind n:Int) (ds:List Int) (fs:List Nat):∃ b k X Y E,OutR base kind n ds fs b k X Y E:=by
 obtain⟨E,hE⟩:=jq base kind ds fs
 by_cases h0:E=0
 ·subst h0
  have ok:=dZ hE
  by_cases h:n<base∨ds.getD (ds.length - 1) 0≤n
  ·exact⟨_,_,_,_,_,.out ok h⟩
  ·obtain⟨s,hs⟩:=Dq ok (n:=n) (by omega)
   by_cases hz:∃ j,s≤j∧j<ds.length∧¬ gdQ (qW (fs.getD j 0) (facV base kind ds fs n))
   ·obtain⟨j,a,b,c⟩:=hz
    exact⟨_,_,_,_,_,.zero ok (by omega) (by omega) s hs j a b c⟩
   ·exact⟨_,_,_,_,_,.ok ok (by omega) (by omega) s hs fun j a b=>Classical.byContradiction fun c=>hz ⟨j,a,b,c⟩⟩
 ·exact⟨_,_,_,_,_,.bad E hE h0⟩
theorem xU {ds:List Int} {n:Int} {s s':Nat} (h:SkN ds n s) (h':SkN ds n s'):s=s':=by
 rcases Nat.lt_trichotomy s s' with c | c | c
 ·have:=h'.le s c
  have:=h.gt s (Nat.le_refl _) h.lt
  omega
 ·exact c
 ·have:=h.le s' c
  have:=h'.gt s' (Nat.le_refl _) h'.lt
  omega
theorem uc (w:World) (f:Nat→Value):VSrc w none 0 0 0 f:=⟨fun h=>absurd h (Nat.lt_irrefl 0),fun h=>absurd h (Nat.lt_irrefl 0),fun j hj=>absurd hj (Nat.not_lt_zero j)⟩
theorem wI {w:World} {p:Option Addr} {b off n:Nat} {xs:List Nat} (h:USrc w p b off xs) (hn:xs.length=n):VSrc w p b off n (yV xs):=⟨fun hx=>h.at_ (by omega),fun hx=>h.lt (by omega),fun j hj=>h.cell j (by omega)⟩
theorem FB (w:World):TFl w none none 0 0 0 0 [] []:=⟨uc w _,uc w _,fun i hi=>absurd hi (Nat.not_lt_zero i)⟩
def CvA (b k:Int) (X:List Int) (Y:List Nat) (E:Int) (e:Ending) (w':World):Prop:=
 ∃ pa ga ca qa gb da,e=.returned (.tuple #[.agg #[.int .i64 b,.int .i64 k,.slice pa X.length ca,.slice qa Y.length da],.int .i64 E])∧TFl w' pa qa ga 0 gb 0 X Y
theorem FC {w w':World} {base kind n b k E:Int} {ds X:List Int} {fs Y:List Nat} {e:Ending} (h:RlR w base kind n ds fs e w') (ho:OutR base kind n ds fs b k X Y E):CvA b k X Y E e w':=by
 have er:∀ E',e=.returned (.tuple #[.agg #[.int .i64 0,.int .i64 0,.slice none 0 0,.slice none 0 0],.int .i64 E'])→CvA 0 0 [] [] E' e w':=fun E' he=>⟨none,0,0,none,0,0,he,FB _⟩
 cases h with
 | bad E' hE h0 he=>
  cases ho with
  | bad E hE' _=>rw [tI hE' hE];exact er _ he
  | out ok _=>exact absurd (bj ok hE) h0
  | zero ok _ _ _ _ _ _ _ _=>exact absurd (bj ok hE) h0
  | ok ok _ _ _ _ _=>exact absurd (bj ok hE) h0
 | out ok h he=>
  cases ho with
  | bad E hE' h0=>exact absurd (bj ok hE') h0
  | out _ _=>exact er _ he
  | zero _ a b _ _ _ _ _ _=>omega
  | ok _ a b _ _ _=>omega
 | in_ ok h0 h1 s hs h=>
  cases ho with
  | bad E hE' h0=>exact absurd (bj ok hE') h0
  | out _ h=>omega
  | zero _ _ _ s' hs' j j0 j1 hj=>
   obtain rfl:=xU hs hs'
   rcases h with⟨he,_⟩| ⟨_,_,_,_,hg,_⟩
   ·exact er _ he
   ·exact absurd (hg j j0 j1) hj
  | ok _ _ _ s' hs' hg=>
   obtain rfl:=xU hs hs'
   rcases h with⟨_,j,j0,j1,hj⟩| ⟨gx,cx,gy,cy,_,he,hx,hy⟩
   ·exact absurd (hg j j0 j1) hj
   ·have l1:(ds.drop s).length=ds.length - s:=List.length_drop
    have l2:(qL fs (facV base kind ds fs n) s).length=ds.length - s:=by rw [fM,ok.len]
    have hlt:=hs.lt
    obtain⟨g1,c1,e1,s1,_⟩:=eX hx l1 (by omega)
    obtain⟨g2,c2,e2,s2,_⟩:=dB hy l2 (by omega)
    injection e1 with e1 _ e3
    injection e1 with e1
    injection e1 with e1
    injection e2 with e2 _ e4
    injection e2 with e2
    injection e2 with e2
    subst e1 e2
    refine⟨_,gx,cx,_,gy,cy,by rw [l1,l2];exact he,by rw [l1];exact s1,by rw [l2];exact s2,fun i hi=>?_⟩
    rw [l2] at hi
    rw [kA fs _ (by rw [ok.len];omega)]
    have:=(hg (s+i) (by omega) (by omega)).2
    omega
end Go.Proofs.YtjjlnmihkadlmaaGreat
namespace Go.Proofs.YtjjlnmihkadlmaaGreat
open Go.RowKit

theorem DJ (a k:Nat):2*(a*2^k)=a*2^(k+1):=by rw [Nat.pow_succ];ac_rfl
theorem DK (k a b:Nat) (h:k+1=a+b):2*2^k=2^a*2^b:=by rw [← Nat.pow_add,← h,Nat.pow_succ,Nat.mul_comm]
theorem Hk (a j k m:Nat) (h:j+k=m):a*2^m=a*2^j*2^k:=by rw [Nat.mul_assoc,← Nat.pow_add,h]
theorem FP:V 4607182418800017408=2^1074:=by decide+kernel
theorem mW (X Y k:Nat) (hY:0<Y) (Q:Nat) (h:X*2^k=Q*Y):aP X Y k=2*Q:=by
 unfold aP
 rw [h,Nat.mul_div_cancel _ hY,Nat.mul_mod_left,if_pos rfl,Nat.add_zero]
theorem mX {x:Nat} (x1:x<9218868437227405312):aV x=V x:=by
 unfold aV;rw [Nat.mod_eq_of_lt (by omega)]
theorem DL {x:Nat} (x0:0<x):0<V x:=by
 have:=Ax x0
 rw [aW] at this;exact this
theorem Hl (X a b k m:Nat) (hk:b+a=k) (hm:b+1=m):aP X (2^a) k=X*2^m:=by
 rw [mW X (2^a) k (Nat.two_pow_pos _) (X*2^b) (Hk X b a k hk),DJ,hm]
theorem Hm {x:Nat} (x0:0<x) (x1:x<9218868437227405312):qW x 4607182418800017408=x:=by
 unfold qW qR
 rw [mX x1,mX (by omega),if_neg (by have:=DL x0;omega),FP,Hl (V x) 1074 1126 2200 1127 rfl rfl]
 exact gL x1 1127
theorem FD {x:Nat} (x0:0<x) (x1:x<9218868437227405312):qW x x=4607182418800017408:=by
 unfold qW qR
 rw [mX x1,if_neg (by have:=DL x0;omega)]
 rw [mW (V x) (V x) 2200 (DL x0) (2^2200) (Nat.mul_comm _ _)]
 rw [DK 2200 1074 1127 rfl,← FP]
 exact gL (by decide) 1127
theorem FQ {x x' y:Nat} (h:x≤x') (x1:x'<9218868437227405312):qW x y≤qW x' y:=by
 unfold qW
 rw [mX x1,mX (x:=x) (by omega)]
 exact FK (uh h)
theorem Aq {base kind:Int} {ds:List Int} {fs:List Nat} (ok:OkV base kind ds fs) (hf:∀ i<fs.length,fs.getD i 0<18446744073709551616):OutR base kind base ds fs base kind ds fs 0:=by
 have lo:=ok.lo
 have hF:facV base kind ds fs base=4607182418800017408:=(xK ok (.ok ok _ _ (mL ok (i:=0) (Nat.zero_le _)))).1
 have hpr:∀ i<ds.length,base<ds.getD i 0:=fun i hi=>by
  have:=ok.table.rise (i:=0) (j:=i+1) (by omega) (by rw [ed];omega)
  exact this
 have hs:SkN ds base 0:=⟨by omega,fun i hi=>by omega,fun i _ hi=>hpr i hi⟩
 have hq:∀ j,j<ds.length→qW (fs.getD j 0) (facV base kind ds fs base)=fs.getD j 0:=fun j hj=>by
  rw [hF]
  obtain⟨a,b⟩:=dC ok hf hj
  exact Hm a b
 have h1:=OutR.ok (n:=base) ok (Int.le_refl _) (hpr _ (by omega)) 0 hs (fun j _ hj=>by rw [hq j hj];exact dC ok hf hj)
 have e:qL fs (facV base kind ds fs base) 0=fs:=by
  apply List.ext_getElem
  ·rw [fM];omega
  ·intro i h1 h2
   have h3:=kA fs (facV base kind ds fs base) (s:=0) (j:=i) (by omega)
   rw [Nat.zero_add,hq i (by rw [← ok.len];exact h2)] at h3
   rw [List.getD_eq_getElem?_getD,List.getElem?_eq_getElem h1,List.getD_eq_getElem?_getD,List.getElem?_eq_getElem h2] at h3
   exact h3
 rw [List.drop_zero,e] at h1
 exact h1
theorem Ar {base kind n:Int} {ds:List Int} {fs:List Nat} {s:Nat} (ok:OkV base kind ds fs) (h0:base≤n) (hs:SkN ds n s) (hg:∀ j,s≤j→j<ds.length→gdQ (qW (fs.getD j 0) (facV base kind ds fs n))):OkV n kind (ds.drop s) (qL fs (facV base kind ds fs n) s):=by
 have hlt:=hs.lt
 have hn:n<ds.getD s 0:=hs.gt s (Nat.le_refl _) hlt
 have htop:∀ i<ds.length,ds.getD i 0≤109572:=fun i hi=>(dz (ok.node i hi)).2.1
 have l1:(ds.drop s).length=ds.length - s:=List.length_drop
 have l2:(qL fs (facV base kind ds fs n) s).length=ds.length - s:=by rw [fM,ok.len]
 refine⟨by have:=ok.b0;omega,by have:=htop s hlt;omega,ok.k1,ok.k4,by rw [l1];omega,by rw [l1];have:=ok.hi;omega,by rw [l1,l2],fun i hi=>?_⟩
 rw [l1] at hi
 rw [nodC_two]
 refine⟨?_,?_⟩
 ·unfold dyB
  rw [qS,decide_eq_false (show ¬ 109572<ds.getD (s+i) 0 by have:=htop (s+i) (by omega);omega),Bool.or_false]
  refine decide_eq_false ?_
  cases i with
  | zero=>show ¬ ds.getD (s+0) 0≤n;rw [Nat.add_zero];omega
  | succ i=>
   show ¬ ds.getD (s+(i+1)) 0≤(ds.drop s).getD i 0
   rw [qS]
   have:=ok.rise (i:=s+i) (j:=s+(i+1)) (by omega) (by omega)
   omega
 ·rw [kA fs _ (by rw [ok.len];omega)]
  obtain⟨a,b⟩:=hg (s+i) (by omega) (by omega)
  exact Ae a b
theorem qY {base kind n:Int} {ds:List Int} {fs:List Nat} {s:Nat} (ok:OkV base kind ds fs) (hf:∀ i<fs.length,fs.getD i 0<18446744073709551616) (h0:base≤n) (h1:n<ds.getD (ds.length - 1) 0) (hs:SkN ds n s) (hF:bA fs=true) (h4:kind≠4):bA (qL fs (facV base kind ds fs n) s)=true:=by
 have hlt:=hs.lt
 have e0:=qH ok (x:=n) (by omega) (by omega)
 obtain⟨f0,f1⟩:=gU ok hf e0
 have hA:AtO kind (ctX base ds) (ctY fs) n (facV base kind ds fs n) 0:=by
  have h:=dc base kind ds fs n
  rw [e0] at h
  generalize facV base kind ds fs n=V at h
  generalize hz:(0:Int)=z at h
  cases h with
  | bad E h hE=>exact absurd hz.symm hE
  | ok _ V E hA=>exact hA
 have word:∀ i<ds.length,aa (fs.getD i 0:Nat)=(fs.getD i 0:Nat):=fun i hi=>bE (by have:=(dC ok hf hi).2;omega)
 have hfirst:fs.getD s 0≤facV base kind ds fs n:=by
  have hn:=hs.gt s (Nat.le_refl _) hlt
  have hB:=mL ok (i:=s+1) (by omega)
  have h:=De ok hf hF h4 (a:=n) (b:=dR base ds (s+1)) (by show n≤ds.getD s 0;omega) hA hB
  have e1:prvF fs (s+1)=fs.getD s 0:=rfl
  rw [e1,word s hlt,bE (r:=facV base kind ds fs n) (by omega)] at h
  omega
 have hstep:∀ i,i+1<ds.length→fs.getD (i+1) 0≤fs.getD i 0:=fun i hi=>by
  have h:=jX ok hF (i+1) hi
  have e1:prvF fs (i+1+1)=fs.getD (i+1) 0:=rfl
  have e2:prvF fs (i+1)=fs.getD i 0:=rfl
  rw [e1,e2,word (i+1) hi,word i (by omega)] at h
  omega
 unfold bA
 rw [List.all_eq_true]
 intro i hi
 rw [List.mem_range,fM,ok.len] at hi
 rw [Bool.not_eq_true']
 have eq1:=kA fs (facV base kind ds fs n) (s:=s) (j:=i) (by rw [ok.len];omega)
 rw [eq1]
 have t1:=qQ (fs.getD (s+i) 0) (facV base kind ds fs n)
 have le_lt:∀ {a b:Nat},a≤9218868437227405312→b≤a→ltB (a:Nat) (b:Nat)=false:=fun {a b} ha hb=>by
  rw [au (cj ha) (cj (by omega)),bE ha,bE (r:=b) (by omega)]
  exact decide_eq_false (by omega)
 cases i with
 | zero=>
  show ltB (4607182418800017408:Nat) _=false
  refine le_lt (by decide) ?_
  rw [← FD f0 f1,Nat.add_zero]
  exact FQ hfirst f1
 | succ i=>
  show ltB ((qL fs (facV base kind ds fs n) s).getD i 0:Nat) _=false
  rw [kA fs _ (by rw [ok.len];omega)]
  refine le_lt (qQ _ _) (FQ (hstep (s+i) (by omega)) ?_)
  exact (dC ok hf (by omega)).2
end Go.Proofs.YtjjlnmihkadlmaaGreat
