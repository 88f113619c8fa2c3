/-  -/
import Derived.Test.YtjjlnmihkadlmaaGreatHbm
import Derived.Test.YtjjlnmihkadlmaaGreatXmA
import Derived.Lib.SliceRun
import Derived.Test.YtjjlnmihkadlmaaGreatHbl
import Derived.Test.YtjjlnmihkadlmaaGreatHbb
import Derived.Test.YtjjlnmihkadlmaaGreatFFlw
namespace Go.Proofs.YtjjlnmihkadlmaaGreat
open Go.RowKit

theorem Gs (w:World) (a:Option Addr) (n c:Nat):(binOp .eql 22 (.slice a n c) (.slice none 0 0)).run Tryz.prog w=.ok (.bool a.isNone) w:=Go.Lib.run_eql_slice_nil w _ _ a n c 0 0 Tryz.underlying22
set_option maxRecDepth 20000 in
set_option maxHeartbeats 1600000 in
theorem vD (l:List Flw) (B N:Nat) (v:Value) (w:World) (ho:w.ownsRow B 77 3 v N (aA aF l)) (hl:l.length=N) (hN:N≤100000) :
  Calls Tryz.prog 59 #[v] w fun e w'=>(∃ u,e=.returned u∧w'.ownsRow w.heap.size 77 3 u N (aA aF l))∧Below w.heap.size w w':=by
 obtain⟨p,b,c,hv,hs,_,hNc,hcm⟩:=av ho hl
 subst hv
 cases p with
 | none=>
  have h0:N=0:=by
   rcases ho.2 with⟨_,h⟩| ⟨g,cap,cs,e,_⟩
   ·exact h
   ·cases e
  subst h0
  obtain rfl:=List.length_eq_zero_iff.1 hl
  have h1:c=0:=by
   rcases ho.2 with⟨h,_⟩| ⟨g,cap,cs,e,_⟩
   ·injection h
   ·cases e
  subst h1
  clear ho hs
  have hq:=fun w=>Gs w none 0 0
  go_enter Tryz.func59,Tryz.ntmps59
  go_wp2_with fail
  go_ret
  exact⟨⟨_,rfl,ef _ _ _ _⟩,Below.refl _ _⟩
 | some ad=>
  have HQ:=hideS hs
  have HN:=hideS hl
  have HE:=hideS (vC w)
  have HB0:=hideS ((Below.refl _ w).alloc (Nat.le_refl _) (.cells #[] 77))
  clear ho hs hl hNc hcm
  have hq:=fun w=>Gs w (some ad) N c
  go_enter Tryz.func59,Tryz.ntmps59
  go_wp2_with (at_builtin;refine bE _ rfl _ _ rfl w.heap.size (.slice (some ⟨w.heap.size,0,none⟩) 0 0) 0 [] rfl HE.out (some ad) b 0 c N l rfl HN.out (HQ.out.below HB0.out) (fun h=>by cases h) (by omega) HB0.out.size ?_)
  intro v1 w1 ho hg
  have hb1:Below w.heap.size w w1:=HB0.out.trans (eP HE.out hg HB0.out.size)
  have HO:=hideS (And.intro ho hb1)
  clear ho hb1 hg HE HB0
  go_wp2_with fail
  go_ret
  exact⟨⟨_,rfl,HO.out.1⟩,HO.out.2⟩
theorem dr (B b g L:Nat) (cur day N:Int) (v:Value) (l:List Flw) (w:World) (hx:LdA w B b g cur day N L v l) (hl:l.length≤100000) :
  Calls Tryz.prog 26 #[.pointer (some ⟨b,0,none⟩)] w fun e w'=>(∃ u,e=.returned u∧w'.ownsRow w.heap.size 77 3 u l.length (aA aF l))∧Below w.heap.size w w':=by
 obtain⟨⟨_,_,_,c3⟩,_⟩:=hx.cells
 have HC:=hideS (vD l B l.length v w hx.own rfl hl)
 clear hx
 go_enter Tryz.func26,Tryz.ntmps26
 go_wp2_with fail
 refine (HC.out).mono ?_
 rintro e w2 ⟨⟨u,rfl,ho⟩,hb⟩
 have HO:=hideS (And.intro ho hb)
 clear ho hb
 go_wp2_with fail
 go_ret
 exact⟨⟨_,rfl,HO.out.1⟩,HO.out.2⟩
set_option maxRecDepth 20000 in
set_option maxHeartbeats 1600000 in
theorem gL (B b g L:Nat) (cur day n N E:Int) (v:Value) (l:List Flw) (w:World) (hx:LdA w B b g cur day N L v l) (hE:(¬ (0≤n∧n≤109572)∧E=51)∨((0≤n∧n≤109572)∧n<day∧E=240)) :
  Calls Tryz.prog 13 #[.pointer (some ⟨b,0,none⟩),.int .i64 n] w fun e w'=>e=.returned (.tuple #[.slice none 0 0,.int .i64 E])∧Below w.heap.size w w':=by
 have HDy:=hideS fun wx=>mC n wx
 have hb1:Below w.heap.size w (w.alloc (.cells #[.int .i64 n] 3)):=(Below.refl _ _).alloc (Nat.le_refl _) _
 have HB:=hideS hb1
 have HX1:=hideS (hx.below hb1)
 obtain⟨⟨_,_,c2,_⟩,_⟩:=HX1.out.cells
 clear hx hb1
 rcases hE with⟨h,rfl⟩| ⟨h,h2,rfl⟩
 ·rw [decide_eq_false h] at HDy
  go_enter Tryz.func13,Tryz.ntmps13
  go_wp2_with fail
  refine (HDy.out _).mono ?_
  rintro e w' ⟨rfl,rfl⟩
  go_wp2_with fail
  go_ret2
  exact⟨rfl,HB.out⟩
 ·rw [decide_eq_true h] at HDy
  have q1:decide (n<day)=true:=decide_eq_true h2
  clear h h2
  go_enter Tryz.func13,Tryz.ntmps13
  go_wp2_with fail
  refine (turned (HDy.out _)).mono ?_
  rintro e w' ⟨rfl,rfl⟩
  go_wp2_with fail
  go_quiet (fail)
  go_wp2_with fail
  go_ret2
  exact⟨rfl,dk HB.out _⟩
def cuB (cur:Int) (f:Flw):Bool:=decide (f.cur=cur)
def paB (cur day:Int) (f:Flw):Bool:=decide (f.cur=cur)&&decide (f.day<day)
theorem xc {l:List Flw} {k:Nat} (cur:Int) (h:k<l.length):(l.take (k+1)).filter (cuB cur)=(l.take k).filter (cuB cur)++(if (l.getD k an).cur=cur then [l.getD k an] else []):=by
 rw [fH h,List.filter_append]
 congr 1
 simp only [List.filter_cons,List.filter_nil,cuB,decide_eq_true_eq]
inductive TkO (w:World) (B b g:Nat) (cur day N:Int) (L:Nat) (v:Value) (l x:List Flw) (e:Ending) (w':World):Prop
 | past (h:∃ f ∈ x,paB cur day f=true) (he:e=.returned (.int .i64 240)) (hb:Below w.heap.size w w'):TkO w B b g cur day N L v l x e w'
 | many (h:∀ f ∈ x,paB cur day f=false) (hm:4096<l.length+(x.filter (cuB cur)).length) (he:e=.returned (.int .i64 81)) (hb:Below w.heap.size w w'):TkO w B b g cur day N L v l x e w'
 | ok (h:∀ f ∈ x,paB cur day f=false) (hm:l.length+(x.filter (cuB cur)).length≤4096) (he:e=.returned (.int .i64 0)) (v':Value) (hx:LdA w' B b g cur day N L v' (l++x.filter (cuB cur))) (hc:Ch (LdS b v) w w'):TkO w B b g cur day N L v l x e w'
set_option maxRecDepth 20000 in
set_option maxHeartbeats 6400000 in
theorem zj (B b g L:Nat) (cur day N:Int) (v:Value) (l x:List Flw) (p:Option Addr) (bx off c M:Nat) (w:World) (hx:LdA w B b g cur day N L v l) (hl:JSrc aF w p bx off x) (hM:x.length=M) (hM2:M≤10000) (hll:l.length≤4096) :
  Calls Tryz.prog 41 #[.pointer (some ⟨b,0,none⟩),.slice p M c] w fun e w'=>TkO w B b g cur day N L v l x e w':=by
 have HX:=hideS hx
 have HQ:=hideS hl
 have HM:=hideS hM
 have HP:Hid (0<M→p=some ⟨bx,off,none⟩):=fun h=>hl.at_ (by omega)
 have HLl:=hideS hll
 have HO0:=hideS (ef aF w w.heap.size 77)
 clear hx hl hM hll
 go_enter Tryz.func41,Tryz.ntmps41
 go_wp2_with fail
 go_loopw [5,10] (fun u i wr=>∃ (k m:Nat) (q:Option Addr) (cp:Nat),k≤M∧i=.int .i64 k∧u=.slice q m cp∧m≤k∧Hid (m=((x.take k).filter (cuB cur)).length)∧Hid (wr.ownsRow w.heap.size 77 3 (.slice q m cp) m (aA aF ((x.take k).filter (cuB cur))))∧Hid (∀ i<k,paB cur day (x.getD i an)=false)∧Hid (Below w.heap.size w wr)) (fun _ i _=>M - (intOf i).toNat)
 case atStart=>exact⟨0,0,none,0,Nat.zero_le _,rfl,rfl,Nat.le_refl _,rfl,HO0,(fun i hi=>by omega),Below.refl _ _⟩
 case round=>
  clear HO0
  obtain⟨k,m,q0,cp,hk,rfl,rfl,hmk,HMl,HO,HA,HB⟩:=hrel
  by_cases hlt:k<M
  ·obtain rfl:=HP.out (by omega)
   obtain⟨c0,c1,c2⟩:=(HQ.out.below HB.out).cell k (by rw [HM.out];exact hlt)
   have HS:=hideS (xc cur (l:=x) (k:=k) (by rw [HM.out];exact hlt))
   have HAn:Hid (paB cur day (x.getD k an)=false→∀ i<k+1,paB cur day (x.getD i an)=false):=fun h i hi=>by
    by_cases e:i<k
    ·exact HA.out i e
    ·obtain rfl:i=k:=by omega
     exact h
   have HAb:Hid (paB cur day (x.getD k an)=true→∃ f ∈ x,paB cur day f=true):=fun h=>⟨_,ce (by rw [HM.out];exact hlt),h⟩
   have HQB:=hideS (fG wr (x.getD k an))
   obtain⟨⟨z0,z1,z2⟩,fz⟩:=cj wr
   have y0:=fz 0
   have y1:=fz 1
   have y2:=fz 2
   clear fz
   obtain⟨f,hf⟩:∃ f,x.getD k an=f:=⟨_,rfl⟩
   rw [hf] at HS HQB c0 c1 c2 HAn HAb
   clear hf
   obtain⟨qd,qa,qc⟩:=f
   dsimp only [aF] at *
   obtain⟨w2,hw2⟩:∃ w2,wr.alloc aS=w2:=⟨_,rfl⟩
   rw [hw2] at z0 z1 z2 y0 y1 y2 HQB
   unfold aS at hw2
   obtain⟨w3,hw3⟩:∃ w3,kv w2 wr.heap.size ⟨qd,qa,qc⟩=w3:=⟨_,rfl⟩
   rw [hw3] at HQB
   unfold kv at hw3
   dsimp only at hw3
   have t0:=HQB.out.t0
   have t1:=HQB.out.t1
   have t2:=HQB.out.t2
   dsimp only at t0 t1 t2
   have hst:=ei
   have HX3:=hideS ((HX.out.below HB.out).below HQB.out.bl)
   obtain⟨⟨_,d1,d2,_⟩,_⟩:=HX3.out.cells
   have HB3:Hid (Below w.heap.size w w3):=HB.out.trans (HQB.out.bl.mono HB.out.size)
   by_cases h1:qc=cur
   ·have e1:(qc !=cur)=false:=by rw [h1];simp
    by_cases h2:qd<day
    ·have e2:decide (qd<day)=true:=decide_eq_true h2
     have HAb2:=hideS (HAb.out (by unfold paB;rw [decide_eq_true h1,decide_eq_true h2];rfl))
     clear h1 h2 HS HAn HAb
     go_wp2_with fail
     go_quiet (fail)
     go_wp2_with fail
     go_quiet (fail)
     go_wp2_with fail
     go_ret
     exact .past HAb2.out rfl (dk (dk HB3.out _) _)
    ·have e2:decide (qd<day)=false:=decide_eq_false h2
     have HAn2:=hideS (HAn.out (by unfold paB;rw [decide_eq_false h2,Bool.and_false]))
     rw [if_pos h1] at HS
     clear h1 h2 HAn HAb
     have HLn:Hid (((x.take (k+1)).filter (cuB cur)).length=m+1):=by show _=_;rw [HS.out,List.length_append,← HMl.out];rfl
     have HB4:Hid (∀ q,Below w3.heap.size w3 ((w3.drewN q).alloc (.cells #[.int .i64 qd,.float .f64 qa,.int .i64 qc] 77))):=fun q=>(dk (Below.refl _ _) q).trans ((Below.refl w3.heap.size (w3.drewN q)).alloc (Nat.le_refl w3.heap.size) _)
     have HO4:Hid (∀ q,((w3.drewN q).alloc (.cells #[.int .i64 qd,.float .f64 qa,.int .i64 qc] 77)).ownsRow w.heap.size 77 3 (.slice q0 m cp) m (aA aF ((x.take k).filter (cuB cur)))):=fun q=>aL (aL HO.out HQB.out.bl) (HB4.out q)
     have HS4:Hid (∀ q,w.heap.size≤((w3.drewN q).alloc (.cells #[.int .i64 qd,.float .f64 qa,.int .i64 qc] 77)).heap.size):=fun q=>Nat.le_trans HB3.out.size (HB4.out q).size
     have HFc:Hid (∀ q,FCells aF ((w3.drewN q).alloc (.cells #[.int .i64 qd,.float .f64 qa,.int .i64 qc] 77)) w3.heap.size 0 ⟨qd,qa,qc⟩):=fun q=>kN (w3.drewN q) ⟨qd,qa,qc⟩
     have HBw:Hid (∀ q w5,Below w.heap.size ((w3.drewN q).alloc (.cells #[.int .i64 qd,.float .f64 qa,.int .i64 qc] 77)) w5→Below w.heap.size w w5):=fun q w5 h=>(HB3.out.trans ((HB4.out q).mono HB3.out.size)).trans h
     have hm9:(m+1)*24≤140737488355328:=by omega
     go_wp2_with fail
     go_quiet (fail)
     go_wp2_with fail
     go_quiet (fail)
     go_wp2_with (at_builtin;refine ek _ rfl (.tmp 28) (.tmp 30) rfl w.heap.size (.slice q0 m cp) m ((x.take k).filter (cuB cur)) rfl (HO4.out _) (HS4.out _) w3.heap.size ⟨qd,qa,qc⟩ rfl (HFc.out _) hm9 ?_;intro v5 w5 ho5 hb5;rw [← HS.out] at ho5;have HB5:=hideS (HBw.out _ _ hb5);obtain⟨q5,g5,k5,hv5,_,_,_,hm5⟩:=av ho5 HLn.out;subst hv5;have HO5:=hideS ho5;clear ho5 hb5)
     go_roundw
     case rel=>exact⟨k+1,m+1,q5,k5,by omega,by go_num,rfl,by omega,HLn.out.symm,HO5,HAn2,HB5⟩
     case measure=>simp [intOf];omega
   ·have e1:(qc !=cur)=true:=bne_iff_ne.2 h1
    have HAn2:=hideS (HAn.out (by unfold paB;rw [decide_eq_false h1,Bool.false_and]))
    rw [if_neg h1,List.append_nil] at HS
    clear h1 HAn HAb
    go_wp2_with fail
    go_quiet (fail)
    go_wp2_with fail
    go_roundw
    case rel=>
     refine⟨k+1,m,q0,cp,by omega,by go_num,rfl,by omega,?_,?_,HAn2,dk HB3.out _⟩
     ·show _=_
      rw [HS.out];exact HMl.out
     ·show World.ownsRow _ _ _ _ _ _ _
      rw [HS.out]
      exact aL HO.out (dk HQB.out.bl _)
    case measure=>simp [intOf];omega
  ·obtain rfl:k=M:=by omega
   have hall:x.take k=x:=by rw [← HM.out,List.take_length]
   rw [hall] at HMl HO
   clear hall
   have HXr:=hideS (HX.out.below HB.out)
   have HNp:Hid (∀ f ∈ x,paB cur day f=false):=fun f hf=>by
    obtain⟨i,hi,rfl⟩:=eM hf
    exact HA.out i (by rw [HM.out] at hi;exact hi)
   obtain⟨⟨_,_,_,d3⟩,fz⟩:=HXr.out.cells
   have f3:=fz 3
   clear fz
   obtain⟨pv,gv,cv,hv,hsv,_,hnc,hcm⟩:=av HXr.out.own rfl
   have HLx:Hid (l.length≤4096∧m≤10000):=⟨HLl.out,by omega⟩
   have hlw:(0:Int)≤(l.length:Int)∧(l.length:Int)≤4096:=⟨by omega,by have:=HLl.out;omega⟩
   obtain⟨n0,hn0⟩:∃ n0,l.length=n0:=⟨_,rfl⟩
   have HN0:=hideS hn0
   rw [hn0] at hv hlw HLx
   obtain⟨hl0,hl1⟩:=hlw
   subst hv
   clear hn0 hsv
   by_cases hmn:4096<n0+m
   ·have e1:decide (4096<(n0:Int)+(m:Int))=true:=decide_eq_true (by omega)
    have HMn:Hid (4096<l.length+(x.filter (cuB cur)).length):=by show _<_;rw [HN0.out,← HMl.out];exact hmn
    clear hmn
    go_wp2_with fail
    go_ret
    exact .many HNp.out HMn.out rfl HB.out
   ·have e1:decide (4096<(n0:Int)+(m:Int))=false:=decide_eq_false (by omega)
    have HMn:Hid (l.length+(x.filter (cuB cur)).length≤4096):=by show _≤_;rw [HN0.out,← HMl.out];omega
    obtain⟨po,go,co,ho,hso,_,_,_⟩:=av HO.out HMl.out.symm
    have HSo:=hideS hso
    have hnil:po=none→m=0∧co=0:=fun h=>by
     subst h
     rcases HO.out.2 with⟨e,h⟩| ⟨g',cap,cs,e,_⟩
     ·injection e with _ e1 e2
      injection ho with _ h1 h2
      exact⟨h,by rw [← h2];exact e2⟩
     ·injection e with e;injection ho with h1;rw [h1] at e;cases e
    have HNil:=hideS hnil
    have hB:B≤wr.heap.size:=Nat.le_trans HXr.out.lo (Nat.le_of_lt HXr.out.lt)
    have HBs:=hideS hB
    have hoo:=HXr.out.own
    rw [HN0.out] at hoo
    have HOo:=hideS hoo
    injection ho with ho1 ho2 ho3
    subst ho1 ho3
    clear hnil hB hoo hso hmn ho2
    go_wp2_with (at_builtin;refine bE _ rfl (.tmp 46) (.tmp 47) rfl B (.slice pv n0 cv) n0 l rfl HOo.out q0 go 0 cp m (x.filter (cuB cur)) rfl HMl.out.symm HSo.out HNil.out (by have:=HLx.out;omega) HBs.out ?_;intro v5 w5 ho5 hg5;have HO5:=hideS ho5;have HG5:=hideS hg5;obtain⟨q5,g5,k5,hv5,_,_,_,_⟩:=av ho5 (by rw [List.length_append,HN0.out,← HMl.out]);subst hv5;have hblk5:=(hg5.block b HXr.out.lt (fun e=>HXr.out.ne e.symm)).trans HXr.out.blk;have r3:w5.cell? ⟨b,3,none⟩=some (.slice pv n0 cv):=(by simp [World.cell?,hblk5]);have y3:w5.frozen? ⟨b,3,none⟩=false:=frozen_of_row _ _ 3 _ _ hblk5;have HBk:=hideS hblk5;clear ho5 hg5 hblk5)
    go_ret
    have hc5:Ch (LdS b (.slice pv n0 cv)) wr w5:=⟨HG5.out.os,HG5.out.tape,HG5.out.output,HG5.out.size,fun k hk hn=>HG5.out.block k hk (fun e=>hn (Or.inr e.symm))⟩
    have hc6:Ch (fun k=>k=b) w5 (w5.setCell ⟨b,3,none⟩ (.slice q5 (n0+m) k5)):=(Ch.refl (fun k=>k=b) w5).set (S:=fun k=>k=b) rfl _
    have o5:Oth w5 (fun k=>k=b):=fun k cs t fz e h=>by
     subst e;rw [HBk.out] at h;injection h with h;injection h with _ h _;subst h;decide
    refine .ok HNp.out HMn.out rfl (.slice q5 (n0+m) k5) ⟨bW _ HBk.out,HXr.out.lo,?_,(HXr.out.cash.ch hc5 HXr.out.oth).ch hc6 o5⟩ ((Ch.of_below HB.out).trans (hc5.trans (hc6.mono fun k _ hk=>Or.inl hk)))
    have h7:=cT HO5.out hc6 (fun k hk c=>by
     subst c
     obtain⟨_,_,cs,e⟩:=cU HO5.out hk
     rw [HBk.out] at e;injection e with e;injection e with _ e _;revert e;decide)
    rw [List.length_append,HN0.out,← HMl.out]
    exact h7
end Go.Proofs.YtjjlnmihkadlmaaGreat
namespace Go.Proofs.YtjjlnmihkadlmaaGreat
open Go.RowKit

inductive NwR (l:List Flw) (cur day:Int):Int→Prop
 | flow (E K:Int) (h:ChkF l E K) (hE:E≠0):NwR l cur day E
 | cur (h:ChkF l 0 0) (hc:¬ (1≤cur∧cur≤8)):NwR l cur day 140
 | day (h:ChkF l 0 0) (hc:1≤cur∧cur≤8) (hd:¬ (0≤day∧day≤109572)):NwR l cur day 51
 | past (h:ChkF l 0 0) (hc:1≤cur∧cur≤8) (hd:0≤day∧day≤109572) (hp:∃ f ∈ l,paB cur day f=true):NwR l cur day 240
 | ok (h:ChkF l 0 0) (hc:1≤cur∧cur≤8) (hd:0≤day∧day≤109572) (hp:∀ f ∈ l,paB cur day f=false):NwR l cur day 0
theorem FI (l:List Flw) (cur day:Int):∃ E,NwR l cur day E:=by
 obtain⟨e,k,h⟩:=oS l
 by_cases he:e=0
 ·subst he
  obtain rfl:=cM h
  by_cases hc:1≤cur∧cur≤8
  ·by_cases hd:0≤day∧day≤109572
   ·by_cases hp:∃ f ∈ l,paB cur day f=true
    ·exact⟨240,.past h hc hd hp⟩
    ·exact⟨0,.ok h hc hd fun f hf=>by
      cases e:paB cur day f
      ·rfl
      ·exact absurd ⟨f,hf,e⟩ hp⟩
   ·exact⟨51,.day h hc hd⟩
  ·exact⟨140,.cur h hc⟩
 ·exact⟨e,.flow e k h he⟩
theorem FJ {w:World} {g L B:Nat} (cur day:Int) (h:WAt w g 0 L) (hB:B≤w.heap.size):LdA (w.alloc (.cells #[.pointer (some ⟨g,0,none⟩),.int .i64 cur,.int .i64 day,.slice none 0 0] 98)) B w.heap.size g cur day 0 L (.slice none 0 0) []:=
 ⟨heap_alloc_new _ _,hB,ef _ _ _ _,h.below ((Below.refl _ _).alloc (Nat.le_refl _) _)⟩
def NwO (w:World) (cur day:Int) (l:List Flw) (E:Int) (e:Ending) (w':World):Prop:=
 (E≠0∧e=.returned (.tuple #[.pointer none,.int .i64 E]))∨(E=0∧∃ b g v,e=.returned (.tuple #[.pointer (some ⟨b,0,none⟩),.int .i64 0])∧LdA w' w.heap.size b g cur day 0 70 v (l.filter (cuB cur)))
set_option maxRecDepth 20000 in
set_option maxHeartbeats 3200000 in
theorem jp (l:List Flw) (cur day E:Int) (p:Option Addr) (bx off c M:Nat) (w:World) (hE:NwR l cur day E) (hl:JSrc aF w p bx off l) (hM:l.length=M) (hM2:M≤9223372036854775807) (hf:dL l) :
  Calls Tryz.prog 9 #[.slice p M c,.int .i64 cur,.int .i64 day] w fun e w'=>NwO w cur day l E e w'∧Below w.heap.size w w':=by
 obtain⟨E1,K1,h1⟩:=oS l
 have HC:=hideS (kM l p bx off c M E1 K1 w hl hM hM2 hf h1)
 have HI:=hideS fun wx=>xb cur 1 8 wx
 have HDy:=hideS fun wx=>mC day wx
 have HEm:=hideS fun wx=>vB wx
 have HQ:=hideS hl
 have HM:=hideS hM
 have HE:=hideS hE
 have H1:=hideS h1
 clear hl hM hf hE h1
 by_cases e1:E1=0
 ·subst e1
  have hlen:M≤4096:=by
   have:=H1.out
   rw [cM this] at this
   rw [← HM.out];exact (qt this).1
  by_cases hc:1≤cur∧cur≤8
  ·by_cases hd:0≤day∧day≤109572
   ·rw [decide_eq_true hc] at HI
    rw [decide_eq_true hd] at HDy
    have HK:=hideS (And.intro hc hd)
    have HTk:=hideS fun (b g:Nat) (wx:World) (hx:LdA wx w.heap.size b g cur day 0 70 (.slice none 0 0) []) (hb:Below w.heap.size w wx)=>zj w.heap.size b g 70 cur day 0 (.slice none 0 0) [] l p bx off c M wx hx (HQ.out.below hb) HM.out (by omega) (by simp)
    clear hc hd HQ
    go_enter Tryz.func9,Tryz.ntmps9
    go_wp2_with fail
    refine (HC.out).mono ?_
    rintro e w2 ⟨rfl,hb2⟩
    have HB2:=hideS hb2
    clear hb2 HC
    go_wp2_with fail
    refine (turned (HI.out _)).mono ?_
    rintro e w' ⟨rfl,rfl⟩
    go_wp2_with fail
    refine (turned (HDy.out _)).mono ?_
    rintro e w' ⟨rfl,rfl⟩
    go_wp2_with fail
    refine (HEm.out _).mono ?_
    rintro e w3 ⟨g,rfl,hw3,hb3⟩
    have HB3:Hid (Below w.heap.size w w3):=HB2.out.trans (hb3.mono HB2.out.size)
    have HLd:=hideS (FJ cur day hw3 HB3.out.size)
    have HB4:Hid (Below w.heap.size w (w3.alloc (.cells #[.pointer (some ⟨g,0,none⟩),.int .i64 cur,.int .i64 day,.slice none 0 0] 98))):=HB3.out.alloc HB3.out.size _
    have HT4:=hideS (HTk.out _ _ _ HLd.out HB4.out)
    clear hw3 hb3 HEm HI HDy HTk HB2
    go_wp2_with fail
    refine (HT4.out).mono ?_
    intro e w5 ht5
    cases ht5 with
    | past h he hb=>
     subst he
     have HP:=hideS (And.intro h hb)
     clear h hb
     go_wp2_with fail
     go_ret2
     refine⟨Or.inl ?_,HB4.out.trans (HP.out.2.mono HB4.out.size)⟩
     have e9:E=240:=by
      have h0:=H1.out
      rw [cM h0] at h0
      obtain⟨f,hf,hp⟩:=HP.out.1
      cases HE.out with
      | flow E K h hE=>exact absurd (aq h h0).1 hE
      | cur _ hc=>exact absurd HK.out.1 hc
      | day _ _ hd=>exact absurd HK.out.2 hd
      | past=>rfl
      | ok _ _ _ hn=>have:=hn f hf;rw [hp] at this;cases this
     subst e9
     exact⟨by decide,rfl⟩
    | many h hm he hb=>
     exfalso
     have:=List.length_filter_le (cuB cur) l
     have hM3:=HM.out
     simp only [List.length_nil] at hm
     omega
    | ok h hm he v' hx hc=>
     subst he
     have HP:=hideS (And.intro h (And.intro hx hc))
     clear h hx hc hm
     go_wp2_with fail
     go_ret2
     have e9:E=0:=by
      have h0:=H1.out
      rw [cM h0] at h0
      cases HE.out with
      | flow E K h hE=>exact absurd (aq h h0).1 hE
      | cur _ hc=>exact absurd HK.out.1 hc
      | day _ _ hd=>exact absurd HK.out.2 hd
      | past _ _ _ hp=>obtain⟨f,hf,hp⟩:=hp;have:=HP.out.1 f hf;rw [hp] at this;cases this
      | ok=>rfl
     refine⟨Or.inr ⟨e9,_,g,v',rfl,?_⟩,HB4.out.trans (HP.out.2.2.below HB4.out.size fun k hk=>HLd.out.low hk)⟩
     have:=HP.out.2.1
     rw [List.nil_append] at this
     exact this
   ·rw [decide_eq_true hc] at HI
    rw [decide_eq_false hd] at HDy
    have HK:=hideS (And.intro hc hd)
    clear hc hd HQ HEm
    go_enter Tryz.func9,Tryz.ntmps9
    go_wp2_with fail
    refine (HC.out).mono ?_
    rintro e w2 ⟨rfl,hb2⟩
    have HB2:=hideS hb2
    clear hb2 HC
    go_wp2_with fail
    refine (turned (HI.out _)).mono ?_
    rintro e w' ⟨rfl,rfl⟩
    go_wp2_with fail
    refine (turned (HDy.out _)).mono ?_
    rintro e w' ⟨rfl,rfl⟩
    go_wp2_with fail
    go_ret2
    refine⟨Or.inl ?_,HB2.out⟩
    have e9:E=51:=by
     have h0:=H1.out
     rw [cM h0] at h0
     cases HE.out with
     | flow E K h hE=>exact absurd (aq h h0).1 hE
     | cur _ hc=>exact absurd HK.out.1 hc
     | day=>rfl
     | past _ _ hd=>exact absurd hd HK.out.2
     | ok _ _ hd=>exact absurd hd HK.out.2
    subst e9
    exact⟨by decide,rfl⟩
  ·rw [decide_eq_false hc] at HI
   have HK:=hideS hc
   clear hc HQ HEm HDy
   go_enter Tryz.func9,Tryz.ntmps9
   go_wp2_with fail
   refine (HC.out).mono ?_
   rintro e w2 ⟨rfl,hb2⟩
   have HB2:=hideS hb2
   clear hb2 HC
   go_wp2_with fail
   refine (turned (HI.out _)).mono ?_
   rintro e w' ⟨rfl,rfl⟩
   go_wp2_with fail
   go_ret2
   refine⟨Or.inl ?_,HB2.out⟩
   have e9:E=140:=by
    have h0:=H1.out
    rw [cM h0] at h0
    cases HE.out with
    | flow E K h hE=>exact absurd (aq h h0).1 hE
    | cur=>rfl
    | day _ hc _=>exact absurd hc HK.out
    | past _ hc _=>exact absurd hc HK.out
    | ok _ hc _=>exact absurd hc HK.out
   subst e9
   exact⟨by decide,rfl⟩
 ·have d1:(E1 !=0)=true:=bne_iff_ne.2 e1
  have HN:=hideS e1
  clear e1 HQ HEm HDy HI
  go_enter Tryz.func9,Tryz.ntmps9
  go_wp2_with fail
  refine (HC.out).mono ?_
  rintro e w2 ⟨rfl,hb2⟩
  have HB2:=hideS hb2
  clear hb2 HC
  go_wp2_with fail
  go_ret2
  refine⟨Or.inl ?_,HB2.out⟩
  have e9:E=E1:=by
   have h0:=H1.out
   cases HE.out with
   | flow E K h hE=>exact (aq h h0).1
   | cur h _=>exact absurd (aq h0 h).1 HN.out
   | day h _ _=>exact absurd (aq h0 h).1 HN.out
   | past h _ _=>exact absurd (aq h0 h).1 HN.out
   | ok h _ _=>exact absurd (aq h0 h).1 HN.out
  rw [e9]
  exact⟨HN.out,rfl⟩
end Go.Proofs.YtjjlnmihkadlmaaGreat
namespace Go.Proofs.YtjjlnmihkadlmaaGreat
open Go.RowKit

def fA24:Flw:=⟨10,4616189618054758400,1⟩
def nr:Flw:=⟨20,4620693217682128896,1⟩
def Gx:Flw:=⟨10,4607182418800017408,2⟩
def l24:List Flw:=[fA24,nr,Gx]
def c24d:List Int:=[100,200]
def c24f:List Nat:=[4602678819172646912,4598175219545276416]
theorem Ep:∀ f ∈ l24,cB f=0:=by
 intro f hf
 unfold l24 at hf
 simp only [List.mem_cons,List.not_mem_nil,or_false] at hf
 rcases hf with rfl | rfl | rfl<;>decide
theorem Eq:dL l24:=fun i=>by
 rcases i with _ | _ | _ | i
 ·decide
 ·decide
 ·decide
 ·show (an).am<_;decide
theorem FM:NwR l24 1 5 0:=.ok (.fine (by decide) fun i hi=>Ep _ (ce hi)) (by decide) (by decide) (by
 intro f hf
 unfold l24 at hf
 simp only [List.mem_cons,List.not_mem_nil,or_false] at hf
 rcases hf with rfl | rfl | rfl<;>decide)
theorem FN:l24.filter (cuB 1)=[fA24,nr]:=rfl
theorem tx:([fA24,nr]:List Flw).filter (fun f=>decide (f.day<11))=[fA24]:=rfl
theorem CF:([fA24,nr]:List Flw).filter (ao 11)=[nr]:=rfl
theorem v24:iO (0+wsI 1 parC [fA24])=4616189618054758400:=by
 have h1:wsI 1 parC [fA24]=(A.fW (4616189618054758400:Nat) (4607182418800017408:Nat)).N:=by
  unfold wsI wsI ctI prI
  rw [if_pos (by decide)]
  have:parC.V fA24.day=4607182418800017408:=CA (by decide) (by decide)
  rw [this,Int.add_zero]
  rfl
 rw [h1,Int.zero_add]
 decide+kernel
theorem Gt:OkV 0 2 c24d c24f:=⟨by decide,by decide,by decide,by decide,by decide,by decide,rfl,fun i hi=>by
 rcases i with _ | _ | i
 ·decide
 ·decide
 ·simp [c24d] at hi;omega⟩
theorem q24:qW 4598175219545276416 4602678819172646912=4602678819172646912:=by decide+kernel
theorem FO (pd pf:Option Addr) (bd od cd b2 o2 cf:Nat) (w:World) (hs:TFl w pd pf bd od b2 o2 c24d c24f) :
  Calls Tryz.prog 27 #[.agg #[.int .i64 0,.int .i64 2,.slice pd 2 cd,.slice pf 2 cf],.int .i64 100] w fun e w'=>∃ gx cx gy cy,e=.returned (.tuple #[.agg #[.int .i64 100,.int .i64 2,.slice (some ⟨gx,0,none⟩) 1 cx,.slice (some ⟨gy,0,none⟩) 1 cy],.int .i64 0])∧w'.cell? ⟨gy,0,none⟩=some (.float .f64 4602678819172646912)∧Below w.heap.size w w':=by
 refine (zo 0 2 100 pd pf bd od cd b2 o2 cf c24d c24f w hs).mono fun e w' h=>?_
 obtain⟨h,hb⟩:=h
 have hl:c24d.length=2:=rfl
 cases h with
 | bad E hE h0 he=>exact absurd (cS Gt hE) h0
 | out ok h he=>
  have e1:c24d.getD (c24d.length - 1) 0=200:=rfl
  rw [e1] at h;omega
 | in_ ok h0 h1 s hs h=>
  have hF:=(yW Gt (i:=0) (by decide)).1
  have hF2:facV 0 2 c24d c24f 100=4602678819172646912:=hF
  have es:s=1:=by
   have a:=hs.lt
   have b:=hs.le
   have c:=hs.gt
   rw [hl] at a
   rcases (show s=0∨s=1 by omega) with rfl | rfl
   ·have:=c 0 (Nat.le_refl _) (by decide)
    have e2:c24d.getD 0 0=100:=rfl
    rw [e2] at this;omega
   ·rfl
  subst es
  rw [hF2] at h
  have hg:gdQ (qW (c24f.getD 1 0) 4602678819172646912):=by
   have e3:c24f.getD 1 0=4598175219545276416:=rfl
   rw [e3,q24];unfold gdQ;omega
  rcases h with⟨_,j,h2,h3,h4⟩| ⟨gx,cx,gy,cy,_,he,_,hy⟩
  ·rw [hl] at h3
   obtain rfl:j=1:=by omega
   exact absurd hg h4
  ·refine⟨gx,cx,gy,cy,he,?_,hb⟩
   obtain⟨g,c,e4,s4,_⟩:=eO (xs:=qL c24f 4602678819172646912 1) hy (by rw [qA];rfl) (by decide)
   injection e4 with e4
   injection e4 with e4
   injection e4 with e4
   subst e4
   have h5:=s4.cell 0 (by decide)
   rw [Nat.zero_add] at h5
   rw [h5]
   show some (Value.float .f64 ((qL c24f 4602678819172646912 1).getD 0 0))=_
   rw [EC c24f _ (s:=1) (j:=0) (by decide)]
   have e3:c24f.getD (1+0) 0=4598175219545276416:=rfl
   rw [e3,q24]
theorem Gu (w:World):JSrc aF (w.alloc (.cells #[.int .i64 10,.float .f64 4616189618054758400,.int .i64 1,.int .i64 20,.float .f64 4620693217682128896,.int .i64 1,.int .i64 10,.float .f64 4607182418800017408,.int .i64 2] 77)) (some ⟨w.heap.size,0,none⟩) w.heap.size 0 l24:=by
 refine⟨fun _=>rfl,fun _=>by simp,fun i hi=>?_⟩
 have hc:∀ j,(w.alloc (.cells #[.int .i64 10,.float .f64 4616189618054758400,.int .i64 1,.int .i64 20,.float .f64 4620693217682128896,.int .i64 1,.int .i64 10,.float .f64 4607182418800017408,.int .i64 2] 77)).cell? ⟨w.heap.size,j,none⟩=(#[.int .i64 10,.float .f64 4616189618054758400,.int .i64 1,.int .i64 20,.float .f64 4620693217682128896,.int .i64 1,.int .i64 10,.float .f64 4607182418800017408,.int .i64 2]:Array Value)[j]? :=fun j=>eN w _ _ j
 rcases i with _ | _ | _ | i
 ·exact⟨hc 0,hc 1,hc 2⟩
 ·exact⟨hc 3,hc 4,hc 5⟩
 ·exact⟨hc 6,hc 7,hc 8⟩
 ·simp [l24] at hi;omega
theorem Gv (w:World):TFl ((w.alloc (.cells #[.int .i64 100,.int .i64 200] 3)).alloc (.cells #[.float .f64 4602678819172646912,.float .f64 4598175219545276416] 54)) (some ⟨w.heap.size,0,none⟩) (some ⟨w.heap.size+1,0,none⟩) w.heap.size 0 (w.heap.size+1) 0 c24d c24f:=by
 obtain⟨w1,hw1⟩:∃ w1,w.alloc (.cells #[.int .i64 100,.int .i64 200] 3)=w1:=⟨_,rfl⟩
 have z1:w.heap.size+1=w1.heap.size:=by rw [← hw1];simp
 have c1:∀ j,w1.cell? ⟨w.heap.size,j,none⟩=(#[.int .i64 100,.int .i64 200]:Array Value)[j]? :=fun j=>by rw [← hw1];exact eN w _ _ j
 rw [hw1,z1]
 have c2:∀ j,(w1.alloc (.cells #[.float .f64 4602678819172646912,.float .f64 4598175219545276416] 54)).cell? ⟨w1.heap.size,j,none⟩=(#[.float .f64 4602678819172646912,.float .f64 4598175219545276416]:Array Value)[j]? :=fun j=>eN w1 _ _ j
 have hb:Below w1.heap.size w1 (w1.alloc (.cells #[.float .f64 4602678819172646912,.float .f64 4598175219545276416] 54)):=(Below.refl _ _).alloc (Nat.le_refl _) _
 refine⟨⟨fun _=>rfl,fun _=>by simp;omega,fun j hj=>?_⟩,⟨fun _=>rfl,fun _=>by simp,fun j hj=>?_⟩,fun i hi=>?_⟩
 ·refine (hb.cell (p:=⟨w.heap.size,0+j,none⟩) (by show w.heap.size<w1.heap.size;omega)).trans ((c1 (0+j)).trans ?_)
  rcases j with _ | _ | j
  ·rfl
  ·rfl
  ·simp [c24d] at hj;omega
 ·refine (c2 (0+j)).trans ?_
  rcases j with _ | _ | j
  ·rfl
  ·rfl
  ·simp [c24f] at hj;omega
 ·rcases i with _ | _ | i
  ·decide
  ·decide
  ·simp [c24f] at hi;omega
theorem Gw:(FloatKind.f64.format.order 4616189618054758400 4616189618054758400==some .eq)=true∧(FloatKind.f64.format.order 4602678819172646912 4602678819172646912==some .eq)=true:=by decide+kernel
set_option maxRecDepth 40000 in
set_option maxHeartbeats 6400000 in
theorem jq (w:World):Calls Tryz.prog 8 #[] w fun e w'=>e=.returned (.bool true)∧Below w.heap.size w w':=by
 obtain⟨w1,hw1⟩:∃ w1,w.alloc (.cells #[.int .i64 10,.float .f64 4616189618054758400,.int .i64 1,.int .i64 20,.float .f64 4620693217682128896,.int .i64 1,.int .i64 10,.float .f64 4607182418800017408,.int .i64 2] 77)=w1:=⟨_,rfl⟩
 have hb1:Below w.heap.size w w1:=by rw [← hw1];exact (Below.refl _ _).alloc (Nat.le_refl _) _
 have hs1:=Gu w
 rw [hw1] at hs1
 have HN:=hideS (jp l24 1 5 0 (some ⟨w.heap.size,0,none⟩) w.heap.size 0 3 3 w1 FM hs1 rfl (by omega) Eq)
 have HB1:=hideS hb1
 clear hb1 hs1
 go_enter Tryz.func8,Tryz.ntmps8
 go_wp2_with fail
 refine (HN.out).mono ?_
 rintro e w2 ⟨h2,hb2⟩
 rcases h2 with⟨h,_⟩| ⟨_,b,g,v,rfl,hx2⟩
 ·exact absurd rfl h
 rw [FN] at hx2
 have HX2:=hideS hx2
 have HB2:Hid (Below w.heap.size w w2∧w.heap.size≤w1.heap.size):=⟨HB1.out.trans (hb2.mono HB1.out.size),HB1.out.size⟩
 have HPs:=hideS (gf w1.heap.size b g 70 1 5 11 0 v [fA24,nr] w2 hx2 (by decide) (by decide) (by decide) (by
  intro f hf
  simp only [List.mem_cons,List.not_mem_nil,or_false] at hf
  rcases hf with rfl | rfl<;>decide) (by decide) (by decide) (by
  intro f hf
  simp only [List.mem_cons,List.not_mem_nil,or_false] at hf
  rcases hf with rfl | rfl<;>decide) (fun i=>by
  rcases i with _ | _ | i
  ·decide
  ·decide
  ·show (an).am<_;decide) (by omega))
 clear hx2 hb2 HN HB1 hw1
 go_wp2_with fail
 refine (HPs.out).mono ?_
 intro e w3 h3
 obtain⟨⟨u,rfl,ho⟩,⟨g3,v3,_,hx3⟩,hc3⟩:=h3
 rw [tx] at hx3
 rw [CF] at hx3
 rw [tx] at ho
 obtain⟨pu,_,cu,hu,_,_,_,_⟩:=av ho rfl
 subst hu
 have HX3:=hideS hx3
 have HB3:Hid (Below w.heap.size w w3):=HB2.out.1.trans (hc3.below HB2.out.1.size fun k hk=>by have:=HX2.out.low hk;have:=HB2.out.2;omega)
 have HCs:=hideS (jR w1.heap.size b g3 _ 1 11 _ v3 [nr] w3 hx3 (by decide))
 have hv:=v24
 rw [hv] at HCs
 have ht:qk 4616189618054758400=4616189618054758400∧tj 4616189618054758400=0:=by decide
 rw [ht.1,ht.2] at HCs
 clear hx3 hc3 ho HPs hv ht HX2 HB2
 go_wp2_with fail
 refine (HCs.out).mono ?_
 rintro e w4 ⟨rfl,hb4⟩
 have HX4:=hideS (HX3.out.below hb4)
 have HB4:Hid (Below w.heap.size w w4):=HB3.out.trans (hb4.mono HB3.out.size)
 have HPb:=hideS (gL w1.heap.size b g3 _ 1 11 10 _ 240 v3 [nr] w4 HX4.out (Or.inr ⟨by decide,by decide,rfl⟩))
 clear hb4 HX3 HB3 HCs
 go_wp2_with fail
 refine (HPb.out).mono ?_
 rintro e w5 ⟨rfl,hb5⟩
 have HX5:=hideS (HX4.out.below hb5)
 have HB5:Hid (Below w.heap.size w w5):=HB4.out.trans (hb5.mono HB4.out.size)
 have HRl:=hideS (FO _ _ _ _ 2 _ _ 2 _ (Gv w5))
 have HA6:Hid (Below w5.heap.size w5 ((w5.alloc (.cells #[.int .i64 100,.int .i64 200] 3)).alloc (.cells #[.float .f64 4602678819172646912,.float .f64 4598175219545276416] 54))):=((Below.refl _ _).alloc (Nat.le_refl _) _).alloc (by simp) _
 clear hb5 HX4 HB4 HPb
 go_wp2_with fail
 refine (HRl.out).mono ?_
 rintro e w6 ⟨gx,cx,gy,cy,rfl,hc6,hb6⟩
 have HB56:Hid (Below w5.heap.size w5 w6):=HA6.out.trans (hb6.mono HA6.out.size)
 have HX6:=hideS (HX5.out.below HB56.out)
 have HB6:Hid (Below w.heap.size w w6):=HB5.out.trans (HB56.out.mono HB5.out.size)
 have hlt:=World.block_lt_of_cell? _ _ hc6
 have HC6:=hideS hc6
 obtain⟨w7,hw7⟩:∃ w7,w6.alloc (.cells #[.int .i64 100,.int .i64 2,.slice (some ⟨gx,0,none⟩) 1 cx,.slice (some ⟨gy,0,none⟩) 1 cy] 43)=w7:=⟨_,rfl⟩
 have hb7:Below w6.heap.size w6 w7:=by rw [← hw7];exact (Below.refl _ _).alloc (Nat.le_refl _) _
 have hk7:w7.heap[w6.heap.size]? =some (.cells #[.int .i64 100,.int .i64 2,.slice (some ⟨gx,0,none⟩) 1 cx,.slice (some ⟨gy,0,none⟩) 1 cy] 43):=by rw [← hw7];exact heap_alloc_new _ _
 have HX7:=hideS (HX6.out.below hb7)
 have HB7:Hid (Below w.heap.size w w7):=HB6.out.trans (hb7.mono HB6.out.size)
 have hc7:w7.cell? ⟨gy,0,none⟩=some (.float .f64 4602678819172646912):=(hb7.cell (p:=⟨gy,0,none⟩) hlt).trans hc6
 have HC7:=hideS (And.intro hc7 hk7)
 have HDy:=hideS (mD w1.heap.size b g3 _ 1 11 _ v3 [nr] w7 HX7.out)
 have HLf:=hideS (dr w1.heap.size b g3 _ 1 11 _ v3 [nr] w7 HX7.out (by decide))
 obtain⟨o1,o2⟩:=Gw
 clear hc6 hb6 hlt hb7 hk7 hc7 HX5 HB5 HRl HA6 HX6 HB6 HC6 HB56
 go_wp2_with fail
 refine (turned (HDy.out)).mono ?_
 rintro e w' ⟨rfl,rfl⟩
 go_wp2_with fail
 refine (HLf.out).mono ?_
 rintro e w8 ⟨⟨u8,rfl,ho8⟩,hb8⟩
 obtain⟨pu8,_,cu8,hu8,_,_,_,_⟩:=av ho8 rfl
 subst hu8
 have hk8:w8.heap[w6.heap.size]? =some (.cells #[.int .i64 100,.int .i64 2,.slice (some ⟨gx,0,none⟩) 1 cx,.slice (some ⟨gy,0,none⟩) 1 cy] 43):=(hb8.block _ (Array.getElem?_eq_some_iff.1 HC7.out.2).1).trans HC7.out.2
 have k3:w8.cell? ⟨w6.heap.size,3,none⟩=some (.slice (some ⟨gy,0,none⟩) 1 cy):=by simp [World.cell?,hk8]
 have k4:w8.cell? ⟨gy,0,none⟩=some (.float .f64 4602678819172646912):=(hb8.cell (p:=⟨gy,0,none⟩) (World.block_lt_of_cell? _ _ HC7.out.1)).trans HC7.out.1
 have HB8:Hid (Below w.heap.size w w8):=HB7.out.trans (hb8.mono HB7.out.size)
 clear ho8 hb8 hk8 hw7
 dsimp only [List.length_cons,List.length_nil]
 go_wp2_with fail
 go_ret
 exact⟨rfl,HB8.out⟩
end Go.Proofs.YtjjlnmihkadlmaaGreat
namespace Go.Proofs.YtjjlnmihkadlmaaGreat
open Go.RowKit

def uS:List Flw→Int
 | []=>0
 | f::l=>A.kj (f.am:Int)+uS l
theorem gM:∀ a b:List Flw,uS (a++b)=uS a+uS b
 | [],b=>by simp [uS]
 | f::a,b=>by simp only [List.cons_append,uS];rw [gM a b,Int.add_assoc]
theorem CG (u:Int):(A.fW u (4607182418800017408:Nat)).N=A.kj u:=by
 have hm:aC ((4607182418800017408:Nat):Int)=4503599627370496:=by decide+kernel
 have he:aJ ((4607182418800017408:Nat):Int)= -52:=by decide+kernel
 unfold A.fW A.kj
 simp only
 rw [hm,he]
 have hlo: -1074≤aJ u:=by
  unfold aJ
  split
  ·unfold iI
   split<;>omega
  ·omega
 obtain⟨e,h1⟩:∃ e:Nat,aJ u+2148=(e:Int)+52:=⟨(aJ u+2148 - 52).toNat,by omega⟩
 have e1:(aJ u+ -52+2148).toNat=e:=by omega
 have e2:(aJ u+2148).toNat=e+52:=by omega
 rw [e1,e2,Int.pow_add,Int.mul_assoc]
 congr 1
 rw [Int.mul_comm]
 rfl
theorem qB {cur:Int}:∀ {l:List Flw},(∀ f ∈ l,f.cur=cur∧cB f=0)→(∀ f ∈ l,f.am<18446744073709551616)→wsI cur parC l=uS l
 | [],_,_=>rfl
 | f::l,h,hf=>by
  have h1:=h f (List.mem_cons_self ..)
  have hd:0≤f.day∧f.day≤109572:=by
   have hb:=h1.2
   unfold cB at hb
   split at hb
   ·cases hb
   ·rename_i hd;exact Classical.not_not.1 hd
  have ht:tkB cur parC.base f=true:=by
   unfold tkB
   rw [decide_eq_true h1.1,Bool.true_and]
   exact decide_eq_true hd.1
  have hc:ctI cur parC f=A.kj (f.am:Int):=by
   unfold ctI prI
   rw [if_pos ht,CA hd.1 hd.2,CG]
  unfold wsI uS
  rw [qB (fun g hg=>h g (List.mem_cons_of_mem _ hg)) (fun g hg=>hf g (List.mem_cons_of_mem _ hg)),hc]
theorem qC (n:Int):∀ l:List Flw,(l.filter (fun f=>decide (f.day<n))).length+(l.filter (ao n)).length=l.length∧uS (l.filter (fun f=>decide (f.day<n)))+uS (l.filter (ao n))=uS l
 | []=>⟨rfl,rfl⟩
 | f::l=>by
  obtain⟨h1,h2⟩:=qC n l
  by_cases h:f.day<n
  ·have e1:decide (f.day<n)=true:=decide_eq_true h
   have e2:ao n f=false:=decide_eq_false (by omega)
   rw [List.filter_cons_of_pos (by simpa using h),List.filter_cons_of_neg (by rw [e2];decide)]
   simp only [List.length_cons,uS]
   omega
  ·have e2:ao n f=true:=decide_eq_true (by omega)
   rw [List.filter_cons_of_neg (by simpa using h),List.filter_cons_of_pos e2]
   simp only [List.length_cons,uS]
   omega
theorem gN {a n:Int} (h:a≤n) (l:List Flw):(l.filter (ao a)).filter (ao n)=l.filter (ao n):=by
 rw [List.filter_filter]
 apply List.filter_congr
 intro f _
 unfold ao
 by_cases h1:n≤f.day
 ·rw [decide_eq_true h1,decide_eq_true (by omega)];rfl
 ·rw [decide_eq_false h1];rfl
structure SpI (mine P:List Flw) (cur day at_ N:Int) (L k:Nat):Prop where
 mem:∀ f ∈ P,f ∈ mine
 len:P.length+(mine.filter (ao at_)).length=mine.length
 sum:uS P+uS (mine.filter (ao at_))=uS mine
 cash:N=uS P
 lo:day≤at_
 hi:at_≤109572
 L:L≤70+k*140
theorem SpI.step {mine P:List Flw} {cur day at_ N:Int} {L k:Nat} (h:SpI mine P cur day at_ N L k) (hm:∀ f ∈ mine,f.cur=cur∧cB f=0) (hf:∀ f ∈ mine,f.am<18446744073709551616) (h60:mine.length≤60) {n:Int} (hn:at_≤n) (hn2:n≤109572) :
  SpI mine (P++(mine.filter (ao at_)).filter (fun f=>decide (f.day<n))) cur day n (N+wsI cur parC ((mine.filter (ao at_)).filter (fun f=>decide (f.day<n)))) (L+(mine.filter (ao at_)).length+71) (k+1):=by
 have hl:=List.length_filter_le (ao at_) mine
 have hw:∀ f ∈ (mine.filter (ao at_)).filter (fun f=>decide (f.day<n)),f ∈ mine:=fun f hf=>(List.mem_filter.1 (List.mem_filter.1 hf).1).1
 obtain⟨c1,c2⟩:=qC n (mine.filter (ao at_))
 rw [gN hn] at c1 c2
 have s1:=h.len
 have s2:=h.sum
 refine⟨fun f hf=>?_,?_,?_,?_,by have:=h.lo;omega,hn2,?_⟩
 ·rcases List.mem_append.1 hf with c | c
  ·exact h.mem f c
  ·exact hw f c
 ·rw [List.length_append];omega
 ·rw [gM];omega
 ·rw [h.cash,gM,qB (fun f hf=>hm f (hw f hf)) (fun f hf'=>hf f (hw f hf'))]
 ·have:=h.L;omega
theorem SpI.start {mine:List Flw} {cur day:Int} (h:∀ f ∈ mine,day≤f.day) (hd:day≤109572):SpI mine [] cur day day 0 70 0:=by
 have e:mine.filter (ao day)=mine:=by
  rw [List.filter_eq_self]
  intro f hf
  exact decide_eq_true (h f hf)
 exact⟨fun f hf=>absurd hf List.not_mem_nil,(by rw [e];simp),(by rw [e];simp [uS]),rfl,Int.le_refl _,hd,by omega⟩
structure LsW (w0:World) (s1 s2:Nat) (ba ga:Nat) (cur at_ N:Int) (L:Nat) (va:Value) (la:List Flw) (bb gb:Nat) (day M:Int) (K:Nat) (vb:Value) (lb:List Flw) (vp:Value) (P:List Flw) (wr:World):Prop where
 bl:Below w0.heap.size w0 wr
 a:LdA wr w0.heap.size ba ga cur at_ N L va la
 b:LdA wr s1 bb gb cur day M K vb lb
 p:wr.ownsRow s2 77 3 vp P.length (aA aF P)
 a1:∀ k,LdS ba va k→k<s1
 b1:∀ k,LdS bb vb k→k<s2
 s0:w0.heap.size≤s1
 s12:s1≤s2
 s2:s2≤wr.heap.size
section
variable {w0:World} {s1 s2 ba ga L bb gb K:Nat} {cur at_ N day M:Int} {va vb vp:Value} {la lb P:List Flw} {wr w':World}
theorem LsW.below (h:LsW w0 s1 s2 ba ga cur at_ N L va la bb gb day M K vb lb vp P wr) (hb:Below wr.heap.size wr w'):LsW w0 s1 s2 ba ga cur at_ N L va la bb gb day M K vb lb vp P w':=
 ⟨h.bl.trans (hb.mono h.bl.size),h.a.below hb,h.b.below hb,aL h.p hb,h.a1,h.b1,h.s0,h.s12,Nat.le_trans h.s2 hb.size⟩
theorem tA {b:Nat} {v v':Value} (e:v'.ownBlock=v.ownBlock) (k:Nat):LdS b v' k↔LdS b v k:=by unfold LdS;rw [e]
theorem LsW.passA (h:LsW w0 s1 s2 ba ga cur at_ N L va la bb gb day M K vb lb vp P wr) {n:Int} {e:Ending} (hp:PsO wr w0.heap.size ba cur n N L va la e w'):∃ g' v',LsW w0 s1 s2 ba g' cur n (N+wsI cur parC (la.filter (fun f=>decide (f.day<n)))) (L+la.length+71) v' (la.filter (ao n)) bb gb day M K vb lb vp P w'∧∃ q m c,e=.returned (.tuple #[.slice q m c,.int .i64 0])∧m=(la.filter (fun f=>decide (f.day<n))).length∧w'.ownsRow wr.heap.size 77 3 (.slice q m c) m (aA aF (la.filter (fun f=>decide (f.day<n)))):=by
 obtain⟨u,he,hu⟩:=hp.e
 obtain⟨g',v',hv,hx⟩:=hp.x
 have hc:=hp.c
 obtain⟨q,_,c,hq,_,_,_,_⟩:=av hu rfl
 subst hq
 refine⟨g',v',⟨hc.below h.bl.size (fun k hk=>h.a.low hk) |> fun hb=>h.bl.trans hb,hx,h.b.apart hc h.a.oth (fun k hk c=>by have:=h.a1 k c;have:=h.b.low hk;omega),cT h.p hc (fun k hk c=>by have:=(cU h.p hk).1;have:=h.a1 k c;have:=h.s12;omega),fun k hk=>h.a1 k ((tA hv k).1 hk),h.b1,h.s0,h.s12,Nat.le_trans h.s2 hc.size⟩,q,_,c,he,rfl,hu⟩
theorem LsW.passB (h:LsW w0 s1 s2 ba ga cur at_ N L va la bb gb day M K vb lb vp P wr) {n:Int} {e:Ending} (hp:PsO wr s1 bb cur n M K vb lb e w'):∃ g' v',LsW w0 s1 s2 ba ga cur at_ N L va la bb g' n (M+wsI cur parC (lb.filter (fun f=>decide (f.day<n)))) (K+lb.length+71) v' (lb.filter (ao n)) vp P w'∧(∃ q m c,e=.returned (.tuple #[.slice q m c,.int .i64 0])∧m=(lb.filter (fun f=>decide (f.day<n))).length∧w'.ownsRow wr.heap.size 77 3 (.slice q m c) m (aA aF (lb.filter (fun f=>decide (f.day<n)))))∧Ch (LdS bb vb) wr w':=by
 obtain⟨u,he,hu⟩:=hp.e
 obtain⟨g',v',hv,hx⟩:=hp.x
 have hc:=hp.c
 obtain⟨q,_,c,hq,_,_,_,_⟩:=av hu rfl
 subst hq
 refine⟨g',v',⟨hc.below h.bl.size (fun k hk=>by have:=h.b.low hk;have:=h.s0;omega) |> fun hb=>h.bl.trans hb,h.a.apart hc h.b.oth (fun k hk c=>by have:=h.a1 k hk;have:=h.b.low c;omega),hx,cT h.p hc (fun k hk c=>by have:=(cU h.p hk).1;have:=h.b1 k c;omega),h.a1,fun k hk=>h.b1 k ((tA hv k).1 hk),h.s0,h.s12,Nat.le_trans h.s2 hc.size⟩,⟨q,_,c,he,rfl,hu⟩,hc⟩
theorem LsW.grow (h:LsW w0 s1 s2 ba ga cur at_ N L va la bb gb day M K vb lb vp P wr) {vp':Value} {P':List Flw} (hp:w'.ownsRow s2 77 3 vp' P'.length (aA aF P')) (hg:wr.grownBy w' vp.ownBlock):LsW w0 s1 s2 ba ga cur at_ N L va la bb gb day M K vb lb vp' P' w':=by
 have hc:Ch (fun k=>vp.ownBlock=some k) wr w':=⟨hg.os,hg.tape,hg.output,hg.size,fun k hk hn=>hg.block k hk (fun e=>hn e.symm)⟩
 have hlo:∀ k,vp.ownBlock=some k→s2≤k:=fun k hk=>(cU h.p hk).1
 have ho:Oth wr (fun k=>vp.ownBlock=some k):=fun k cs t fz hk e=>by
  obtain⟨_,_,cs',e'⟩:=cU h.p hk
  rw [e'] at e;injection e with e;injection e with _ e _;subst e;decide
 exact⟨h.bl.trans (hc.below h.bl.size (fun k hk=>by have:=hlo k hk;have:=h.s0;have:=h.s12;omega)),h.a.apart hc ho (fun k hk c=>by have:=h.a1 k hk;have:=hlo k c;have:=h.s12;omega),h.b.apart hc ho (fun k hk c=>by have:=h.b1 k hk;have:=hlo k c;omega),hp,h.a1,h.b1,h.s0,h.s12,Nat.le_trans h.s2 hc.size⟩
end
end Go.Proofs.YtjjlnmihkadlmaaGreat
namespace Go.Proofs.YtjjlnmihkadlmaaGreat
open Go.RowKit

def dX:Nat→Code→Option Code
 | 0,c=>some c
 | k+1,.seq _ b=>dX k b
 | _+1,_=>none
theorem gO {P:Program} {c:Option Code} {rest:Code} {k:Nat} {Q:Exit→Act→World→Prop} {a:Act} {w:World} (h:∃ r,c.bind (dX k)=some r∧r.wp P Q a w) (e:c.bind (dX k)=some rest):rest.wp P Q a w:=by
 obtain⟨r,hr,hw⟩:=h
 rw [hr] at e
 cases e
 exact hw
def fB (w:World):Exit→Act→World→Prop:=bodyPost Tryz.prog Tryz.f5 (fun e w'=>e=.returned (.bool true)∧Below w.heap.size w w')
theorem zr {n:Int} (mine:List Flw):(mine.filter (ao n)).filter (fun f=>decide (f.day<n))=[]:=by
 rw [List.filter_eq_nil_iff]
 intro f hf
 have:=of_decide_eq_true (List.mem_filter.1 hf).2
 simp only [decide_eq_true_eq]
 omega
set_option maxRecDepth 20000 in
def lsE (en:Int) (a b:Nat) (qp:Option Addr) (np cp:Nat) (qm:Option Addr) (nm cm s:Nat) (mi:Int) (u:Nat→Value):Act:=⟨⟨u 0::u 1::u 2::u 3::.int .i64 en::u 5::u 6::u 7::u 8::u 9::u 10::.pointer (some ⟨a,0,none⟩)::u 12::.pointer (some ⟨b,0,none⟩)::u 14::.slice qp np cp::u 16::u 17::u 18::u 19::u 20::u 21::u 22::u 23::.slice qm nm cm::u 25::.pointer (some ⟨s,0,none⟩)::.int .i64 mi::u 28::u 29::u 30::u 31::u 32::u 33::u 34::u 35::u 36::u 37::u 38::u 39::u 40::u 41::u 42::u 43::u 44::u 45::u 46::u 47::u 48::u 49::u 50::u 51::u 52::u 53::u 54::u 55::u 56::u 57::u 58::u 59::u 60::u 61::u 62::u 63::u 64::u 65::u 66::u 67::u 68::u 69::u 70::u 71::u 72::u 73::u 74::u 75::u 76::u 77::u 78::u 79::u 80::u 81::u 82::u 83::u 84::u 85::u 86::u 87::u 88::u 89::u 90::u 91::u 92::u 93::u 94::u 95::u 96::u 97::u 98::u 99::u 100::u 101::u 102::u 103::u 104::u 105::u 106::u 107::u 108::u 109::u 110::u 111::u 112::u 113::u 114::u 115::u 116::u 117::u 118::u 119::u 120::u 121::u 122::u 123::u 124::u 125::u 126::u 127::u 128::u 129::u 130::u 131::u 132::u 133::u 134::u 135::u 136::u 137::u 138::u 139::u 140::u 141::u 142::u 143::u 144::u 145::u 146::u 147::u 148::u 149::u 150::u 151::u 152::u 153::u 154::u 155::u 156::u 157::u 158::u 159::u 160::u 161::u 162::u 163::u 164::u 165::u 166::u 167::u 168::u 169::u 170::u 171::u 172::u 173::u 174::u 175::u 176::u 177::u 178::u 179::u 180::u 181::u 182::u 183::u 184::u 185::u 186::u 187::u 188::u 189::u 190::u 191::u 192::u 193::u 194::u 195::u 196::u 197::u 198::u 199::u 200::u 201::u 202::u 203::u 204::u 205::u 206::u 207::u 208::u 209::u 210::u 211::u 212::u 213::u 214::u 215::u 216::u 217::u 218::u 219::u 220::u 221::u 222::u 223::u 224::u 225::u 226::u 227::u 228::u 229::u 230::u 231::u 232::u 233::u 234::u 235::u 236::u 237::u 238::u 239::u 240::u 241::u 242::u 243::u 244::u 245::u 246::u 247::u 248::u 249::u 250::u 251::u 252::u 253::u 254::u 255::u 256::u 257::u 258::u 259::u 260::u 261::u 262::u 263::u 264::u 265::u 266::u 267::u 268::u 269::u 270::u 271::u 272::u 273::u 274::u 275::u 276::u 277::u 278::u 279::u 280::u 281::u 282::u 283::[]⟩,[]⟩
theorem FP {en:Int} {a b:Nat} {qp:Option Addr} {np cp:Nat} {qm:Option Addr} {nm cm s:Nat} {mi:Int} {x:Act} (h:x=lsE en a b qp np cp qm nm cm s mi (fun k=>x.tmps.getD k undef)):∃ u:Nat→Value,x=lsE en a b qp np cp qm nm cm s mi u:=⟨_,h⟩
set_option maxRecDepth 100000 in
set_option maxHeartbeats 6400000 in
theorem FQ (w0 wr:World) (s1 s2 ba ga bb gb L K:Nat) (cur en N:Int) (va vb:Value) (mine P:List Flw) (qp:Option Addr) (cp np:Nat) (qm:Option Addr) (nm cm s Bs Ls:Nat) (vs:Value) (mi:Int) (u:Nat→Value)
  (h:LsW w0 s1 s2 ba ga cur en N L va (mine.filter (ao en)) bb gb en N K vb (mine.filter (ao en)) (.slice qp np cp) P wr) (_hnp:P.length=np) (hN:N=uS P) (hlen:np=nm) (hmi:mi=((np+(mine.filter (ao en)).length:Nat):Int)) (hL:L≤20000) (hK:K≤20000) (h60:mine.length≤60) (hnp6:np≤60) (e0:0≤en) (e1:en≤109572) (hc:1≤cur∧cur≤8) (hb:∀ f ∈ mine,cB f=0) (hf:dL mine)
  (hs:A.AccAt wr Bs s vs Ls ⟨0,uS P⟩) (hBs:Bs≤wr.heap.size) (hLs:Ls≤40000) :
  ∃ r,Tryz.f5.body.bind (dX 15)=some r∧r.wp Tryz.prog (fB w0) (lsE en ba bb qp np cp qm nm cm s mi u) wr:=by
 refine⟨_,rfl,?_⟩
 unfold lsE fB
 obtain⟨la,hla⟩:∃ la,mine.filter (ao en)=la:=⟨_,rfl⟩
 have hpd:=zr (n:=en) mine
 have hst:la.filter (ao en)=la:=by rw [← hla,gN (Int.le_refl _)]
 have hlal:la.length≤60:=by rw [← hla];exact Nat.le_trans (List.length_filter_le _ _) h60
 have hlam:∀ f ∈ la,f ∈ mine:=fun f hf=>by rw [← hla] at hf;exact (List.mem_filter.1 hf).1
 have hlad:∀ f ∈ la,en≤f.day:=fun f hf=>by rw [← hla] at hf;exact of_decide_eq_true (List.mem_filter.1 hf).2
 have hfl:dL la:=by rw [← hla];exact db _ hf
 rw [hla] at h hmi hpd
 obtain⟨nl,hnl⟩:∃ nl,la.length=nl:=⟨_,rfl⟩
 have HNl:=hideS hnl
 rw [hnl] at hmi
 have H:=hideS h
 have HCa:=hideS (jR _ ba ga L cur en N va la wr h.a (by omega))
 have HCb:=hideS fun wx (hx:Below wr.heap.size wr wx)=>jR _ bb gb K cur en N vb la wx ((h.below hx).b) (by omega)
 have HVs:=hideS fun wx (hx:Below wr.heap.size wr wx)=>A.nU Bs s vs Ls ⟨0,uS P⟩ wx (hs.below hx) (Nat.le_trans hBs hx.size) hLs
 have HLa:=hideS fun wx (hx:Below wr.heap.size wr wx)=>dr _ ba ga L cur en N va la wx ((h.below hx).a) (by omega)
 have HPs:=hideS fun wx (hx:Below wr.heap.size wr wx)=>gf w0.heap.size ba ga L cur en en N va la wx ((h.below hx).a) e0 e1 (Int.le_refl _) hlad hc (by omega) (fun f hf=>hb f (hlam f hf)) hfl (by omega)
 have HMi:=hideS hmi
 have HLn:=hideS hlen
 have HPd:=hideS hpd
 have HSt:=hideS hst
 have HFl:=hideS hfl
 have HW:=hideS fun wx=>jq wx
 have hB9:np≤60∧nl≤60:=⟨hnp6,by omega⟩
 obtain⟨hB1,hB2⟩:=hB9
 rw [oF] at HVs
 rw [← hN] at HVs
 subst hlen
 rw [hmi]
 have hadd:(np:Int)+(nl:Int)=((np+nl:Nat):Int):=by omega
 have hne1:((np:Int) !=(np:Int))=false:=by simp
 have hne2:((np:Int)+(nl:Int) !=((np+nl:Nat):Int))=false:=by rw [hadd];simp
 have hV:=xa N
 obtain⟨V,hVe⟩:∃ V,iO N=V:=⟨_,rfl⟩
 rw [hVe] at HCa HCb HVs hV
 have htl:tj V≠0∨(tj V=0∧qk V=V):=by
  unfold tj qk
  cases finB (V:Int)
  ·left;simp
  ·right;simp
 have hVw:qk V<18446744073709551616:=by unfold qk;split<;>omega
 obtain⟨E,hE⟩:∃ E,tj V=E:=⟨_,rfl⟩
 obtain⟨X,hX⟩:∃ X,qk V=X:=⟨_,rfl⟩
 rw [hE] at htl HCa HCb
 rw [hX] at htl HCa HCb hVw
 clear h hla hpd hst hlal hlam hlad hfl hnl hmi hs hN hVe hE hX hV hadd hL hK h60 hLs hBs hnp6
 go_wp2_with fail
 refine (HCa.out).mono ?_
 rintro e w1 ⟨rfl,hb1⟩
 have HB1:=hideS hb1
 clear hb1
 go_wp2_with fail
 refine (HCb.out _ HB1.out).mono ?_
 rintro e w2 ⟨rfl,hb2⟩
 have HB2:Hid (Below wr.heap.size wr w2):=HB1.out.trans (hb2.mono HB1.out.size)
 clear hb2 HB1
 have x1:(E !=E)=false:=by simp
 have x2:((X:Int) !=(X:Int))=false:=by simp
 rcases htl with hE0 | ⟨rfl,rfl⟩
 ·have x3:(E==0)=false:=beq_eq_false_iff_ne.2 hE0
  clear hE0
  go_wp2_with (go_at_call 32;refine (turned (dt _ _)).mono ?_;rintro e wb ⟨rfl,rfl⟩)
  refine (HLa.out _ HB2.out).mono ?_
  rintro e w4 ⟨⟨u4,rfl,ho4⟩,hb4⟩
  obtain⟨p4,_,c4,hv4,_,_,_,_⟩:=av ho4 rfl
  rw [HNl.out] at hv4
  subst hv4
  have HB4:Hid (Below wr.heap.size wr w4):=HB2.out.trans (hb4.mono HB2.out.size)
  clear ho4 hb4 HB2
  go_wp2_with fail
  refine (HPs.out _ HB4.out).mono ?_
  intro e w5 hp5
  obtain⟨g5,v5,hx5,q5,m5,c5,rfl,hm5,_⟩:=(H.out.below HB4.out).passA hp5
  rw [HPd.out] at hm5
  subst hm5
  rw [HSt.out] at hx5
  have HX5:=hideS hx5
  clear hx5 hp5 HB4
  have HL5:=hideS (dr _ ba g5 _ cur en _ v5 la w5 HX5.out.a (by rw [HNl.out];omega))
  dsimp only [List.length_nil]
  go_wp2_with fail
  refine (HL5.out).mono ?_
  rintro e w6 ⟨⟨u6,rfl,ho6⟩,hb6⟩
  obtain⟨p6,b6,c6,hv6,hs6,_,_,_⟩:=av ho6 rfl
  have HX6:=hideS (HX5.out.below hb6)
  have HS6:=hideS hs6
  subst hv6
  clear ho6 hs6 hb6 HX5 HL5
  have HL6:=hideS (dr _ bb gb K cur en N vb la w6 HX6.out.b (by rw [HNl.out];omega))
  rw [HNl.out]
  go_wp2_with fail
  refine (HL6.out).mono ?_
  rintro e w7 ⟨⟨u7,rfl,ho7⟩,hb7⟩
  obtain⟨p7,b7,c7,hv7,hs7,_,_,_⟩:=av ho7 rfl
  rw [HNl.out] at hv7
  have HX7:=hideS (HX6.out.below hb7)
  have HS7:=hideS (HS6.out.below hb7)
  subst hv7
  have HOf:=hideS (ku la p7 b7 0 c7 nl w7 hs7 HNl.out (by omega))
  clear ho7 hs7 hb7 HX6 HL6 HS6
  go_wp2_with fail
  refine (HOf.out).mono ?_
  rintro e w8 ⟨⟨u8,rfl,ho8⟩,hb8⟩
  obtain⟨p8,b8,c8,hv8,hs8,_,_,_⟩:=av ho8 HNl.out
  subst hv8
  have HX8:=hideS (HX7.out.below hb8)
  have HSm:=hideS (gg la p6 p8 b6 0 c6 b8 0 c8 nl w8 (HS7.out.below hb8) hs8 HNl.out (by omega) HFl.out)
  clear ho8 hs8 hb8 HX7 HS7 HOf
  go_wp2_with fail
  refine (HSm.out).mono ?_
  rintro e w9 ⟨rfl,hb9⟩
  have HB9:Hid (Below w0.heap.size w0 w9):=HX8.out.bl.trans (hb9.mono HX8.out.bl.size)
  clear hb9
  go_wp2_with fail
  refine (HW.out _).mono ?_
  rintro e wz ⟨rfl,hbz⟩
  have HBz:Hid (Below w0.heap.size w0 wz):=HB9.out.trans (hbz.mono HB9.out.size)
  clear hbz
  go_wp2_with fail
  go_ret
  exact⟨rfl,HBz.out⟩
 ·go_wp2_with (go_at_call 32;refine (turned (dt _ _)).mono ?_;rintro e wb ⟨rfl,rfl⟩)
  refine (HVs.out _ HB2.out).mono ?_
  rintro e w3 ⟨rfl,hb3⟩
  have HB3:Hid (Below wr.heap.size wr w3):=HB2.out.trans (hb3.mono HB2.out.size)
  clear hb3 HB2
  go_wp2_with (go_at_call 32;refine (turned (dt _ _)).mono ?_;rintro e wb ⟨rfl,rfl⟩)
  refine (HLa.out _ HB3.out).mono ?_
  rintro e w4 ⟨⟨u4,rfl,ho4⟩,hb4⟩
  obtain⟨p4,_,c4,hv4,_,_,_,_⟩:=av ho4 rfl
  rw [HNl.out] at hv4
  subst hv4
  have HB4:Hid (Below wr.heap.size wr w4):=HB3.out.trans (hb4.mono HB3.out.size)
  clear ho4 hb4 HB3
  go_wp2_with fail
  refine (HPs.out _ HB4.out).mono ?_
  intro e w5 hp5
  obtain⟨g5,v5,hx5,q5,m5,c5,rfl,hm5,_⟩:=(H.out.below HB4.out).passA hp5
  rw [HPd.out] at hm5
  subst hm5
  rw [HSt.out] at hx5
  have HX5:=hideS hx5
  clear hx5 hp5 HB4
  have HL5:=hideS (dr _ ba g5 _ cur en _ v5 la w5 HX5.out.a (by rw [HNl.out];omega))
  dsimp only [List.length_nil]
  go_wp2_with fail
  refine (HL5.out).mono ?_
  rintro e w6 ⟨⟨u6,rfl,ho6⟩,hb6⟩
  obtain⟨p6,b6,c6,hv6,hs6,_,_,_⟩:=av ho6 rfl
  have HX6:=hideS (HX5.out.below hb6)
  have HS6:=hideS hs6
  subst hv6
  clear ho6 hs6 hb6 HX5 HL5
  have HL6:=hideS (dr _ bb gb K cur en N vb la w6 HX6.out.b (by rw [HNl.out];omega))
  rw [HNl.out]
  go_wp2_with fail
  refine (HL6.out).mono ?_
  rintro e w7 ⟨⟨u7,rfl,ho7⟩,hb7⟩
  obtain⟨p7,b7,c7,hv7,hs7,_,_,_⟩:=av ho7 rfl
  rw [HNl.out] at hv7
  have HX7:=hideS (HX6.out.below hb7)
  have HS7:=hideS (HS6.out.below hb7)
  subst hv7
  have HOf:=hideS (ku la p7 b7 0 c7 nl w7 hs7 HNl.out (by omega))
  clear ho7 hs7 hb7 HX6 HL6 HS6
  go_wp2_with fail
  refine (HOf.out).mono ?_
  rintro e w8 ⟨⟨u8,rfl,ho8⟩,hb8⟩
  obtain⟨p8,b8,c8,hv8,hs8,_,_,_⟩:=av ho8 HNl.out
  subst hv8
  have HX8:=hideS (HX7.out.below hb8)
  have HSm:=hideS (gg la p6 p8 b6 0 c6 b8 0 c8 nl w8 (HS7.out.below hb8) hs8 HNl.out (by omega) HFl.out)
  clear ho8 hs8 hb8 HX7 HS7 HOf
  go_wp2_with fail
  refine (HSm.out).mono ?_
  rintro e w9 ⟨rfl,hb9⟩
  have HB9:Hid (Below w0.heap.size w0 w9):=HX8.out.bl.trans (hb9.mono HX8.out.bl.size)
  clear hb9
  go_wp2_with fail
  refine (HW.out _).mono ?_
  rintro e wz ⟨rfl,hbz⟩
  have HBz:Hid (Below w0.heap.size w0 wz):=HB9.out.trans (hbz.mono HB9.out.size)
  clear hbz
  go_wp2_with fail
  go_ret
  exact⟨rfl,HBz.out⟩
end Go.Proofs.YtjjlnmihkadlmaaGreat
