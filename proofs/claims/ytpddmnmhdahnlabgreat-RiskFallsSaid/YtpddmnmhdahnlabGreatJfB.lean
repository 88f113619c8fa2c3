/-  -/
import Derived.Test.YtpddmnmhdahnlabGreatHau
import Derived.Test.YtpddmnmhdahnlabGreatHas
import Derived.LoopTactic
import Derived.Sort.Row
namespace Go.Proofs.YtpddmnmhdahnlabGreat
open Go.RowKit

theorem zY (n lo hi:Int) (w:World) :
  Calls Tryz.prog 175 #[.int .i64 n,.int .i64 lo,.int .i64 hi] w fun e w'=>e=.returned (.bool (decide (lo≤n∧n≤hi)))∧w'=w:=by
 by_cases h1:lo≤n<;>by_cases h2:n≤hi
 all_goals
  first | rw [decide_eq_true (⟨h1,h2⟩:lo≤n∧n≤hi)] | rw [decide_eq_false (fun h:lo≤n∧n≤hi=>by omega)]
  go_enter Tryz.func175,Tryz.ntmps175
  go_wp2
  go_ret
  exact⟨rfl,rfl⟩
theorem Fk (n:Int) (w:World) :
  Calls Tryz.prog 177 #[.int .i64 n] w fun e w'=>e=.returned (.bool (decide (1≤n∧n≤8)))∧w'=w:=by
 have H:=hideS fun w=>zY n 1 8 w
 generalize decide (1≤n∧n≤8)=b at *
 go_enter Tryz.func177,Tryz.ntmps177
 go_wp2_with (go_at_call 175;refine (H.out _).mono ?_;rintro e w' ⟨rfl,rfl⟩)
 go_ret
 exact⟨rfl,rfl⟩
set_option maxHeartbeats 800000 in
theorem Fl (x:Nat) (w:World) (hx:U64 x) :
  Calls Tryz.prog 176 #[.float .f64 x] w fun e w'=>e=.returned (.bool (aK x))∧w'=w:=by
 have H1:=hideS fun w=>aQ x w hx
 cases hn:ag (x:Int)
 ·rw [hn] at H1
  have H2:=hideS fun w=>gu x _ w hx (nR hn)
  generalize aK x=b at *
  clear hn hx
  cases b
  all_goals
   go_enter Tryz.func176,Tryz.ntmps176
   go_wp2_with fail
   refine (H1.out _).mono ?_
   rintro e w' ⟨rfl,rfl⟩
   go_wp2_with fail
   refine (H2.out _).mono ?_
   rintro e w' ⟨rfl,rfl⟩
   go_wp2_with fail
   go_ret
   exact⟨rfl,rfl⟩
 ·rw [hn] at H1
  rw [me hn]
  clear hn hx
  go_enter Tryz.func176,Tryz.ntmps176
  go_wp2_with fail
  refine (H1.out _).mono ?_
  rintro e w' ⟨rfl,rfl⟩
  go_wp2_with fail
  go_ret
  exact⟨rfl,rfl⟩

def gz (f:Flw):Int:=if ¬ (0≤f.day∧f.day≤109572) then 51 else if aK f.am=false then 91 else if ¬ (1≤f.cur∧f.cur≤8) then 140 else 0
inductive ChkF (l:List Flw):Int→Int→Prop
 | many (h:4096<l.length):ChkF l 81 0
 | fine (hl:l.length≤4096) (h:∀ i<l.length,gz (l.getD i aD)=0):ChkF l 0 0
 | bad (hl:l.length≤4096) (k:Nat) (hk:k<l.length) (e:Int) (he:gz (l.getD k aD)=e) (h0:e≠0) (h:∀ i<k,gz (l.getD i aD)=0):ChkF l e k
theorem chkF_from (l:List Flw):∀ n,(∀ i<n,gz (l.getD i aD)=0)∨∃ k<n,gz (l.getD k aD)≠0∧∀ i<k,gz (l.getD i aD)=0
 | 0=>Or.inl (fun i hi=>by omega)
 | n+1=>by
  rcases chkF_from l n with h | ⟨k,hk,h0,h⟩
  ·by_cases c:gz (l.getD n aD)=0
   ·refine Or.inl (fun i hi=>?_)
    by_cases d:i<n
    ·exact h i d
    ·obtain rfl:i=n:=by omega
     exact c
   ·exact Or.inr ⟨n,by omega,c,h⟩
  ·exact Or.inr ⟨k,by omega,h0,h⟩
theorem zZ (l:List Flw):∃ e k,ChkF l e k:=by
 by_cases hl:4096<l.length
 ·exact⟨_,_,.many hl⟩
 ·rcases chkF_from l l.length with h | ⟨k,hk,h0,h⟩
  ·exact⟨0,0,.fine (by omega) h⟩
  ·exact⟨_,_,.bad (by omega) k hk _ rfl h0 h⟩
theorem aM {l:List Flw} {e e' k k':Int} (h:ChkF l e k) (h':ChkF l e' k'):e=e'∧k=k':=by
 cases h with
 | many h=>cases h' with
  | many _=>exact⟨rfl,rfl⟩
  | fine hl _=>omega
  | bad hl=>omega
 | fine hl h=>cases h' with
  | many h'=>omega
  | fine _ _=>exact⟨rfl,rfl⟩
  | bad _ k' hk' _ he' h0' _=>exact absurd (he'.symm.trans (h k' hk')) h0'
 | bad hl k hk _ he h0 h=>cases h' with
  | many h'=>omega
  | fine _ h'=>exact absurd (he.symm.trans (h' k hk)) h0
  | bad _ k' hk' _ he' h0' h'=>
   rcases Nat.lt_trichotomy k k' with c | c | c
   ·exact absurd (he.symm.trans (h' k c)) h0
   ·subst c;exact⟨he.symm.trans he',rfl⟩
   ·exact absurd (he'.symm.trans (h k' c)) h0'
def dr (l:List Flw):Prop:=∀ i,(l.getD i aD).am<18446744073709551616

theorem jo {w:World} {g o:Nat} {cs:Array Value} {t:TypeId} (v:Value) (h:w.heap[g]? =some (.cells cs t (0,0))):(w.setCell ⟨g,o,none⟩ v).heap[g]? =some (.cells (cs.setIfInBounds o v) t (0,0)):=by
 rw [Go.Sort.setCell_eq]
 simp [Go.Sort.mapBlock,Array.getElem?_modify,h,Go.Sort.onCells]
theorem qP (a:Addr) (x:Nat) (m:Mode) (w:World):(store a (.float .f64 x) m).run Tryz.prog w=stored Tryz.prog w a (.float .f64 x) m:=run_store Tryz.prog w a _ m rfl
def dh:Obj:=.cells #[.int .i64 0,.float .f64 0,.int .i64 0] 39
def BU (w:World) (g:Nat) (f:Flw):World:=((w.setCell ⟨g,0,none⟩ (.int .i64 f.day)).setCell ⟨g,1,none⟩ (.float .f64 f.am)).setCell ⟨g,2,none⟩ (.int .i64 f.cur)
theorem lF (w:World):((w.alloc dh).cell? ⟨w.heap.size,0,none⟩=some (.int .i64 0)∧(w.alloc dh).cell? ⟨w.heap.size,1,none⟩=some (.float .f64 0)∧(w.alloc dh).cell? ⟨w.heap.size,2,none⟩=some (.int .i64 0))∧∀ i,(w.alloc dh).frozen? ⟨w.heap.size,i,none⟩=false:=by
 have h:=heap_alloc_new w dh
 unfold dh at h
 refine⟨⟨by unfold dh;simp,by unfold dh;simp,by unfold dh;simp⟩,fun i=>frozen_of_row _ _ i _ _ h⟩
structure FBx (w:World) (f:Flw) (wr:World):Prop where
 t0:wr.cell? ⟨w.heap.size,0,none⟩=some (.int .i64 f.day)
 t1:wr.cell? ⟨w.heap.size,1,none⟩=some (.float .f64 f.am)
 t2:wr.cell? ⟨w.heap.size,2,none⟩=some (.int .i64 f.cur)
 fz:∀ i,wr.frozen? ⟨w.heap.size,i,none⟩=false
 bl:Below w.heap.size w wr
 lt:w.heap.size<wr.heap.size
theorem FBx.step {w wr w':World} {f:Flw} (h:FBx w f wr) (hb:Below wr.heap.size wr w'):FBx w f w':=
 ⟨(hb.cell (p:=⟨w.heap.size,0,none⟩) h.lt).trans h.t0,(hb.cell (p:=⟨w.heap.size,1,none⟩) h.lt).trans h.t1,(hb.cell (p:=⟨w.heap.size,2,none⟩) h.lt).trans h.t2,fun i=>(hb.frozen (p:=⟨w.heap.size,i,none⟩) h.lt).trans (h.fz i),h.bl.trans (hb.mono h.bl.size),Nat.lt_of_lt_of_le h.lt hb.size⟩
theorem Fm {w wr:World} {f:Flw} (h:wr.heap[w.heap.size]? =some (.cells #[.int .i64 f.day,.float .f64 f.am,.int .i64 f.cur] 39)) (hb:Below w.heap.size w wr):FBx w f wr:=by
 refine⟨?_,?_,?_,fun i=>frozen_of_row _ _ i _ _ h,hb,(Array.getElem?_eq_some_iff.1 h).1⟩
 all_goals
  simp only [World.cell?,h,Option.isSome_none,Bool.false_eq_true,if_false]
  rfl
theorem Fo (w:World) (f:Flw):(BU (w.alloc dh) w.heap.size f).heap[w.heap.size]? =some (.cells #[.int .i64 f.day,.float .f64 f.am,.int .i64 f.cur] 39):=by
 have h:=heap_alloc_new w dh
 unfold dh at h
 exact jo _ (jo _ (jo _ h))
theorem vp (w:World) (f:Flw):FBx w f (BU (w.alloc dh) w.heap.size f):=
 Fm (Fo w f) ((((Below.refl _ w).alloc (Nat.le_refl _) _).setCell (p:=⟨w.heap.size,0,none⟩) (Nat.le_refl _) _).setCell (p:=⟨w.heap.size,1,none⟩) (Nat.le_refl _) _ |>.setCell (p:=⟨w.heap.size,2,none⟩) (Nat.le_refl _) _)
theorem KM (w:World) (f:Flw):FBx w f (w.alloc (.cells #[.int .i64 f.day,.float .f64 f.am,.int .i64 f.cur] 39)):=
 Fm (heap_alloc_new w _) ((Below.refl _ _).alloc (Nat.le_refl _) _)

set_option maxHeartbeats 1600000 in
theorem Fp (f:Flw) (w:World) (hx:f.am<18446744073709551616) :
  Calls Tryz.prog 162 #[.agg #[.int .i64 f.day,.float .f64 f.am,.int .i64 f.cur]] w fun e w'=>e=.returned (.int .i64 (gz f))∧Below w.heap.size w w':=by
 obtain⟨day,am,cur⟩:=f
 have H0:=hideS (KM w ⟨day,am,cur⟩)
 have HI:=hideS fun wx=>zY day 0 109572 wx
 have HN:=hideS fun wx=>Fl am wx (by unfold U64;dsimp only at hx;omega)
 have HC:=hideS fun wx=>Fk cur wx
 obtain⟨E,hE⟩:∃ E,gz ⟨day,am,cur⟩=E:=⟨_,rfl⟩
 have HE:Hid ((if ¬ (0≤day∧day≤109572) then 51 else if aK am=false then 91 else if ¬ (1≤cur∧cur≤8) then 140 else 0)=E):=hE
 rw [hE]
 clear hE hx
 dsimp only at *
 by_cases h1:0≤day∧day≤109572
 ·rw [decide_eq_true h1] at HI
  rw [if_neg (not_not_intro h1)] at HE
  cases h2:aK am
  ·rw [h2] at HN HE
   have HE2:Hid (E=91):=HE.out.symm
   rw [HE2.out]
   clear HE HE2 HC h1 h2
   go_enter Tryz.func162,Tryz.ntmps162
   go_wp2_with (first | (go_at_call 175;refine (HI.out _).mono ?_;rintro e w' ⟨rfl,rfl⟩) | (go_at_call 176;refine (HN.out _).mono ?_;rintro e w' ⟨rfl,rfl⟩))
   go_ret
   exact⟨rfl,H0.out.bl⟩
  ·rw [h2] at HN HE
   rw [if_neg (by simp)] at HE
   by_cases h3:1≤cur∧cur≤8
   ·rw [decide_eq_true h3] at HC
    have HE2:Hid (E=0):=by have:=HE.out;rw [if_neg (not_not_intro h3)] at this;exact this.symm
    rw [HE2.out]
    clear HE HE2 h1 h2 h3
    go_enter Tryz.func162,Tryz.ntmps162
    go_wp2_with (first | (go_at_call 175;refine (HI.out _).mono ?_;rintro e w' ⟨rfl,rfl⟩) | (go_at_call 176;refine (HN.out _).mono ?_;rintro e w' ⟨rfl,rfl⟩) | (go_at_call 177;refine (HC.out _).mono ?_;rintro e w' ⟨rfl,rfl⟩))
    go_ret
    exact⟨rfl,H0.out.bl⟩
   ·rw [decide_eq_false h3] at HC
    have HE2:Hid (E=140):=by have:=HE.out;rw [if_pos h3] at this;exact this.symm
    rw [HE2.out]
    clear HE HE2 h1 h2 h3
    go_enter Tryz.func162,Tryz.ntmps162
    go_wp2_with (first | (go_at_call 175;refine (HI.out _).mono ?_;rintro e w' ⟨rfl,rfl⟩) | (go_at_call 176;refine (HN.out _).mono ?_;rintro e w' ⟨rfl,rfl⟩) | (go_at_call 177;refine (HC.out _).mono ?_;rintro e w' ⟨rfl,rfl⟩))
    go_ret
    exact⟨rfl,H0.out.bl⟩
 ·rw [decide_eq_false h1] at HI
  have HE2:Hid (E=51):=by have:=HE.out;rw [if_pos h1] at this;exact this.symm
  rw [HE2.out]
  clear HE HE2 HC HN h1
  go_enter Tryz.func162,Tryz.ntmps162
  go_wp2_with (go_at_call 175;refine (HI.out _).mono ?_;rintro e w' ⟨rfl,rfl⟩)
  go_ret
  exact⟨rfl,H0.out.bl⟩

set_option maxRecDepth 20000 in
set_option maxHeartbeats 3200000 in
theorem xZ (l:List Flw) (p:Option Addr) (b off c N:Nat) (E K:Int) (w:World) (hl:JSrc aF w p b off l) (hN:l.length=N) (hc:N≤9223372036854775807) (hf:dr l) (hE:ChkF l E K) :
  Calls Tryz.prog 136 #[.slice p N c] w fun e w'=>e=.returned (.tuple #[.int .i64 E,.int .i64 K])∧Below w.heap.size w w':=by
 have HN:=hideS hN
 have HE:=hideS hE
 have HQ:=hideS hl
 have HF:=hideS hf
 by_cases hm:4096<N
 ·obtain⟨rfl,rfl⟩:=aM hE (.many (by omega))
  clear hE hl hN hf
  go_enter Tryz.func136,Tryz.ntmps136
  go_wp2
  go_ret2
  exact⟨rfl,Below.refl _ _⟩
 ·have HP:Hid (0<N→p=some ⟨b,off,none⟩):=fun h=>hl.at_ (by omega)
  clear hE hl hN hf
  go_enter Tryz.func136,Tryz.ntmps136
  go_wp2_with fail
  go_loopw [12] (fun i wr=>∃ k:Nat,k≤N∧i=.int .i64 k∧Hid (∀ j<k,gz (l.getD j aD)=0)∧Hid (Below w.heap.size w wr)) (fun i _=>N - (intOf i).toNat)
  case atStart=>exact⟨0,Nat.zero_le _,rfl,fun j hj=>by omega,Below.refl _ _⟩
  case round=>
   obtain⟨k,hk,rfl,HFi,HB⟩:=hrel
   by_cases hlt:k<N
   ·obtain rfl:=HP.out (by omega)
    obtain⟨c0,c1,c2⟩:=(HQ.out.below HB.out).cell k (by rw [HN.out];exact hlt)
    have HFt:=hideS fun wx=>Fp (l.getD k aD) wx (HF.out k)
    obtain⟨F,hF⟩:∃ F,gz (l.getD k aD)=F:=⟨_,rfl⟩
    rw [hF] at HFt
    have HFe:=hideS hF
    have HQB:=hideS (vp wr (l.getD k aD))
    obtain⟨⟨z0,z1,z2⟩,fz⟩:=lF wr
    have y0:=fz 0
    have y1:=fz 1
    have y2:=fz 2
    clear fz hF
    obtain⟨q,hq⟩:∃ q,l.getD k aD=q:=⟨_,rfl⟩
    rw [hq] at HFt HQB c0 c1 c2
    clear hq
    obtain⟨qd,qa,qc⟩:=q
    dsimp only [aF] at *
    obtain⟨w2,hw2⟩:∃ w2,wr.alloc dh=w2:=⟨_,rfl⟩
    rw [hw2] at z0 z1 z2 y0 y1 y2 HQB
    unfold dh at hw2
    obtain⟨w3,hw3⟩:∃ w3,BU w2 wr.heap.size ⟨qd,qa,qc⟩=w3:=⟨_,rfl⟩
    rw [hw3] at HQB
    unfold BU at hw3
    dsimp only at hw3
    have t0:=HQB.out.t0
    have t1:=HQB.out.t1
    have t2:=HQB.out.t2
    dsimp only at t0 t1 t2
    have hst:=qP
    by_cases hz:F=0
    ·have HFi2:Hid (∀ j<k+1,gz (l.getD j aD)=0):=fun j hj=>by
      by_cases c:j<k
      ·exact HFi.out j c
      ·obtain rfl:j=k:=by omega
       rw [HFe.out];exact hz
     subst hz
     go_wp2_with fail
     clear hst hw2 hw3 z0 z1 z2 y0 y1 y2 t0 t1 t2
     refine (HFt.out _).mono ?_
     rintro e w4 ⟨rfl,hb2⟩
     have HB2:=hideS (HB.out.trans ((HQB.out.step hb2).bl.mono HB.out.size))
     clear hb2 c0 c1 c2
     go_wp2_with fail
     go_roundw
     case rel=>exact⟨k+1,by omega,by simp,HFi2,HB2⟩
     case measure=>simp [intOf];omega
    ·have hEK:F=E∧(k:Int)=K:=aM (.bad (by rw [HN.out];omega) k (by rw [HN.out];exact hlt) F HFe.out hz HFi.out) HE.out
     have HEK:=hideS hEK
     have d7:(F !=0)=true:=bne_iff_ne.2 hz
     clear hz hEK
     go_wp2_with fail
     clear hst hw2 hw3 z0 z1 z2 y0 y1 y2 t0 t1 t2
     refine (HFt.out _).mono ?_
     rintro e w4 ⟨rfl,hb2⟩
     have HB2:=hideS (HB.out.trans ((HQB.out.step hb2).bl.mono HB.out.size))
     clear hb2
     go_wp2_with fail
     go_ret2
     obtain⟨rfl,rfl⟩:=HEK.out
     exact⟨rfl,HB2.out⟩
   ·obtain rfl:k=N:=by omega
    have hEK:(0:Int)=E∧(0:Int)=K:=aM (.fine (by rw [HN.out];omega) (by rw [HN.out];exact HFi.out)) HE.out
    have HEK:=hideS hEK
    clear hEK
    go_wp2_with fail
    go_ret2
    obtain⟨rfl,rfl⟩:=HEK.out
    exact⟨rfl,HB.out⟩
end Go.Proofs.YtpddmnmhdahnlabGreat
