/-  -/
import Derived.Test.YtpddmnmhdahnlaaGreatHau
import Derived.Test.YtpddmnmhdahnlaaGreatHas
import Derived.LoopTactic
import Derived.Sort.Row
namespace Go.Proofs.YtpddmnmhdahnlaaGreat
open Go.RowKit

theorem AA (n lo hi:Int) (w:World) :
  Calls Tryz.prog 244 #[.int .i64 n,.int .i64 lo,.int .i64 hi] w fun e w'=>e=.returned (.bool (decide (lo≤n∧n≤hi)))∧w'=w:=by
 by_cases h1:lo≤n<;>by_cases h2:n≤hi
 all_goals
  first | rw [decide_eq_true (⟨h1,h2⟩:lo≤n∧n≤hi)] | rw [decide_eq_false (fun h:lo≤n∧n≤hi=>by omega)]
  go_enter Tryz.func244,Tryz.ntmps244
  go_wp2
  go_ret
  exact⟨rfl,rfl⟩
theorem FS (n:Int) (w:World) :
  Calls Tryz.prog 246 #[.int .i64 n] w fun e w'=>e=.returned (.bool (decide (1≤n∧n≤8)))∧w'=w:=by
 have H:=hideS fun w=>AA n 1 8 w
 generalize decide (1≤n∧n≤8)=b at *
 go_enter Tryz.func246,Tryz.ntmps246
 go_wp2_with (go_at_call 244;refine (H.out _).mono ?_;rintro e w' ⟨rfl,rfl⟩)
 go_ret
 exact⟨rfl,rfl⟩
set_option maxHeartbeats 800000 in
theorem FT (x:Nat) (w:World) (hx:U64 x) :
  Calls Tryz.prog 245 #[.float .f64 x] w fun e w'=>e=.returned (.bool (aH x))∧w'=w:=by
 have H1:=hideS fun w=>aP x w hx
 cases hn:ag (x:Int)
 ·rw [hn] at H1
  have H2:=hideS fun w=>gD x _ w hx (ov hn)
  generalize aH x=b at *
  clear hn hx
  cases b
  all_goals
   go_enter Tryz.func245,Tryz.ntmps245
   go_wp2_with fail
   refine (H1.out _).mono ?_
   rintro e w' ⟨rfl,rfl⟩
   go_wp2_with fail
   refine (H2.out _).mono ?_
   rintro e w' ⟨rfl,rfl⟩
   go_wp2_with fail
   go_ret
   exact⟨rfl,rfl⟩
 ·rw [hn] at H1
  rw [mH hn]
  clear hn hx
  go_enter Tryz.func245,Tryz.ntmps245
  go_wp2_with fail
  refine (H1.out _).mono ?_
  rintro e w' ⟨rfl,rfl⟩
  go_wp2_with fail
  go_ret
  exact⟨rfl,rfl⟩

def gH (f:Flw):Int:=if ¬ (0≤f.day∧f.day≤109572) then 51 else if aH f.am=false then 91 else if ¬ (1≤f.cur∧f.cur≤8) then 140 else 0
inductive ChkF (l:List Flw):Int→Int→Prop
 | many (h:4096<l.length):ChkF l 81 0
 | fine (hl:l.length≤4096) (h:∀ i<l.length,gH (l.getD i aO)=0):ChkF l 0 0
 | bad (hl:l.length≤4096) (k:Nat) (hk:k<l.length) (e:Int) (he:gH (l.getD k aO)=e) (h0:e≠0) (h:∀ i<k,gH (l.getD i aO)=0):ChkF l e k
theorem chkF_from (l:List Flw):∀ n,(∀ i<n,gH (l.getD i aO)=0)∨∃ k<n,gH (l.getD k aO)≠0∧∀ i<k,gH (l.getD i aO)=0
 | 0=>Or.inl (fun i hi=>by omega)
 | n+1=>by
  rcases chkF_from l n with h | ⟨k,hk,h0,h⟩
  ·by_cases c:gH (l.getD n aO)=0
   ·refine Or.inl (fun i hi=>?_)
    by_cases d:i<n
    ·exact h i d
    ·obtain rfl:i=n:=by omega
     exact c
   ·exact Or.inr ⟨n,by omega,c,h⟩
  ·exact Or.inr ⟨k,by omega,h0,h⟩
theorem AB (l:List Flw):∃ e k,ChkF l e k:=by
 by_cases hl:4096<l.length
 ·exact⟨_,_,.many hl⟩
 ·rcases chkF_from l l.length with h | ⟨k,hk,h0,h⟩
  ·exact⟨0,0,.fine (by omega) h⟩
  ·exact⟨_,_,.bad (by omega) k hk _ rfl h0 h⟩
theorem aM {l:List Flw} {e e' k k':Int} (h:ChkF l e k) (h':ChkF l e' k'):e=e'∧k=k':=by
 cases h with
 | many h=>cases h' with
  | many _=>exact⟨rfl,rfl⟩
  | fine hl _=>omega
  | bad hl=>omega
 | fine hl h=>cases h' with
  | many h'=>omega
  | fine _ _=>exact⟨rfl,rfl⟩
  | bad _ k' hk' _ he' h0' _=>exact absurd (he'.symm.trans (h k' hk')) h0'
 | bad hl k hk _ he h0 h=>cases h' with
  | many h'=>omega
  | fine _ h'=>exact absurd (he.symm.trans (h' k hk)) h0
  | bad _ k' hk' _ he' h0' h'=>
   rcases Nat.lt_trichotomy k k' with c | c | c
   ·exact absurd (he.symm.trans (h' k c)) h0
   ·subst c;exact⟨he.symm.trans he',rfl⟩
   ·exact absurd (he'.symm.trans (h k' c)) h0'
def gI (l:List Flw):Prop:=∀ i,(l.getD i aO).am<18446744073709551616

theorem jx {w:World} {g o:Nat} {cs:Array Value} {t:TypeId} (v:Value) (h:w.heap[g]? =some (.cells cs t (0,0))):(w.setCell ⟨g,o,none⟩ v).heap[g]? =some (.cells (cs.setIfInBounds o v) t (0,0)):=by
 rw [Go.Sort.setCell_eq]
 simp [Go.Sort.mapBlock,Array.getElem?_modify,h,Go.Sort.onCells]
theorem rF (a:Addr) (x:Nat) (m:Mode) (w:World):(store a (.float .f64 x) m).run Tryz.prog w=stored Tryz.prog w a (.float .f64 x) m:=run_store Tryz.prog w a _ m rfl
def du:Obj:=.cells #[.int .i64 0,.float .f64 0,.int .i64 0] 74
def Cu (w:World) (g:Nat) (f:Flw):World:=((w.setCell ⟨g,0,none⟩ (.int .i64 f.day)).setCell ⟨g,1,none⟩ (.float .f64 f.am)).setCell ⟨g,2,none⟩ (.int .i64 f.cur)
theorem lW (w:World):((w.alloc du).cell? ⟨w.heap.size,0,none⟩=some (.int .i64 0)∧(w.alloc du).cell? ⟨w.heap.size,1,none⟩=some (.float .f64 0)∧(w.alloc du).cell? ⟨w.heap.size,2,none⟩=some (.int .i64 0))∧∀ i,(w.alloc du).frozen? ⟨w.heap.size,i,none⟩=false:=by
 have h:=heap_alloc_new w du
 unfold du at h
 refine⟨⟨by unfold du;simp,by unfold du;simp,by unfold du;simp⟩,fun i=>frozen_of_row _ _ i _ _ h⟩
structure FBx (w:World) (f:Flw) (wr:World):Prop where
 t0:wr.cell? ⟨w.heap.size,0,none⟩=some (.int .i64 f.day)
 t1:wr.cell? ⟨w.heap.size,1,none⟩=some (.float .f64 f.am)
 t2:wr.cell? ⟨w.heap.size,2,none⟩=some (.int .i64 f.cur)
 fz:∀ i,wr.frozen? ⟨w.heap.size,i,none⟩=false
 bl:Below w.heap.size w wr
 lt:w.heap.size<wr.heap.size
theorem FBx.step {w wr w':World} {f:Flw} (h:FBx w f wr) (hb:Below wr.heap.size wr w'):FBx w f w':=
 ⟨(hb.cell (p:=⟨w.heap.size,0,none⟩) h.lt).trans h.t0,(hb.cell (p:=⟨w.heap.size,1,none⟩) h.lt).trans h.t1,(hb.cell (p:=⟨w.heap.size,2,none⟩) h.lt).trans h.t2,fun i=>(hb.frozen (p:=⟨w.heap.size,i,none⟩) h.lt).trans (h.fz i),h.bl.trans (hb.mono h.bl.size),Nat.lt_of_lt_of_le h.lt hb.size⟩
theorem FU {w wr:World} {f:Flw} (h:wr.heap[w.heap.size]? =some (.cells #[.int .i64 f.day,.float .f64 f.am,.int .i64 f.cur] 74)) (hb:Below w.heap.size w wr):FBx w f wr:=by
 refine⟨?_,?_,?_,fun i=>frozen_of_row _ _ i _ _ h,hb,(Array.getElem?_eq_some_iff.1 h).1⟩
 all_goals
  simp only [World.cell?,h,Option.isSome_none,Bool.false_eq_true,if_false]
  rfl
theorem FW (w:World) (f:Flw):(Cu (w.alloc du) w.heap.size f).heap[w.heap.size]? =some (.cells #[.int .i64 f.day,.float .f64 f.am,.int .i64 f.cur] 74):=by
 have h:=heap_alloc_new w du
 unfold du at h
 exact jx _ (jx _ (jx _ h))
theorem vU (w:World) (f:Flw):FBx w f (Cu (w.alloc du) w.heap.size f):=
 FU (FW w f) ((((Below.refl _ w).alloc (Nat.le_refl _) _).setCell (p:=⟨w.heap.size,0,none⟩) (Nat.le_refl _) _).setCell (p:=⟨w.heap.size,1,none⟩) (Nat.le_refl _) _ |>.setCell (p:=⟨w.heap.size,2,none⟩) (Nat.le_refl _) _)
theorem Lw (w:World) (f:Flw):FBx w f (w.alloc (.cells #[.int .i64 f.day,.float .f64 f.am,.int .i64 f.cur] 74)):=
 FU (heap_alloc_new w _) ((Below.refl _ _).alloc (Nat.le_refl _) _)

set_option maxHeartbeats 1600000 in
theorem FX (f:Flw) (w:World) (hx:f.am<18446744073709551616) :
  Calls Tryz.prog 204 #[.agg #[.int .i64 f.day,.float .f64 f.am,.int .i64 f.cur]] w fun e w'=>e=.returned (.int .i64 (gH f))∧Below w.heap.size w w':=by
 obtain⟨day,am,cur⟩:=f
 have H0:=hideS (Lw w ⟨day,am,cur⟩)
 have HI:=hideS fun wx=>AA day 0 109572 wx
 have HN:=hideS fun wx=>FT am wx (by unfold U64;dsimp only at hx;omega)
 have HC:=hideS fun wx=>FS cur wx
 obtain⟨E,hE⟩:∃ E,gH ⟨day,am,cur⟩=E:=⟨_,rfl⟩
 have HE:Hid ((if ¬ (0≤day∧day≤109572) then 51 else if aH am=false then 91 else if ¬ (1≤cur∧cur≤8) then 140 else 0)=E):=hE
 rw [hE]
 clear hE hx
 dsimp only at *
 by_cases h1:0≤day∧day≤109572
 ·rw [decide_eq_true h1] at HI
  rw [if_neg (not_not_intro h1)] at HE
  cases h2:aH am
  ·rw [h2] at HN HE
   have HE2:Hid (E=91):=HE.out.symm
   rw [HE2.out]
   clear HE HE2 HC h1 h2
   go_enter Tryz.func204,Tryz.ntmps204
   go_wp2_with (first | (go_at_call 244;refine (HI.out _).mono ?_;rintro e w' ⟨rfl,rfl⟩) | (go_at_call 245;refine (HN.out _).mono ?_;rintro e w' ⟨rfl,rfl⟩))
   go_ret
   exact⟨rfl,H0.out.bl⟩
  ·rw [h2] at HN HE
   rw [if_neg (by simp)] at HE
   by_cases h3:1≤cur∧cur≤8
   ·rw [decide_eq_true h3] at HC
    have HE2:Hid (E=0):=by have:=HE.out;rw [if_neg (not_not_intro h3)] at this;exact this.symm
    rw [HE2.out]
    clear HE HE2 h1 h2 h3
    go_enter Tryz.func204,Tryz.ntmps204
    go_wp2_with (first | (go_at_call 244;refine (HI.out _).mono ?_;rintro e w' ⟨rfl,rfl⟩) | (go_at_call 245;refine (HN.out _).mono ?_;rintro e w' ⟨rfl,rfl⟩) | (go_at_call 246;refine (HC.out _).mono ?_;rintro e w' ⟨rfl,rfl⟩))
    go_ret
    exact⟨rfl,H0.out.bl⟩
   ·rw [decide_eq_false h3] at HC
    have HE2:Hid (E=140):=by have:=HE.out;rw [if_pos h3] at this;exact this.symm
    rw [HE2.out]
    clear HE HE2 h1 h2 h3
    go_enter Tryz.func204,Tryz.ntmps204
    go_wp2_with (first | (go_at_call 244;refine (HI.out _).mono ?_;rintro e w' ⟨rfl,rfl⟩) | (go_at_call 245;refine (HN.out _).mono ?_;rintro e w' ⟨rfl,rfl⟩) | (go_at_call 246;refine (HC.out _).mono ?_;rintro e w' ⟨rfl,rfl⟩))
    go_ret
    exact⟨rfl,H0.out.bl⟩
 ·rw [decide_eq_false h1] at HI
  have HE2:Hid (E=51):=by have:=HE.out;rw [if_pos h1] at this;exact this.symm
  rw [HE2.out]
  clear HE HE2 HC HN h1
  go_enter Tryz.func204,Tryz.ntmps204
  go_wp2_with (go_at_call 244;refine (HI.out _).mono ?_;rintro e w' ⟨rfl,rfl⟩)
  go_ret
  exact⟨rfl,H0.out.bl⟩

set_option maxRecDepth 20000 in
set_option maxHeartbeats 3200000 in
theorem yG (l:List Flw) (p:Option Addr) (b off c N:Nat) (E K:Int) (w:World) (hl:JSrc aF w p b off l) (hN:l.length=N) (hc:N≤9223372036854775807) (hf:gI l) (hE:ChkF l E K) :
  Calls Tryz.prog 158 #[.slice p N c] w fun e w'=>e=.returned (.tuple #[.int .i64 E,.int .i64 K])∧Below w.heap.size w w':=by
 have HN:=hideS hN
 have HE:=hideS hE
 have HQ:=hideS hl
 have HF:=hideS hf
 by_cases hm:4096<N
 ·obtain⟨rfl,rfl⟩:=aM hE (.many (by omega))
  clear hE hl hN hf
  go_enter Tryz.func158,Tryz.ntmps158
  go_wp2
  go_ret2
  exact⟨rfl,Below.refl _ _⟩
 ·have HP:Hid (0<N→p=some ⟨b,off,none⟩):=fun h=>hl.at_ (by omega)
  clear hE hl hN hf
  go_enter Tryz.func158,Tryz.ntmps158
  go_wp2_with fail
  go_loopw [12] (fun i wr=>∃ k:Nat,k≤N∧i=.int .i64 k∧Hid (∀ j<k,gH (l.getD j aO)=0)∧Hid (Below w.heap.size w wr)) (fun i _=>N - (intOf i).toNat)
  case atStart=>exact⟨0,Nat.zero_le _,rfl,fun j hj=>by omega,Below.refl _ _⟩
  case round=>
   obtain⟨k,hk,rfl,HFi,HB⟩:=hrel
   by_cases hlt:k<N
   ·obtain rfl:=HP.out (by omega)
    obtain⟨c0,c1,c2⟩:=(HQ.out.below HB.out).cell k (by rw [HN.out];exact hlt)
    have HFt:=hideS fun wx=>FX (l.getD k aO) wx (HF.out k)
    obtain⟨F,hF⟩:∃ F,gH (l.getD k aO)=F:=⟨_,rfl⟩
    rw [hF] at HFt
    have HFe:=hideS hF
    have HQB:=hideS (vU wr (l.getD k aO))
    obtain⟨⟨z0,z1,z2⟩,fz⟩:=lW wr
    have y0:=fz 0
    have y1:=fz 1
    have y2:=fz 2
    clear fz hF
    obtain⟨q,hq⟩:∃ q,l.getD k aO=q:=⟨_,rfl⟩
    rw [hq] at HFt HQB c0 c1 c2
    clear hq
    obtain⟨qd,qa,qc⟩:=q
    dsimp only [aF] at *
    obtain⟨w2,hw2⟩:∃ w2,wr.alloc du=w2:=⟨_,rfl⟩
    rw [hw2] at z0 z1 z2 y0 y1 y2 HQB
    unfold du at hw2
    obtain⟨w3,hw3⟩:∃ w3,Cu w2 wr.heap.size ⟨qd,qa,qc⟩=w3:=⟨_,rfl⟩
    rw [hw3] at HQB
    unfold Cu at hw3
    dsimp only at hw3
    have t0:=HQB.out.t0
    have t1:=HQB.out.t1
    have t2:=HQB.out.t2
    dsimp only at t0 t1 t2
    have hst:=rF
    by_cases hz:F=0
    ·have HFi2:Hid (∀ j<k+1,gH (l.getD j aO)=0):=fun j hj=>by
      by_cases c:j<k
      ·exact HFi.out j c
      ·obtain rfl:j=k:=by omega
       rw [HFe.out];exact hz
     subst hz
     go_wp2_with fail
     clear hst hw2 hw3 z0 z1 z2 y0 y1 y2 t0 t1 t2
     refine (HFt.out _).mono ?_
     rintro e w4 ⟨rfl,hb2⟩
     have HB2:=hideS (HB.out.trans ((HQB.out.step hb2).bl.mono HB.out.size))
     clear hb2 c0 c1 c2
     go_wp2_with fail
     go_roundw
     case rel=>exact⟨k+1,by omega,by simp,HFi2,HB2⟩
     case measure=>simp [intOf];omega
    ·have hEK:F=E∧(k:Int)=K:=aM (.bad (by rw [HN.out];omega) k (by rw [HN.out];exact hlt) F HFe.out hz HFi.out) HE.out
     have HEK:=hideS hEK
     have d7:(F !=0)=true:=bne_iff_ne.2 hz
     clear hz hEK
     go_wp2_with fail
     clear hst hw2 hw3 z0 z1 z2 y0 y1 y2 t0 t1 t2
     refine (HFt.out _).mono ?_
     rintro e w4 ⟨rfl,hb2⟩
     have HB2:=hideS (HB.out.trans ((HQB.out.step hb2).bl.mono HB.out.size))
     clear hb2
     go_wp2_with fail
     go_ret2
     obtain⟨rfl,rfl⟩:=HEK.out
     exact⟨rfl,HB2.out⟩
   ·obtain rfl:k=N:=by omega
    have hEK:(0:Int)=E∧(0:Int)=K:=aM (.fine (by rw [HN.out];omega) (by rw [HN.out];exact HFi.out)) HE.out
    have HEK:=hideS hEK
    clear hEK
    go_wp2_with fail
    go_ret2
    obtain⟨rfl,rfl⟩:=HEK.out
    exact⟨rfl,HB.out⟩
end Go.Proofs.YtpddmnmhdahnlaaGreat
