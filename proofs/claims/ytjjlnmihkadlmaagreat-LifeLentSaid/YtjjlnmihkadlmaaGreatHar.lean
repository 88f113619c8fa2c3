/-  -/
import Derived.Test.YtjjlnmihkadlmaaGreatHao
import Derived.Test.YtjjlnmihkadlmaaGreatHam
import Derived.LoopTactic
import Derived.Sort.Row
namespace Go.Proofs.YtjjlnmihkadlmaaGreat
open Go.RowKit

theorem wM (n lo hi:Int) (w:World) :
  Calls Tryz.prog 120 #[.int .i64 n,.int .i64 lo,.int .i64 hi] w fun e w'=>e=.returned (.bool (decide (lo≤n∧n≤hi)))∧w'=w:=by
 by_cases h1:lo≤n<;>by_cases h2:n≤hi
 all_goals
  first | rw [decide_eq_true (⟨h1,h2⟩:lo≤n∧n≤hi)] | rw [decide_eq_false (fun h:lo≤n∧n≤hi=>by omega)]
  go_enter Tryz.func120,Tryz.ntmps120
  go_wp2
  go_ret
  exact⟨rfl,rfl⟩
theorem Ar (n:Int) (w:World) :
  Calls Tryz.prog 122 #[.int .i64 n] w fun e w'=>e=.returned (.bool (decide (1≤n∧n≤8)))∧w'=w:=by
 have H:=hideS fun w=>wM n 1 8 w
 generalize decide (1≤n∧n≤8)=b at *
 go_enter Tryz.func122,Tryz.ntmps122
 go_wp2_with (go_at_call 120;refine (H.out _).mono ?_;rintro e w' ⟨rfl,rfl⟩)
 go_ret
 exact⟨rfl,rfl⟩
set_option maxHeartbeats 800000 in
theorem As (x:Nat) (w:World) (hx:U64 x) :
  Calls Tryz.prog 121 #[.float .f64 x] w fun e w'=>e=.returned (.bool (bL x))∧w'=w:=by
 have H1:=hideS fun w=>aU x w hx
 cases hn:ag (x:Int)
 ·rw [hn] at H1
  have H2:=hideS fun w=>ip x _ w hx (pG hn)
  generalize bL x=b at *
  clear hn hx
  cases b
  all_goals
   go_enter Tryz.func121,Tryz.ntmps121
   go_wp2_with fail
   refine (H1.out _).mono ?_
   rintro e w' ⟨rfl,rfl⟩
   go_wp2_with fail
   refine (H2.out _).mono ?_
   rintro e w' ⟨rfl,rfl⟩
   go_wp2_with fail
   go_ret
   exact⟨rfl,rfl⟩
 ·rw [hn] at H1
  rw [pH hn]
  clear hn hx
  go_enter Tryz.func121,Tryz.ntmps121
  go_wp2_with fail
  refine (H1.out _).mono ?_
  rintro e w' ⟨rfl,rfl⟩
  go_wp2_with fail
  go_ret
  exact⟨rfl,rfl⟩

def dl (f:Flw):Int:=if ¬ (0≤f.day∧f.day≤109572) then 51 else if bL f.am=false then 91 else if ¬ (1≤f.cur∧f.cur≤8) then 140 else 0
inductive ChkF (l:List Flw):Int→Int→Prop
 | many (h:4096<l.length):ChkF l 81 0
 | fine (hl:l.length≤4096) (h:∀ i<l.length,dl (l.getD i ak)=0):ChkF l 0 0
 | bad (hl:l.length≤4096) (k:Nat) (hk:k<l.length) (e:Int) (he:dl (l.getD k ak)=e) (h0:e≠0) (h:∀ i<k,dl (l.getD i ak)=0):ChkF l e k
theorem chkF_from (l:List Flw):∀ n,(∀ i<n,dl (l.getD i ak)=0)∨∃ k<n,dl (l.getD k ak)≠0∧∀ i<k,dl (l.getD i ak)=0
 | 0=>Or.inl (fun i hi=>by omega)
 | n+1=>by
  rcases chkF_from l n with h | ⟨k,hk,h0,h⟩
  ·by_cases c:dl (l.getD n ak)=0
   ·refine Or.inl (fun i hi=>?_)
    by_cases d:i<n
    ·exact h i d
    ·obtain rfl:i=n:=by omega
     exact c
   ·exact Or.inr ⟨n,by omega,c,h⟩
  ·exact Or.inr ⟨k,by omega,h0,h⟩
theorem kR (l:List Flw):∃ e k,ChkF l e k:=by
 by_cases hl:4096<l.length
 ·exact⟨_,_,.many hl⟩
 ·rcases chkF_from l l.length with h | ⟨k,hk,h0,h⟩
  ·exact⟨0,0,.fine (by omega) h⟩
  ·exact⟨_,_,.bad (by omega) k hk _ rfl h0 h⟩
theorem aj {l:List Flw} {e e' k k':Int} (h:ChkF l e k) (h':ChkF l e' k'):e=e'∧k=k':=by
 cases h with
 | many h=>cases h' with
  | many _=>exact⟨rfl,rfl⟩
  | fine hl _=>omega
  | bad hl=>omega
 | fine hl h=>cases h' with
  | many h'=>omega
  | fine _ _=>exact⟨rfl,rfl⟩
  | bad _ k' hk' _ he' h0' _=>exact absurd (he'.symm.trans (h k' hk')) h0'
 | bad hl k hk _ he h0 h=>cases h' with
  | many h'=>omega
  | fine _ h'=>exact absurd (he.symm.trans (h' k hk)) h0
  | bad _ k' hk' _ he' h0' h'=>
   rcases Nat.lt_trichotomy k k' with c | c | c
   ·exact absurd (he.symm.trans (h' k c)) h0
   ·subst c;exact⟨he.symm.trans he',rfl⟩
   ·exact absurd (he'.symm.trans (h k' c)) h0'
def dm (l:List Flw):Prop:=∀ i,(l.getD i ak).am<18446744073709551616

theorem aW {w:World} {g o:Nat} {cs:Array Value} {t:TypeId} (v:Value) (h:w.heap[g]? =some (.cells cs t (0,0))):(w.setCell ⟨g,o,none⟩ v).heap[g]? =some (.cells (cs.setIfInBounds o v) t (0,0)):=by
 rw [Go.Sort.setCell_eq]
 simp [Go.Sort.mapBlock,Array.getElem?_modify,h,Go.Sort.onCells]
theorem cF (a:Addr) (x:Nat) (m:Mode) (w:World):(store a (.float .f64 x) m).run Tryz.prog w=stored Tryz.prog w a (.float .f64 x) m:=run_store Tryz.prog w a _ m rfl
def aZ:Obj:=.cells #[.int .i64 0,.float .f64 0,.int .i64 0] 77
def kN (w:World) (g:Nat) (f:Flw):World:=((w.setCell ⟨g,0,none⟩ (.int .i64 f.day)).setCell ⟨g,1,none⟩ (.float .f64 f.am)).setCell ⟨g,2,none⟩ (.int .i64 f.cur)
theorem cM (w:World):((w.alloc aZ).cell? ⟨w.heap.size,0,none⟩=some (.int .i64 0)∧(w.alloc aZ).cell? ⟨w.heap.size,1,none⟩=some (.float .f64 0)∧(w.alloc aZ).cell? ⟨w.heap.size,2,none⟩=some (.int .i64 0))∧∀ i,(w.alloc aZ).frozen? ⟨w.heap.size,i,none⟩=false:=by
 have h:=heap_alloc_new w aZ
 unfold aZ at h
 refine⟨⟨by unfold aZ;simp,by unfold aZ;simp,by unfold aZ;simp⟩,fun i=>frozen_of_row _ _ i _ _ h⟩
structure FBj (w:World) (f:Flw) (wr:World):Prop where
 t0:wr.cell? ⟨w.heap.size,0,none⟩=some (.int .i64 f.day)
 t1:wr.cell? ⟨w.heap.size,1,none⟩=some (.float .f64 f.am)
 t2:wr.cell? ⟨w.heap.size,2,none⟩=some (.int .i64 f.cur)
 fz:∀ i,wr.frozen? ⟨w.heap.size,i,none⟩=false
 bl:Below w.heap.size w wr
 lt:w.heap.size<wr.heap.size
theorem FBj.step {w wr w':World} {f:Flw} (h:FBj w f wr) (hb:Below wr.heap.size wr w'):FBj w f w':=
 ⟨(hb.cell (p:=⟨w.heap.size,0,none⟩) h.lt).trans h.t0,(hb.cell (p:=⟨w.heap.size,1,none⟩) h.lt).trans h.t1,(hb.cell (p:=⟨w.heap.size,2,none⟩) h.lt).trans h.t2,fun i=>(hb.frozen (p:=⟨w.heap.size,i,none⟩) h.lt).trans (h.fz i),h.bl.trans (hb.mono h.bl.size),Nat.lt_of_lt_of_le h.lt hb.size⟩
theorem Au {w wr:World} {f:Flw} (h:wr.heap[w.heap.size]? =some (.cells #[.int .i64 f.day,.float .f64 f.am,.int .i64 f.cur] 77)) (hb:Below w.heap.size w wr):FBj w f wr:=by
 refine⟨?_,?_,?_,fun i=>frozen_of_row _ _ i _ _ h,hb,(Array.getElem?_eq_some_iff.1 h).1⟩
 all_goals
  simp only [World.cell?,h,Option.isSome_none,Bool.false_eq_true,if_false]
  rfl
theorem Av (w:World) (f:Flw):(kN (w.alloc aZ) w.heap.size f).heap[w.heap.size]? =some (.cells #[.int .i64 f.day,.float .f64 f.am,.int .i64 f.cur] 77):=by
 have h:=heap_alloc_new w aZ
 unfold aZ at h
 exact aW _ (aW _ (aW _ h))
theorem fU (w:World) (f:Flw):FBj w f (kN (w.alloc aZ) w.heap.size f):=
 Au (Av w f) ((((Below.refl _ w).alloc (Nat.le_refl _) _).setCell (p:=⟨w.heap.size,0,none⟩) (Nat.le_refl _) _).setCell (p:=⟨w.heap.size,1,none⟩) (Nat.le_refl _) _ |>.setCell (p:=⟨w.heap.size,2,none⟩) (Nat.le_refl _) _)
theorem Aw (w:World) (f:Flw):FBj w f (w.alloc (.cells #[.int .i64 f.day,.float .f64 f.am,.int .i64 f.cur] 77)):=
 Au (heap_alloc_new w _) ((Below.refl _ _).alloc (Nat.le_refl _) _)

set_option maxHeartbeats 1600000 in
theorem Ax (f:Flw) (w:World) (hx:f.am<18446744073709551616) :
  Calls Tryz.prog 80 #[.agg #[.int .i64 f.day,.float .f64 f.am,.int .i64 f.cur]] w fun e w'=>e=.returned (.int .i64 (dl f))∧Below w.heap.size w w':=by
 obtain⟨day,am,cur⟩:=f
 have H0:=hideS (Aw w ⟨day,am,cur⟩)
 have HI:=hideS fun wx=>wM day 0 109572 wx
 have HN:=hideS fun wx=>As am wx (by unfold U64;dsimp only at hx;omega)
 have HC:=hideS fun wx=>Ar cur wx
 obtain⟨E,hE⟩:∃ E,dl ⟨day,am,cur⟩=E:=⟨_,rfl⟩
 have HE:Hid ((if ¬ (0≤day∧day≤109572) then 51 else if bL am=false then 91 else if ¬ (1≤cur∧cur≤8) then 140 else 0)=E):=hE
 rw [hE]
 clear hE hx
 dsimp only at *
 by_cases h1:0≤day∧day≤109572
 ·rw [decide_eq_true h1] at HI
  rw [if_neg (not_not_intro h1)] at HE
  cases h2:bL am
  ·rw [h2] at HN HE
   have HE2:Hid (E=91):=HE.out.symm
   rw [HE2.out]
   clear HE HE2 HC h1 h2
   go_enter Tryz.func80,Tryz.ntmps80
   go_wp2_with (first | (go_at_call 120;refine (HI.out _).mono ?_;rintro e w' ⟨rfl,rfl⟩) | (go_at_call 121;refine (HN.out _).mono ?_;rintro e w' ⟨rfl,rfl⟩))
   go_ret
   exact⟨rfl,H0.out.bl⟩
  ·rw [h2] at HN HE
   rw [if_neg (by simp)] at HE
   by_cases h3:1≤cur∧cur≤8
   ·rw [decide_eq_true h3] at HC
    have HE2:Hid (E=0):=by have:=HE.out;rw [if_neg (not_not_intro h3)] at this;exact this.symm
    rw [HE2.out]
    clear HE HE2 h1 h2 h3
    go_enter Tryz.func80,Tryz.ntmps80
    go_wp2_with (first | (go_at_call 120;refine (HI.out _).mono ?_;rintro e w' ⟨rfl,rfl⟩) | (go_at_call 121;refine (HN.out _).mono ?_;rintro e w' ⟨rfl,rfl⟩) | (go_at_call 122;refine (HC.out _).mono ?_;rintro e w' ⟨rfl,rfl⟩))
    go_ret
    exact⟨rfl,H0.out.bl⟩
   ·rw [decide_eq_false h3] at HC
    have HE2:Hid (E=140):=by have:=HE.out;rw [if_pos h3] at this;exact this.symm
    rw [HE2.out]
    clear HE HE2 h1 h2 h3
    go_enter Tryz.func80,Tryz.ntmps80
    go_wp2_with (first | (go_at_call 120;refine (HI.out _).mono ?_;rintro e w' ⟨rfl,rfl⟩) | (go_at_call 121;refine (HN.out _).mono ?_;rintro e w' ⟨rfl,rfl⟩) | (go_at_call 122;refine (HC.out _).mono ?_;rintro e w' ⟨rfl,rfl⟩))
    go_ret
    exact⟨rfl,H0.out.bl⟩
 ·rw [decide_eq_false h1] at HI
  have HE2:Hid (E=51):=by have:=HE.out;rw [if_pos h1] at this;exact this.symm
  rw [HE2.out]
  clear HE HE2 HC HN h1
  go_enter Tryz.func80,Tryz.ntmps80
  go_wp2_with (go_at_call 120;refine (HI.out _).mono ?_;rintro e w' ⟨rfl,rfl⟩)
  go_ret
  exact⟨rfl,H0.out.bl⟩

set_option maxRecDepth 20000 in
set_option maxHeartbeats 3200000 in
theorem ll (l:List Flw) (p:Option Addr) (b off c N:Nat) (E K:Int) (w:World) (hl:JSrc aF w p b off l) (hN:l.length=N) (hc:N≤9223372036854775807) (hf:dm l) (hE:ChkF l E K) :
  Calls Tryz.prog 37 #[.slice p N c] w fun e w'=>e=.returned (.tuple #[.int .i64 E,.int .i64 K])∧Below w.heap.size w w':=by
 have HN:=hideS hN
 have HE:=hideS hE
 have HQ:=hideS hl
 have HF:=hideS hf
 by_cases hm:4096<N
 ·obtain⟨rfl,rfl⟩:=aj hE (.many (by omega))
  clear hE hl hN hf
  go_enter Tryz.func37,Tryz.ntmps37
  go_wp2
  go_ret2
  exact⟨rfl,Below.refl _ _⟩
 ·have HP:Hid (0<N→p=some ⟨b,off,none⟩):=fun h=>hl.at_ (by omega)
  clear hE hl hN hf
  go_enter Tryz.func37,Tryz.ntmps37
  go_wp2_with fail
  go_loopw [12] (fun i wr=>∃ k:Nat,k≤N∧i=.int .i64 k∧Hid (∀ j<k,dl (l.getD j ak)=0)∧Hid (Below w.heap.size w wr)) (fun i _=>N - (intOf i).toNat)
  case atStart=>exact⟨0,Nat.zero_le _,rfl,fun j hj=>by omega,Below.refl _ _⟩
  case round=>
   obtain⟨k,hk,rfl,HFi,HB⟩:=hrel
   by_cases hlt:k<N
   ·obtain rfl:=HP.out (by omega)
    obtain⟨c0,c1,c2⟩:=(HQ.out.below HB.out).cell k (by rw [HN.out];exact hlt)
    have HFt:=hideS fun wx=>Ax (l.getD k ak) wx (HF.out k)
    obtain⟨F,hF⟩:∃ F,dl (l.getD k ak)=F:=⟨_,rfl⟩
    rw [hF] at HFt
    have HFe:=hideS hF
    have HQB:=hideS (fU wr (l.getD k ak))
    obtain⟨⟨z0,z1,z2⟩,fz⟩:=cM wr
    have y0:=fz 0
    have y1:=fz 1
    have y2:=fz 2
    clear fz hF
    obtain⟨q,hq⟩:∃ q,l.getD k ak=q:=⟨_,rfl⟩
    rw [hq] at HFt HQB c0 c1 c2
    clear hq
    obtain⟨qd,qa,qc⟩:=q
    dsimp only [aF] at *
    obtain⟨w2,hw2⟩:∃ w2,wr.alloc aZ=w2:=⟨_,rfl⟩
    rw [hw2] at z0 z1 z2 y0 y1 y2 HQB
    unfold aZ at hw2
    obtain⟨w3,hw3⟩:∃ w3,kN w2 wr.heap.size ⟨qd,qa,qc⟩=w3:=⟨_,rfl⟩
    rw [hw3] at HQB
    unfold kN at hw3
    dsimp only at hw3
    have t0:=HQB.out.t0
    have t1:=HQB.out.t1
    have t2:=HQB.out.t2
    dsimp only at t0 t1 t2
    have hst:=cF
    by_cases hz:F=0
    ·have HFi2:Hid (∀ j<k+1,dl (l.getD j ak)=0):=fun j hj=>by
      by_cases c:j<k
      ·exact HFi.out j c
      ·obtain rfl:j=k:=by omega
       rw [HFe.out];exact hz
     subst hz
     go_wp2_with fail
     clear hst hw2 hw3 z0 z1 z2 y0 y1 y2 t0 t1 t2
     refine (HFt.out _).mono ?_
     rintro e w4 ⟨rfl,hb2⟩
     have HB2:=hideS (HB.out.trans ((HQB.out.step hb2).bl.mono HB.out.size))
     clear hb2 c0 c1 c2
     go_wp2_with fail
     go_roundw
     case rel=>exact⟨k+1,by omega,by simp,HFi2,HB2⟩
     case measure=>simp [intOf];omega
    ·have hEK:F=E∧(k:Int)=K:=aj (.bad (by rw [HN.out];omega) k (by rw [HN.out];exact hlt) F HFe.out hz HFi.out) HE.out
     have HEK:=hideS hEK
     have d7:(F !=0)=true:=bne_iff_ne.2 hz
     clear hz hEK
     go_wp2_with fail
     clear hst hw2 hw3 z0 z1 z2 y0 y1 y2 t0 t1 t2
     refine (HFt.out _).mono ?_
     rintro e w4 ⟨rfl,hb2⟩
     have HB2:=hideS (HB.out.trans ((HQB.out.step hb2).bl.mono HB.out.size))
     clear hb2
     go_wp2_with fail
     go_ret2
     obtain⟨rfl,rfl⟩:=HEK.out
     exact⟨rfl,HB2.out⟩
   ·obtain rfl:k=N:=by omega
    have hEK:(0:Int)=E∧(0:Int)=K:=aj (.fine (by rw [HN.out];omega) (by rw [HN.out];exact HFi.out)) HE.out
    have HEK:=hideS hEK
    clear hEK
    go_wp2_with fail
    go_ret2
    obtain⟨rfl,rfl⟩:=HEK.out
    exact⟨rfl,HB.out⟩
end Go.Proofs.YtjjlnmihkadlmaaGreat
namespace Go.Proofs.YtjjlnmihkadlmaaGreat
open Go.RowKit

def jH (g:Flw→Flw) (l:List Flw) (k:Nat):List Flw:=(List.range k).map fun i=>g (l.getD i ak)
theorem Ay (g:Flw→Flw) (l:List Flw) (k:Nat):(jH g l k).length=k:=by unfold jH;simp
theorem xR (g:Flw→Flw) (l:List Flw) (k:Nat):jH g l (k+1)=jH g l k++[g (l.getD k ak)]:=by unfold jH;rw [List.range_succ,List.map_append];rfl
theorem Az (g:Flw→Flw) (l:List Flw):jH g l l.length=l.map g:=by
 apply List.ext_getElem
 ·simp [jH]
 ·intro i h1 h2
  have:i<l.length:=by simpa using h2
  simp [jH,List.getD,this]
theorem lm (w:World) (f:Flw):FCells aF (w.alloc (.cells #[.int .i64 f.day,.float .f64 f.am,.int .i64 f.cur] 77)) w.heap.size 0 f:=
 ⟨by simp,by simp [aF],by simp⟩
theorem eK (w:World) {ops:Array Oper} {rest:List Oper} {o:Oper} {a:Act} {Q:Exit→Act→World→Prop} (hgd:o.guard=none) (s x:Operand)
  (ho:o.op=.call { callee:=.builtin .append,args:=#[s,x],argTypes:=#[22,22] })
  (base:Nat) (v:Value) (n:Nat) (xs:List Flw) (hs:a.eval s=v) (hown:w.ownsRow base 77 3 v n (aw aF xs)) (hb:base≤w.heap.size)
  (g:Nat) (z:Flw) (hx:a.eval x=.slice (some ⟨g,0,none⟩) 1 1) (hc:FCells aF w g 0 z) (hn:(n+1)*24≤140737488355328)
  (h:∀ v' w',w'.ownsRow base 77 3 v' (n+1) (aw aF (xs++[z]))→Below base w w'→wpList Tryz.prog ops Q rest (a.put o.dst v') w'):wpList Tryz.prog ops Q (o::rest) a w:=
 eJ aF (fun _=>rfl) 22 77 Tryz.underlying22 wK rfl w hgd s x ho base v n xs hs hown g 0 1 [z] hx (fun i hi=>by
  obtain rfl:i=0:=by simp at hi;omega
  exact hc) hn hb (fun v' w' h1 h2=>h v' w' h1 (bm hown h2 hb))

def hH (a b:Int) (l:List Flw):Nat→List Flw
 | 0=>[]
 | k+1=>if a≤(l.getD k ak).day∧(l.getD k ak).day<b then hH a b l k++[l.getD k ak] else hH a b l k
theorem ro (a b:Int) (l:List Flw):∀ k,(hH a b l k).length≤k
 | 0=>Nat.le_refl _
 | k+1=>by
  have:=ro a b l k
  unfold hH
  split
  ·rw [List.length_append];simp;omega
  ·omega
def pI (a b:Int) (f:Flw):Bool:=decide (a≤f.day)&&decide (f.day<b)
theorem nY (a b:Int) (l:List Flw):∀ k,k≤l.length→hH a b l k=(l.take k).filter (pI a b)
 | 0,_=>rfl
 | k+1,h=>by
  have hk:k<l.length:=by omega
  rw [List.take_succ_eq_append_getElem hk,List.filter_append,← nY a b l k (by omega)]
  have e:l.getD k ak=l[k]:=by simp [List.getD,hk]
  show (if a≤(l.getD k ak).day∧(l.getD k ak).day<b then hH a b l k++[l.getD k ak] else hH a b l k)=_
  rw [e]
  by_cases c:a≤l[k].day∧l[k].day<b
  ·rw [if_pos c,List.filter_cons_of_pos (by simp [pI,c.1,c.2]),List.filter_nil]
  ·rw [if_neg c,List.filter_cons_of_neg (by simp [pI];omega),List.filter_nil,List.append_nil]
theorem AA (a b:Int) (l:List Flw):hH a b l l.length=l.filter (pI a b):=by rw [nY a b l _ (Nat.le_refl _),List.take_length]

set_option maxRecDepth 20000 in
set_option maxHeartbeats 3200000 in
theorem rp (l:List Flw) (p:Option Addr) (b off c N:Nat) (x y:Int) (w:World) (hl:JSrc aF w p b off l) (hN:l.length=N) (hc:N*24≤140737488355328) :
  Calls Tryz.prog 46 #[.slice p N c,.int .i64 x,.int .i64 y] w fun e w'=>(∃ u,e=.returned u∧w'.ownsRow w.heap.size 77 3 u (l.filter (pI x y)).length (aw aF (l.filter (pI x y))))∧Below w.heap.size w w':=by
 have HN:=hideS hN
 have HQ:=hideS hl
 have HP:Hid (0<N→p=some ⟨b,off,none⟩):=fun h=>hl.at_ (by omega)
 have HC:=hideS hc
 have hc2:N≤140737488355328:=by omega
 have HO0:=hideS (cL aF w w.heap.size 77)
 have HR:Hid (hH x y l N=l.filter (pI x y)):=by show _=_;rw [← hN];exact AA x y l
 rw [← HR.out]
 clear hl hN hc HR
 go_enter Tryz.func46,Tryz.ntmps46
 go_wp2_with fail
 go_loopw [7,12] (fun g i wr=>∃ (k m:Nat) (q:Option Addr) (cp:Nat),k≤N∧i=.int .i64 k∧g=.slice q m cp∧Hid (m=(hH x y l k).length)∧Hid (wr.ownsRow w.heap.size 77 3 (.slice q m cp) m (aw aF (hH x y l k)))∧Hid (Below w.heap.size w wr)) (fun _ i _=>N - (intOf i).toNat)
 case atStart=>exact⟨0,0,none,0,Nat.zero_le _,rfl,rfl,rfl,HO0,Below.refl _ _⟩
 case round=>
  clear HO0
  obtain⟨k,m,q,cp,hk,rfl,rfl,HM,HO,HB⟩:=hrel
  by_cases hlt:k<N
  ·obtain rfl:=HP.out (by omega)
   obtain⟨c0,c1,c2⟩:=(HQ.out.below HB.out).cell k (by rw [HN.out];exact hlt)
   have HL:=hideS (ro x y l k)
   have HS:Hid (hH x y l (k+1)=if x≤(l.getD k ak).day∧(l.getD k ak).day<y then hH x y l k++[l.getD k ak] else hH x y l k):=rfl
   have HQB:=hideS (fU wr (l.getD k ak))
   obtain⟨⟨z0,z1,z2⟩,fz⟩:=cM wr
   have y0:=fz 0
   have y1:=fz 1
   have y2:=fz 2
   clear fz
   obtain⟨f,hf⟩:∃ f,l.getD k ak=f:=⟨_,rfl⟩
   rw [hf] at HS HQB c0 c1 c2
   clear hf
   obtain⟨qd,qa,qc⟩:=f
   dsimp only [aF] at *
   obtain⟨w2,hw2⟩:∃ w2,wr.alloc aZ=w2:=⟨_,rfl⟩
   rw [hw2] at z0 z1 z2 y0 y1 y2 HQB
   unfold aZ at hw2
   obtain⟨w3,hw3⟩:∃ w3,kN w2 wr.heap.size ⟨qd,qa,qc⟩=w3:=⟨_,rfl⟩
   rw [hw3] at HQB
   unfold kN at hw3
   dsimp only at hw3
   have t0:=HQB.out.t0
   have t1:=HQB.out.t1
   have t2:=HQB.out.t2
   dsimp only at t0 t1 t2
   have hst:=cF
   by_cases h1:x≤qd
   ·by_cases h2:qd<y
    ·rw [if_pos ⟨h1,h2⟩] at HS
     have HBw:=hideS (HQB.out.bl.trans (((Below.refl w3.heap.size w3).alloc (Nat.le_refl _) (.cells #[.int .i64 qd,.float .f64 qa,.int .i64 qc] 77)).mono HQB.out.bl.size))
     have HO4:=hideS (ap HO.out HBw.out)
     have HFc:=hideS (lm w3 ⟨qd,qa,qc⟩)
     have HB4:=hideS (HB.out.trans (HBw.out.mono HB.out.size))
     have HLn:Hid ((hH x y l (k+1)).length=m+1):=by show _=_;rw [HS.out,List.length_append,← HM.out];rfl
     go_wp2_with (at_builtin;refine eK _ rfl (.tmp 26) (.tmp 28) rfl w.heap.size (.slice q m cp) m (hH x y l k) rfl HO4.out HB4.out.size w3.heap.size ⟨qd,qa,qc⟩ rfl HFc.out (by have:=HC.out;have:=HL.out;have:=HM.out;omega) ?_;intro v5 w5 ho5 hb5;rw [← HS.out] at ho5;have HB5:=hideS (HB4.out.trans hb5);obtain⟨q5,g5,k5,hv5,_,_,_,hm5⟩:=av ho5 HLn.out;subst hv5;have HO5:=hideS ho5;clear ho5 hb5)
     go_roundw
     case rel=>exact⟨k+1,m+1,q5,k5,by omega,by go_num,rfl,HLn.out.symm,HO5,HB5⟩
     case measure=>simp [intOf];omega
    ·rw [if_neg (fun h=>h2 h.2)] at HS
     have HO4:=hideS (ap HO.out HQB.out.bl)
     rw [← HS.out] at HO4 HM
     have HB4:=hideS (HB.out.trans (HQB.out.bl.mono HB.out.size))
     go_wp2_with fail
     go_roundw
     case rel=>exact⟨k+1,m,q,cp,by omega,by go_num,rfl,HM,HO4,HB4⟩
     case measure=>simp [intOf];omega
   ·rw [if_neg (fun h=>h1 h.1)] at HS
    have HO4:=hideS (ap HO.out HQB.out.bl)
    rw [← HS.out] at HO4 HM
    have HB4:=hideS (HB.out.trans (HQB.out.bl.mono HB.out.size))
    go_wp2_with fail
    go_roundw
    case rel=>exact⟨k+1,m,q,cp,by omega,by go_num,rfl,HM,HO4,HB4⟩
    case measure=>simp [intOf];omega
  ·obtain rfl:k=N:=by omega
   go_wp2_with fail
   go_ret
   refine⟨⟨_,rfl,?_⟩,HB.out⟩
   rw [← HM.out]
   exact HO.out
end Go.Proofs.YtjjlnmihkadlmaaGreat
