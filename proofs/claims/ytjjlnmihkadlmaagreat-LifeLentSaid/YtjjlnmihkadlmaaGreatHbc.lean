/-  -/
import Derived.Test.YtjjlnmihkadlmaaGreatHar
import Derived.Test.YtjjlnmihkadlmaaGreatFnv
import Derived.Test.YtjjlnmihkadlmaaGreatHas
import Derived.Laws.OwnMore
import Derived.Laws.IdiomCopy
namespace Go.Proofs.YtjjlnmihkadlmaaGreat
open Go.RowKit

structure Ch (S:Nat→Prop) (w w':World):Prop where
 os:w'.os=w.os
 tape:w'.tape=w.tape
 output:w'.output=w.output
 size:w.heap.size≤w'.heap.size
 block:∀ k,k<w.heap.size→¬ S k→w'.heap[k]? =w.heap[k]?
theorem Ch.refl (S:Nat→Prop) (w:World):Ch S w w:=⟨rfl,rfl,rfl,Nat.le_refl _,fun _ _ _=>rfl⟩
theorem Ch.trans {S:Nat→Prop} {a b c:World} (h:Ch S a b) (k:Ch S b c):Ch S a c:=
 ⟨k.os.trans h.os,k.tape.trans h.tape,k.output.trans h.output,Nat.le_trans h.size k.size,fun i hi hs=>(k.block i (Nat.lt_of_lt_of_le hi h.size) hs).trans (h.block i hi hs)⟩
theorem Ch.mono {S T:Nat→Prop} {w w':World} (h:Ch S w w') (hs:∀ k,k<w.heap.size→S k→T k):Ch T w w':=
 ⟨h.os,h.tape,h.output,h.size,fun k hk hn=>h.block k hk (fun c=>hn (hs k hk c))⟩
theorem Ch.of_below {S:Nat→Prop} {w w':World} (h:Below w.heap.size w w'):Ch S w w':=⟨h.os,h.tape,h.output,h.size,fun k hk _=>h.block k hk⟩
theorem Ch.below {S:Nat→Prop} {w w':World} {B:Nat} (h:Ch S w w') (hB:B≤w.heap.size) (hs:∀ k,S k→B≤k):Below B w w':=
 ⟨h.os,h.tape,h.output,h.size,fun k hk=>h.block k (by omega) (fun c=>by have:=hs k c;omega)⟩
theorem Ch.set {S:Nat→Prop} {w w1:World} (h:Ch S w w1) {g o:Nat} (hg:S g) (v:Value):Ch S w (w1.setCell ⟨g,o,none⟩ v):=
 ⟨h.os,h.tape,h.output,by simpa using h.size,fun k hk hn=>(heap_setCell_other w1 ⟨g,o,none⟩ k v (fun e=>hn (by rw [e];exact hg))).trans (h.block k hk hn)⟩
theorem Ch.cell {S:Nat→Prop} {w w':World} (h:Ch S w w') {g j:Nat} (hg:g<w.heap.size) (hs:¬ S g):w'.cell? ⟨g,j,none⟩=w.cell? ⟨g,j,none⟩:=World.cell?_of_block (h.block g hg hs)
theorem Ch.sets {S:Nat→Prop} {w:World} {g:Nat} (hg:S g):∀ (vs:List Value) (o:Nat) {w1:World},Ch S w w1→Ch S w (w1.setCells g o vs)
 | [],_,_,h=>h
 | v::vs,o,_,h=>Ch.sets hg vs (o+1) (h.set hg v)
theorem AD {w:World} {B sz n g c:Nat} {T:TypeId} {xs:List Value} (h:w.ownsRow B T sz (.slice (some ⟨g,0,none⟩) n c) n xs) {k:Nat} (hk:k≤n):w.ownsRow B T sz (.slice (some ⟨g,0,none⟩) k c) k (xs.take (k*sz)):=by
 have hks:k*sz≤n*sz:=Nat.mul_le_mul_right _ hk
 rcases h.2 with⟨e,_⟩| ⟨g',cap,cur,e,hb,hg,hnc,hcm,hsz,htk⟩
 ·cases e
 ·injection e with e1 e2 e3
  injection e1 with e1
  injection e1 with e1
  subst e1 e3
  refine⟨by rw [List.length_take,h.1];omega,.inr ⟨g,c,cur,rfl,hb,hg,by omega,hcm,hsz,?_⟩⟩
  rw [← htk,List.take_take,Nat.min_eq_left hks]
theorem nZ {B sz n g c:Nat} {T:TypeId}:∀ (vs:List Value) (j:Nat) {w:World} {xs:List Value},w.ownsRow B T sz (.slice (some ⟨g,0,none⟩) n c) n xs→∃ ys,(w.setCells g j vs).ownsRow B T sz (.slice (some ⟨g,0,none⟩) n c) n ys∧ys.take j=xs.take j
 | [],j,_,xs,h=>⟨xs,h,rfl⟩
 | v::vs,j,w,xs,h=>by
  obtain⟨ys,h1,h2⟩:=nZ vs (j+1) (h.stored j v).1
  refine⟨ys,h1,?_⟩
  have:=congrArg (List.take j) h2
  rw [List.take_take,List.take_take,Nat.min_eq_left (Nat.le_succ j),List.take_set_of_le (Nat.le_refl _)] at this
  exact this
theorem oa (mk:Nat→Value) (f:Flw):∀ (l:List Flw) (i:Nat),i<l.length→aw mk (l.set i f)=(((aw mk l).set (i*3) (.int .i64 f.day)).set (i*3+1) (mk f.am)).set (i*3+2) (.int .i64 f.cur)
 | [],i,h=>by simp at h
 | r::l,0,_=>rfl
 | r::l,i+1,h=>by
  have ih:=oa mk f l i (by simpa using h)
  rw [List.set_cons_succ,aw,aw,ih,show (i+1)*3=i*3+3 by omega]
  rfl
theorem ry {w:World} {B n g c i:Nat} {e:TypeId} {R:List Flw} (h:w.ownsRow B e 3 (.slice (some ⟨g,0,none⟩) n c) n (aw aF R)) (hi:i<R.length) (f:Flw) :
  (((w.setCell ⟨g,i*3,none⟩ (.int .i64 f.day)).setCell ⟨g,i*3+1,none⟩ (.float .f64 f.am)).setCell ⟨g,i*3+2,none⟩ (.int .i64 f.cur)).ownsRow B e 3 (.slice (some ⟨g,0,none⟩) n c) n (aw aF (R.set i f)):=by
 rw [oa aF f R i hi]
 exact (((h.stored (i*3) _).1.stored (i*3+1) _).1.stored (i*3+2) _).1
theorem jJ {w:World} {B n g c:Nat} {e:TypeId} {xs:List Value} (h:w.ownsRow B e 3 (.slice (some ⟨g,0,none⟩) n c) n xs) (i:Nat):w.frozen? ⟨g,i,none⟩=false:=by
 rcases h.2 with⟨e,_⟩| ⟨g',cap,cur,e,hb,hg,_⟩
 ·cases e
 ·injection e with e1 e2 e3
  injection e1 with e1
  injection e1 with e1
  subst e1
  exact frozen_of_row _ _ i _ _ hg
def zsF (n:Nat):List Value:=(Builtin.zeroCells (Value.agg #[.int .i64 0,.float .f64 0,.int .i64 0]).cells n).toList
theorem DF (n:Nat):(zsF n).length=n*3:=by
 unfold zsF
 rw [Array.length_toList,size_zeroCells]
 rfl
theorem DG (n:Nat):∀ v ∈ zsF n,v.oneCell'=true:=by
 intro v hv
 unfold zsF Builtin.zeroCells at hv
 simp only [Array.toList_map,List.mem_map] at hv
 obtain⟨i,_,rfl⟩:=hv
 have hs:(Value.agg #[.int .i64 0,.float .f64 0,.int .i64 0]).cells=#[.int .i64 0,.float .f64 0,.int .i64 0]:=rfl
 rw [hs]
 have hi:i % 3<3:=Nat.mod_lt _ (by decide)
 show ((#[.int .i64 0,.float .f64 0,.int .i64 0]:Array Value)[i % 3]!).oneCell'=true
 rcases (show i % 3=0∨i % 3=1∨i % 3=2 by omega) with e | e | e<;>rw [e]<;>rfl
theorem rz (w:World) (g o n c:Nat) (ty:TypeId) (hn:0<n) (hc:∀ j<n*3,(w.cell? ⟨g,o+j,none⟩).isSome=true) (hf:∀ j,w.frozen? ⟨g,j,none⟩=false) :
  (Builtin.clear_ #[22] ty #[.slice (some ⟨g,o,none⟩) n c]).run Tryz.prog w=.ok (.tuple #[]) (w.setCells g o (zsF n)):=by
 have hz:∀ w,(zeroValue 77).run Tryz.prog w=.ok (.agg #[.int .i64 0,.float .f64 0,.int .i64 0]) w:=fun w=>by
  rw [Tryz.zeroValue77]
 have hst:=run_storeCells_cells (P:=Tryz.prog) g o (zsF n) 0 w (fun j hj=>by rw [DF] at hj;simpa using hc j hj) (fun j _=>hf _) (DG n)
 simp only [Nat.add_zero] at hst
 unfold zsF at hst ⊢
 obtain⟨m,rfl⟩:∃ m,n=m+1:=⟨n - 1,by omega⟩
 simp [Builtin.clear_,run_underlying Tryz.underlying22,hz,hst]
theorem ob (g:Nat) (n day cur:Int) (am:Nat) (w:World) (h:w.cell? ⟨g,0,none⟩=some (.int .i64 n)) :
  Calls Tryz.prog 48 #[.agg #[.int .i64 day,.float .f64 am,.int .i64 cur],.pointer (some ⟨g,0,none⟩)] w fun e w'=>e=.returned (.bool (decide (day<n)))∧Below w.heap.size w w':=by
 have HB:=hideS (Aw w ⟨day,am,cur⟩)
 have q0:=HB.out.t0
 have hlt:=World.block_lt_of_cell? _ _ h
 have hc:(w.alloc (.cells #[.int .i64 day,.float .f64 am,.int .i64 cur] 77)).cell? ⟨g,0,none⟩=some (.int .i64 n):=(HB.out.bl.cell (p:=⟨g,0,none⟩) hlt).trans h
 dsimp only at q0
 clear h hlt
 go_enter Tryz.func48,Tryz.ntmps48
 go_wp2_with fail
 go_ret
 exact⟨rfl,HB.out.bl⟩
theorem lp (args:Array Value) (w:World):(callFunc 48 args).run Tryz.prog w=.ok (.enter 48 args) w:=rq Tryz.func48 (by kernel_rfl) rfl args w
def Hk (n:Int) (l:List Flw) (e:Int):Prop:=(e= -1∧∀ i<l.length,n≤(l.getD i ak).day)∨∃ k:Nat,e=(k:Int)∧k<l.length∧(l.getD k ak).day<n∧∀ i<k,n≤(l.getD i ak).day
set_option maxRecDepth 20000 in
set_option maxHeartbeats 3200000 in
theorem ut (l:List Flw) (p:Option Addr) (b off c N g:Nat) (n:Int) (w:World) (hl:JSrc aF w p b off l) (hN:l.length=N) (hc:N≤9223372036854775807) (hg:w.cell? ⟨g,0,none⟩=some (.int .i64 n)) :
  Calls Tryz.prog 82 #[.slice p N c,.func (.func 48) #[] #[.pointer (some ⟨g,0,none⟩)]] w fun e w'=>(∃ k,e=.returned (.int .i64 k)∧Hk n l k)∧Below w.heap.size w w':=by
 have HN:=hideS hN
 have HQ:=hideS hl
 have HP:Hid (0<N→p=some ⟨b,off,none⟩):=fun h=>hl.at_ (by omega)
 have HG:Hid (∀ wx,Below w.heap.size w wx→∀ day cur am,Calls Tryz.prog 48 #[.agg #[.int .i64 day,.float .f64 am,.int .i64 cur],.pointer (some ⟨g,0,none⟩)] wx fun e w'=>e=.returned (.bool (decide (day<n)))∧Below wx.heap.size wx w'):=fun wx hb day cur am=>ob g n day cur am wx ((hb.cell (p:=⟨g,0,none⟩) (World.block_lt_of_cell? _ _ hg)).trans hg)
 clear hl hN hg
 have hen:=lp
 go_enter Tryz.func82,Tryz.ntmps82
 go_wp2_with fail
 go_loopw [5,8] (fun _ i wr=>∃ k:Nat,k≤N∧i=.int .i64 k∧Hid (∀ i<k,n≤(l.getD i ak).day)∧Hid (Below w.heap.size w wr)) (fun _ i _=>N - (intOf i).toNat)
 case atStart=>exact⟨0,Nat.zero_le _,rfl,(fun i hi=>by omega),Below.refl _ _⟩
 case round=>
  obtain⟨k,hk,rfl,HA,HB⟩:=hrel
  by_cases hlt:k<N
  ·obtain rfl:=HP.out (by omega)
   obtain⟨c0,c1,c2⟩:=(HQ.out.below HB.out).cell k (by rw [HN.out];exact hlt)
   have HX:Hid (n≤(l.getD k ak).day→∀ i<k+1,n≤(l.getD i ak).day):=fun h i hi=>by
    by_cases e:i<k
    ·exact HA.out i e
    ·obtain rfl:i=k:=by omega
     exact h
   have HF:Hid ((l.getD k ak).day<n→Hk n l k):=fun h=>Or.inr ⟨k,rfl,by rw [HN.out];exact hlt,h,HA.out⟩
   have HGk:=hideS (HG.out wr HB.out (l.getD k ak).day (l.getD k ak).cur (l.getD k ak).am)
   obtain⟨f,hf⟩:∃ f,l.getD k ak=f:=⟨_,rfl⟩
   rw [hf] at HX HF HGk c0 c1 c2
   clear hf
   obtain⟨qd,qa,qc⟩:=f
   dsimp only [aF] at *
   by_cases hd:qd<n
   ·rw [decide_eq_true hd] at HGk
    have HF2:=hideS (HF.out hd)
    clear hd HF HX
    go_wp2_with fail
    refine (HGk.out).mono ?_
    rintro e w2 ⟨rfl,hb2⟩
    have HB2:=hideS (HB.out.trans (hb2.mono HB.out.size))
    clear hb2
    go_wp2_with fail
    go_ret
    exact⟨⟨_,rfl,HF2.out⟩,HB2.out⟩
   ·rw [decide_eq_false hd] at HGk
    have HX2:=hideS (HX.out (by omega))
    clear hd HF HX
    go_wp2_with fail
    refine (HGk.out).mono ?_
    rintro e w2 ⟨rfl,hb2⟩
    have HB2:=hideS (HB.out.trans (hb2.mono HB.out.size))
    clear hb2
    go_wp2_with fail
    go_roundw
    case rel=>exact⟨k+1,by omega,by go_num,HX2,HB2⟩
    case measure=>simp [intOf];omega
  ·obtain rfl:k=N:=by omega
   go_wp2_with fail
   go_ret
   exact⟨⟨_,rfl,Or.inl ⟨rfl,fun i hi=>HA.out i (by rw [HN.out] at hi;exact hi)⟩⟩,HB.out⟩
end Go.Proofs.YtjjlnmihkadlmaaGreat
namespace Go.Proofs.YtjjlnmihkadlmaaGreat
open Go.RowKit

def aQ (n:Int) (f:Flw):Bool:=decide (n≤f.day)
structure DlI (w:World) (B g c N:Nat) (n:Int) (l R:List Flw) (i j:Nat) (wr:World):Prop where
 own:wr.ownsRow B 77 3 (.slice (some ⟨g,0,none⟩) N c) N (aw aF R)
 len:R.length=N
 ij:i<j
 jN:j≤N
 keep:R.take i=(l.take j).filter (aQ n)
 rest:∀ m,j≤m→R.getD m ak=l.getD m ak
 ch:Ch (fun k=>k=g) w wr
theorem DlI.below {w wr w':World} {B g c N i j:Nat} {n:Int} {l R:List Flw} (h:DlI w B g c N n l R i j wr) (hb:Below wr.heap.size wr w'):DlI w B g c N n l R i j w':=
 ⟨ap h.own hb,h.len,h.ij,h.jN,h.keep,h.rest,h.ch.trans (Ch.of_below hb)⟩
theorem dp {l:List Flw} {k:Nat} (hk:k<l.length):l.take (k+1)=l.take k++[l.getD k ak]:=by
 have:l.getD k ak=l[k]:=by simp [List.getD,List.getElem?_eq_getElem hk]
 rw [this,List.take_succ_eq_append_getElem hk]
theorem bP {l:List Flw} {j:Nat} (n:Int) (h:j<l.length):(l.take (j+1)).filter (aQ n)=(l.take j).filter (aQ n)++(if aQ n (l.getD j ak)=true then [l.getD j ak] else []):=by
 rw [dp h,List.filter_append]
 congr 1
 simp only [List.filter_cons,List.filter_nil]
theorem DlI.skip {w wr:World} {B g c N i j:Nat} {n:Int} {l R:List Flw} (h:DlI w B g c N n l R i j wr) (hl:l.length=N) (hj:j<N) (hd:(l.getD j ak).day<n):DlI w B g c N n l R i (j+1) wr:=
 ⟨h.own,h.len,by have:=h.ij;omega,by omega,by rw [h.keep,bP n (by omega),if_neg (by unfold aQ;rw [decide_eq_true_eq];omega),List.append_nil],fun m hm=>h.rest m (by omega),h.ch⟩
theorem DlI.put {w wr:World} {B g c N i j:Nat} {n:Int} {l R:List Flw} {f:Flw} (h:DlI w B g c N n l R i j wr) (hl:l.length=N) (hj:j<N) (hf:l.getD j ak=f) (hd:¬ f.day<n) :
  DlI w B g c N n l (R.set i f) (i+1) (j+1) (((wr.setCell ⟨g,i*3,none⟩ (.int .i64 f.day)).setCell ⟨g,i*3+1,none⟩ (.float .f64 f.am)).setCell ⟨g,i*3+2,none⟩ (.int .i64 f.cur)):=by
 have hij:=h.ij
 have hln:=h.len
 have hi:i<R.length:=by omega
 refine⟨ry h.own hi f,by rw [List.length_set];exact h.len,by omega,by omega,?_,fun m hm=>?_,((h.ch.set rfl _).set rfl _).set rfl _⟩
 ·rw [bP n (by omega),← h.keep,hf,if_pos (by unfold aQ;rw [decide_eq_true_eq];omega),List.take_add_one,List.take_set_of_le (Nat.le_refl _),List.getElem?_set_self hi]
  rfl
 ·rw [List.getD_eq_getElem?_getD,List.getElem?_set_ne (by omega),← List.getD_eq_getElem?_getD]
  exact h.rest m (by omega)
theorem DlI.start {w wr:World} {B g c N k:Nat} {n:Int} {l:List Flw} (ho:wr.ownsRow B 77 3 (.slice (some ⟨g,0,none⟩) N c) N (aw aF l)) (hl:l.length=N) (hk:k<N) (hd:(l.getD k ak).day<n) (ha:∀ i<k,n≤(l.getD i ak).day) (hc:Ch (fun k=>k=g) w wr):DlI w B g c N n l l k (k+1) wr:=by
 refine⟨ho,hl,by omega,by omega,?_,fun _ _=>rfl,hc⟩
 rw [bP n (by omega),if_neg (by unfold aQ;rw [decide_eq_true_eq];omega),List.append_nil]
 symm
 rw [List.filter_eq_self]
 intro f hf
 obtain⟨i,hi,rfl⟩:=List.getElem_of_mem hf
 rw [List.length_take] at hi
 have:=ha i (by omega)
 unfold aQ
 rw [decide_eq_true_eq]
 rw [List.getElem_take]
 have e:l.getD i ak=l[i]:=by simp [List.getD,List.getElem?_eq_getElem (show i<l.length by omega)]
 rw [← e];exact this
theorem DlI.done {w wr:World} {B g c N i:Nat} {n:Int} {l R:List Flw} (h:DlI w B g c N n l R i N wr) (hl:l.length=N):((wr.setCells g (i*3) (zsF (N - i))).ownsRow B 77 3 (.slice (some ⟨g,0,none⟩) i c) i (aw aF (l.filter (aQ n))))∧i=(l.filter (aQ n)).length∧Ch (fun k=>k=g) w (wr.setCells g (i*3) (zsF (N - i))):=by
 have hij:=h.ij
 have hln:=h.len
 have hk:=h.keep
 rw [show l.take N=l by rw [← hl,List.take_length]] at hk
 obtain⟨ys,h1,h2⟩:=nZ (zsF (N - i)) (i*3) h.own
 have h3:=AD h1 (k:=i) (by omega)
 have e:ys.take (i*3)=aw aF (l.filter (aQ n)):=by
  rw [h2,← hk]
  have hs:aw aF R=aw aF (R.take i)++aw aF (R.drop i):=by rw [← cE,List.take_append_drop]
  have hl3:(aw aF (R.take i)).length=i*3:=by rw [ce,List.length_take];omega
  rw [hs,← hl3,List.take_left]
 rw [e] at h3
 exact⟨h3,by rw [← hk,List.length_take];omega,Ch.sets (S:=fun k=>k=g) rfl _ _ h.ch⟩
theorem ko {w:World} {B g c N:Nat} {e:TypeId} {xs:List Value} (h:w.ownsRow B e 3 (.slice (some ⟨g,0,none⟩) N c) N xs) (j:Nat) (hj:j<N*3):(w.cell? ⟨g,j,none⟩).isSome=true:=by
 rw [h.cellAt j hj,List.getElem?_eq_getElem (by rw [h.1];exact hj)]
 rfl
theorem AE {w:World} {B g c N:Nat} {e:TypeId} {xs:List Value} (h:w.ownsRow B e 3 (.slice (some ⟨g,0,none⟩) N c) N xs):N≤c∧c≤maxLen:=by
 rcases h.2 with⟨e,_⟩| ⟨g',cap,cur,e,hb,hg,h1,h2,_⟩
 ·cases e
 ·injection e with e1 e2 e3
  subst e3
  exact⟨h1,h2⟩
theorem uu {w:World} {B g c N i:Nat} {e:TypeId} {R:List Flw} (h:w.ownsRow B e 3 (.slice (some ⟨g,0,none⟩) N c) N (aw aF R)) (hl:R.length=N) (hi:i<N):FCells aF w g (i*3) (R.getD i ak):=by
 have key:∀ j<3,w.cell? ⟨g,i*3+j,none⟩=(flC aF (R.getD i ak))[j]? :=fun j hj=>by
  rw [← eI aF R i j (by omega) hj]
  exact h.cellAt (i*3+j) (by omega)
 exact⟨key 0 (by omega),key 1 (by omega),key 2 (by omega)⟩

set_option maxRecDepth 20000 in
set_option maxHeartbeats 6400000 in
theorem uv (l:List Flw) (B b off c N g k:Nat) (n:Int) (w:World) (ho:w.ownsRow B 77 3 (.slice (some ⟨b,0,none⟩) N c) N (aw aF l)) (hl:l.length=N) (hoff:off=0) (hg:w.cell? ⟨g,0,none⟩=some (.int .i64 n)) (hgb:g≠b) (hk:k<N) (hd:(l.getD k ak).day<n) (ha:∀ i<k,n≤(l.getD i ak).day)
  (HI:Hid (Calls Tryz.prog 82 #[.slice (some ⟨b,off,none⟩) N c,.func (.func 48) #[] #[.pointer (some ⟨g,0,none⟩)]] w fun e w'=>e=.returned (.int .i64 k)∧Below w.heap.size w w')) :
  Calls Tryz.prog 47 #[.slice (some ⟨b,off,none⟩) N c,.func (.func 48) #[] #[.pointer (some ⟨g,0,none⟩)]] w fun e w'=>(∃ i,e=.returned (.slice (some ⟨b,off,none⟩) i c)∧i=(l.filter (aQ n)).length∧w'.ownsRow B 77 3 (.slice (some ⟨b,0,none⟩) i c) i (aw aF (l.filter (aQ n))))∧Ch (fun k=>k=b) w w':=by
 have HO:=hideS ho
 have HL:=hideS hl
 have HF:=hideS hoff
 have HX:=hideS (And.intro hk (And.intro hd ha))
 have hne:((k:Int)==-1)=false:=beq_eq_false_iff_ne.2 (by omega)
 obtain⟨hNc,hcm⟩:=AE ho
 have hcm2:c≤9223372036854775807:=by unfold maxLen at hcm;omega
 have HP:Hid (∀ wx,Ch (fun k=>k=b) w wx→∀ day cur am,Calls Tryz.prog 48 #[.agg #[.int .i64 day,.float .f64 am,.int .i64 cur],.pointer (some ⟨g,0,none⟩)] wx fun e w'=>e=.returned (.bool (decide (day<n)))∧Below wx.heap.size wx w'):=fun wx hb day cur am=>ob g n day cur am wx ((hb.cell (World.block_lt_of_cell? _ _ hg) hgb).trans hg)
 clear ho hl hoff hg hgb hk hd ha hcm
 have hen:=lp
 go_enter Tryz.func47,Tryz.ntmps47
 go_wp2_with fail
 refine (HI.out).mono ?_
 rintro e w2 ⟨rfl,hb2⟩
 have HD:=hideS (DlI.start (ap HO.out hb2) HL.out HX.out.1 HX.out.2.1 HX.out.2.2 (Ch.of_below hb2))
 have HK:=HX.out.1
 clear HO HX hb2 HI
 go_wp2_with fail
 go_loopw [5,6,7] (fun i j _ wr=>∃ (i' j':Nat) (R:List Flw),i=.int .i64 i'∧j=.int .i64 j'∧j'≤N∧i'<N∧Hid (DlI w B b c N n l R i' j' wr)) (fun _ j _ _=>N - (intOf j).toNat)
 case atStart=>exact⟨k,k+1,l,rfl,by go_num,by omega,by omega,HD⟩
 case round=>
  clear HD hne HK
  obtain⟨i,j,R,rfl,rfl,hjN,hiN,HD⟩:=hrel
  by_cases hlt:j<N
  ·have HRj:=hideS (HD.out.rest j (Nat.le_refl _))
   have hcj:=uu HD.out.own HD.out.len hlt
   rw [HRj.out] at hcj
   obtain⟨c0,c1,c2⟩:=hcj
   have hij:=HD.out.ij
   have hoi:∀ wx,Below wr.heap.size wr wx→∀ m<N*3,∃ u,wx.cell? ⟨b,m,none⟩=some u:=fun wx hb m hm=>by
    obtain⟨u,hu⟩:=Option.isSome_iff_exists.1 (ko (HD.out.below hb).own m hm)
    exact⟨u,hu⟩
   have HOI:=hideS hoi
   have HFz:Hid (∀ wx,Below wr.heap.size wr wx→∀ m,wx.frozen? ⟨b,m,none⟩=false):=fun wx hb m=>jJ (HD.out.below hb).own m
   clear hoi
   have HSk:Hid ((l.getD j ak).day<n→DlI w B b c N n l R i (j+1) wr):=fun h=>HD.out.skip HL.out hlt h
   have HQB:=hideS (fU wr (l.getD j ak))
   obtain⟨⟨z0,z1,z2⟩,fz⟩:=cM wr
   have y0:=fz 0
   have y1:=fz 1
   have y2:=fz 2
   clear fz
   obtain⟨f,hf⟩:∃ f,l.getD j ak=f:=⟨_,rfl⟩
   have HFe:=hideS hf
   rw [hf] at HSk HQB c0 c1 c2
   have HPt:=hideS fun (wx:World) (h:DlI w B b c N n l R i j wx) (hd:¬ f.day<n)=>h.put HL.out hlt hf hd
   clear hf HRj HFe
   obtain⟨qd,qa,qc⟩:=f
   dsimp only [aF] at *
   have HO3:Hid (off+j*3=j*3∧off+i*3=i*3):=by have:=HF.out;exact⟨by omega,by omega⟩
   have c0':wr.cell? ⟨b,off+j*3,none⟩=some (.int .i64 qd):=by rw [HO3.out.1];exact c0
   have c1':wr.cell? ⟨b,off+j*3+1,none⟩=some (.float .f64 qa):=by rw [HO3.out.1];exact c1
   have c2':wr.cell? ⟨b,off+j*3+2,none⟩=some (.int .i64 qc):=by rw [HO3.out.1];exact c2
   clear c0 c1 c2
   obtain⟨w2,hw2⟩:∃ w2,wr.alloc aZ=w2:=⟨_,rfl⟩
   rw [hw2] at z0 z1 z2 y0 y1 y2 HQB
   unfold aZ at hw2
   obtain⟨w3,hw3⟩:∃ w3,kN w2 wr.heap.size ⟨qd,qa,qc⟩=w3:=⟨_,rfl⟩
   rw [hw3] at HQB
   unfold kN at hw3
   dsimp only at hw3
   have t0:=HQB.out.t0
   have t1:=HQB.out.t1
   have t2:=HQB.out.t2
   dsimp only at t0 t1 t2
   have hst:=cF
   have HPk:=hideS (HP.out w3 (HD.out.ch.trans (Ch.of_below HQB.out.bl)) qd qc qa)
   by_cases hd:qd<n
   ·rw [decide_eq_true hd] at HPk
    have HS2:=hideS (HSk.out hd)
    clear hd HSk HPt
    go_wp2_with fail
    refine (HPk.out).mono ?_
    rintro e w4 ⟨rfl,hb4⟩
    have HD4:=hideS (HS2.out.below (HQB.out.bl.trans (hb4.mono HQB.out.bl.size)))
    clear hb4 HS2
    go_wp2_with fail
    go_roundw
    case rel=>exact⟨i,j+1,R,rfl,by go_num,by omega,hiN,HD4⟩
    case measure=>simp [intOf];omega
   ·rw [decide_eq_false hd] at HPk
    have HPt2:=hideS fun (wx:World) (h:DlI w B b c N n l R i j wx)=>HPt.out wx h hd
    clear hd HSk HPt
    go_wp2_with fail
    refine (HPk.out).mono ?_
    rintro e w4 ⟨rfl,hb4⟩
    have HQ4:=hideS (HQB.out.step hb4)
    have HB4:Hid (Below wr.heap.size wr w4):=HQB.out.bl.trans (hb4.mono HQB.out.bl.size)
    have HD4:=hideS (HPt2.out w4 (HD.out.below HB4.out))
    clear hb4 HQB t0 t1 t2
    have t0:=HQ4.out.t0
    have t1:=HQ4.out.t1
    have t2:=HQ4.out.t2
    dsimp only at t0 t1 t2
    obtain⟨u0,d0⟩:=HOI.out w4 HB4.out (i*3) (by omega)
    obtain⟨u1,d1⟩:=HOI.out w4 HB4.out (i*3+1) (by omega)
    obtain⟨u2,d2⟩:=HOI.out w4 HB4.out (i*3+2) (by omega)
    have f0:=HFz.out w4 HB4.out (i*3)
    have f1:=HFz.out w4 HB4.out (i*3+1)
    have f2:=HFz.out w4 HB4.out (i*3+2)
    rw [← HO3.out.2] at d0 d1 d2 f0 f1 f2 HD4
    go_wp2_with fail
    go_roundw
    case rel=>exact⟨i+1,j+1,_,by go_num,by go_num,by omega,by omega,HD4⟩
    case measure=>simp [intOf];omega
  ·obtain rfl:j=N:=by omega
   have HDn:=hideS (HD.out.done HL.out)
   have hoz:∀ m<(j - i)*3,(wr.cell? ⟨b,off+i*3+m,none⟩).isSome=true:=fun m hm=>by
    have:=ko HD.out.own (i*3+m) (by omega)
    rw [HF.out,Nat.zero_add];exact this
   have hcl:=fun ty=>rz wr b (off+i*3) (j - i) (c - i) ty (by omega) hoz (fun m=>jJ HD.out.own m)
   have HE:Hid (off+i*3=i*3):=by have:=HF.out;show _=_;omega
   clear hoz HD
   go_wp2_with fail
   go_ret
   have h1:=HDn.out.1
   have h2:=HDn.out.2.2
   rw [← HE.out] at h1 h2
   exact⟨⟨i,rfl,HDn.out.2.1,h1⟩,h2⟩
theorem ls {p:Nat→Bool}:∀ N,(∃ i<N,p i=true)→∃ k<N,p k=true∧∀ j<k,p j=false
 | 0,⟨i,hi,_⟩=>by omega
 | N+1,⟨i,hi,hp⟩=>by
  by_cases h:∃ i<N,p i=true
  ·obtain⟨k,hk,h1,h2⟩:=ls N h
   exact⟨k,by omega,h1,h2⟩
  ·refine⟨i,hi,hp,fun j hj=>?_⟩
   cases hc:p j
   ·rfl
   ·exact absurd ⟨j,by omega,hc⟩ h
theorem rC (l:List Flw) (B g:Nat) (v:Value) (N:Nat) (n:Int) (w:World) (ho:w.ownsRow B 77 3 v N (aw aF l)) (hl:l.length=N) (hg:w.cell? ⟨g,0,none⟩=some (.int .i64 n)) (hgb:v.ownBlock≠some g) :
  Calls Tryz.prog 47 #[v,.func (.func 48) #[] #[.pointer (some ⟨g,0,none⟩)]] w fun e w'=>(∃ u,e=.returned u∧u.ownBlock=v.ownBlock∧w'.ownsRow B 77 3 u (l.filter (aQ n)).length (aw aF (l.filter (aQ n))))∧Ch (fun k=>v.ownBlock=some k) w w':=by
 have none_:(∀ i<l.length,n≤(l.getD i ak).day)→l.filter (aQ n)=l:=fun ha=>by
  rw [List.filter_eq_self]
  intro f hf
  obtain⟨i,hi,rfl⟩:=List.getElem_of_mem hf
  have:=ha i hi
  unfold aQ
  rw [decide_eq_true_eq]
  have e:l.getD i ak=l[i]:=by simp [List.getD,List.getElem?_eq_getElem hi]
  rw [← e];exact this
 obtain⟨p,b,c,hv,hs,_,hNc,hcm⟩:=av ho hl
 have hN2:N≤9223372036854775807:=by unfold maxLen at hcm;omega
 have hI:=ut l p b 0 c N g n w hs hl hN2 hg
 subst hv
 by_cases hA:∀ i<l.length,n≤(l.getD i ak).day
 ·have hI1:Hid (Calls Tryz.prog 82 #[.slice p N c,.func (.func 48) #[] #[.pointer (some ⟨g,0,none⟩)]] w fun e w'=>e=.returned (.int .i64 (-1))∧Below w.heap.size w w'):=hI.mono fun e w' h=>by
   obtain⟨⟨k,he,hk⟩,hb⟩:=h
   rcases hk with⟨rfl,_⟩| ⟨m,_,hm,hd,_⟩
   ·exact⟨he,hb⟩
   ·have:=hA m hm;omega
  have HO:=hideS ho
  have HE:=hideS (none_ hA)
  have HL:=hideS hl
  clear ho hg hgb hI hs hA none_ hl
  go_enter Tryz.func47,Tryz.ntmps47
  go_wp2_with fail
  refine (hI1.out).mono ?_
  rintro e w2 ⟨rfl,hb2⟩
  have HB2:=hideS hb2
  clear hb2 hI1
  go_wp2_with fail
  go_ret
  refine⟨⟨_,rfl,rfl,?_⟩,Ch.of_below HB2.out⟩
  rw [HE.out,HL.out]
  exact ap HO.out HB2.out
 ·have hex:∃ i<l.length,decide ((l.getD i ak).day<n)=true:=Classical.byContradiction fun h=>hA fun i hi=>by
   apply Classical.byContradiction
   intro hlt
   exact h ⟨i,hi,decide_eq_true (by omega)⟩
  have hpos:0<N:=by obtain⟨i,hi,_⟩:=hex;omega
  obtain rfl:=hs.at_ (by omega)
  have hgb2:g≠b:=fun e=>hgb (by rw [e];rfl)
  rcases Classical.em (∃ k:Nat,k<N∧(l.getD k ak).day<n∧∀ i<k,n≤(l.getD i ak).day) with⟨k,hk,hd,ha⟩| hno
  ·have hI1:Hid (Calls Tryz.prog 82 #[.slice (some ⟨b,0,none⟩) N c,.func (.func 48) #[] #[.pointer (some ⟨g,0,none⟩)]] w fun e w'=>e=.returned (.int .i64 k)∧Below w.heap.size w w'):=hI.mono fun e w' h=>by
    obtain⟨⟨m,he,hm⟩,hb⟩:=h
    rcases hm with⟨_,h2⟩| ⟨m',rfl,hm,hd',ha'⟩
    ·have:=h2 k (by omega);omega
    ·have e2:m'=k:=by
      rcases Nat.lt_trichotomy m' k with c | c | c
      ·have:=ha m' c;omega
      ·exact c
      ·have:=ha' k c;omega
     subst e2
     exact⟨he,hb⟩
   refine (uv l B b 0 c N g k n w ho hl rfl hg hgb2 hk hd ha hI1).mono fun e w' h=>?_
   obtain⟨⟨i,he,hi,h1⟩,h2⟩:=h
   rw [← hi]
   exact⟨⟨_,he,rfl,h1⟩,h2.mono fun k _ e=>by subst e;rfl⟩
  ·exfalso
   obtain⟨k,hk,h1,h2⟩:=ls l.length hex
   refine hno ⟨k,by omega,of_decide_eq_true h1,fun i hi=>?_⟩
   have:=of_decide_eq_false (h2 i hi)
   omega
end Go.Proofs.YtjjlnmihkadlmaaGreat
