/-  -/
import Derived.Test.YtjjlnmihkadlmaaGreatHam
import Derived.Laws.AppendOwnNone
import Derived.OwnWalk
import Derived.WalkKit
import Derived.Handy
namespace Go.Proofs.YtjjlnmihkadlmaaGreat
open Go.RowKit

structure Flw where
 (day:Int) (am:Nat) (cur:Int)
def ak:Flw:=⟨0,0,0⟩
def aF (a:Nat):Value:=.float .f64 a
def aB (a:Nat):Value:=.int .u64 (a:Int)
structure FCells (mk:Nat→Value) (w:World) (b o:Nat) (f:Flw):Prop where
 c0:w.cell? ⟨b,o,none⟩=some (.int .i64 f.day)
 c1:w.cell? ⟨b,o+1,none⟩=some (mk f.am)
 c2:w.cell? ⟨b,o+2,none⟩=some (.int .i64 f.cur)
theorem FCells.below {mk:Nat→Value} {w w':World} {B b o:Nat} {f:Flw} (h:FCells mk w b o f) (hb:Below B w w') (hB:b<B):FCells mk w' b o f:=
 ⟨(hb.cell (p:=⟨b,o,none⟩) hB).trans h.c0,(hb.cell (p:=⟨b,o+1,none⟩) hB).trans h.c1,(hb.cell (p:=⟨b,o+2,none⟩) hB).trans h.c2⟩
structure JSrc (mk:Nat→Value) (w:World) (p:Option Addr) (b off:Nat) (l:List Flw):Prop where
 at_:0<l.length→p=some ⟨b,off,none⟩
 lt:0<l.length→b<w.heap.size
 cell:∀ i,i<l.length→FCells mk w b (off+i*3) (l.getD i ak)
theorem JSrc.below {mk:Nat→Value} {w w':World} {p:Option Addr} {b off:Nat} {l:List Flw} (h:JSrc mk w p b off l) (hb:Below w.heap.size w w'):JSrc mk w' p b off l:=
 ⟨h.at_,fun hx=>Nat.lt_of_lt_of_le (h.lt hx) hb.size,fun j hj=>(h.cell j hj).below hb (h.lt (by omega))⟩
def flC (mk:Nat→Value) (r:Flw):List Value:=[.int .i64 r.day,mk r.am,.int .i64 r.cur]
def aw (mk:Nat→Value):List Flw→List Value
 | []=>[]
 | r::l=>flC mk r++aw mk l
theorem ce (mk:Nat→Value):∀ l:List Flw,(aw mk l).length=l.length*3
 | []=>rfl
 | r::l=>by rw [aw,List.length_append,ce mk l,List.length_cons];show 3+_=_;omega
theorem cE (mk:Nat→Value):∀ a b:List Flw,aw mk (a++b)=aw mk a++aw mk b
 | [],_=>rfl
 | r::a,b=>by rw [List.cons_append,aw,aw,cE mk a b,List.append_assoc]
theorem eI (mk:Nat→Value):∀ (l:List Flw) (i j:Nat),i<l.length→j<3→(aw mk l)[i*3+j]? =(flC mk (l.getD i ak))[j]?
 | [],i,j,h,_=>by simp at h
 | r::l,0,j,_,hj=>by
  rw [aw,Nat.zero_mul,Nat.zero_add,List.getElem?_append_left (by show j<3;exact hj)];rfl
 | r::l,i+1,j,h,hj=>by
  rw [aw,List.getElem?_append_right (by show 3≤_;omega),show (i+1)*3+j - (flC mk r).length=i*3+j by show _ - 3=_;omega,eI mk l i j (by simpa using h) hj]
  rfl
theorem iR {mk:Nat→Value} (hm:∀ a,(mk a).oneCell'=true):∀ (l:List Flw),∀ u ∈ aw mk l,u.oneCell'=true
 | [],u,h=>by cases h
 | r::l,u,h=>by
  rw [aw,List.mem_append] at h
  rcases h with h | h
  ·simp only [flC,List.mem_cons,List.not_mem_nil,or_false] at h
   rcases h with rfl | rfl | rfl
   ·rfl
   ·exact hm _
   ·rfl
  ·exact iR hm l u h
theorem av {mk:Nat→Value} {w:World} {base n:Nat} {e:TypeId} {v:Value} {l:List Flw} (h:w.ownsRow base e 3 v n (aw mk l)) (hn:l.length=n) :
  ∃ p g c,v=.slice p n c∧JSrc mk w p g 0 l∧base≤g∧n≤c∧c≤maxLen:=by
 rcases h.2 with⟨rfl,rfl⟩| ⟨g,cap,cur,rfl,hg,hh,hnc,hcm,hsz,htk⟩
 ·refine⟨none,base,0,rfl,⟨fun h=>by omega,fun h=>by omega,fun i hi=>by omega⟩,Nat.le_refl _,Nat.le_refl _,Nat.zero_le _⟩
 ·refine⟨_,g,cap,rfl,⟨fun _=>rfl,fun _=>(Array.getElem?_eq_some_iff.1 hh).1,fun i hi=>?_⟩,hg,hnc,hcm⟩
  have key:∀ j<3,w.cell? ⟨g,0+i*3+j,none⟩=(flC mk (l.getD i ak))[j]? :=fun j hj=>by
   rw [← eI mk l i j hi hj,show 0+i*3+j=i*3+j by omega]
   exact World.ownsRow.cellAt h (i*3+j) (by omega)
  exact⟨key 0 (by omega),key 1 (by omega),key 2 (by omega)⟩
theorem cL (mk:Nat→Value) (w:World) (base:Nat) (e:TypeId):w.ownsRow base e 3 (.slice none 0 0) 0 (aw mk []):=⟨rfl,Or.inl ⟨rfl,rfl⟩⟩
theorem ap {w w':World} {base n:Nat} {e:TypeId} {v:Value} {xs:List Value} (h:w.ownsRow base e 3 v n xs) (hb:Below w.heap.size w w'):w'.ownsRow base e 3 v n xs:=by
 refine⟨h.1,?_⟩
 rcases h.2 with hn | ⟨g,cap,cur,rfl,hg,hgg,rest⟩
 ·exact .inl hn
 ·exact .inr ⟨g,cap,cur,rfl,hg,by rw [hb.block g (Array.getElem?_eq_some_iff.1 hgg).1];exact hgg,rest⟩
theorem cT {w:World} {B B' n:Nat} {e:TypeId} {v:Value} {xs:List Value} (h:w.ownsRow B e 3 v n xs) (hB:B'≤B):w.ownsRow B' e 3 v n xs:=by
 refine⟨h.1,?_⟩
 rcases h.2 with a | ⟨g,cap,cur,e,hg,rest⟩
 ·exact .inl a
 ·exact .inr ⟨g,cap,cur,e,Nat.le_trans hB hg,rest⟩
theorem bm {w w':World} {v:Value} {B n:Nat} {e:TypeId} {xs:List Value} (ho:w.ownsRow B e 3 v n xs) (hg:w.grownBy w' v.ownBlock) (hB:B≤w.heap.size):Below B w w':=
 (Below.refl B w).grown hg hB (fun k hk=>by
  rcases ho.2 with⟨rfl,_⟩| ⟨g,cap,cur,rfl,hbg,_⟩
  ·cases hk
  ·obtain rfl:g=k:=by simpa [Value.ownBlock] using hk
   exact hbg)
theorem eJ (mk:Nat→Value) (hm:∀ a,(mk a).oneCell'=true) (t e:TypeId) (hu:Tryz.prog.underlying t=some (.slice e)) (hinf:(Tryz.prog.info? e).map (fun i=>(i.zero,i.size,i.bytes))=some (some (.agg #[.int .i64 0,mk 0,.int .i64 0]),3,24)) (hzs:(Value.agg #[.int .i64 0,mk 0,.int .i64 0]).cells.size=3)
  (w:World) {ops:Array Oper} {rest:List Oper} {o:Oper} {a:Act} {Q:Exit→Act→World→Prop} (hgd:o.guard=none) (s x:Operand)
  (ho:o.op=.call { callee:=.builtin .append,args:=#[s,x],argTypes:=#[t,t] })
  (base:Nat) (v:Value) (n:Nat) (xs:List Flw) (hs:a.eval s=v) (hown:w.ownsRow base e 3 v n (aw mk xs))
  (b off c:Nat) (ys:List Flw) (hx:a.eval x=.slice (some ⟨b,off,none⟩) ys.length c) (hsrc:∀ i<ys.length,FCells mk w b (off+i*3) (ys.getD i ak)) (hn:(n+ys.length)*24≤140737488355328) (hbase:base≤w.heap.size)
  (h:∀ v' w',w'.ownsRow base e 3 v' (n+ys.length) (aw mk (xs++ys))→w.grownBy w' v.ownBlock→wpList Tryz.prog ops Q rest (a.put o.dst v') w'):wpList Tryz.prog ops Q (o::rest) a w:=by
 obtain⟨i0,hi,hz0,hz1,hz2⟩:=info_parts hinf
 refine wpList_append_own w hgd s x t ho base e i0 (.agg #[.int .i64 0,mk 0,.int .i64 0]) 3 24 hu hi hz0 hz1 hz2 hzs (by decide) v n (aw mk xs) hs hown ⟨b,off,none⟩ ys.length c (aw mk ys) hx (ce mk ys) ?_ (iR hm ys) (by unfold maxLen;omega) (by omega) hbase ?_
 ·intro j u hj
  have hlt:j<ys.length*3:=by
   have:=(List.getElem?_eq_some_iff.1 hj).1
   rw [ce] at this
   exact this
  rw [Addr.add_lit]
  obtain⟨i,m,rfl,hm5⟩:∃ i m,j=i*3+m∧m<3:=⟨j / 3,j % 3,by omega,Nat.mod_lt _ (by omega)⟩
  have hq:i<ys.length:=by omega
  rw [eI mk ys _ _ hq hm5] at hj
  have hc:=hsrc _ hq
  rw [← hj]
  rw [← Nat.add_assoc]
  rcases (show m=0∨m=1∨m=2 by omega) with rfl | rfl | rfl
  ·exact hc.c0
  ·exact hc.c1
  ·exact hc.c2
 ·intro v' w' h1 h2 _
  refine h v' w' ?_ h2
  rw [cE];exact h1
theorem wK:(Tryz.prog.info? 77).map (fun i=>(i.zero,i.size,i.bytes))=some (some (.agg #[.int .i64 0,aF 0,.int .i64 0]),3,24):=by kernel_rfl
theorem pE:(Tryz.prog.info? 104).map (fun i=>(i.zero,i.size,i.bytes))=some (some (.agg #[.int .i64 0,aB 0,.int .i64 0]),3,24):=by kernel_rfl
end Go.Proofs.YtjjlnmihkadlmaaGreat
namespace Go.Proofs.YtjjlnmihkadlmaaGreat
open Go.RowKit

theorem Ew:(Tryz.prog.info? 57).map (fun i=>(i.zero,i.size,i.bytes))=some (some (.int .u64 0),1,8):=by kernel_rfl
structure USrc (w:World) (p:Option Addr) (b off:Nat) (xs:List Nat):Prop where
 at_:0<xs.length→p=some ⟨b,off,none⟩
 lt:0<xs.length→b<w.heap.size
 cell:∀ j,j<xs.length→w.cell? ⟨b,off+j,none⟩=some (.int .u64 (xs.getD j 0:Nat))
theorem USrc.below {w w':World} {p:Option Addr} {b off:Nat} {xs:List Nat} (h:USrc w p b off xs) (hb:Below w.heap.size w w'):USrc w' p b off xs:=
 ⟨h.at_,fun hx=>Nat.lt_of_lt_of_le (h.lt hx) hb.size,fun j hj=>(hb.cell (p:=⟨b,off+j,none⟩) (h.lt (by omega))).trans (h.cell j hj)⟩
end Go.Proofs.YtjjlnmihkadlmaaGreat
namespace Go.Proofs.YtjjlnmihkadlmaaGreat
open Go.RowKit

theorem mO:(Tryz.prog.info? 54).map (fun i=>(i.zero,i.size,i.bytes))=some (some (.float .f64 0),1,8):=by kernel_rfl
structure FlSrc (w:World) (p:Option Addr) (b off:Nat) (xs:List Nat):Prop where
 at_:0<xs.length→p=some ⟨b,off,none⟩
 lt:0<xs.length→b<w.heap.size
 cell:∀ j,j<xs.length→w.cell? ⟨b,off+j,none⟩=some (.float .f64 (xs.getD j 0))
theorem FlSrc.below {w w':World} {p:Option Addr} {b off:Nat} {xs:List Nat} (h:FlSrc w p b off xs) (hb:Below w.heap.size w w'):FlSrc w' p b off xs:=
 ⟨h.at_,fun hx=>Nat.lt_of_lt_of_le (h.lt hx) hb.size,fun j hj=>(hb.cell (p:=⟨b,off+j,none⟩) (h.lt (by omega))).trans (h.cell j hj)⟩
theorem zB {w:World} {base n:Nat} {v:Value} {xs:List Nat} (h:w.ownsRow base 54 1 v n (xs.map fV)) (hn:xs.length=n) :
  ∃ p g c,v=.slice p n c∧FlSrc w p g 0 xs∧base≤g∧n≤c∧c≤maxLen:=by
 rcases h.2 with⟨rfl,rfl⟩| ⟨g,cap,cur,rfl,hg,hh,hnc,hcm,hsz,htk⟩
 ·exact⟨none,base,0,rfl,⟨fun h=>by omega,fun h=>by omega,fun i hi=>by omega⟩,Nat.le_refl _,Nat.le_refl _,Nat.zero_le _⟩
 ·refine⟨_,g,cap,rfl,⟨fun _=>rfl,fun _=>(Array.getElem?_eq_some_iff.1 hh).1,fun i hi=>?_⟩,hg,hnc,hcm⟩
  rw [Nat.zero_add,World.ownsRow.cellAt h i (by omega),List.getElem?_map,List.getD_eq_getElem?_getD,List.getElem?_eq_getElem hi];rfl
end Go.Proofs.YtjjlnmihkadlmaaGreat
