/-  -/
import Derived.Test.YtpddmnmhdahnlaaGreatHas
import Derived.Laws.AppendOwnNone
import Derived.OwnWalk
import Derived.WalkKit
import Derived.Handy
namespace Go.Proofs.YtpddmnmhdahnlaaGreat
open Go.RowKit

theorem sN:(Tryz.prog.info? 37).map (fun i=>(i.zero,i.size,i.bytes))=some (some (.int .u64 0),1,8):=by kernel_rfl
structure USrc (w:World) (p:Option Addr) (b off:Nat) (xs:List Nat):Prop where
 at_:0<xs.length→p=some ⟨b,off,none⟩
 lt:0<xs.length→b<w.heap.size
 cell:∀ j,j<xs.length→w.cell? ⟨b,off+j,none⟩=some (.int .u64 (xs.getD j 0:Nat))
theorem USrc.below {w w':World} {p:Option Addr} {b off:Nat} {xs:List Nat} (h:USrc w p b off xs) (hb:Below w.heap.size w w'):USrc w' p b off xs:=
 ⟨h.at_,fun hx=>Nat.lt_of_lt_of_le (h.lt hx) hb.size,fun j hj=>(hb.cell (p:=⟨b,off+j,none⟩) (h.lt (by omega))).trans (h.cell j hj)⟩
theorem cm {w:World} {base n:Nat} {v:Value} {xs:List Nat} (h:w.ownsRow base 37 1 v n (xs.map uV)) (hn:xs.length=n) :
  ∃ p g c,v=.slice p n c∧USrc w p g 0 xs∧base≤g∧n≤c∧c≤maxLen:=by
 rcases h.2 with⟨rfl,rfl⟩| ⟨g,cap,cur,rfl,hg,hh,hnc,hcm,hsz,htk⟩
 ·exact⟨none,base,0,rfl,⟨fun h=>by omega,fun h=>by omega,fun i hi=>by omega⟩,Nat.le_refl _,Nat.le_refl _,Nat.zero_le _⟩
 ·refine⟨_,g,cap,rfl,⟨fun _=>rfl,fun _=>(Array.getElem?_eq_some_iff.1 hh).1,fun i hi=>?_⟩,hg,hnc,hcm⟩
  rw [Nat.zero_add,World.ownsRow.cellAt h i (by omega),List.getElem?_map,List.getD_eq_getElem?_getD,List.getElem?_eq_getElem hi];rfl
theorem ut (w:World) (base:Nat):w.ownsRow base 37 1 (.slice none 0 0) 0 (([]:List Nat).map uV):=⟨rfl,Or.inl ⟨rfl,rfl⟩⟩
theorem bp {w w':World} {base n:Nat} {v:Value} {xs:List Nat} (h:w.ownsRow base 37 1 v n (xs.map uV)) (hb:Below w.heap.size w w'):w'.ownsRow base 37 1 v n (xs.map uV):=by
 refine⟨h.1,?_⟩
 rcases h.2 with hn | ⟨g,cap,cur,rfl,hg,hgg,rest⟩
 ·exact .inl hn
 ·exact .inr ⟨g,cap,cur,rfl,hg,by rw [hb.block g (Array.getElem?_eq_some_iff.1 hgg).1];exact hgg,rest⟩
theorem dH {w w':World} {v:Value} {B n:Nat} {xs:List Value} (ho:w.ownsRow B 37 1 v n xs) (hg:w.grownBy w' v.ownBlock) (hB:B≤w.heap.size):Below B w w':=
 (Below.refl B w).grown hg hB (fun k hk=>by
  rcases ho.2 with⟨rfl,_⟩| ⟨g,cap,cur,rfl,hbg,_⟩
  ·cases hk
  ·obtain rfl:g=k:=by simpa [Value.ownBlock] using hk
   exact hbg)
theorem cV (w:World) {ops:Array Oper} {rest:List Oper} {o:Oper} {a:Act} {Q:Exit→Act→World→Prop} (hgd:o.guard=none) (s x:Operand)
  (ho:o.op=.call { callee:=.builtin .append,args:=#[s,x],argTypes:=#[28,28] })
  (base:Nat) (v:Value) (n:Nat) (xs:List Nat) (hs:a.eval s=v) (hown:w.ownsRow base 37 1 v n (xs.map uV))
  (g:Nat) (z:Nat) (hx:a.eval x=.slice (some ⟨g,0,none⟩) 1 1) (hc:w.cell? ⟨g,0,none⟩=some (.int .u64 (z:Int))) (hn:n≤17592186044415) (hbase:base≤w.heap.size)
  (h:∀ v' w',w'.ownsRow base 37 1 v' (n+1) ((xs++[z]).map uV)→w.grownBy w' v.ownBlock→wpList Tryz.prog ops Q rest (a.put o.dst v') w'):wpList Tryz.prog ops Q (o::rest) a w:=by
 obtain⟨i0,hi,hz0,hz1,hz2⟩:=info_parts sN
 refine wpList_append_own w hgd s x 28 ho base 37 i0 (.int .u64 0) 1 8 Tryz.underlying28 hi hz0 hz1 hz2 rfl (by decide) v n (xs.map uV) hs hown ⟨g,0,none⟩ 1 1 [uV z] hx rfl ?_ (fun u hu=>by rw [List.mem_singleton] at hu;rw [hu];rfl) (by unfold maxLen;omega) (by omega) hbase ?_
 ·intro j u hj
  cases j with
  | zero=>
   have:uV z=u:=Option.some.inj hj
   rw [← this,Addr.add_lit]
   exact hc
  | succ j=>cases hj
 ·intro v' w' h1 h2 _
  refine h v' w' ?_ h2
  rw [List.map_append];exact h1
end Go.Proofs.YtpddmnmhdahnlaaGreat
namespace Go.Proofs.YtpddmnmhdahnlaaGreat
open Go.RowKit

theorem ij:(Tryz.prog.info? 26).map (fun i=>(i.zero,i.size,i.bytes))=some (some (.float .f64 0),1,8):=by kernel_rfl
structure FlSrc (w:World) (p:Option Addr) (b off:Nat) (xs:List Nat):Prop where
 at_:0<xs.length→p=some ⟨b,off,none⟩
 lt:0<xs.length→b<w.heap.size
 cell:∀ j,j<xs.length→w.cell? ⟨b,off+j,none⟩=some (.float .f64 (xs.getD j 0))
theorem FlSrc.below {w w':World} {p:Option Addr} {b off:Nat} {xs:List Nat} (h:FlSrc w p b off xs) (hb:Below w.heap.size w w'):FlSrc w' p b off xs:=
 ⟨h.at_,fun hx=>Nat.lt_of_lt_of_le (h.lt hx) hb.size,fun j hj=>(hb.cell (p:=⟨b,off+j,none⟩) (h.lt (by omega))).trans (h.cell j hj)⟩
theorem Ch {w:World} {base n:Nat} {v:Value} {xs:List Nat} (h:w.ownsRow base 26 1 v n (xs.map fV)) (hn:xs.length=n) :
  ∃ p g c,v=.slice p n c∧FlSrc w p g 0 xs∧base≤g∧n≤c∧c≤maxLen:=by
 rcases h.2 with⟨rfl,rfl⟩| ⟨g,cap,cur,rfl,hg,hh,hnc,hcm,hsz,htk⟩
 ·exact⟨none,base,0,rfl,⟨fun h=>by omega,fun h=>by omega,fun i hi=>by omega⟩,Nat.le_refl _,Nat.le_refl _,Nat.zero_le _⟩
 ·refine⟨_,g,cap,rfl,⟨fun _=>rfl,fun _=>(Array.getElem?_eq_some_iff.1 hh).1,fun i hi=>?_⟩,hg,hnc,hcm⟩
  rw [Nat.zero_add,World.ownsRow.cellAt h i (by omega),List.getElem?_map,List.getD_eq_getElem?_getD,List.getElem?_eq_getElem hi];rfl
end Go.Proofs.YtpddmnmhdahnlaaGreat
namespace Go.Proofs.YtpddmnmhdahnlaaGreat
open Go.RowKit

structure Flw where
 (day:Int) (am:Nat) (cur:Int)
def aO:Flw:=⟨0,0,0⟩
def aF (a:Nat):Value:=.float .f64 a
structure FCells (mk:Nat→Value) (w:World) (b o:Nat) (f:Flw):Prop where
 c0:w.cell? ⟨b,o,none⟩=some (.int .i64 f.day)
 c1:w.cell? ⟨b,o+1,none⟩=some (mk f.am)
 c2:w.cell? ⟨b,o+2,none⟩=some (.int .i64 f.cur)
theorem FCells.below {mk:Nat→Value} {w w':World} {B b o:Nat} {f:Flw} (h:FCells mk w b o f) (hb:Below B w w') (hB:b<B):FCells mk w' b o f:=
 ⟨(hb.cell (p:=⟨b,o,none⟩) hB).trans h.c0,(hb.cell (p:=⟨b,o+1,none⟩) hB).trans h.c1,(hb.cell (p:=⟨b,o+2,none⟩) hB).trans h.c2⟩
structure JSrc (mk:Nat→Value) (w:World) (p:Option Addr) (b off:Nat) (l:List Flw):Prop where
 at_:0<l.length→p=some ⟨b,off,none⟩
 lt:0<l.length→b<w.heap.size
 cell:∀ i,i<l.length→FCells mk w b (off+i*3) (l.getD i aO)
theorem JSrc.below {mk:Nat→Value} {w w':World} {p:Option Addr} {b off:Nat} {l:List Flw} (h:JSrc mk w p b off l) (hb:Below w.heap.size w w'):JSrc mk w' p b off l:=
 ⟨h.at_,fun hx=>Nat.lt_of_lt_of_le (h.lt hx) hb.size,fun j hj=>(h.cell j hj).below hb (h.lt (by omega))⟩
theorem JSrc.stay {mk:Nat→Value} {w w':World} {B:Nat} {p:Option Addr} {b off:Nat} {l:List Flw} (h:JSrc mk w p b off l) (hb:Below B w w') (hB:0<l.length→b<B):JSrc mk w' p b off l:=
 ⟨h.at_,fun hx=>Nat.lt_of_lt_of_le (h.lt hx) hb.size,fun j hj=>(h.cell j hj).below hb (hB (by omega))⟩
end Go.Proofs.YtpddmnmhdahnlaaGreat
