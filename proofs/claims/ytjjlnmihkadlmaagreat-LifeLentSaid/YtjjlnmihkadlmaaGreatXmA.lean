/-  -/
import Derived.Test.YtjjlnmihkadlmaaGreatHar
import Derived.Test.YtjjlnmihkadlmaaGreatHam
import Derived.Laws.AppendOwnNone
import Derived.Test.YtjjlnmihkadlmaaGreatHas
namespace Go.Proofs.YtjjlnmihkadlmaaGreat
open Go.RowKit

theorem aT (w:World) {ops:Array Oper} {rest:List Oper} {o:Oper} {a:Act} {Q:Exit→Act→World→Prop} (hgd:o.guard=none) (s x:Operand)
  (ho:o.op=.call { callee:=.builtin .append,args:=#[s,x],argTypes:=#[22,22] })
  (base:Nat) (v:Value) (n:Nat) (xs:List Flw) (hs:a.eval s=v) (hown:w.ownsRow base 77 3 v n (aw aF xs))
  (p:Option Addr) (b off c m:Nat) (ys:List Flw) (hx:a.eval x=.slice p m c) (hm:ys.length=m) (hsrc:JSrc aF w p b off ys) (hnil:p=none→m=0∧c=0) (hn:(n+m)*24≤140737488355328) (hbase:base≤w.heap.size)
  (h:∀ v' w',w'.ownsRow base 77 3 v' (n+m) (aw aF (xs++ys))→w.grownBy w' v.ownBlock→wpList Tryz.prog ops Q rest (a.put o.dst v') w'):wpList Tryz.prog ops Q (o::rest) a w:=by
 obtain⟨i0,hi,hz0,hz1,hz2⟩:=info_parts wK
 cases p with
 | none=>
  obtain⟨rfl,rfl⟩:=hnil rfl
  refine wpList_append_own_none hgd s x 22 ho base 77 i0 3 Tryz.underlying22 hi v n (aw aF xs) hs hown hx (h v w ?_ ⟨rfl,rfl,rfl,Nat.le_refl _,fun _ _ _=>rfl⟩)
  rw [List.length_eq_zero_iff.1 hm,List.append_nil];exact hown
 | some ad=>
  refine wpList_append_own w hgd s x 22 ho base 77 i0 (.agg #[.int .i64 0,aF 0,.int .i64 0]) 3 24 Tryz.underlying22 hi hz0 hz1 hz2 rfl (by decide) v n (aw aF xs) hs hown ad m c (aw aF ys) hx (by rw [ce,hm]) ?_ (iR (fun _=>rfl) ys) (by unfold maxLen;omega) (by omega) hbase ?_
  ·intro j u hj
   have hlt:j<ys.length*3:=by
    have:=(List.getElem?_eq_some_iff.1 hj).1
    rw [ce] at this
    exact this
   have e:=hsrc.at_ (by omega)
   obtain rfl:=Option.some.inj e
   rw [Addr.add_lit]
   obtain⟨i,m,rfl,hm5⟩:∃ i m,j=i*3+m∧m<3:=⟨j / 3,j % 3,by omega,Nat.mod_lt _ (by omega)⟩
   have hq:i<ys.length:=by omega
   rw [eI aF ys _ _ hq hm5] at hj
   have hc:=hsrc.cell _ hq
   rw [← hj]
   rw [← Nat.add_assoc]
   rcases (show m=0∨m=1∨m=2 by omega) with rfl | rfl | rfl
   ·exact hc.c0
   ·exact hc.c1
   ·exact hc.c2
  ·intro v' w' h1 h2 _
   refine h v' w' ?_ h2
   rw [cE];exact h1
theorem nj {w:World} {B n g cap:Nat} {l:List Flw} (h:w.ownsRow B 77 3 (.slice (some ⟨g,0,none⟩) n cap) n (aw aF l)) (hn:l.length=n) (i:Nat) (hi:i<n):(w.cell? ⟨g,i*3,none⟩=some (.int .i64 (l.getD i ak).day)∧w.cell? ⟨g,i*3+1,none⟩=some (.float .f64 (l.getD i ak).am)∧w.cell? ⟨g,i*3+2,none⟩=some (.int .i64 (l.getD i ak).cur))∧∀ j,w.frozen? ⟨g,j,none⟩=false:=by
 have hc:∀ m<3,w.cell? ⟨g,i*3+m,none⟩=(flC aF (l.getD i ak))[m]? :=fun m hm=>by
  rw [h.cellAt (i*3+m) (by omega),eI aF l i m (by omega) hm]
 exact⟨⟨hc 0 (by decide),hc 1 (by decide),hc 2 (by decide)⟩,fun j=>World.ownsRow.frozenAt h j⟩
theorem iM (w:World):(w.alloc (.cells #[] 77)).ownsRow w.heap.size 77 3 (.slice (some ⟨w.heap.size,0,none⟩) 0 0) 0 (aw aF []):=
 ⟨rfl,Or.inr ⟨w.heap.size,0,#[],rfl,Nat.le_refl _,heap_alloc_new _ _,Nat.le_refl _,Nat.zero_le _,rfl,rfl⟩⟩
end Go.Proofs.YtjjlnmihkadlmaaGreat
