/-  -/
import Derived.Test.YtjjlnmihkadlmaaGreatDkA
import Derived.Laws.AppendOwnNone
import Derived.Maps.AppendAt
namespace Go.Proofs.YtjjlnmihkadlmaaGreat
open Go.RowKit

theorem kL {t:TypeId} {z:Value} {sz by_:Nat} (h:(Tryz.prog.info? t).map (fun i=>(i.zero,i.size,i.bytes))=some (some z,sz,by_)):∃ i,Tryz.prog.info? t=some i∧i.zero=some z∧i.size=sz∧i.bytes=by_:=by
 cases hi:Tryz.prog.info? t with
 | none=>rw [hi] at h;cases h
 | some i=>
  rw [hi] at h
  have h':=Option.some.inj h
  exact⟨i,rfl,(Prod.ext_iff.1 h').1,(Prod.ext_iff.1 (Prod.ext_iff.1 h').2).1,(Prod.ext_iff.1 (Prod.ext_iff.1 h').2).2⟩
theorem Ds (B:Nat) (w:World) (T:TypeId) (sz:Nat):w.ownsRow B T sz (.slice none 0 0) 0 []:=⟨by simp,.inl ⟨rfl,rfl⟩⟩
theorem ud {B sz n:Nat} {T:TypeId} {v:Value} {xs:List Value} {w:World} (h:w.ownsRow B T sz v n xs):∃ p c g,v=.slice p n c∧n≤c∧c≤maxLen∧(0<n→p=some ⟨g,0,none⟩)∧(p=none→c=0)∧(∀ a,p=some a→a=⟨g,0,none⟩ ∧B≤g∧g<w.heap.size)∧(∀ j<n*sz,w.cell? ⟨g,j,none⟩=xs[j]?)∧∀ k≤n,w.ownsRow B T sz (.slice p k c) k (xs.take (k*sz)):=by
 rcases h.2 with⟨rfl,rfl⟩| ⟨g,cap,cur,rfl,hg,hgg,hnc,hcm,hsz,htk⟩
 ·refine⟨none,0,0,rfl,Nat.le_refl _,Nat.zero_le _,fun h=>absurd h (by omega),fun _=>rfl,(fun a h=>by cases h),fun j hj=>absurd hj (by omega),fun k hk=>?_⟩
  obtain rfl:k=0:=by omega
  rw [Nat.zero_mul,List.take_zero]
  exact Ds _ _ _ _
 ·refine⟨_,cap,g,rfl,hnc,hcm,fun _=>rfl,(fun h=>by cases h),fun a ha=>⟨by injection ha with ha;exact ha.symm,hg,Ab hgg⟩,fun j hj=>World.ownsRow.cellAt h j hj,fun k hk=>?_⟩
  have hks:k*sz≤n*sz:=Nat.mul_le_mul_right sz hk
  refine⟨by rw [List.length_take,h.1];omega,.inr ⟨g,cap,cur,rfl,hg,hgg,by omega,hcm,hsz,?_⟩⟩
  rw [← htk,List.take_take,Nat.min_eq_left hks]
theorem Al (w:World) {T ST:TypeId} {z:Value} {sz bt:Nat} (hu:Tryz.prog.underlying ST=some (.slice T)) (hinf:(Tryz.prog.info? T).map (fun i=>(i.zero,i.size,i.bytes))=some (some z,sz,bt)) (hzs:z.cells.size=sz) (hsz:0<sz)
  {ops:Array Oper} {rest:List Oper} {o:Oper} {a:Act} {Q:Exit→Act→World→Prop} (hgd:o.guard=none) (s x:Operand)
  (ho:o.op=.call { callee:=.builtin .append,args:=#[s,x],argTypes:=#[ST,ST] })
  (B:Nat) (v:Value) (n:Nat) (xs:List Value) (hs:a.eval s=v) (hown:w.ownsRow B T sz v n xs) (hb:B≤w.heap.size)
  (g m c:Nat) (news:List Value) (hx:a.eval x=.slice (some ⟨g,0,none⟩) m c) (hl:news.length=m*sz) (hc:∀ j u,news[j]? =some u→w.cell? ⟨g,j,none⟩=some u) (h1:∀ u ∈ news,u.oneCell'=true) (hn:n+m≤140737488355328) (hn2:(n+m)*bt≤140737488355328)
  (h:∀ v' w',w'.ownsRow B T sz v' (n+m) (xs++news)→w.grownBy w' v.ownBlock→wpList Tryz.prog ops Q rest (a.put o.dst v') w'):wpList Tryz.prog ops Q (o::rest) a w:=by
 obtain⟨i0,hi,hz0,hz1,hz2⟩:=kL hinf
 refine wpList_append_own w hgd s x ST ho B T i0 z sz bt hu hi hz0 hz1 hz2 hzs hsz v n xs hs hown ⟨g,0,none⟩ m c news hx hl ?_ h1 (by unfold maxLen;omega) hn2 hb (fun v' w' h1 h2 _=>h v' w' h1 h2)
 intro j u hj
 rw [Addr.add_lit,Nat.zero_add]
 exact hc j u hj
theorem kP (w:World) {T ST:TypeId} {z:Value} {sz bt:Nat} (hu:Tryz.prog.underlying ST=some (.slice T)) (hinf:(Tryz.prog.info? T).map (fun i=>(i.zero,i.size,i.bytes))=some (some z,sz,bt)) (hzs:z.cells.size=sz) (hsz:0<sz)
  {ops:Array Oper} {rest:List Oper} {o:Oper} {a:Act} {Q:Exit→Act→World→Prop} (hgd:o.guard=none) (s x:Operand)
  (ho:o.op=.call { callee:=.builtin .append,args:=#[s,x],argTypes:=#[ST,ST] })
  (B:Nat) (v:Value) (n:Nat) (xs:List Value) (hs:a.eval s=v) (hown:w.ownsRow B T sz v n xs) (hb:B≤w.heap.size)
  (g m c:Nat) (news:List Value) (hx:a.eval x=.slice (some ⟨g,0,none⟩) m c) (hl:news.length=m*sz) (hc:∀ j u,news[j]? =some u→w.cell? ⟨g,j,none⟩=some u) (h1:∀ u ∈ news,u.oneCell'=true) (hn:n+m≤140737488355328) (hn2:(n+m)*bt≤140737488355328)
  (h:∀ v' w',w'.ownsRow B T sz v' (n+m) (xs++news)→w.grownBy w' v.ownBlock→(v'.ownBlock=v.ownBlock∨v'.ownBlock=some w.heap.size)→wpList Tryz.prog ops Q rest (a.put o.dst v') w'):wpList Tryz.prog ops Q (o::rest) a w:=by
 obtain⟨i0,hi,hz0,hz1,hz2⟩:=kL hinf
 refine wpList_append_own_at w hgd s x ST ho B T i0 z sz bt hu hi hz0 hz1 hz2 hzs hsz v n xs hs hown ⟨g,0,none⟩ m c news hx hl ?_ h1 (by unfold maxLen;omega) hn2 hb (fun v' w' h1 h2 _ h4=>h v' w' h1 h2 h4)
 intro j u hj
 rw [Addr.add_lit,Nat.zero_add]
 exact hc j u hj
end Go.Proofs.YtjjlnmihkadlmaaGreat
