/-  -/
import Derived.Test.YtjjlnmihkadlmaaGreatHam
import Derived.Test.YtjjlnmihkadlmaaGreatHao
import Derived.Deep.RegionLaw
import Derived.Test.YtjjlnmihkadlmaaGreatHan
import Derived.Laws.AppendOwnNone
import Derived.OwnWalk
namespace Go.Proofs.YtjjlnmihkadlmaaGreat
open Go.RowKit

theorem fg (W:World) (cs:Array Value) (t:TypeId) (k:Nat):(W.alloc (.cells cs t)).cell? ⟨W.heap.size,k,none⟩=cs[k]? :=by simp
end Go.Proofs.YtjjlnmihkadlmaaGreat
namespace Go.Proofs.YtjjlnmihkadlmaaGreat
open Go.RowKit

end Go.Proofs.YtjjlnmihkadlmaaGreat
namespace Go.Proofs.YtjjlnmihkadlmaaGreat
open Go.RowKit

def kV (x:Int):Value:=.int .i64 x
theorem mW:(Tryz.prog.info? 3).map (fun i=>(i.zero,i.size,i.bytes))=some (some (.int .i64 0),1,8):=by kernel_rfl
theorem zO (w:World) {ops:Array Oper} {rest:List Oper} {o:Oper} {a:Act} {Q:Exit→Act→World→Prop} (hgd:o.guard=none) (s x:Operand)
  (ho:o.op=.call { callee:=.builtin .append,args:=#[s,x],argTypes:=#[30,30] })
  (base:Nat) (v:Value) (n:Nat) (xs:List Nat) (hs:a.eval s=v) (hown:w.ownsRow base 57 1 v n (xs.map uV))
  (b off c m:Nat) (ys:List Nat) (hx:a.eval x=.slice (some ⟨b,off,none⟩) m c) (hm:ys.length=m) (hsrc:∀ j<m,w.cell? ⟨b,off+j,none⟩=some (yV ys j)) (hn:n≤100000) (hm2:m≤100000) (hbase:base≤w.heap.size)
  (h:∀ v' w',w'.ownsRow base 57 1 v' (n+m) ((xs++ys).map uV)→w.grownBy w' v.ownBlock→wpList Tryz.prog ops Q rest (a.put o.dst v') w'):wpList Tryz.prog ops Q (o::rest) a w:=by
 obtain⟨i0,hi,hz0,hz1,hz2⟩:=info_parts Ew
 refine wpList_append_own w hgd s x 30 ho base 57 i0 (.int .u64 0) 1 8 Tryz.underlying30 hi hz0 hz1 hz2 rfl (by decide) v n (xs.map uV) hs hown ⟨b,off,none⟩ m c (ys.map uV) hx (by rw [List.length_map,hm,Nat.mul_one]) ?_ (fun u hu=>by obtain⟨z,_,rfl⟩:=List.mem_map.1 hu;rfl) (by unfold maxLen;omega) (by omega) hbase ?_
 ·intro j u hj
  have hj1:j<ys.length:=by
   have:=(List.getElem?_eq_some_iff.1 hj).1
   simpa using this
  rw [Addr.add_lit,hsrc j (by omega)]
  rw [List.getElem?_map,List.getElem?_eq_getElem hj1] at hj
  have hu:uV ys[j]=u:=Option.some.inj hj
  rw [← hu]
  show some (Value.int .u64 (ys.getD j 0:Nat))=_
  rw [List.getD_eq_getElem?_getD,List.getElem?_eq_getElem hj1];rfl
 ·intro v' w' h1 h2 _
  refine h v' w' ?_ h2
  rw [List.map_append];exact h1
theorem km (w:World) {ops:Array Oper} {rest:List Oper} {o:Oper} {a:Act} {Q:Exit→Act→World→Prop} (hgd:o.guard=none) (s x:Operand)
  (ho:o.op=.call { callee:=.builtin .append,args:=#[s,x],argTypes:=#[41,41] })
  (base:Nat) (v:Value) (n:Nat) (xs:List Nat) (hs:a.eval s=v) (hown:w.ownsRow base 54 1 v n (xs.map fV))
  (b off c m:Nat) (ys:List Nat) (hx:a.eval x=.slice (some ⟨b,off,none⟩) m c) (hm:ys.length=m) (hsrc:∀ j<m,w.cell? ⟨b,off+j,none⟩=some (flV ys j)) (hn:n≤100000) (hm2:m≤100000) (hbase:base≤w.heap.size)
  (h:∀ v' w',w'.ownsRow base 54 1 v' (n+m) ((xs++ys).map fV)→w.grownBy w' v.ownBlock→wpList Tryz.prog ops Q rest (a.put o.dst v') w'):wpList Tryz.prog ops Q (o::rest) a w:=by
 obtain⟨i0,hi,hz0,hz1,hz2⟩:=info_parts mO
 refine wpList_append_own w hgd s x 41 ho base 54 i0 (.float .f64 0) 1 8 Tryz.underlying41 hi hz0 hz1 hz2 rfl (by decide) v n (xs.map fV) hs hown ⟨b,off,none⟩ m c (ys.map fV) hx (by rw [List.length_map,hm,Nat.mul_one]) ?_ (fun u hu=>by obtain⟨z,_,rfl⟩:=List.mem_map.1 hu;rfl) (by unfold maxLen;omega) (by omega) hbase ?_
 ·intro j u hj
  have hj1:j<ys.length:=by
   have:=(List.getElem?_eq_some_iff.1 hj).1
   simpa using this
  rw [Addr.add_lit,hsrc j (by omega)]
  rw [List.getElem?_map,List.getElem?_eq_getElem hj1] at hj
  have hu:fV ys[j]=u:=Option.some.inj hj
  rw [← hu]
  show some (Value.float .f64 (ys.getD j 0))=_
  rw [List.getD_eq_getElem?_getD,List.getElem?_eq_getElem hj1];rfl
 ·intro v' w' h1 h2 _
  refine h v' w' ?_ h2
  rw [List.map_append];exact h1
theorem cB {t:TypeId} {w w':World} {base n:Nat} {v:Value} {xs:List Value} (h:w.ownsRow base t 1 v n xs) (hb:Below w.heap.size w w'):w'.ownsRow base t 1 v n xs:=by
 refine⟨h.1,?_⟩
 rcases h.2 with hn | ⟨g,cap,cur,rfl,hg,hgg,rest⟩
 ·exact .inl hn
 ·exact .inr ⟨g,cap,cur,rfl,hg,by rw [hb.block g (Array.getElem?_eq_some_iff.1 hgg).1];exact hgg,rest⟩
theorem bI {t:TypeId} {w w':World} {v:Value} {B n:Nat} {xs:List Value} (ho:w.ownsRow B t 1 v n xs) (hg:w.grownBy w' v.ownBlock) (hB:B≤w.heap.size):Below B w w':=
 (Below.refl B w).grown hg hB (fun k hk=>by
  rcases ho.2 with⟨rfl,_⟩| ⟨g,cap,cur,rfl,hbg,_⟩
  ·cases hk
  ·obtain rfl:g=k:=by simpa [Value.ownBlock] using hk
   exact hbg)
theorem aO {t:TypeId} {w:World} {base n b j:Nat} {v:Value} {xs:List Value} (h:w.ownsRow base t 1 v n xs) (hb:b<base) (x:Value):(w.setCell ⟨b,j,none⟩ x).ownsRow base t 1 v n xs:=by
 refine⟨h.1,?_⟩
 rcases h.2 with hn | ⟨g,cap,cur,rfl,hg,hgg,rest⟩
 ·exact .inl hn
 ·exact .inr ⟨g,cap,cur,rfl,hg,by rw [Below.heap_setCell w ⟨b,j,none⟩ x g (by show g≠b;omega)];exact hgg,rest⟩
theorem gY {t:TypeId} {w:World} {base base' n:Nat} {v:Value} {xs:List Value} (h:w.ownsRow base t 1 v n xs) (hb:base'≤base):w.ownsRow base' t 1 v n xs:=by
 refine⟨h.1,?_⟩
 rcases h.2 with hn | ⟨g,cap,cur,e,hg,rest⟩
 ·exact .inl hn
 ·exact .inr ⟨g,cap,cur,e,Nat.le_trans hb hg,rest⟩
theorem gZ (w:World) (x:Int) (t:TypeId):∀ j<1,(w.alloc (.cells #[.int .i64 x] t)).cell? ⟨w.heap.size,0+j,none⟩=some (xV [x] j):=fun j hj=>by
 obtain rfl:j=0:=by omega
 exact fg w _ _ 0
theorem jD (w:World) (x:Nat) (t:TypeId):∀ j<1,(w.alloc (.cells #[.float .f64 x] t)).cell? ⟨w.heap.size,0+j,none⟩=some (flV [x] j):=fun j hj=>by
 obtain rfl:j=0:=by omega
 exact fg w _ _ 0
theorem gC {w:World} {base n:Nat} {v:Value} {xs:List Int} (h:w.ownsRow base 3 1 v n (xs.map kV)) (hn:xs.length=n) (h0:0<n):∃ g c,v=.slice (some ⟨g,0,none⟩) n c∧VSrc w (some ⟨g,0,none⟩) g 0 n (xV xs)∧base≤g∧n≤c∧c≤maxLen:=by
 rcases h.2 with⟨rfl,rfl⟩| ⟨g,cap,cur,rfl,hg,hh,hnc,hcm,hsz,htk⟩
 ·omega
 ·refine⟨g,cap,rfl,⟨fun _=>rfl,fun _=>(Array.getElem?_eq_some_iff.1 hh).1,fun i hi=>?_⟩,hg,hnc,hcm⟩
  rw [Nat.zero_add,World.ownsRow.cellAt h i (by omega),List.getElem?_map]
  show Option.map kV xs[i]? =some (Value.int .i64 (xs.getD i 0))
  rw [List.getD_eq_getElem?_getD,List.getElem?_eq_getElem (by omega)];rfl
theorem fh {w:World} {base n:Nat} {v:Value} {xs:List Nat} (h:w.ownsRow base 54 1 v n (xs.map fV)) (hn:xs.length=n) (h0:0<n):∃ g c,v=.slice (some ⟨g,0,none⟩) n c∧VSrc w (some ⟨g,0,none⟩) g 0 n (flV xs)∧base≤g∧n≤c∧c≤maxLen:=by
 obtain⟨p,g,c,e,hs,a,b,d⟩:=zB h hn
 have hp:=hs.at_ (by omega)
 subst hp
 exact⟨g,c,e,⟨fun _=>rfl,fun _=>hs.lt (by omega),fun j hj=>hs.cell j (by omega)⟩,a,b,d⟩
end Go.Proofs.YtjjlnmihkadlmaaGreat
namespace Go.Proofs.YtjjlnmihkadlmaaGreat
open Go.RowKit

end Go.Proofs.YtjjlnmihkadlmaaGreat
namespace Go.Proofs.YtjjlnmihkadlmaaGreat
open Go.RowKit

end Go.Proofs.YtjjlnmihkadlmaaGreat
namespace Go.Proofs.YtjjlnmihkadlmaaGreat
open Go.RowKit

def Dk (ds:List Int) (E:Int):Int:=if E=0 then ds.getD (ds.length - 1) 0 else 0
end Go.Proofs.YtjjlnmihkadlmaaGreat
