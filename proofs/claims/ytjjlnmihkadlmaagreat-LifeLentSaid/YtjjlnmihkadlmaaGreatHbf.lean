/-  -/
import Derived.Test.YtjjlnmihkadlmaaGreatHbe
import Derived.Deep.LoopGhost
import Derived.Deep.RegionWith
import Derived.Test.YtjjlnmihkadlmaaGreatHal
namespace Go.Proofs.YtjjlnmihkadlmaaGreat.A
open Go.RowKit

def New (w:World) (v v':Value):Prop:=∀ k,v'.ownBlock=some k→v.ownBlock=some k∨w.heap.size≤k
theorem New.refl (w:World) (v:Value):New w v v:=fun _ h=>Or.inl h
theorem New.trans {w w1:World} {v v1 v2:Value} (h:New w v v1) (h':New w1 v1 v2) (hs:w.heap.size≤w1.heap.size):New w v v2:=fun k hk=>by
 rcases h' k hk with h1 | h1
 ·exact h k h1
 ·exact Or.inr (by omega)
def At (v:Value) (k:Nat):Prop:=v.ownBlock=some k

theorem kO (t ty:TypeId) (ht:Tryz.prog.underlying t=some (.slice 57)) (w:World) (B:Nat) (v:Value) (xs:List Nat) (hown:OwnW w B v xs) (a:Addr) (c x:Nat) (hx:x<18446744073709551616) (hcell:w.cell? (a.add 0)=some (.int .u64 (x:Int))) (hn:xs.length≤100000000) (hB:B≤w.heap.size) :
  ∃ v' w',(Builtin.append_ #[t,t] ty #[v,.slice (some a) 1 c]).run Tryz.prog w=.ok v' w'∧OwnW w' B v' (xs++[x])∧w.grownBy w' v.ownBlock∧New w v v':=by
 obtain⟨i0,hi,hz0,hz1,hz2⟩:=info_parts infoU
 have hnews:∀ (j:Nat) (u:Value),[uV x][j]? =some u→w.cell? (a.add j)=some u:=by
  intro j u hj
  match j,hj with
  | 0,hj=>simp at hj;subst hj;exact hcell
 have h1:∀ u ∈ [uV x],u.oneCell'=true:=by intro u hu;simp at hu;subst hu;rfl
 have key:∀ B',B'≤w.heap.size→w.ownsRow B' 57 1 v xs.length (xs.map uV)→∃ v' w',(Builtin.append_ #[t,t] ty #[v,.slice (some a) 1 c]).run Tryz.prog w=.ok v' w'∧w'.ownsRow B' 57 1 v' (xs.length+1) (xs.map uV++[uV x])∧w.grownBy w' v.ownBlock:=by
  intro B' hB' ho
  obtain⟨v',w',hr,h2,h3,_⟩:=run_append_own (P:=Tryz.prog) w B' t ty 57 i0 (.int .u64 0) 1 8 ht hi hz0 hz1 hz2 rfl (by decide) v xs.length (xs.map uV) ho a 1 c [uV x] rfl hnews h1 (by unfold maxLen;omega) (by omega) hB'
  exact⟨v',w',hr,h2,h3⟩
 obtain⟨v',w',hr,h2,h3⟩:=key B hB hown.own
 refine⟨v',w',hr,⟨by rw [List.length_append,List.length_singleton,List.map_append];exact h2,hown.fit.snoc hx⟩,h3,?_⟩
 intro k hk
 rcases hown.own.2 with⟨rfl,hn0⟩| ⟨g,cap,cur,rfl,hb,hg,hnc,hcm,hcs,htake⟩
 ·have hx0:xs=[]:=List.length_eq_zero_iff.1 hn0
  subst hx0
  obtain⟨v2,w2,hr2,h22,_⟩:=key w.heap.size (Nat.le_refl _) (World.ownsRow_nil _ _ _ _)
  rw [hr] at hr2
  injection hr2 with e1 e2
  subst e1
  exact Or.inr (h22.lt k hk).1
 ·by_cases hroom:xs.length+1≤cap
  ·obtain⟨w2,hr2,_⟩:=run_append_fits (P:=Tryz.prog) w B t ty 57 i0 1 ht hi hz1 g xs.length cap (xs.map uV) hown.own a 1 c [uV x] rfl hnews h1 hroom
   rw [hr] at hr2
   injection hr2 with e1 e2
   subst e1
   exact Or.inl hk
  ·have hr2:=run_append_grow (P:=Tryz.prog) w t ty 57 i0 (.int .u64 0) ht hi hz0 ⟨g,0,none⟩ xs.length cap (xs.map uV) (by rw [hz1];simp) (hown.own.cells rfl) a 1 c [uV x] (by rw [hz1];rfl) hnews (by omega) (by omega) (by rw [hz2];exact growslice_fits (by omega) (by omega))
   rw [hr] at hr2
   injection hr2 with e1 e2
   subst e1
   simp [Value.ownBlock] at hk
   exact Or.inr (by omega)

theorem dS (w:World) {ops:Array Oper} {rest:List Oper} {o:Oper} {a:Act} {Q:Exit→Act→World→Prop} (hgd:o.guard=none) (s x:Operand) (t:TypeId)
  (ho:o.op=.call { callee:=.builtin .append,args:=#[s,x],argTypes:=#[t,t] }) (ht:Tryz.prog.underlying t=some (.slice 57)) (B:Nat) (v:Value) (xs:List Nat) (hs:a.eval s=v) (hown:OwnW w B v xs)
  (ad:Addr) (c y:Nat) (hx:a.eval x=.slice (some ad) 1 c) (hy:y<18446744073709551616) (hcell:w.cell? (ad.add 0)=some (.int .u64 (y:Int))) (hn:xs.length≤100000000) (hB:B≤w.heap.size)
  (h:∀ v' w',OwnW w' B v' (xs++[y])→w.grownBy w' v.ownBlock→New w v v'→wpList Tryz.prog ops Q rest (a.put o.dst v') w'):wpList Tryz.prog ops Q (o::rest) a w:=by
 obtain⟨v',w',hr,h2,h3,h4⟩:=kO t o.type ht w B v xs hown ad c y hy hcell hn hB
 refine wpList_plain hgd fun K hK=>?_
 unfold Oper.wp execOp
 simp only [ho,resolve,invoke,builtin,Sem.run_bind,Sem.run_pure,Result.andThen_ok,List.map_toArray,List.map_cons,List.map_nil,hs,hx,hr]
 exact hK _ _ (h v' w' h2 h3 h4)

theorem wrote_app {w w1:World} {v:Value} (o:Obj) (h:(w.alloc o).grownBy w1 v.ownBlock):Wrote w w1 (At v):=
 ⟨h.os,h.tape,h.output,Nat.le_trans (by simp) h.size,fun k hk hn=>(h.block k (by simp;omega) (fun e=>hn e.symm)).trans (heap_alloc_old w o hk)⟩
theorem xe {w:World} {v v':Value} (o:Obj) (h:New (w.alloc o) v v'):New w v v':=fun k hk=>by
 rcases h k hk with h1 | h1
 ·exact Or.inl h1
 ·exact Or.inr (by simp at h1;omega)
theorem OwnW.alloc {w:World} {B:Nat} {v:Value} {xs:List Nat} (h:OwnW w B v xs) (o:Obj):OwnW (w.alloc o) B v xs:=⟨h.own.alloc o,h.fit⟩

theorem yz {e:Nat} (h:e<18446744073709551616):IntKind.u64.wrap (IntKind.i64.wrap (e:Int) / 9223372036854775808)=((if e<9223372036854775808 then 0 else 18446744073709551615:Nat):Int):=by
 rw [IntKind.wrap_u64,IntKind.wrap_i64]
 split<;>omega

set_option maxHeartbeats 400000 in
theorem kz (B:Nat) (v:Value) (xs:List Nat) (w:World) (h:OwnW w B v xs) (hn:xs.length≤100000) (hB:B≤w.heap.size) :
  Calls Tryz.prog 152 #[v] w fun e w'=>∃ v',e=.returned v'∧OwnW w' B v' (settle xs)∧Wrote w w' (At v)∧New w v v':=by
 have HE:=hideS (jr B v xs w h (by omega))
 have HO:=hideS h
 have hf:endW xs<18446744073709551616:=h.fit _
 have HS:=hideS (show settle xs=if endW xs=0∨endW xs=18446744073709551615 then xs else xs++[if endW xs<9223372036854775808 then 0 else 18446744073709551615] from rfl)
 clear h
 generalize endW xs=e at *
 by_cases h0:e=0∨e=18446744073709551615
 ·have HX:Hid (settle xs=xs):=by show _=_;rw [HS.out,if_pos h0]
  rw [HX.out]
  clear HS HX
  rcases h0 with rfl | rfl
  ·go_enter Tryz.func152,Tryz.ntmps152
   go_wp2_with (go_at_call 112;refine HE.out.mono ?_;rintro e w' ⟨rfl,rfl⟩)
   go_ret
   exact⟨v,rfl,HO.out,Wrote.refl _ _,New.refl _ _⟩
  ·go_enter Tryz.func152,Tryz.ntmps152
   go_wp2_with (go_at_call 112;refine HE.out.mono ?_;rintro e w' ⟨rfl,rfl⟩)
   go_ret
   exact⟨v,rfl,HO.out,Wrote.refl _ _,New.refl _ _⟩
 ·have HX:Hid (settle xs=xs++[if e<9223372036854775808 then 0 else 18446744073709551615]):=by show _=_;rw [HS.out,if_neg h0]
  have hw:=yz hf
  obtain⟨s,hs⟩:∃ s:Nat,(if e<9223372036854775808 then 0 else 18446744073709551615:Nat)=s:=⟨_,rfl⟩
  have hsf:s<18446744073709551616:=by rw [← hs];split<;>omega
  rw [hs] at hw HX
  rw [HX.out]
  clear HS HX hs
  obtain⟨u,hu⟩:∃ u:Int,u=e:=⟨_,rfl⟩
  have h1:(u !=0)=true:=by simp;omega
  have h2:(u !=18446744073709551615)=true:=by simp;omega
  rw [← hu] at HE hw
  clear h0 hf hu
  have hw2:IntKind.u64.wrap (wrap64 u / 9223372036854775808)=(s:Int):=by rw [← hw,IntKind.wrap_i64,wrap64]
  clear hw
  go_enter Tryz.func152,Tryz.ntmps152
  go_wp2_with (first | (go_at_call 112;refine HE.out.mono ?_;rintro e w' ⟨rfl,rfl⟩) | (at_builtin;refine dS _ rfl _ _ 132 rfl Tryz.underlying132 B v xs rfl (HO.out.alloc _) ⟨_,0,none⟩ 1 s rfl hsf ?c1 (by omega) ?c2 ?_))
  case c1=>simp [Addr.add]
  case c2=>simp;omega
  intro v' w1 ho hg hN
  have R:=hideS (And.intro ho (And.intro (wrote_app _ hg) (xe _ hN)))
  clear ho hg hN
  go_wp2
  go_ret
  exact⟨v',rfl,R.out.1,R.out.2.1,R.out.2.2⟩
end Go.Proofs.YtjjlnmihkadlmaaGreat.A
namespace Go.Proofs.YtjjlnmihkadlmaaGreat.A
open Go.RowKit

def bg (xs:List Nat) (n:Nat):List Nat:=xs++List.replicate (n - xs.length) (endW xs)
theorem jT (xs:List Nat) (n:Nat):(bg xs n).length=max xs.length n:=by simp [bg];omega
theorem db {xs:List Nat} {n:Nat} (h:n≤xs.length):bg xs n=xs:=by simp [bg,Nat.sub_eq_zero_of_le h]
theorem iG {xs:List Nat} {k:Nat} (h:xs.length≤k):bg xs (k+1)=bg xs k++[endW xs]:=by
 unfold bg
 rw [show k+1 - xs.length=(k - xs.length)+1 by omega,List.replicate_succ',List.append_assoc]
theorem yA {xs:List Nat} {k:Nat} (h:xs.length≤k):endW (bg xs k)=endW xs:=by
 induction k with
 | zero=>rw [db (by omega)]
 | succ k ih=>
  by_cases hk:xs.length=k+1
  ·rw [db (by omega)]
  ·rw [iG (by omega),dG]
theorem _root_.Go.Proofs.YtjjlnmihkadlmaaGreat.Sg.long {xs:List Nat} {N:Int} (h:Sg xs N) (n:Nat):Sg (bg xs n) N:=by
 induction n with
 | zero=>rw [db (by omega)];exact h
 | succ k ih=>
  by_cases hk:k+1≤xs.length
  ·rw [db hk];exact h
  ·have:=ih.more
   rw [yA (by omega)] at this
   rw [iG (by omega)];exact this

theorem BE (B:Nat) (v:Value) (xs:List Nat) (n:Nat) (w:World) (h:OwnW w B v xs) (hn:xs.length+n≤1000000) (hB:B≤w.heap.size) :
  Calls Tryz.prog 180 #[v,.int .i64 n] w fun e w'=>∃ v',e=.returned v'∧OwnW w' B v' xs∧Wrote w w' (At v)∧New w v v':=by
 obtain⟨i0,hi,hz0,hz1,hz2⟩:=info_parts infoU
 have grow:∀ (p:Option Addr) (c:Nat) (cs:List Value),v=.slice p xs.length c→xs.length≤c→c<xs.length+n→cs.length=c→(p=none→c=0)→(∀ a,p=some a→∀ j u,cs[j]? =some u→w.cell? (a.add j)=some u)→cs.take xs.length=xs.map uV→
   Calls Tryz.prog 180 #[v,.int .i64 n] w fun e w'=>∃ v',e=.returned v'∧OwnW w' B v' xs∧Wrote w w' (At v)∧New w v v':=by
  intro p c cs hv h1 h2 h3 h4 h5 h6
  have hg:=Any8.slices_Grow_grow Tryz.growL i0 (.int .u64 0) hi hz0 (by rw [hz1];decide) p xs.length c n cs w h1 h2 (by rw [hz2];omega) (by omega) (by rw [h3,hz1];omega) h4 h5
  rw [hv]
  refine Calls.mono hg ?_
  rintro e w' ⟨rfl,rfl⟩
  refine⟨_,rfl,⟨⟨by simp,.inr ⟨w.heap.size,_,_,rfl,hB,heap_alloc_new w.drew _,?_,?_,?_,?_⟩⟩,h.fit⟩,?_,?_⟩
  ·exact Nat.le_trans (Nat.le_add_right _ _) (grownCap_ge w _ _ _)
  ·exact grownCap_le_maxLen w _ _ _ (by unfold maxLen;omega)
  ·have:=grownCap_ge w (xs.length+n) c (Tryz.growL_ren.t 25)
   simp only [Array.size_append,List.size_toArray,size_zeroCells,h3,show (Value.int IntKind.u64 0).cells.size=1 from rfl,Nat.mul_one]
   omega
  ·rw [Array.toList_append,Array.toList_append,List.append_assoc,Nat.mul_one]
   rw [List.take_append_of_le_length (by simp;omega)]
   simpa using h6
  ·exact⟨rfl,rfl,rfl,by simp,fun k hk _=>heap_alloc_old w.drew _ hk⟩
  ·intro k hk
   simp [Value.ownBlock] at hk
   exact Or.inr (by omega)
 rcases h.own.2 with⟨hv,hn0⟩| ⟨g,cap,cur,hv,hb,hg,hnc,hcm,hcs,htake⟩
 ·by_cases h0:n=0
  ·subst h0
   refine Calls.mono (Any8.slices_Grow_room Tryz.growL none 0 0 0 w (Nat.le_refl _) (by omega) (by omega) (by omega):Calls Tryz.prog 180 #[.slice none 0 0,.int .i64 (0:Nat)] w _) ?_ |> (by rw [hv];exact ·)
   rintro e w' ⟨rfl,rfl⟩
   exact⟨_,rfl,hv▸h,Wrote.refl _ _,New.refl _ _⟩
  ·exact grow none 0 [] (by rw [hv,hn0]) (by omega) (by omega) rfl (fun _=>rfl) (fun a ha=>by cases ha) (by simp [List.length_eq_zero_iff.1 hn0])
 ·by_cases hroom:xs.length+n≤cap
  ·refine Calls.mono (Any8.slices_Grow_room Tryz.growL (some ⟨g,0,none⟩) xs.length cap n w hnc (by unfold maxLen at hcm;omega) (by omega) hroom:Calls Tryz.prog 180 #[.slice (some ⟨g,0,none⟩) xs.length cap,.int .i64 (n:Nat)] w _) ?_ |> (by rw [hv];exact ·)
   rintro e w' ⟨rfl,rfl⟩
   exact⟨_,rfl,hv▸h,Wrote.refl _ _,New.refl _ _⟩
  ·refine grow (some ⟨g,0,none⟩) cap cur.toList hv hnc (by omega) (by simpa using hcs) (fun e=>by cases e) ?_ (by simpa using htake)
   intro a ha j u hj
   cases ha
   rw [Addr.add_lit,cell_of_row w g _ cur _ (0,0) hg]
   simpa using hj

set_option maxHeartbeats 800000 in
theorem sv (B:Nat) (v:Value) (xs:List Nat) (n:Nat) (w:World) (h:OwnW w B v xs) (hl:xs.length≤100000) (hn:n≤100000) (hB:B≤w.heap.size) :
  Calls Tryz.prog 150 #[v,.int .i64 n] w fun e w'=>∃ v',e=.returned v'∧OwnW w' B v' (bg xs n)∧Wrote w w' (At v)∧New w v v':=by
 obtain⟨p,g,c,hv,hc1,hc2,_,_⟩:=h.shape
 have HE:=hideS (jr B v xs w h (by omega))
 have hef:endW xs<18446744073709551616:=h.fit _
 have HO:=hideS h
 by_cases hs:n≤xs.length
 ·rw [db hs]
  rw [hv] at HE HO ⊢
  clear h hv
  generalize xs.length=l at *
  go_enter Tryz.func150,Tryz.ntmps150
  go_wp2
  go_ret
  exact⟨_,rfl,HO.out,Wrote.refl _ _,New.refl _ _⟩
 ·have HG:Hid (Calls Tryz.prog 180 #[v,.int .i64 ((n:Int) - (xs.length:Int)+1)] w fun e w'=>∃ v',e=.returned v'∧OwnW w' B v' xs∧Wrote w w' (At v)∧New w v v'):=by
   have:=BE B v xs (n - xs.length+1) w h (by omega) hB
   rw [show ((n - xs.length+1:Nat):Int)=(n:Int) - (xs.length:Int)+1 by omega] at this
   exact this
  have HX:=hideS (fun k (hk:xs.length≤k)=>iG (xs:=xs) hk)
  have HL:=hideS (fun k=>jT xs k)
  have H0:=hideS (db (Nat.le_refl xs.length))
  rw [hv] at HE HO HG ⊢
  clear h hv
  have hl0:Hid (xs.length=xs.length):=rfl
  generalize hLL:xs.length=l at *
  replace hl0:Hid (xs.length=l):=hLL
  clear hLL
  generalize endW xs=en at *
  go_enter Tryz.func150,Tryz.ntmps150
  go_wp2_with (first | (go_at_call 112;refine HE.out.mono ?_;rintro e w' ⟨rfl,rfl⟩) | (go_at_call 180;refine HG.out.mono ?_;rintro e w1 ⟨v1,rfl,o1,r1,n1⟩))
  have R1:=hideS (And.intro o1 (And.intro r1 n1))
  clear o1 r1 n1 HG HE HO
  go_loopg [0] (n - l) (fun m v wr=>∃ (k:Nat) (p':Option Addr) (c':Nat),l≤k∧k≤n∧m=n - k∧v=.slice p' k c'∧Hid (OwnW wr B (.slice p' k c') (bg xs k)∧Wrote w' wr (At (.slice p l c))∧New w' (.slice p l c) (.slice p' k c')))
  case atStart=>
   obtain⟨p1,g1,c1,hv1,_⟩:=R1.out.1.shape
   rw [hl0.out] at hv1
   refine⟨l,p1,c1,Nat.le_refl _,by omega,rfl,hv1,?_⟩
   rw [← hv1,H0.out];exact R1.out
  case round=>
   obtain⟨k,p',c',hk0,hk,rfl,rfl,HR⟩:=hrel
   by_cases hlt:k<n
   ·have hbs:B≤wr.heap.size:=Nat.le_trans hB HR.out.2.1.size
    go_wp2_with (at_builtin;refine dS _ rfl _ _ 132 rfl Tryz.underlying132 B (.slice p' k c') (bg xs k) rfl (HR.out.1.alloc _) ⟨_,0,none⟩ 1 en rfl hef ?c1 (by rw [HL.out];omega) ?c2 ?_)
    case c1=>simp [Addr.add]
    case c2=>simp;omega
    intro v' w2 ho hg hN
    obtain⟨p2,g2,c2,hv2,_⟩:=ho.shape
    rw [← HX.out k hk0,HL.out,show max l (k+1)=k+1 by omega] at hv2
    rw [← HX.out k hk0,hv2] at ho
    rw [hv2] at hN
    have R2:=hideS (And.intro ho (And.intro (HR.out.2.1.trans (wrote_app _ hg) ?t1) (HR.out.2.2.trans (xe _ hN) HR.out.2.1.size)))
    case t1=>
     intro j hj hj2
     rcases HR.out.2.2 j hj2 with h5 | h5
     ·exact h5
     ·omega
    subst hv2
    clear ho hg hN HR
    go_wp2
    go_roundg (n - (k+1))
    case measure=>omega
    case rel=>exact⟨k+1,p2,c2,by omega,by omega,rfl,rfl,R2⟩
   ·obtain rfl:k=n:=by omega
    go_wp2
    go_ret
    exact⟨_,rfl,HR.out⟩
end Go.Proofs.YtjjlnmihkadlmaaGreat.A
namespace Go.Proofs.YtjjlnmihkadlmaaGreat.A
open Go.RowKit

theorem vk (n:Nat):(madeCells #[.int .u64 0] n).toList=(List.replicate n 0).map uV:=by
 apply List.ext_getElem
 ·simp [size_madeCells]
 ·intro i h1 h2
  simp [madeCells,uV,Nat.mod_one]
theorem OwnW.made (w:World) (n:Nat) (hn:n≤1000000):OwnW (w.alloc (.cells (madeCells #[.int .u64 0] n) 57)) w.heap.size (.slice (some ⟨w.heap.size,0,none⟩) n n) (List.replicate n 0):=by
 refine⟨?_,fun i=>?_⟩
 ·have:=World.ownsRow_lit (base:=w.heap.size) (e:=57) (size:=1) w (madeCells #[.int .u64 0] n) n (Nat.le_refl _) (by unfold maxLen;omega) (by simp [size_madeCells])
  rw [vk] at this
  simpa using this
 ·show (List.replicate n 0).getD i 0<_
  rw [List.getD,List.getElem?_replicate]
  split<;>decide
theorem qk {s:Int} {ys:List Nat} {x f:Nat→Nat} {c c' k z:Nat} (h:Rel s (fun i=>ys.getD i 0) x f c k) (hk:k<ys.length) (hz:(z:Int)+s*((c':Int)*18446744073709551616)=(x k:Int)+s*((f k:Int)+c)):Rel s (fun i=>(ys.set k z).getD i 0) x f c' (k+1):=by
 have h2:Rel s (fun i=>(ys.set k z).getD i 0) x f c k:=h.congr (fun i hi=>by show ys.getD i 0=(ys.set k z).getD i 0;rw [eU hk,if_neg (by omega)]) (fun _ _=>rfl) (fun _ _=>rfl)
 refine h2.step ?_
 show (((ys.set k z).getD k 0:Nat):Int)+_=_
 rw [eU hk,if_pos rfl];exact hz

set_option maxHeartbeats 800000 in
theorem sw (B:Nat) (v:Value) (xs:List Nat) (w:World) (h:OwnW w B v xs) (hn:xs.length≤100000) :
  Calls Tryz.prog 113 #[v] w fun e w'=>∃ v' ys c,e=.returned v'∧OwnW w' w.heap.size v' ys∧ys.length=xs.length∧Rel (-1) (fun i=>ys.getD i 0) (fun _=>0) (fun i=>xs.getD i 0) c xs.length∧Below w.heap.size w w':=by
 obtain⟨p,g,c,rfl,hc1,hc2,hp,hc⟩:=h.shape
 have HC:=hideS hc
 have HF:=hideS h.fit
 clear h hc
 have HM:=hideS (OwnW.made w xs.length (by omega))
 have HB:=hideS ((Below.refl w.heap.size w).alloc (Nat.le_refl _) (.cells (madeCells #[.int .u64 0] xs.length) 57))
 have hmk:=fun w=>run_make_row' (P:=Tryz.prog) 132 57 (.int .u64 0) 8 Tryz.underlying132 infoU rfl .i64 .i64 xs.length (by omega) (by omega) w
 generalize xs.length=n at *
 go_enter Tryz.func113,Tryz.ntmps113
 go_wp2
 clear hmk
 go_loopw [4,5,11] (fun b _ i wr=>∃ (k c:Nat) (ys:List Nat),k≤n∧c≤1∧b=.int .u64 c∧i=.int .i64 k∧Hid (OwnW wr w.heap.size (.slice (some ⟨w.heap.size,0,none⟩) n n) ys∧ys.length=n∧Rel (-1) (fun i=>ys.getD i 0) (fun _=>0) (fun i=>xs.getD i 0) c k∧Below w.heap.size w wr)) (fun _ _ i _=>n - (intOf i).toNat)
 case atStart=>exact⟨0,0,List.replicate n 0,Nat.zero_le _,by omega,rfl,rfl,HM.out,by simp,Rel.start _ _ _ _,HB.out⟩
 case round=>
  clear HM HB
  obtain⟨k,cy,ys,hk,hcy,rfl,rfl,HR⟩:=hrel
  by_cases hlt:k<n
  ·obtain⟨rfl,hg1,hg2⟩:=hp (by omega)
   have hcl:wr.cell? ⟨g,k,none⟩=some (.int .u64 (xs.getD k 0:Nat)):=(HR.out.2.2.2.cell (p:=⟨g,k,none⟩) hg2).trans (HC.out k hlt)
   have hd:wr.cell? ⟨w.heap.size,k,none⟩=some (.int .u64 (ys.getD k 0:Nat)):=HR.out.1.cell1 HR.out.2.1 k (by rw [HR.out.2.1];exact hlt)
   have hfz:wr.frozen? ⟨w.heap.size,k,none⟩=false:=HR.out.1.frozen1 HR.out.2.1 k
   have hxf:xs.getD k 0<18446744073709551616:=HF.out k
   obtain⟨x,hx⟩:∃ x,xs.getD k 0=x:=⟨_,rfl⟩
   have HX:=hideS hx
   rw [hx] at hcl hxf
   generalize ys.getD k 0=d at hd
   obtain⟨z,c',e1,e2,h1,h2,h3⟩:=kx 0 x cy hcy (by decide) hxf
   have ha:=ma 0 x cy hcy
   rw [e1,e2] at ha
   have H3:=hideS h3
   have hst:=(HR.out.1.set HR.out.2.1 k z h1)
   have HST:=hideS hst
   clear hst e1 e2 h3 hx hxf
   have ha0:∀ w,(callFunc 153 #[.int .u64 0,.int .u64 x,.int .u64 cy]).run Tryz.prog w=.ok (.value (.tuple #[.int .u64 z,.int .u64 c'])) w:=ha
   clear ha
   go_wp2
   go_roundw
   case rel=>
    refine⟨k+1,c',ys.set k z,by omega,h2,rfl,by simp,HST.out.1,by rw [List.length_set];exact HR.out.2.1,?_,HR.out.2.2.2.setCell (Nat.le_refl _) _⟩
    refine qk HR.out.2.2.1 (by rw [HR.out.2.1];exact hlt) ?_
    rw [HX.out];exact H3.out
   case measure=>simp [intOf];omega
  ·obtain rfl:k=n:=by omega
   go_wp2
   go_ret
   exact⟨_,ys,cy,rfl,HR.out.1,HR.out.2.1,HR.out.2.2.1,HR.out.2.2.2⟩

theorem mb (xs:List Nat):(settle xs).length≤xs.length+1:=by unfold settle;split<;>simp

set_option maxHeartbeats 400000 in
theorem oB (B:Nat) (v:Value) (xs:List Nat) (N:Int) (w:World) (h:OwnW w B v xs) (hs:Sg xs N) (hn:xs.length≤100000) (hB:B≤w.heap.size) :
  Calls Tryz.prog 74 #[v] w fun e w'=>∃ v' ys,e=.returned (.tuple #[v',.bool (decide (N<0))])∧OwnW w' B v' ys∧ys.length=xs.length∧ps (fun i=>ys.getD i 0) ys.length=N.natAbs∧Below w.heap.size w w':=by
 have HE:=hideS (jr B v xs w h (by omega))
 have HI:=hideS (sw B v xs w h hn)
 have HS:=hideS hs
 have HO:=hideS h
 by_cases h0:endW xs=0
 ·have hr:=(hs.range (n:=xs.length) (by omega)).1 h0
  have he:=hs.eq
  rw [if_pos h0,wZ (Nat.le_refl _)] at he
  have hd:decide (N<0)=false:=by simp;omega
  rw [hd]
  have HP:Hid (ps (fun i=>xs.getD i 0) xs.length=N.natAbs):=by show _=_;omega
  rw [h0] at HE
  clear hs h he hr hd h0 HI
  go_enter Tryz.func74,Tryz.ntmps74
  go_wp2_with (go_at_call 112;refine HE.out.mono ?_;rintro e w' ⟨rfl,rfl⟩)
  go_ret2
  exact⟨v,xs,rfl,HO.out,rfl,HP.out,Below.refl _ _⟩
 ·have hr:=(hs.range (n:=xs.length) (by omega)).2 h0
  have hd:decide (N<0)=true:=by simp;omega
  rw [hd]
  have h1:((endW xs:Int)==0)=false:=by simpa using h0
  have H0:=hideS h0
  clear hs h hr hd h0
  generalize (endW xs:Int)=q at *
  go_enter Tryz.func74,Tryz.ntmps74
  go_wp2_with (first | (go_at_call 112;refine (turned HE.out).mono ?_;rintro e w' ⟨rfl,rfl⟩) | (go_at_call 113;refine HI.out.mono ?_;rintro e w1 ⟨v1,ys,c,rfl,ho,hl,hr,hb⟩))
  have R:=hideS (And.intro ho (And.intro hl (And.intro hr hb)))
  clear ho hl hr hb
  go_wp2
  go_ret2
  have h5:=Bg HS.out H0.out R.out.2.1 R.out.1.fit R.out.2.2.1
  refine⟨v1,ys,rfl,⟨?_,R.out.1.fit⟩,R.out.2.1,by omega,R.out.2.2.2⟩
  refine⟨R.out.1.own.1,?_⟩
  rcases R.out.1.own.2 with h6 | ⟨g,cap,cur,h6,h7,rest⟩
  ·exact .inl h6
  ·exact .inr ⟨g,cap,cur,h6,Nat.le_trans hB h7,rest⟩

end Go.Proofs.YtjjlnmihkadlmaaGreat.A
namespace Go.Proofs.YtjjlnmihkadlmaaGreat.A
open Go.RowKit

theorem vm {xs:List Nat} {n k:Nat} (hk:k<max xs.length n):(bg xs n).getD k 0=wd xs k:=by
 unfold bg wd
 rw [rT]
 by_cases h:k<xs.length
 ·rw [if_pos h,if_pos h]
 ·rw [if_neg h,if_neg h,List.getD,List.getElem?_replicate,if_pos (by omega)];rfl
theorem Wrote.own {a b c:World} {v v1:Value} (h:Wrote a b (At v)) (hn:New a v v1) (h':Wrote b c (At v1)):Wrote a c (At v):=
 h.trans h' (fun k hk hk1=>by
  rcases hn k hk1 with h5 | h5
  ·exact h5
  ·omega)

set_option maxHeartbeats 1600000 in
theorem yB (B:Nat) (v:Value) (xs vs:List Nat) (pu:Option Addr) (m cu:Nat) (N M:Int) (w:World) (R:World→Value→Prop)
  (hlong:Calls Tryz.prog 150 #[v,.int .i64 m] w fun e w1=>∃ v1,e=.returned v1∧R w1 v1)
  (hR:∀ w1 v1,R w1 v1→OwnW w1 B v1 (bg xs m)∧Wrote w w1 (At v)∧New w v v1)
  (hword:∀ (w1 wr:World) (v1:Value) (ys:List Nat) (k:Nat),R w1 v1→OwnW wr B v1 ys→Wrote w1 wr (At v1)→ys.length=max xs.length m→k<ys.length→(∀ j,k≤j→ys.getD j 0=(bg xs m).getD j 0)→∀ w2,(∃ q,w2=wr.drewN q)→Calls Tryz.prog 167 #[.slice pu m cu,.int .i64 k] w2 fun e w'=>e=.returned (.int .u64 (wd vs k:Nat))∧w'=w2)
  (hs:Sg xs N) (hs':Sg vs M) (hm:vs.length=m) (hn:xs.length≤50000) (hn':m≤50000) (hB:B≤w.heap.size) :
  Calls Tryz.prog 133 #[v,.slice pu m cu] w fun e w'=>∃ v' zs,e=.returned v'∧OwnW w' B v' zs∧zs.length≤max xs.length m+1∧Sg zs (N+M)∧Wrote w w' (At v)∧New w v v':=by
 have HLo:=hideS hlong
 have HRo:=hideS hR
 have HWo:=hideS hword
 have HS:=hideS (And.intro hs (And.intro hs' hm))
 have HLL:=hideS (jT xs m)
 obtain⟨n,hN⟩:∃ n,max xs.length m=n:=⟨_,rfl⟩
 have HN:=hideS hN
 have hn1:n≤50000:=by omega
 have HG:Hid (∀ k,k<n→(bg xs m).getD k 0=wd xs k):=fun k hk=>vm (by rw [hN];exact hk)
 rw [hN] at HLL HWo ⊢
 clear hlong hR hword hs hs' hm hn hN
 go_enter Tryz.func133,Tryz.ntmps133
 go_wp2_with fail
 refine HLo.out.mono ?_
 rintro e w1 ⟨v1,rfl,hr1⟩
 have R1:=hideS hr1
 have O1:=hideS (HRo.out w1 v1 hr1)
 clear hr1 HLo HRo
 obtain⟨p1,g1,c1,hv1,hc1,hc2,hp1,_⟩:=O1.out.1.shape
 rw [HLL.out] at hv1 hc1 hp1
 subst hv1
 have HP:Hid (0<n→p1=some ⟨g1,0,none⟩):=fun h=>(hp1 h).1
 clear hp1
 have HW1:=hideS (fun (wr:World) (ys:List Nat) (k:Nat)=>HWo.out w1 wr (.slice p1 n c1) ys k R1.out)
 clear HWo
 go_wp2_with fail
 go_loopw [5,6,13] (fun b _ i wr=>∃ (k c:Nat) (ys:List Nat),k≤n∧c≤1∧b=.int .u64 c∧i=.int .i64 k∧Hid (OwnW wr B (.slice p1 n c1) ys∧ys.length=n∧Rel 1 (fun i=>ys.getD i 0) (wd xs) (wd vs) c k∧(∀ j,k≤j→ys.getD j 0=(bg xs m).getD j 0)∧Wrote w1 wr (At (.slice p1 n c1)))) (fun _ _ i _=>n - (intOf i).toNat)
 case atStart=>exact⟨0,0,bg xs m,Nat.zero_le _,by omega,rfl,rfl,O1.out.1,HLL.out,Rel.start _ _ _ _,fun _ _=>rfl,Wrote.refl _ _⟩
 case round=>
  obtain⟨k,cy,ys,hk,hcy,rfl,rfl,HR⟩:=hrel
  by_cases hlt:k<n
  ·obtain rfl:=HP.out (by omega)
   have hcl:wr.cell? ⟨g1,k,none⟩=some (.int .u64 (ys.getD k 0:Nat)):=HR.out.1.cell1 HR.out.2.1 k (by rw [HR.out.2.1];exact hlt)
   have hfz:wr.frozen? ⟨g1,k,none⟩=false:=HR.out.1.frozen1 HR.out.2.1 k
   have hxf:ys.getD k 0<18446744073709551616:=HR.out.1.fit k
   have hyf:wd vs k<18446744073709551616:=HS.out.2.1.fit.wd k
   have HX:Hid (ys.getD k 0=wd xs k):=(HR.out.2.2.2.1 k (Nat.le_refl _)).trans (HG.out k hlt)
   have HWd:=hideS (HW1.out wr ys k HR.out.1 HR.out.2.2.2.2 HR.out.2.1 (by rw [HR.out.2.1];exact hlt) HR.out.2.2.2.1)
   generalize ys.getD k 0=x at hcl hxf HX
   obtain⟨y,hy⟩:∃ y,wd vs k=y:=⟨_,rfl⟩
   have HY:=hideS hy
   rw [hy] at hyf HWd
   obtain⟨z,c',e1,e2,h1,h2,h3⟩:=ky x y cy hcy hxf hyf
   have ha:=lZ x y cy hcy
   rw [e1,e2] at ha
   have H3:=hideS h3
   have HST:=hideS (HR.out.1.set HR.out.2.1 k z h1)
   clear e1 e2 h3 hxf hyf hy
   go_wp2_with fail

   go_region_with ((go_at_call 167;refine (HWd.out _ ⟨1,rfl⟩).mono ?_;rintro e w' ⟨rfl,rfl⟩))
   all_goals
    go_wp2_with fail
    go_roundw
    case rel=>
     refine⟨k+1,c',ys.set k z,by omega,h2,rfl,by simp,HST.out.1.drewN 1,by rw [List.length_set];exact HR.out.2.1,?_,?_,?_⟩
     ·refine qk HR.out.2.2.1 (by rw [HR.out.2.1];exact hlt) ?_
      rw [← HX.out,HY.out];exact H3.out
     ·intro j hj
      rw [eU (by rw [HR.out.2.1];exact hlt),if_neg (by omega)]
      exact HR.out.2.2.2.1 j (by omega)
     ·exact (HR.out.2.2.2.2.trans (kw HST.out.2) (fun k' _ hk'=>hk')).drewN 1
    case measure=>simp [intOf];omega
  ·obtain rfl:k=n:=by omega
   have HT:=hideS (kz B _ ys wr HR.out.1 (by rw [HR.out.2.1];omega) (Nat.le_trans hB (Nat.le_trans O1.out.2.1.size HR.out.2.2.2.2.size)))
   go_wp2_with fail
   refine HT.out.mono ?_
   rintro e w2 ⟨v2,rfl,ho2,hw2,hn2⟩
   have R2:=hideS (And.intro ho2 (And.intro hw2 hn2))
   clear ho2 hw2 hn2 HT
   go_wp2_with fail
   go_ret
   have hW1:=O1.out.2.1.own O1.out.2.2 HR.out.2.2.2.2
   have hNew:=O1.out.2.2
   refine⟨v2,settle ys,rfl,R2.out.1,?_,?_,?_,?_⟩
   ·have:=mb ys;have:=HR.out.2.1;omega
   ·by_cases h0:k=0
    ·have e1:xs=[]:=List.length_eq_zero_iff.1 (by have:=HN.out;omega)
     have e2:vs=[]:=List.length_eq_zero_iff.1 (by have:=HN.out;have:=HS.out.2.2;omega)
     have e3:ys=[]:=List.length_eq_zero_iff.1 (by have:=HR.out.2.1;omega)
     have s1:=HS.out.1
     have s2:=HS.out.2.1
     subst e1 e2 e3
     have a1:=s1.eq
     have a2:=s2.eq
     simp [ps,endW] at a1 a2
     rw [a1,a2]
     exact uM
    ·obtain⟨j,rfl⟩:∃ j,k=j+1:=⟨k - 1,by omega⟩
     have h8:=HN.out
     have h9:=HS.out.2.2
     exact DZ HS.out.1 HS.out.2.1 (by omega) (by omega) HR.out.2.1 HR.out.1.fit HR.out.2.2.1
   ·exact hW1.own (hNew.trans (New.refl _ _) O1.out.2.1.size) R2.out.2.1
   ·exact hNew.trans (w1:=wr) R2.out.2.2 (Nat.le_trans O1.out.2.1.size HR.out.2.2.2.2.size)

theorem plus_any (B B':Nat) (v u:Value) (xs vs:List Nat) (N M:Int) (w:World) (h:OwnW w B v xs) (h':OwnW w B' u vs) (hs:Sg xs N) (hs':Sg vs M) (hne:∀ k,u.ownBlock=some k→v.ownBlock≠some k) (hn:xs.length≤50000) (hn':vs.length≤50000) (hB:B≤w.heap.size) :
  Calls Tryz.prog 133 #[v,u] w fun e w'=>∃ v' zs,e=.returned v'∧OwnW w' B v' zs∧zs.length≤max xs.length vs.length+1∧Sg zs (N+M)∧Wrote w w' (At v)∧New w v v':=by
 obtain⟨pu,gu,cu,hu,_⟩:=h'.shape
 rw [hu]
 refine yB B v xs vs pu vs.length cu N M w (fun w1 v1=>OwnW w1 B v1 (bg xs vs.length)∧Wrote w w1 (At v)∧New w v v1) (sv B v xs vs.length w h (by omega) (by omega) hB) (fun _ _ h=>h) ?_ hs hs' rfl hn hn' hB
 rintro w1 wr v1 ys k ⟨r1,r2,r3⟩ o2 hw2 hl2 hk hj w2 ⟨q,rfl⟩
 rw [← hu]
 have hw3:OwnW wr B' u vs:=(h'.wrote r2 (fun k hk hk2=>hne k hk hk2)).wrote hw2 (fun k hk hk2=>by
  rcases r3 k hk2 with h5 | h5
  ·exact hne k hk h5
  ·have:=(h'.lt k hk).2;omega)
 have:=hl2
 exact BD B' u vs k (wr.drewN q) (hw3.drewN q) (by omega) (by omega)

end Go.Proofs.YtjjlnmihkadlmaaGreat.A
namespace Go.Proofs.YtjjlnmihkadlmaaGreat.A
open Go.RowKit

def at3 (f p0 p1 p2:Nat) (i:Nat):Nat:=if i=f then p0 else if i=f+1 then p1 else if i=f+2 then p2 else 0
theorem FY (f p0 p1 p2 n:Nat) (hn:f+3≤n):ps (at3 f p0 p1 p2) n=(p0+p1*18446744073709551616+p2*(18446744073709551616*18446744073709551616))*2^(64*f):=by
 have h0:ps (at3 f p0 p1 p2) f=0:=by
  rw [cO (g:=fun _=>0) (fun i hi=>by unfold at3;rw [if_neg (by omega),if_neg (by omega),if_neg (by omega)]),kU]
 have h3:ps (at3 f p0 p1 p2) (f+3)=(p0+p1*18446744073709551616+p2*(18446744073709551616*18446744073709551616))*2^(64*f):=by
  rw [ps,ps,ps,h0]
  have a0:at3 f p0 p1 p2 f=p0:=by unfold at3;rw [if_pos rfl]
  have a1:at3 f p0 p1 p2 (f+1)=p1:=by unfold at3;rw [if_neg (by omega),if_pos rfl]
  have a2:at3 f p0 p1 p2 (f+2)=p2:=by unfold at3;rw [if_neg (by omega),if_neg (by omega),if_pos rfl]
  rw [a0,a1,a2,jf (f+1),jf f]
  generalize (2:Nat)^(64*f)=P
  rw [Nat.add_mul,Nat.add_mul,Nat.mul_assoc p1,Nat.mul_assoc p2,Nat.mul_assoc 18446744073709551616 18446744073709551616,Nat.zero_add]
 rw [← h3]
 clear h3 h0
 induction n with
 | zero=>omega
 | succ n ih=>
  by_cases h:f+3=n+1
  ·rw [h]
  ·rw [ps,ih (by omega)]
   have:at3 f p0 p1 p2 n=0:=by unfold at3;rw [if_neg (by omega),if_neg (by omega),if_neg (by omega)]
   rw [this];simp
theorem dT {x o:Nat}:IntKind.u64.wrap ((x:Int)*2^o)=((x*2^o % 18446744073709551616:Nat):Int):=by
 rw [IntKind.wrap_u64,Int.natCast_emod,Int.natCast_mul,Int.natCast_pow];rfl
theorem jt {x o:Nat}:(x:Int) / 2^(64 - o)=((x / 2^(64 - o):Nat):Int):=by
 rw [Int.natCast_ediv,Int.natCast_pow];rfl

theorem Ho (f p0 p1 p2:Nat):at3 f p0 p1 p2 f=p0:=by unfold at3;rw [if_pos rfl]
theorem Hp (f p0 p1 p2:Nat):at3 f p0 p1 p2 (f+1)=p1:=by unfold at3;rw [if_neg (by omega),if_pos rfl]
theorem Hr (f p0 p1 p2:Nat):at3 f p0 p1 p2 (f+2)=p2:=by unfold at3;rw [if_neg (by omega),if_neg (by omega),if_pos rfl]
theorem ql {f p0 p1 p2 i:Nat} (h:f+3≤i∨i<f):at3 f p0 p1 p2 i=0:=by unfold at3;rw [if_neg (by omega),if_neg (by omega),if_neg (by omega)]
structure Mid (w1 wr:World) (B:Nat) (v1:Value) (n:Nat) (less:Bool) (F x0:Nat→Nat) (ys:List Nat) (c k:Nat):Prop where
 own:OwnW wr B v1 ys
 len:ys.length=n
 rel:Rel (sI less) (fun i=>ys.getD i 0) x0 F c k
 rest:∀ j,k≤j→ys.getD j 0=x0 j
 wrote:Wrote w1 wr (At v1)
theorem Mid.step {w1 wr:World} {B g n cc:Nat} {less:Bool} {F x0:Nat→Nat} {ys:List Nat} {c c' k z:Nat} (h:Mid w1 wr B (.slice (some ⟨g,0,none⟩) n cc) n less F x0 ys c k) (hk:k<n) (hz:z<18446744073709551616) (he:(z:Int)+sI less*((c':Int)*18446744073709551616)=(x0 k:Int)+sI less*((F k:Int)+c)) :
  Mid w1 (wr.setCell ⟨g,k,none⟩ (.int .u64 (z:Int))) B (.slice (some ⟨g,0,none⟩) n cc) n less F x0 (ys.set k z) c' (k+1):=by
 have h1:=h.own.set h.len k z hz
 have hl:=h.len
 refine⟨h1.1,by rw [List.length_set];exact h.len,qk h.rel (by omega) he,fun j hj=>?_,h.wrote.trans (kw h1.2) (fun k' _ hk'=>hk')⟩
 rw [eU (by omega),if_neg (by omega)]
 exact h.rest j (by omega)

theorem Hs (less:Bool):sI less=1∨sI less= -1:=by cases less<;>simp [sI]
theorem BF {w1 wr:World} {B n f p0 p1 p2 F c k:Nat} {v1:Value} {less:Bool} {xs ys:List Nat} {N:Int} (hs:Sg xs N) (hl:(bg xs (f+3)).length=n) (hM:Mid w1 wr B v1 n less (at3 f p0 p1 p2) (fun i=>(bg xs (f+3)).getD i 0) ys c k) (hc:c=0∨k=n) (h1:f+3≤k) (h2:k≤n) (hF:ps (at3 f p0 p1 p2) n=F) (hb:4*(F:Int)≤2^(64*n)):Sg (settle ys) (N+sI less*F):=by
 obtain⟨m,rfl⟩:∃ m,n=m+1:=⟨n - 1,by omega⟩
 have hr:∃ c',Rel (sI less) (fun i=>ys.getD i 0) (fun i=>(bg xs (f+3)).getD i 0) (at3 f p0 p1 p2) c' (m+1):=by
  rcases hc with rfl | rfl
  ·exact⟨0,hM.rel.rest h2 (fun j hj _=>⟨hM.rest j hj,ql (Or.inl (by omega))⟩)⟩
  ·exact⟨c,hM.rel⟩
 obtain⟨c',hr⟩:=hr
 exact Ea (hs.long _) hl hM.len hM.own.fit (Hs less) hF hb hr

set_option maxRecDepth 100000 in
set_option maxHeartbeats 1600000 in
theorem BG (B:Nat) (v:Value) (xs:List Nat) (N:Int) (hi lo sh:Nat) (less:Bool) (w:World) (h:OwnW w B v xs) (hs:Sg xs N) (hhi:hi<4398046511104) (hlo:lo<18446744073709551616) (hsh:sh≤100000) (hn:xs.length≤50000) (hB:B≤w.heap.size) :
  Calls Tryz.prog 109 #[v,.int .u64 hi,.int .u64 lo,.int .i64 sh,.bool less] w fun e w'=>∃ v' zs,e=.returned v'∧OwnW w' B v' zs∧zs.length≤max xs.length (sh / 64+3)+1∧Sg zs (N+sI less*(((hi*18446744073709551616+lo)*2^sh:Nat):Int))∧Wrote w w' (At v)∧New w v v':=by
 obtain⟨f,hf⟩:∃ f,sh / 64=f:=⟨_,rfl⟩
 obtain⟨o,ho⟩:∃ o,sh % 64=o:=⟨_,rfl⟩
 have ho64:o<64:=by omega
 have hq:(sh:Int) / 64=(f:Int):=by omega
 have hr:(sh:Int) % 64=(o:Int):=by omega
 have hf2:f≤2000:=by omega
 obtain⟨p0,hp0⟩:∃ p0,lo*2^o % 18446744073709551616=p0:=⟨_,rfl⟩
 obtain⟨q1,hq1⟩:∃ q1,hi*2^o % 18446744073709551616=q1:=⟨_,rfl⟩
 obtain⟨q2,hq2⟩:∃ q2,lo / 2^(64 - o)=q2:=⟨_,rfl⟩
 obtain⟨p2,hp2⟩:∃ p2,hi / 2^(64 - o)=p2:=⟨_,rfl⟩
 have f0:IntKind.u64.wrap ((lo:Int)*2^o)=(p0:Int):=by rw [← hp0];exact dT
 have f1:IntKind.u64.wrap ((hi:Int)*2^o)=(q1:Int):=by rw [← hq1];exact dT
 have f2:(lo:Int) / 2^(64 - o)=(q2:Int):=by rw [← hq2];exact jt
 have f4:(hi:Int) / 2^(64 - o)=(p2:Int):=by rw [← hp2];exact jt
 have hor:=uN (hi:=hi) ho64 hlo
 rw [hq1,hq2] at hor
 have b0:p0<18446744073709551616:=by rw [← hp0];exact Nat.mod_lt _ (by decide)
 have bq1:q1<18446744073709551616:=by rw [← hq1];exact Nat.mod_lt _ (by decide)
 have bq2:q2<18446744073709551616:=by rw [← hq2];exact Nat.lt_of_le_of_lt (Nat.div_le_self _ _) hlo
 have b2:p2<18446744073709551616:=by rw [← hp2];have:=Nat.div_le_self hi (2^(64 - o));omega
 have b1:q1+q2<18446744073709551616:=by rw [← hor];exact Nat.or_lt_two_pow (n:=64) bq1 bq2
 have f3:bits .or .u64 (q1:Int) (q2:Int)=((q1+q2:Nat):Int):=by rw [bits_or_u64_nat q1 q2 bq1 bq2,hor]
 obtain⟨p1,hp1⟩:∃ p1,q1+q2=p1:=⟨_,rfl⟩
 rw [hp1] at f3 b1
 have HSum:Hid (ps (at3 f p0 p1 p2) (max xs.length (f+3))=(hi*18446744073709551616+lo)*2^sh):=by
  show _=_
  rw [FY _ _ _ _ _ (by omega),← hp0,← hp1,← hq1,← hq2,← hp2,lI ho64,Nat.mul_assoc,← Nat.pow_add]
  congr 2;omega
 have HBig:Hid (4*(((hi*18446744073709551616+lo)*2^sh:Nat):Int)≤2^(64*(max xs.length (f+3)))):=by
  show _≤_
  have e1:(hi*18446744073709551616+lo)<2^106:=by omega
  have e2:4*((hi*18446744073709551616+lo)*2^sh)≤2^108*2^sh:=by
   rw [← Nat.mul_assoc]
   exact Nat.mul_le_mul_right _ (by omega)
  have e3:2^108*2^sh≤2^(64*(max xs.length (f+3))):=by
   rw [← Nat.pow_add];exact Nat.pow_le_pow_right (by decide) (by omega)
  have e4:=cb (max xs.length (f+3))
  omega
 have HO:=hideS h
 have HS:=hideS hs
 have HLo:Hid (∀ w1:World,OwnW w1 B v xs→B≤w1.heap.size→Calls Tryz.prog 150 #[v,.int .i64 ((f:Int)+3)] w1 fun e w'=>∃ v',e=.returned v'∧OwnW w' B v' (bg xs (f+3))∧Wrote w1 w' (At v)∧New w1 v v'):=fun w1 h1 h2=>by
  have:=sv B v xs (f+3) w1 h1 (by omega) (by omega) h2
  rw [show ((f+3:Nat):Int)=(f:Int)+3 by omega] at this
  exact this
 have HLL:=hideS (jT xs (f+3))
 rw [hf]
 obtain⟨n,hN⟩:∃ n,max xs.length (f+3)=n:=⟨_,rfl⟩
 have hn1:f+3≤n:=by omega
 have hn2:n≤60000:=by omega
 rw [hN] at HSum HBig HLL ⊢
 generalize (hi*18446744073709551616+lo)*2^sh=F at HSum HBig ⊢
 clear h hs hor hp0 hq1 hq2 hp2 hf ho bq1 bq2 hhi hlo hp1 hN hn
 go_enter Tryz.func109,Tryz.ntmps109
 go_wp2_with fail
 go_region
 rw [hr]
 clear f0 f1 f2 f3 f4 hr hq
 obtain⟨O,hO⟩:∃ O:Obj,O=.cells #[.int .u64 (p0:Int),.int .u64 (p1:Int),.int .u64 (p2:Int)] 209:=⟨_,rfl⟩
 have HA:=hideS (HLo.out (w.alloc O).drew ((HO.out.alloc O).drewN 1) (by simp;omega))
 rw [hO] at HA
 clear hO
 go_wp2_with fail
 refine HA.out.mono ?_
 rintro e w1 ⟨v1,rfl,o1,r1,n1⟩
 have hnAt:¬ At v w.heap.size:=fun e=>by have:=(HO.out.lt _ e).2;omega
 have hblk:w1.heap[w.heap.size]? =some (.cells #[.int .u64 (p0:Int),.int .u64 (p1:Int),.int .u64 (p2:Int)] 209 (0,0)):=(r1.block w.heap.size (by simp) hnAt).trans (heap_alloc_new w _)
 have d0:w1.cell? ⟨w.heap.size,0,none⟩=some (.int .u64 (p0:Int)):=by simp [World.cell?,hblk]
 have d1:w1.cell? ⟨w.heap.size,1,none⟩=some (.int .u64 (p1:Int)):=by simp [World.cell?,hblk]
 have d2:w1.cell? ⟨w.heap.size,2,none⟩=some (.int .u64 (p2:Int)):=by simp [World.cell?,hblk]
 have hw1:Wrote w w1 (At v):=⟨r1.os,r1.tape,r1.output,Nat.le_trans (by simp) r1.size,fun k hk hn=>(r1.block k (by simp;omega) hn).trans (heap_alloc_old w _ hk)⟩
 have hnw:New w v v1:=fun k hk=>by
  rcases n1 k hk with h1 | h1
  ·exact Or.inl h1
  ·exact Or.inr (by simp at h1;omega)
 have O1:=hideS (And.intro o1 (And.intro hw1 hnw))
 clear hblk o1 r1 n1 hw1 hnw hnAt HA HLo
 obtain⟨pp,g1,c1,hv1,hc1,hc2,hp1,_⟩:=O1.out.1.shape
 rw [HLL.out] at hv1 hc1 hp1
 obtain⟨rfl,_,_⟩:=hp1 (by omega)
 subst hv1
 clear hp1
 have HM0:Hid (Mid w1 w1 B (.slice (some ⟨g1,0,none⟩) n c1) n less (at3 f p0 p1 p2) (fun i=>(bg xs (f+3)).getD i 0) (bg xs (f+3)) 0 f):=
  ⟨O1.out.1,HLL.out,(Rel.start _ _ _ _).rest (Nat.zero_le _) (fun j _ hj=>⟨rfl,ql (Or.inr hj)⟩),fun _ _=>rfl,Wrote.refl _ _⟩
 go_wp2_with fail
 go_loopw [14,15,16,43] (fun b _ _ i wr=>∃ (k c:Nat) (ys:List Nat),k≤3∧c≤1∧b=.int .u64 c∧i=.int .i64 k∧Hid (Mid w1 wr B (.slice (some ⟨g1,0,none⟩) n c1) n less (at3 f p0 p1 p2) (fun i=>(bg xs (f+3)).getD i 0) ys c (f+k))) (fun _ _ _ i _=>3 - (intOf i).toNat)
 case atStart=>exact⟨0,0,bg xs (f+3),by omega,by omega,rfl,rfl,HM0⟩
 case round=>
  obtain⟨k,cy,ys,hk,hcy,rfl,rfl,HR⟩:=hrel
  by_cases hlt:k<3
  ·have hi0:∀ w:World,(Instr.index 209 (.agg #[.int .u64 (p0:Int),.int .u64 (p1:Int),.int .u64 (p2:Int)]) (.int .i64 0)).run Tryz.prog w=.ok (.int .u64 (p0:Int)) w:=fun _=>by kernel_rfl
   have hi1:∀ w:World,(Instr.index 209 (.agg #[.int .u64 (p0:Int),.int .u64 (p1:Int),.int .u64 (p2:Int)]) (.int .i64 1)).run Tryz.prog w=.ok (.int .u64 (p1:Int)) w:=fun _=>by kernel_rfl
   have hi2:∀ w:World,(Instr.index 209 (.agg #[.int .u64 (p0:Int),.int .u64 (p1:Int),.int .u64 (p2:Int)]) (.int .i64 2)).run Tryz.prog w=.ok (.int .u64 (p2:Int)) w:=fun _=>by kernel_rfl
   have hk3:k=0∨k=1∨k=2:=by omega
   rcases hk3 with rfl | rfl | rfl
   ·have hcl:=HR.out.own.cell1 HR.out.len f (by rw [HR.out.len];omega)
    have hfz:=HR.out.own.frozen1 HR.out.len f
    have hxf:ys.getD (f) 0<18446744073709551616:=HR.out.own.fit _
    have HX:=hideS (HR.out.rest (f) (Nat.le_refl _))
    generalize ys.getD (f) 0=x at hcl hxf HX
    have HSt:=hideS (fun w=>js x p0 cy less w hcy hxf b0)
    clear hxf
    go_wp2_with (go_at_call 151;refine (turned (HSt.out _)).mono ?_;rintro e w' ⟨⟨z,c',rfl,h1,h2,h3⟩,rfl⟩)
    have H3:=hideS (HR.out.step (k:=f) (by omega) h1 (by rw [← HX.out,Ho];exact h3))
    clear h1 h3 HSt HX
    go_wp2_with fail
    go_roundw
    case rel=>exact⟨0+1,c',ys.set (f) z,by omega,h2,rfl,rfl,H3⟩
    case measure=>simp [intOf]
   ·have hcl:=HR.out.own.cell1 HR.out.len (f+1) (by rw [HR.out.len];omega)
    have hfz:=HR.out.own.frozen1 HR.out.len (f+1)
    have hxf:ys.getD (f+1) 0<18446744073709551616:=HR.out.own.fit _
    have HX:=hideS (HR.out.rest (f+1) (Nat.le_refl _))
    generalize ys.getD (f+1) 0=x at hcl hxf HX
    have HSt:=hideS (fun w=>js x p1 cy less w hcy hxf b1)
    clear hxf
    go_wp2_with (go_at_call 151;refine (turned (HSt.out _)).mono ?_;rintro e w' ⟨⟨z,c',rfl,h1,h2,h3⟩,rfl⟩)
    have H3:=hideS (HR.out.step (k:=f+1) (by omega) h1 (by rw [← HX.out,Hp];exact h3))
    clear h1 h3 HSt HX
    go_wp2_with fail
    go_roundw
    case rel=>exact⟨1+1,c',ys.set (f+1) z,by omega,h2,rfl,rfl,H3⟩
    case measure=>simp [intOf]
   ·have hcl:=HR.out.own.cell1 HR.out.len (f+2) (by rw [HR.out.len];omega)
    have hfz:=HR.out.own.frozen1 HR.out.len (f+2)
    have hxf:ys.getD (f+2) 0<18446744073709551616:=HR.out.own.fit _
    have HX:=hideS (HR.out.rest (f+2) (Nat.le_refl _))
    generalize ys.getD (f+2) 0=x at hcl hxf HX
    have HSt:=hideS (fun w=>js x p2 cy less w hcy hxf b2)
    clear hxf
    go_wp2_with (go_at_call 151;refine (turned (HSt.out _)).mono ?_;rintro e w' ⟨⟨z,c',rfl,h1,h2,h3⟩,rfl⟩)
    have H3:=hideS (HR.out.step (k:=f+2) (by omega) h1 (by rw [← HX.out,Hr];exact h3))
    clear h1 h3 HSt HX
    go_wp2_with fail
    go_roundw
    case rel=>exact⟨2+1,c',ys.set (f+2) z,by omega,h2,rfl,rfl,H3⟩
    case measure=>simp [intOf]
  ·have hk3:f+k=f+3:=by omega
   rw [hk3] at HR
   clear HM0 hk3
   have HT:=hideS (fun (wr:World) (ys:List Nat) (c k:Nat) (hM:Mid w1 wr B (.slice (some ⟨g1,0,none⟩) n c1) n less (at3 f p0 p1 p2) (fun i=>(bg xs (f+3)).getD i 0) ys c k)=>kz B _ ys wr hM.own (by rw [hM.len];omega) (Nat.le_trans hB (Nat.le_trans O1.out.2.1.size hM.wrote.size)))
   go_wp2_with fail
   go_loopw [14,17] (fun b i wr=>∃ (k c:Nat) (ys:List Nat),f+3≤k∧k≤n∧c≤1∧b=.int .u64 c∧i=.int .i64 k∧Hid (Mid w1 wr B (.slice (some ⟨g1,0,none⟩) n c1) n less (at3 f p0 p1 p2) (fun i=>(bg xs (f+3)).getD i 0) ys c k)) (fun _ i _=>n - (intOf i).toNat)
   case atStart=>exact⟨f+3,cy,ys,Nat.le_refl _,hn1,hcy,rfl,by simp,HR⟩
   case round=>
    clear HR hcy
    clear hlt hk
    obtain⟨k,cy,ys,hk0,hk,hcy,rfl,rfl,HR⟩:=hrel
    by_cases hgo:cy=1∧k<n
    ·obtain⟨rfl,hlt⟩:=hgo
     have hcl:=HR.out.own.cell1 HR.out.len k (by rw [HR.out.len];omega)
     have hfz:=HR.out.own.frozen1 HR.out.len k
     have hxf:ys.getD k 0<18446744073709551616:=HR.out.own.fit _
     have HX:=hideS (HR.out.rest k (Nat.le_refl _))
     generalize ys.getD k 0=x at hcl hxf HX
     have HSt:=hideS (fun w=>js x 0 1 less w (Nat.le_refl _) hxf (by decide))
     clear hxf
     go_wp2_with (go_at_call 151;refine (turned (HSt.out _)).mono ?_;rintro e w' ⟨⟨z,c',rfl,h1,h2,h3⟩,rfl⟩)
     have H3:=hideS (HR.out.step (k:=k) (by omega) h1 (by rw [← HX.out,ql (Or.inl hk0)];exact h3))
     clear h1 h3 HSt HX
     go_wp2_with fail
     go_roundw
     case rel=>exact⟨k+1,c',ys.set k z,by omega,by omega,h2,rfl,by simp,H3⟩
     case measure=>simp [intOf];omega
    ·have HC:Hid (cy=0∨k=n):=by
      show _∨_
      by_cases e:cy=0
      ·exact Or.inl e
      ·exact Or.inr (by have:¬ (k<n):=fun h=>hgo ⟨by omega,h⟩;omega)
     have HE:=hideS (BF HS.out HLL.out HR.out HC.out hk0 hk HSum.out HBig.out)
     have HT2:=hideS (HT.out wr ys cy k HR.out)
     have hcy2:cy=0∨(cy=1∧¬ (k<n)):=by
      by_cases e:cy=0
      ·exact Or.inl e
      ·exact Or.inr ⟨by omega,fun h=>hgo ⟨by omega,h⟩⟩
     clear hgo HC HT
     rcases hcy2 with rfl | ⟨rfl,hge⟩
     all_goals
      go_wp2_with fail
      refine HT2.out.mono ?_
      rintro e w2 ⟨v2,rfl,ho2,hw2,hn2⟩
      have R2:=hideS (And.intro ho2 (And.intro hw2 hn2))
      clear ho2 hw2 hn2 HT2
      go_wp2_with fail
      go_ret
      refine⟨v2,settle ys,rfl,R2.out.1,?_,HE.out,?_,?_⟩
      ·have:=mb ys;have:=HR.out.len;omega
      ·exact (O1.out.2.1.own O1.out.2.2 HR.out.wrote).own O1.out.2.2 R2.out.2.1
      ·exact O1.out.2.2.trans (w1:=wr) R2.out.2.2 (Nat.le_trans O1.out.2.1.size HR.out.wrote.size)
end Go.Proofs.YtjjlnmihkadlmaaGreat.A
namespace Go.Proofs.YtjjlnmihkadlmaaGreat.A
open Go.RowKit

theorem or_one_nat (k:Nat):k||| 1=if k % 2=1 then k else k+1:=by
 have h:∀ q:Nat,2*q||| 1=2*q+1:=fun q=>by
  have:=Nat.two_pow_add_eq_or_of_lt (i:=1) (b:=1) (by decide) q
  rw [Nat.pow_one] at this;exact this.symm
 by_cases ho:k % 2=1
 ·rw [if_pos ho]
  have e:k=2*(k / 2)||| 1:=by rw [h];omega
  conv=>lhs;rw [e]
  rw [Nat.or_assoc,Nat.or_self,← e]
 ·rw [if_neg ho]
  have e:k=2*(k / 2):=by omega
  conv=>lhs;rw [e]
  rw [h];omega
theorem vn (k:Nat) (hk:k<4611686018427387904):bits .or .i64 (k:Int) 1=((if k % 2=1 then k else k+1:Nat):Int):=by
 have h1:(BitVec.ofInt 64 (k:Int)).toNat=k:=by
  rw [BitVec.ofInt_natCast,BitVec.toNat_ofNat];exact Nat.mod_eq_of_lt (by omega)
 show IntKind.i64.wrap ((BitVec.ofInt 64 (k:Int)||| BitVec.ofInt 64 1).toNat:Int)=_
 rw [BitVec.toNat_or,h1,show (BitVec.ofInt 64 1).toNat=1 from rfl,or_one_nat,IntKind.wrap_i64]
 split<;>omega

structure Tail (x y ld:Nat) (a b u m r z m1:Int):Prop where
 f1:IntKind.u64.wrap ((x:Int)*2^ld)=a
 f2:(y:Int) / 2^(64 - ld)=b
 f3:bits .or .u64 a b=u
 u0:0≤u
 u1:u<18446744073709551616
 uw:u=((x*2^ld+y / 2^(64 - ld):Nat):Int)
 fm:u / 4=m
 m0:0≤m
 m2:m<4611686018427387904
 fr:bits .and .u64 u 3=r
 rr:r=u % 4
 fz:IntKind.u64.wrap ((y:Int)*2^ld)=z
 zz:z=((y*2^ld % 18446744073709551616:Nat):Int)
 fo:bits .or .i64 m 1=m1
 oo:m1=if m % 2=1 then m else m+1
 lds:ld≤63
theorem sA {x y ld:Nat} (hx:x≠0) (hxf:x<18446744073709551616) (hy:y<18446744073709551616) (hld:ld=63 - x.log2):∃ a b u m r z m1,Tail x y ld a b u m r z m1:=by
 obtain⟨h1,h2,h3,h4⟩:=lK hx hxf hy hld
 have hb2:y / 2^(64 - ld)<18446744073709551616:=Nat.lt_of_le_of_lt (Nat.div_le_self _ _) hy
 obtain⟨W,hW⟩:∃ W,x*2^ld+y / 2^(64 - ld)=W:=⟨_,rfl⟩
 refine⟨((x*2^ld:Nat):Int),((y / 2^(64 - ld):Nat):Int),(W:Int),(W:Int) / 4,(W:Int) % 4,_,if (W:Int) / 4 % 2=1 then (W:Int) / 4 else (W:Int) / 4+1,⟨?_,jt,?_,by omega,by omega,by rw [hW],rfl,by omega,by omega,?_,rfl,dT,rfl,?_,rfl,h4⟩⟩
 ·rw [dT,Nat.mod_eq_of_lt h1]
 ·rw [bits_or_u64_nat _ _ h1 hb2,h2,hW]
 ·have e:=bits_and_u64_nat W 3 (by omega) (by decide)
  have e2:W&&& 3=W % 4:=Nat.and_two_pow_sub_one_eq_mod W 2
  rw [show ((3:Nat):Int)=3 from rfl] at e
  rw [e,e2];omega
 ·obtain⟨k,hk⟩:∃ k:Nat,(W:Int) / 4=k:=⟨W / 4,by omega⟩
  rw [hk,vn k (by omega)]
  split<;>split<;>omega

set_option maxHeartbeats 400000 in
theorem yC (c:Nat) (p:Option Addr) (neg:Bool) (w:World) :
  Calls Tryz.prog 75 #[.slice p 0 c,.bool false,.bool neg] w fun e w'=>e=.returned (.float .f64 0)∧∃ q,w'=w.drewN q:=by
 have o00:bits .or .u64 0 0=0:=rfl
 have w0:wrap64 0=0:=by unfold wrap64;omega
 cases neg
 all_goals
  go_enter Tryz.func75,Tryz.ntmps75
  go_wp2_with fail
  go_loop [7] (fun t=>t=.int .i64 (-1)) (fun _=>0)
  case atStart=>rfl
  case round=>
   subst hrel
   go_wp2_with (go_at_call 115;refine (gD 0 64 _ (by decide) (by decide) (by show _=_;rfl)).mono ?_;rintro e w' ⟨rfl,rfl⟩)
   go_region
   go_wp2_with fail
   refine (bM _ _ _ (by omega) (by omega)).mono ?_
   rintro e w' ⟨rfl,q,rfl⟩
   go_wp2_with fail
   go_ret
   exact⟨rfl,_,rfl⟩

theorem vt (x ld:Nat) (w:World) (h0:x≠0) (hxf:x<18446744073709551616) (hld:ld=63 - x.log2) :
  Calls Tryz.prog 115 #[.int .u64 x] w fun e w'=>e=.returned (.int .i64 (ld:Int))∧w'=w:=
 gD x ld w (by omega) (by omega) (by
  show _=_
  have h1:x.log2<64:=(Nat.log2_lt h0).2 hxf
  rw [Int.toNat_natCast,fY h0 hxf];omega)
theorem sC {x y ld T R M:Nat} {a b u m r z m1:Int} {more neg:Bool} (h:Tail x y ld a b u m r z m1) (hx:x≠0) (hxf:x<18446744073709551616) (hld:ld=63 - x.log2) (hM:M*2^64=(x*18446744073709551616+y)*2^(64*T)+R*2^64) (hR:R*2^64<2^(64*T)) (hyf:y<18446744073709551616) :
  aG (sgM neg (mant M more)) (ib M)=aG (if neg then -(if (more=true∨R≠0)∨r≠0∨z≠0 then m1 else m) else (if (more=true∨R≠0)∨r≠0∨z≠0 then m1 else m)) (64*(T:Int) - ld+2+ -2148):=by
 obtain⟨h1,h2⟩:=yr (more:=more) hx hxf hld hM hR hyf
 rw [h2]
 have hw:=h.uw
 obtain⟨W,hW⟩:∃ W,x*2^ld+y / 2^(64 - ld)=W:=⟨_,rfl⟩
 rw [hW] at h1 hw
 have hr:=h.rr
 have hz:=h.zz
 have hm:=h.fm
 have ho:=h.oo
 obtain⟨q,hq⟩:∃ q,y*2^ld % 18446744073709551616=q:=⟨_,rfl⟩
 rw [hq] at h1 hz
 have hiff:((more=true∨R≠0)∨W % 4≠0∨q≠0)↔((more=true∨R≠0)∨r≠0∨z≠0):=by
  constructor
  ·rintro (h | h | h)
   ·exact Or.inl h
   ·exact Or.inr (Or.inl (by omega))
   ·exact Or.inr (Or.inr (by omega))
  ·rintro (h | h | h)
   ·exact Or.inl h
   ·exact Or.inr (Or.inl (by omega))
   ·exact Or.inr (Or.inr (by omega))
 have key:(mant M more:Int)=if (more=true∨R≠0)∨r≠0∨z≠0 then m1 else m:=by
  rw [h1]
  by_cases hc:(more=true∨R≠0)∨W % 4≠0∨q≠0
  ·rw [if_pos hc,if_pos (hiff.1 hc),ho]
   split<;>split<;>omega
  ·rw [if_neg hc,if_neg (fun h=>hc (hiff.2 h))];omega
 unfold sgM
 rw [key]

theorem yD (F:Nat→Nat) (j:Nat):ps F (j+1+1)*2^64=(F (j+1)*18446744073709551616+F j)*2^(64*(j+1))+ps F j*2^64:=by
 rw [ps,ps,jf j,show (2:Nat)^64=18446744073709551616 from rfl]
 generalize (2:Nat)^(64*j)=P
 generalize ps F j=R
 generalize F j=y
 generalize F (j+1)=x
 simp only [Nat.add_mul]
 have e1:x*(18446744073709551616*P)*18446744073709551616=x*18446744073709551616*(18446744073709551616*P):=by rw [Nat.mul_right_comm]
 have e2:y*P*18446744073709551616=y*(18446744073709551616*P):=by rw [Nat.mul_assoc,Nat.mul_comm P]
 rw [e1,e2,Nat.add_assoc,Nat.add_comm,Nat.add_comm (y*_)]
theorem FZ {F:Nat→Nat} (h:pV F) (j:Nat):ps F j*2^64<2^(64*(j+1)):=by
 have h1:=kt h j
 rw [jf,Nat.mul_comm,show (2:Nat)^64=18446744073709551616 from rfl]
 exact (Nat.mul_lt_mul_left (show 0<18446744073709551616 by decide)).2 h1

set_option maxRecDepth 100000 in
set_option maxHeartbeats 3200000 in
theorem yE (p:Option Addr) (g c n:Nat) (F:Nat→Nat) (more neg:Bool) (w:World) (hn0:0<n) (hp:p=some ⟨g,0,none⟩) (hc:Hid (∀ j,j<n→w.cell? ⟨g,j,none⟩=some (.int .u64 (F j:Nat)))) (hcap:n≤c) (hc63:c≤9223372036854775807) (hF:Hid (pV F)) (hn:n≤100000)
  (hany:Hid (∀ k,k≤n→Calls Tryz.prog 114 #[.slice p k c] w fun e w'=>e=.returned (.bool (decide (ps F k≠0)))∧w'=w)) (res:Nat) (hres:Hid (aG (sgM neg (mant (ps F n) more)) (ib (ps F n))=res)) :
  Calls Tryz.prog 75 #[.slice p n c,.bool more,.bool neg] w fun e w'=>e=.returned (.float .f64 res)∧∃ q,w'=w.drewN q:=by
 subst hp
 go_enter Tryz.func75,Tryz.ntmps75
 go_wp2_with fail
 go_loop [7] (fun t=>∃ k:Nat,k<n∧t=.int .i64 k∧Hid (ps F n=ps F (k+1))) (fun t=>(intOf t).toNat)
 case atStart=>exact⟨n - 1,by omega,by congr 1;omega,by show _=_;rw [show n - 1+1=n by omega]⟩
 case round=>
  obtain⟨k,hk,rfl,HP⟩:=hrel
  rw [HP.out] at hres
  cases k with
  | zero=>
   have hcl:=hc.out 0 hk
   have hxf:F 0<18446744073709551616:=hF.out 0
   rw [show ps F (0+1)=F 0 by simp [ps]] at hres
   generalize F 0=x at *
   by_cases h0:x=0
   ·subst h0
    have HR:=hres
    have o00:bits .or .u64 0 0=0:=rfl
    have o01:bits .or .i64 0 1=1:=rfl
    have w0:wrap64 0=0:=by unfold wrap64;omega
    have w1:wrap64 (-1)= -1:=by unfold wrap64;omega
    cases more
    all_goals cases neg
    all_goals
     go_wp2_with (go_at_call 115;refine (gD 0 64 _ (by decide) (by decide) (by show _=_;rfl)).mono ?_;rintro e w' ⟨rfl,rfl⟩)
     go_region
     go_wp2_with fail
     refine (bM _ _ _ (by omega) (by omega)).mono ?_
     rintro e w' ⟨rfl,q,rfl⟩
     go_wp2_with fail
     go_ret
     refine⟨de ?_,_,rfl⟩
     rw [← HR.out]
     rfl
   ·obtain⟨ld,hld⟩:∃ ld,ld=63 - x.log2:=⟨_,rfl⟩
    obtain⟨a,b,u,m,r,z,m1,hT⟩:=sA h0 hxf (show 0<18446744073709551616 by decide) hld
    have HV:=hideS (sC (T:=0) (R:=0) (M:=x) (more:=more) (neg:=neg) hT h0 hxf hld (by simp) (by simp) (by decide))
    have HLd:=hideS (vt x ld w h0 hxf hld)
    have h1:=hT.f1
    have h3:=hT.f3
    have u0:=hT.u0
    have u1:=hT.u1
    have m0:=hT.m0
    have m2:=hT.m2
    have fm:=hT.fm
    have fr:=hT.fr
    have fo:=hT.fo
    have wm:wrap64 m=m:=by unfold wrap64;omega
    have wn:wrap64 (-m)= -m:=by unfold wrap64;omega
    have m3:0≤m1∧m1<4611686018427387905:=by rw [hT.oo];split<;>omega
    have wo:wrap64 (-m1)= -m1:=by unfold wrap64;omega
    have lds:=hT.lds
    have hb:b=0:=by rw [← hT.f2];simp
    have hz:z=0:=by rw [hT.zz];simp
    subst hb hz
    clear hT h0 hld
    have HR:=hres
    go_wp2_with (go_at_call 115;refine HLd.out.mono ?_;rintro e w' ⟨rfl,rfl⟩)
    go_region
    cases more
    ·by_cases hsr:r=0
     ·subst hsr
      cases neg
      all_goals
       go_wp2_with fail
       refine (bM _ _ _ (by omega) (by omega)).mono ?_
       rintro e w' ⟨rfl,q,rfl⟩
       go_wp2_with fail
       go_ret
       refine⟨de ?_,_,rfl⟩
       rw [← HR.out,HV.out]
       simp
       try omega
     ·cases neg
      all_goals
       go_wp2_with fail
       refine (bM _ _ _ (by omega) (by omega)).mono ?_
       rintro e w' ⟨rfl,q,rfl⟩
       go_wp2_with fail
       go_ret
       refine⟨de ?_,_,rfl⟩
       rw [← HR.out,HV.out]
       simp [hsr]
       try omega
    ·cases neg
     all_goals
      go_wp2_with fail
      refine (bM _ _ _ (by omega) (by omega)).mono ?_
      rintro e w' ⟨rfl,q,rfl⟩
      go_wp2_with fail
      go_ret
      refine⟨de ?_,_,rfl⟩
      rw [← HR.out,HV.out]
      simp
      try omega
  | succ j=>
   by_cases h0:F (j+1)=0
   ·have hcl:=hc.out (j+1) hk
    rw [h0] at hcl
    have HN:Hid (ps F n=ps F (j+1)):=by show _=_;rw [HP.out,ps,h0];simp
    clear h0
    go_wp2_with fail
    go_round
    case rel=>exact⟨j,by omega,by simp,HN⟩
    case measure=>simp [intOf]
   ·have hcl:=hc.out (j+1) hk
    have hcy:=hc.out j (by omega)
    have hxf:F (j+1)<18446744073709551616:=hF.out _
    have hyf:F j<18446744073709551616:=hF.out _
    have hMM:=yD F j
    have hRR:=FZ hF.out j
    have HAny:=hideS (hany.out j (by omega))
    generalize F (j+1)=x at *
    generalize F j=y at *
    obtain⟨ld,hld⟩:∃ ld,ld=63 - x.log2:=⟨_,rfl⟩
    obtain⟨a,b,u,m,r,z,m1,hT⟩:=sA h0 hxf hyf hld
    have HV:=hideS (sC (more:=more) (neg:=neg) hT h0 hxf hld hMM hRR hyf)
    have HLd:=hideS (vt x ld w h0 hxf hld)
    have h1:=hT.f1
    have h2:=hT.f2
    have h3:=hT.f3
    have u0:=hT.u0
    have u1:=hT.u1
    have m0:=hT.m0
    have m2:=hT.m2
    have fm:=hT.fm
    have fr:=hT.fr
    have fz:=hT.fz
    have fo:=hT.fo
    have wm:wrap64 m=m:=by unfold wrap64;omega
    have wn:wrap64 (-m)= -m:=by unfold wrap64;omega
    have m3:0≤m1∧m1<4611686018427387905:=by rw [hT.oo];split<;>omega
    have wo:wrap64 (-m1)= -m1:=by unfold wrap64;omega
    have lds:=hT.lds
    have hx0:¬ ((x:Int)=0):=by omega
    clear hT h0 hld hMM hRR hyf
    have HR:=hres
    generalize ps F (j+1+1)=M at *
    generalize ps F j=R at *
    cases more
    ·by_cases hR0:R=0
     ·subst hR0
      rw [show decide ((0:Nat)≠0)=false from rfl] at HAny
      go_wp2_with (first | (go_at_call 114;refine HAny.out.mono ?_;rintro e w' ⟨rfl,rfl⟩) | (go_at_call 115;refine HLd.out.mono ?_;rintro e w' ⟨rfl,rfl⟩))
      go_region
      by_cases hsr:r=0
      ·subst hsr
       by_cases hsz:z=0
       ·subst hsz
        cases neg
        all_goals
         go_wp2_with fail
         refine (bM _ _ _ (by omega) (by omega)).mono ?_
         rintro e w' ⟨rfl,q,rfl⟩
         go_wp2_with fail
         go_ret
         refine⟨de ?_,_,rfl⟩
         rw [← HR.out,HV.out]
         simp
         try (congr 1;omega)
       ·cases neg
        all_goals
         go_wp2_with fail
         refine (bM _ _ _ (by omega) (by omega)).mono ?_
         rintro e w' ⟨rfl,q,rfl⟩
         go_wp2_with fail
         go_ret
         refine⟨de ?_,_,rfl⟩
         rw [← HR.out,HV.out]
         simp [hsz]
         try (congr 1;omega)
      ·cases neg
       all_goals
        go_wp2_with fail
        refine (bM _ _ _ (by omega) (by omega)).mono ?_
        rintro e w' ⟨rfl,q,rfl⟩
        go_wp2_with fail
        go_ret
        refine⟨de ?_,_,rfl⟩
        rw [← HR.out,HV.out]
        simp [hsr]
        try (congr 1;omega)
     ·rw [show decide (R≠0)=true by simpa using hR0] at HAny
      go_wp2_with (first | (go_at_call 114;refine HAny.out.mono ?_;rintro e w' ⟨rfl,rfl⟩) | (go_at_call 115;refine HLd.out.mono ?_;rintro e w' ⟨rfl,rfl⟩))
      go_region
      cases neg
      all_goals
       go_wp2_with fail
       refine (bM _ _ _ (by omega) (by omega)).mono ?_
       rintro e w' ⟨rfl,q,rfl⟩
       go_wp2_with fail
       go_ret
       refine⟨de ?_,_,rfl⟩
       rw [← HR.out,HV.out]
       simp [hR0]
       try (congr 1;omega)
    ·clear HAny
     go_wp2_with (go_at_call 115;refine HLd.out.mono ?_;rintro e w' ⟨rfl,rfl⟩)
     go_region
     cases neg
     all_goals
      go_wp2_with fail
      refine (bM _ _ _ (by omega) (by omega)).mono ?_
      rintro e w' ⟨rfl,q,rfl⟩
      go_wp2_with fail
      go_ret
      refine⟨de ?_,_,rfl⟩
      rw [← HR.out,HV.out]
      simp
      try (congr 1;omega)
end Go.Proofs.YtjjlnmihkadlmaaGreat.A
