/-  -/
import Derived.Test.YtjjlnmihkadlmaaGreatHaq
import Derived.Test.YtjjlnmihkadlmaaGreatHat
import Derived.Deep.RegionLaw
import Derived.Test.YtjjlnmihkadlmaaGreatHas
import Derived.Laws.AppendOwnNone
import Derived.OwnWalk
import Derived.Test.YtjjlnmihkadlmaaGreatHar
namespace Go.Proofs.YtjjlnmihkadlmaaGreat
open Go.RowKit

theorem oe {ops:Array Oper} {o:Oper} {a:Act} {w:World} {K:Act→World→Prop} {Q:Exit→Act→World→Prop} {E:Prop} (hgd:o.guard=none) (s x:Operand)
  (ho:o.op=.call { callee:=.builtin .append,args:=#[s,x],argTypes:=#[30,30] })
  (base:Nat) (v:Value) (n:Nat) (xs:List Nat) (hs:a.eval s=v) (hown:w.ownsRow base 57 1 v n (xs.map uV))
  (g:Nat) (z:Nat) (hx:a.eval x=.slice (some ⟨g,0,none⟩) 1 1) (hc:w.cell? ⟨g,0,none⟩=some (.int .u64 (z:Int))) (hn:n≤17592186044415) (hbase:base≤w.heap.size)
  (h:∀ v' w',w'.ownsRow base 57 1 v' (n+1) ((xs++[z]).map uV)→w.grownBy w' v.ownBlock→K (a.put o.dst v') w') :
  if Region.wanted o (yielded ops a.tmps)=true then Oper.wp Tryz.prog o a w K Q else E:=by
 have hw:Region.wanted o (yielded ops a.tmps)=true:=by simp [Region.wanted,hgd]
 rw [if_pos hw]
 obtain⟨i0,hi,hz0,hz1,hz2⟩:=info_parts rK
 refine wp_append_own w s x 30 ho base 57 i0 (.int .u64 0) 1 8 Tryz.underlying30 hi hz0 hz1 hz2 rfl (by decide) v n (xs.map uV) hs hown ⟨g,0,none⟩ 1 1 [uV z] hx rfl ?_ (fun u hu=>by rw [List.mem_singleton] at hu;rw [hu];rfl) (by unfold maxLen;omega) (by omega) hbase ?_
 ·intro j u hj
  cases j with
  | zero=>
   have:uV z=u:=Option.some.inj hj
   rw [← this,Addr.add_lit]
   exact hc
  | succ j=>cases hj
 ·intro v' w' h1 h2 _
  refine h v' w' ?_ h2
  rw [List.map_append];exact h1
def Lk (ys:List Nat) (j:Nat):Value:=.float .f64 (ys.getD j 0)
theorem bC (W:World) (cs:Array Value) (t:TypeId) (k:Nat):(W.alloc (.cells cs t)).cell? ⟨W.heap.size,k,none⟩=cs[k]? :=by simp
theorem ig {w:World} {base n b j:Nat} {v:Value} {xs:List Nat} (h:w.ownsRow base 57 1 v n (xs.map uV)) (hb:b<base) (x:Value):(w.setCell ⟨b,j,none⟩ x).ownsRow base 57 1 v n (xs.map uV):=by
 refine⟨h.1,?_⟩
 rcases h.2 with hn | ⟨g,cap,cur,rfl,hg,hgg,rest⟩
 ·exact .inl hn
 ·exact .inr ⟨g,cap,cur,rfl,hg,by rw [Below.heap_setCell w ⟨b,j,none⟩ x g (by show g≠b;omega)];exact hgg,rest⟩
theorem vO {w:World} {base base' n:Nat} {v:Value} {xs:List Value} (h:w.ownsRow base 57 1 v n xs) (hb:base'≤base):w.ownsRow base' 57 1 v n xs:=by
 refine⟨h.1,?_⟩
 rcases h.2 with hn | ⟨g,cap,cur,e,hg,rest⟩
 ·exact .inl hn
 ·exact .inr ⟨g,cap,cur,e,Nat.le_trans hb hg,rest⟩
theorem sw (w:World) (cs:Array Value) (t:TypeId) (o:Obj) (j:Nat):((w.alloc (.cells cs t)).alloc o).cell? ⟨w.heap.size,j,none⟩=cs[j]? :=
 (((Below.refl _ (w.alloc (.cells cs t))).alloc (Nat.le_refl _) o).cell (p:=⟨w.heap.size,j,none⟩) (by show w.heap.size<_;simp)).trans (bC w cs t j)
end Go.Proofs.YtjjlnmihkadlmaaGreat
namespace Go.Proofs.YtjjlnmihkadlmaaGreat
open Go.RowKit

structure OfC (w:World) (base kind:Int) (vd vf vo:Value) (wr:World):Prop where
 t0:wr.cell? ⟨w.heap.size,0,none⟩=some (.int .i64 base)
 t1:wr.cell? ⟨w.heap.size,1,none⟩=some (.int .i64 kind)
 t2:wr.cell? ⟨w.heap.size,2,none⟩=some vd
 t3:wr.cell? ⟨w.heap.size,3,none⟩=some vf
 d0:wr.cell? ⟨w.heap.size+1,0,none⟩=some (.int .i64 0)
 d1:wr.cell? ⟨w.heap.size+1,1,none⟩=some (.int .i64 0)
 d2:wr.cell? ⟨w.heap.size+1,2,none⟩=some (.slice none 0 0)
 d3:wr.cell? ⟨w.heap.size+1,3,none⟩=some (.slice none 0 0)
 e0:wr.frozen? ⟨w.heap.size+1,0,none⟩=false
 e1:wr.frozen? ⟨w.heap.size+1,1,none⟩=false
 e2:wr.frozen? ⟨w.heap.size+1,2,none⟩=false
 e3:wr.frozen? ⟨w.heap.size+1,3,none⟩=false
 o0:wr.cell? ⟨w.heap.size+2,0,none⟩=some (.int .i64 base)
 o1:wr.cell? ⟨w.heap.size+2,1,none⟩=some (.int .i64 kind)
 o2:wr.cell? ⟨w.heap.size+2,2,none⟩=some vd
 o3:wr.cell? ⟨w.heap.size+2,3,none⟩=some vo
 f3:wr.frozen? ⟨w.heap.size+2,3,none⟩=false
 bl:Below w.heap.size w wr
 sz:w.heap.size+3≤wr.heap.size
theorem OfC.stay {w wr w':World} {base kind:Int} {vd vf vo:Value} (h:OfC w base kind vd vf vo wr) (hb:Below (w.heap.size+3) wr w'):OfC w base kind vd vf vo w':=by
 have c:∀ k<3,∀ j,w'.cell? ⟨w.heap.size+k,j,none⟩=wr.cell? ⟨w.heap.size+k,j,none⟩:=fun k hk j=>hb.cell (p:=⟨w.heap.size+k,j,none⟩) (by show w.heap.size+k<_;omega)
 have g:∀ k<3,∀ j,w'.frozen? ⟨w.heap.size+k,j,none⟩=wr.frozen? ⟨w.heap.size+k,j,none⟩:=fun k hk j=>hb.frozen (p:=⟨w.heap.size+k,j,none⟩) (by show w.heap.size+k<_;omega)
 exact⟨(c 0 (by omega) 0).trans h.t0,(c 0 (by omega) 1).trans h.t1,(c 0 (by omega) 2).trans h.t2,(c 0 (by omega) 3).trans h.t3,(c 1 (by omega) 0).trans h.d0,(c 1 (by omega) 1).trans h.d1,(c 1 (by omega) 2).trans h.d2,(c 1 (by omega) 3).trans h.d3,(g 1 (by omega) 0).trans h.e0,(g 1 (by omega) 1).trans h.e1,(g 1 (by omega) 2).trans h.e2,(g 1 (by omega) 3).trans h.e3,(c 2 (by omega) 0).trans h.o0,(c 2 (by omega) 1).trans h.o1,(c 2 (by omega) 2).trans h.o2,(c 2 (by omega) 3).trans h.o3,(g 2 (by omega) 3).trans h.f3,h.bl.trans (hb.mono (by omega)),Nat.le_trans h.sz hb.size⟩
theorem OfC.put {w wr:World} {base kind:Int} {vd vf vo:Value} (h:OfC w base kind vd vf vo wr) (v:Value):OfC w base kind vd vf v (wr.setCell ⟨w.heap.size+2,3,none⟩ v):=by
 have hb:Below (w.heap.size+2) wr (wr.setCell ⟨w.heap.size+2,3,none⟩ v):=(Below.refl _ wr).setCell (p:=⟨w.heap.size+2,3,none⟩) (Nat.le_refl _) v
 have c:∀ k<2,∀ j,(wr.setCell ⟨w.heap.size+2,3,none⟩ v).cell? ⟨w.heap.size+k,j,none⟩=wr.cell? ⟨w.heap.size+k,j,none⟩:=fun k hk j=>hb.cell (p:=⟨w.heap.size+k,j,none⟩) (by show w.heap.size+k<_;omega)
 have g:∀ k<2,∀ j,(wr.setCell ⟨w.heap.size+2,3,none⟩ v).frozen? ⟨w.heap.size+k,j,none⟩=wr.frozen? ⟨w.heap.size+k,j,none⟩:=fun k hk j=>hb.frozen (p:=⟨w.heap.size+k,j,none⟩) (by show w.heap.size+k<_;omega)
 refine⟨(c 0 (by omega) 0).trans h.t0,(c 0 (by omega) 1).trans h.t1,(c 0 (by omega) 2).trans h.t2,(c 0 (by omega) 3).trans h.t3,(c 1 (by omega) 0).trans h.d0,(c 1 (by omega) 1).trans h.d1,(c 1 (by omega) 2).trans h.d2,(c 1 (by omega) 3).trans h.d3,(g 1 (by omega) 0).trans h.e0,(g 1 (by omega) 1).trans h.e1,(g 1 (by omega) 2).trans h.e2,(g 1 (by omega) 3).trans h.e3,?_,?_,?_,?_,?_,h.bl.setCell (p:=⟨w.heap.size+2,3,none⟩) (by show w.heap.size≤w.heap.size+2;omega) v,by simpa using h.sz⟩
 ·simp [h.o0,go_sem]
 ·simp [h.o1,go_sem]
 ·simp [h.o2,go_sem]
 ·simp [h.o3,go_sem]
 ·simp [h.f3,go_sem]
theorem JV (w:World) (base kind:Int) (vd vf:Value):OfC w base kind vd vf (.slice none 0 0) (((w.alloc (.cells #[.int .i64 base,.int .i64 kind,vd,vf] 43)).alloc (.cells #[.int .i64 0,.int .i64 0,.slice none 0 0,.slice none 0 0] 64)).alloc (.cells #[.int .i64 base,.int .i64 kind,vd,.slice none 0 0] 64)):=by
 have hA:∀ (w:World) o,Below w.heap.size w (w.alloc o):=fun w o=>(Below.refl _ _).alloc (Nat.le_refl _) _
 generalize hw1:w.alloc (.cells #[.int .i64 base,.int .i64 kind,vd,vf] 43)=w1
 have z1:w1.heap.size=w.heap.size+1:=by rw [← hw1];simp
 generalize hw2:w1.alloc (.cells #[.int .i64 0,.int .i64 0,.slice none 0 0,.slice none 0 0] 64)=w2
 have z2:w2.heap.size=w.heap.size+2:=by rw [← hw2];simp [z1]
 have c1:∀ j,w1.cell? ⟨w.heap.size,j,none⟩=(#[.int .i64 base,.int .i64 kind,vd,vf]:Array Value)[j]? :=fun j=>by rw [← hw1];exact bC w _ _ j
 have c2:∀ j,w2.cell? ⟨w.heap.size+1,j,none⟩=(#[.int .i64 0,.int .i64 0,.slice none 0 0,.slice none 0 0]:Array Value)[j]? :=fun j=>by rw [← hw2,← z1];exact bC w1 _ _ j
 have c3:∀ j,(w2.alloc (.cells #[.int .i64 base,.int .i64 kind,vd,.slice none 0 0] 64)).cell? ⟨w.heap.size+2,j,none⟩=(#[.int .i64 base,.int .i64 kind,vd,.slice none 0 0]:Array Value)[j]? :=fun j=>by rw [← z2];exact bC w2 _ _ j
 have k2:∀ j,w2.cell? ⟨w.heap.size,j,none⟩=w1.cell? ⟨w.heap.size,j,none⟩:=fun j=>by rw [← hw2];exact (hA w1 _).cell (p:=⟨w.heap.size,j,none⟩) (by show w.heap.size<w1.heap.size;omega)
 have k3:∀ k<2,∀ j o,(w2.alloc o).cell? ⟨w.heap.size+k,j,none⟩=w2.cell? ⟨w.heap.size+k,j,none⟩:=fun k hk j o=>(hA w2 o).cell (p:=⟨w.heap.size+k,j,none⟩) (by show w.heap.size+k<w2.heap.size;omega)
 have g3:∀ j o,(w2.alloc o).frozen? ⟨w.heap.size+1,j,none⟩=false:=fun j o=>by
  rw [(hA w2 o).frozen (p:=⟨w.heap.size+1,j,none⟩) (by show w.heap.size+1<w2.heap.size;omega),← hw2,← z1]
  exact World.frozen?_alloc_new _ _ _ _
 have hb:Below w.heap.size w (w2.alloc (.cells #[.int .i64 base,.int .i64 kind,vd,.slice none 0 0] 64)):=by
  have b1:Below w.heap.size w w1:=by rw [← hw1];exact hA w _
  have b2:Below w.heap.size w w2:=by rw [← hw2];exact b1.alloc b1.size _
  exact b2.alloc b2.size _
 exact⟨((k3 0 (by omega) 0 _).trans (k2 0)).trans (c1 0),((k3 0 (by omega) 1 _).trans (k2 1)).trans (c1 1),((k3 0 (by omega) 2 _).trans (k2 2)).trans (c1 2),((k3 0 (by omega) 3 _).trans (k2 3)).trans (c1 3),(k3 1 (by omega) 0 _).trans (c2 0),(k3 1 (by omega) 1 _).trans (c2 1),(k3 1 (by omega) 2 _).trans (c2 2),(k3 1 (by omega) 3 _).trans (c2 3),g3 0 _,g3 1 _,g3 2 _,g3 3 _,c3 0,c3 1,c3 2,c3 3,by rw [← z2];exact World.frozen?_alloc_new _ _ _ _,hb,by simp;omega⟩
set_option maxRecDepth 20000 in
set_option maxHeartbeats 3200000 in
theorem vP (base kind:Int) (b2 oy cx cy m n:Nat) (px py:Option Addr) (ys:List Nat) (w:World) (hY:VSrc w py b2 oy n (Lk ys)) (hyl:ys.length=n) (hn:n≤17592186043904) :
  Calls Tryz.prog 23 #[.agg #[.int .i64 base,.int .i64 kind,(.slice px m cx),.slice py n cy]] w fun e w'=>∃ v,e=.returned (.agg #[.int .i64 base,.int .i64 kind,(.slice px m cx),v])∧w'.ownsRow w.heap.size 57 1 v n (ys.map uV)∧Below w.heap.size w w':=by
 have HY:=hideS hY
 have HL:=hideS hyl
 have HB:=hideS (JV w base kind (.slice px m cx) (.slice py n cy))
 have p0:∀ o,((w.alloc (.cells #[.int .i64 base,.int .i64 kind,(.slice px m cx),.slice py n cy] 43)).alloc o).cell? ⟨w.heap.size,0,none⟩=some (.int .i64 base):=fun o=>sw w _ _ o 0
 have p1:∀ o,((w.alloc (.cells #[.int .i64 base,.int .i64 kind,(.slice px m cx),.slice py n cy] 43)).alloc o).cell? ⟨w.heap.size,1,none⟩=some (.int .i64 kind):=fun o=>sw w _ _ o 1
 have p2:∀ o,((w.alloc (.cells #[.int .i64 base,.int .i64 kind,(.slice px m cx),.slice py n cy] 43)).alloc o).cell? ⟨w.heap.size,2,none⟩=some (.slice px m cx):=fun o=>sw w _ _ o 2
 clear hY hyl
 go_enter Tryz.func23,Tryz.ntmps23
 go_wp2_with fail
 go_loopw [4] (fun i wr=>∃ k:Nat,k≤n∧i=.int .i64 k∧Hid (∃ v,wr.ownsRow (w.heap.size+3) 57 1 v k ((ys.take k).map uV)∧OfC w base kind (.slice px m cx) (.slice py n cy) v wr)) (fun i _=>n - (intOf i).toNat)
 case atStart=>exact⟨0,Nat.zero_le _,rfl,_,tV _ _,HB.out⟩
 case round=>
  clear HB
  obtain⟨k,hk,rfl,HH⟩:=hrel
  obtain⟨v,ho,hb⟩:=HH.out
  obtain⟨q0,g0,cc0,rfl,_,_,_,_⟩:=bY ho (by rw [List.length_take,HL.out];omega)
  have HO:=hideS ho
  have HB:=hideS hb
  obtain⟨t0,t1,t2,t3,d0,d1,d2,d3,e0,e1,e2,e3,o0,o1,o2,o3,f3,_,_⟩:=HB.out
  clear ho hb HH
  by_cases hlt:k<n
  ·obtain rfl:=HY.out.at_ (by omega)
   have hcy:wr.cell? ⟨b2,oy+k,none⟩=some (.float .f64 (ys.getD k 0)):=(HB.out.bl.cell (p:=⟨b2,oy+k,none⟩) (HY.out.lt (by omega))).trans (HY.out.cell k hlt)
   have HN:Hid (ys.take (k+1)=ys.take k++[ys.getD k 0]):=by
    show _=_
    rw [List.take_add_one]
    congr 1
    simp [List.getD,List.getElem?_eq_getElem (show k<ys.length by rw [HL.out];exact hlt)]
   generalize ys.getD k 0=y at *
   have HOa:Hid (∀ o,(wr.drew.alloc o).ownsRow (w.heap.size+3) 57 1 (.slice q0 k cc0) k ((ys.take k).map uV)):=fun o=>aB (w:=wr) HO.out ((Below.refl _ wr).drew.alloc (Nat.le_refl _) o)
   have HBa:Hid (∀ o,OfC w base kind (.slice px m cx) (.slice (some ⟨b2,oy,none⟩) n cy) (.slice q0 k cc0) (wr.drew.alloc o)):=fun o=>HB.out.stay ((Below.refl (w.heap.size+3) wr).drew.alloc HB.out.sz o)
   have x2:(wr.alloc (.cells #[.int .u64 (y:Int)] 57)).drew.cell? ⟨w.heap.size+2,3,none⟩=some (.slice q0 k cc0):=(HBa.out _).o3
   have x3:(wr.alloc (.cells #[.int .u64 (y:Int)] 57)).cell? ⟨w.heap.size+2,3,none⟩=some (.slice q0 k cc0):=(HBa.out _).o3
   have g3:(0:Int)≤(k:Int):=by omega
   have g4:(k:Int)<(n:Int):=by omega
   go_wp2_with fail
   go_region_law (first | (go_simp;go_at_call 32;refine (turned (jr _ _)).mono ?_;rintro e wb ⟨rfl,rfl⟩) | (refine oe rfl (.tmp 20) (.tmp 27) rfl (w.heap.size+3) _ k (ys.take k) rfl (HOa.out _) wr.heap.size y rfl (by simp) (by omega) (HBa.out (.cells #[.int .u64 (y:Int)] 57)).sz ?_;intro v6 w6 ho6 hg6;obtain⟨q6,g6,c6,rfl,_,_,_,_⟩:=bY ho6 (by rw [List.length_append,List.length_take,HL.out];simp;omega);have HB6:=hideS ((HBa.out _).stay (bM (HOa.out _) hg6 (HBa.out (.cells #[.int .u64 (y:Int)] 57)).sz));have HO6:=hideS ho6;have c2:=HB6.out.o3;have c3:=HB6.out.f3;clear ho6 hg6))
   all_goals
    go_wp2_with fail
    go_roundw
    case rel=>exact⟨k+1,by omega,by simp,_,by rw [HN.out];exact ig HO6.out (by omega) _,HB6.out.put _⟩
    case measure=>simp [intOf];omega
  ·obtain rfl:k=n:=by omega
   have hge:¬ (k:Int)<(k:Int):=by omega
   have HE:Hid (ys.take k=ys):=by show _=_;exact List.take_of_length_le (by rw [HL.out];omega)
   rw [HE.out] at HO
   have hsz:=HB.out.sz
   go_wp2_with fail
   refine bodyPost_ret (v:=.agg #[.int .i64 base,.int .i64 kind,.slice px m cx,.slice q0 k cc0]) (by simp [results,Tryz.results23,go_sem,d0,d1,d2,d3]) rfl ?_
   have hs:∀ j,w.heap.size≤(⟨w.heap.size+1,j,none⟩:Addr).block:=fun j=>by show w.heap.size≤w.heap.size+1;omega
   have hbl:Below w.heap.size w ((((wr.setCell ⟨w.heap.size+1,0,none⟩ (.int .i64 base)).setCell ⟨w.heap.size+1,1,none⟩ (.int .i64 kind)).setCell ⟨w.heap.size+1,2,none⟩ (.slice px m cx)).setCell ⟨w.heap.size+1,3,none⟩ (.slice q0 k cc0)):=(((HB.out.bl.setCell (hs 0) _).setCell (hs 1) _).setCell (hs 2) _).setCell (hs 3) _
   exact⟨_,rfl,vO (ig (ig (ig (ig HO.out (by omega) _) (by omega) _) (by omega) _) (by omega) _) (by omega),hbl⟩
end Go.Proofs.YtjjlnmihkadlmaaGreat
namespace Go.Proofs.YtjjlnmihkadlmaaGreat
open Go.RowKit

def kV (x:Int):Value:=.int .i64 x
theorem jp:(Tryz.prog.info? 3).map (fun i=>(i.zero,i.size,i.bytes))=some (some (.int .i64 0),1,8):=by kernel_rfl
theorem fM (w:World) {ops:Array Oper} {rest:List Oper} {o:Oper} {a:Act} {Q:Exit→Act→World→Prop} (hgd:o.guard=none) (s x:Operand)
  (ho:o.op=.call { callee:=.builtin .append,args:=#[s,x],argTypes:=#[40,40] })
  (base:Nat) (v:Value) (n:Nat) (xs:List Int) (hs:a.eval s=v) (hown:w.ownsRow base 3 1 v n (xs.map kV))
  (b off c m:Nat) (ys:List Int) (hx:a.eval x=.slice (some ⟨b,off,none⟩) m c) (hm:ys.length=m) (hsrc:∀ j<m,w.cell? ⟨b,off+j,none⟩=some (xV ys j)) (hn:n≤100000) (hm2:m≤100000) (hbase:base≤w.heap.size)
  (h:∀ v' w',w'.ownsRow base 3 1 v' (n+m) ((xs++ys).map kV)→w.grownBy w' v.ownBlock→wpList Tryz.prog ops Q rest (a.put o.dst v') w'):wpList Tryz.prog ops Q (o::rest) a w:=by
 obtain⟨i0,hi,hz0,hz1,hz2⟩:=info_parts jp
 refine wpList_append_own w hgd s x 40 ho base 3 i0 (.int .i64 0) 1 8 Tryz.underlying40 hi hz0 hz1 hz2 rfl (by decide) v n (xs.map kV) hs hown ⟨b,off,none⟩ m c (ys.map kV) hx (by rw [List.length_map,hm,Nat.mul_one]) ?_ (fun u hu=>by obtain⟨z,_,rfl⟩:=List.mem_map.1 hu;rfl) (by unfold maxLen;omega) (by omega) hbase ?_
 ·intro j u hj
  have hj1:j<ys.length:=by
   have:=(List.getElem?_eq_some_iff.1 hj).1
   simpa using this
  rw [Addr.add_lit,hsrc j (by omega)]
  rw [List.getElem?_map,List.getElem?_eq_getElem hj1] at hj
  have hu:kV ys[j]=u:=Option.some.inj hj
  rw [← hu]
  show some (Value.int .i64 (ys.getD j 0))=_
  rw [List.getD_eq_getElem?_getD,List.getElem?_eq_getElem hj1];rfl
 ·intro v' w' h1 h2 _
  refine h v' w' ?_ h2
  rw [List.map_append];exact h1
theorem du (w:World) {ops:Array Oper} {rest:List Oper} {o:Oper} {a:Act} {Q:Exit→Act→World→Prop} (hgd:o.guard=none) (s x:Operand)
  (ho:o.op=.call { callee:=.builtin .append,args:=#[s,x],argTypes:=#[30,30] })
  (base:Nat) (v:Value) (n:Nat) (xs:List Nat) (hs:a.eval s=v) (hown:w.ownsRow base 57 1 v n (xs.map uV))
  (b off c m:Nat) (ys:List Nat) (hx:a.eval x=.slice (some ⟨b,off,none⟩) m c) (hm:ys.length=m) (hsrc:∀ j<m,w.cell? ⟨b,off+j,none⟩=some (yV ys j)) (hn:n≤100000) (hm2:m≤100000) (hbase:base≤w.heap.size)
  (h:∀ v' w',w'.ownsRow base 57 1 v' (n+m) ((xs++ys).map uV)→w.grownBy w' v.ownBlock→wpList Tryz.prog ops Q rest (a.put o.dst v') w'):wpList Tryz.prog ops Q (o::rest) a w:=by
 obtain⟨i0,hi,hz0,hz1,hz2⟩:=info_parts rK
 refine wpList_append_own w hgd s x 30 ho base 57 i0 (.int .u64 0) 1 8 Tryz.underlying30 hi hz0 hz1 hz2 rfl (by decide) v n (xs.map uV) hs hown ⟨b,off,none⟩ m c (ys.map uV) hx (by rw [List.length_map,hm,Nat.mul_one]) ?_ (fun u hu=>by obtain⟨z,_,rfl⟩:=List.mem_map.1 hu;rfl) (by unfold maxLen;omega) (by omega) hbase ?_
 ·intro j u hj
  have hj1:j<ys.length:=by
   have:=(List.getElem?_eq_some_iff.1 hj).1
   simpa using this
  rw [Addr.add_lit,hsrc j (by omega)]
  rw [List.getElem?_map,List.getElem?_eq_getElem hj1] at hj
  have hu:uV ys[j]=u:=Option.some.inj hj
  rw [← hu]
  show some (Value.int .u64 (ys.getD j 0:Nat))=_
  rw [List.getD_eq_getElem?_getD,List.getElem?_eq_getElem hj1];rfl
 ·intro v' w' h1 h2 _
  refine h v' w' ?_ h2
  rw [List.map_append];exact h1
theorem kS (w:World) {ops:Array Oper} {rest:List Oper} {o:Oper} {a:Act} {Q:Exit→Act→World→Prop} (hgd:o.guard=none) (s x:Operand)
  (ho:o.op=.call { callee:=.builtin .append,args:=#[s,x],argTypes:=#[41,41] })
  (base:Nat) (v:Value) (n:Nat) (xs:List Nat) (hs:a.eval s=v) (hown:w.ownsRow base 54 1 v n (xs.map fV))
  (b off c m:Nat) (ys:List Nat) (hx:a.eval x=.slice (some ⟨b,off,none⟩) m c) (hm:ys.length=m) (hsrc:∀ j<m,w.cell? ⟨b,off+j,none⟩=some (flV ys j)) (hn:n≤100000) (hm2:m≤100000) (hbase:base≤w.heap.size)
  (h:∀ v' w',w'.ownsRow base 54 1 v' (n+m) ((xs++ys).map fV)→w.grownBy w' v.ownBlock→wpList Tryz.prog ops Q rest (a.put o.dst v') w'):wpList Tryz.prog ops Q (o::rest) a w:=by
 obtain⟨i0,hi,hz0,hz1,hz2⟩:=info_parts nT
 refine wpList_append_own w hgd s x 41 ho base 54 i0 (.float .f64 0) 1 8 Tryz.underlying41 hi hz0 hz1 hz2 rfl (by decide) v n (xs.map fV) hs hown ⟨b,off,none⟩ m c (ys.map fV) hx (by rw [List.length_map,hm,Nat.mul_one]) ?_ (fun u hu=>by obtain⟨z,_,rfl⟩:=List.mem_map.1 hu;rfl) (by unfold maxLen;omega) (by omega) hbase ?_
 ·intro j u hj
  have hj1:j<ys.length:=by
   have:=(List.getElem?_eq_some_iff.1 hj).1
   simpa using this
  rw [Addr.add_lit,hsrc j (by omega)]
  rw [List.getElem?_map,List.getElem?_eq_getElem hj1] at hj
  have hu:fV ys[j]=u:=Option.some.inj hj
  rw [← hu]
  show some (Value.float .f64 (ys.getD j 0))=_
  rw [List.getD_eq_getElem?_getD,List.getElem?_eq_getElem hj1];rfl
 ·intro v' w' h1 h2 _
  refine h v' w' ?_ h2
  rw [List.map_append];exact h1
theorem Cc (w:World) (base:Nat):w.ownsRow base 3 1 (.slice none 0 0) 0 (([]:List Int).map kV):=⟨rfl,Or.inl ⟨rfl,rfl⟩⟩
theorem aY {t:TypeId} {w w':World} {base n:Nat} {v:Value} {xs:List Value} (h:w.ownsRow base t 1 v n xs) (hb:Below w.heap.size w w'):w'.ownsRow base t 1 v n xs:=by
 refine⟨h.1,?_⟩
 rcases h.2 with hn | ⟨g,cap,cur,rfl,hg,hgg,rest⟩
 ·exact .inl hn
 ·exact .inr ⟨g,cap,cur,rfl,hg,by rw [hb.block g (Array.getElem?_eq_some_iff.1 hgg).1];exact hgg,rest⟩
theorem aG {t:TypeId} {w w':World} {v:Value} {B n:Nat} {xs:List Value} (ho:w.ownsRow B t 1 v n xs) (hg:w.grownBy w' v.ownBlock) (hB:B≤w.heap.size):Below B w w':=
 (Below.refl B w).grown hg hB (fun k hk=>by
  rcases ho.2 with⟨rfl,_⟩| ⟨g,cap,cur,rfl,hbg,_⟩
  ·cases hk
  ·obtain rfl:g=k:=by simpa [Value.ownBlock] using hk
   exact hbg)
theorem an {t:TypeId} {w:World} {base n b j:Nat} {v:Value} {xs:List Value} (h:w.ownsRow base t 1 v n xs) (hb:b<base) (x:Value):(w.setCell ⟨b,j,none⟩ x).ownsRow base t 1 v n xs:=by
 refine⟨h.1,?_⟩
 rcases h.2 with hn | ⟨g,cap,cur,rfl,hg,hgg,rest⟩
 ·exact .inl hn
 ·exact .inr ⟨g,cap,cur,rfl,hg,by rw [Below.heap_setCell w ⟨b,j,none⟩ x g (by show g≠b;omega)];exact hgg,rest⟩
theorem cw {t:TypeId} {w:World} {base base' n:Nat} {v:Value} {xs:List Value} (h:w.ownsRow base t 1 v n xs) (hb:base'≤base):w.ownsRow base' t 1 v n xs:=by
 refine⟨h.1,?_⟩
 rcases h.2 with hn | ⟨g,cap,cur,e,hg,rest⟩
 ·exact .inl hn
 ·exact .inr ⟨g,cap,cur,e,Nat.le_trans hb hg,rest⟩
theorem Cd {t:TypeId} {w w':World} {base n B g c:Nat} {xs:List Value} (h:w.ownsRow base t 1 (.slice (some ⟨g,0,none⟩) n c) n xs) (hb:Below B w w') (hg:g<B):w'.ownsRow base t 1 (.slice (some ⟨g,0,none⟩) n c) n xs:=by
 refine⟨h.1,?_⟩
 rcases h.2 with⟨hn,_⟩| ⟨k,cap,cur,e,hk,hgg,rest⟩
 ·cases hn
 ·have e':=e
  injection e with e1 e2 e3
  injection e1 with e1
  injection e1 with e1
  subst e1
  exact .inr ⟨g,cap,cur,e',hk,by rw [hb.block g hg];exact hgg,rest⟩
theorem eX (w:World) (x:Int) (t:TypeId):∀ j<1,(w.alloc (.cells #[.int .i64 x] t)).cell? ⟨w.heap.size,0+j,none⟩=some (xV [x] j):=fun j hj=>by
 obtain rfl:j=0:=by omega
 exact bC w _ _ 0
theorem vQ (w:World) (x:Nat) (t:TypeId):∀ j<1,(w.alloc (.cells #[.int .u64 (x:Int)] t)).cell? ⟨w.heap.size,0+j,none⟩=some (yV [x] j):=fun j hj=>by
 obtain rfl:j=0:=by omega
 exact bC w _ _ 0
theorem kn (w:World) (x:Nat) (t:TypeId):∀ j<1,(w.alloc (.cells #[.float .f64 x] t)).cell? ⟨w.heap.size,0+j,none⟩=some (flV [x] j):=fun j hj=>by
 obtain rfl:j=0:=by omega
 exact bC w _ _ 0
theorem cj {w:World} {base n:Nat} {v:Value} {xs:List Int} (h:w.ownsRow base 3 1 v n (xs.map kV)) (hn:xs.length=n) (h0:0<n):∃ g c,v=.slice (some ⟨g,0,none⟩) n c∧VSrc w (some ⟨g,0,none⟩) g 0 n (xV xs)∧base≤g∧n≤c∧c≤maxLen:=by
 rcases h.2 with⟨rfl,rfl⟩| ⟨g,cap,cur,rfl,hg,hh,hnc,hcm,hsz,htk⟩
 ·omega
 ·refine⟨g,cap,rfl,⟨fun _=>rfl,fun _=>(Array.getElem?_eq_some_iff.1 hh).1,fun i hi=>?_⟩,hg,hnc,hcm⟩
  rw [Nat.zero_add,World.ownsRow.cellAt h i (by omega),List.getElem?_map]
  show Option.map kV xs[i]? =some (Value.int .i64 (xs.getD i 0))
  rw [List.getD_eq_getElem?_getD,List.getElem?_eq_getElem (by omega)];rfl
theorem dS {w:World} {base n:Nat} {v:Value} {xs:List Nat} (h:w.ownsRow base 54 1 v n (xs.map fV)) (hn:xs.length=n) (h0:0<n):∃ g c,v=.slice (some ⟨g,0,none⟩) n c∧VSrc w (some ⟨g,0,none⟩) g 0 n (flV xs)∧base≤g∧n≤c∧c≤maxLen:=by
 obtain⟨p,g,c,e,hs,a,b,d⟩:=BO h hn
 have hp:=hs.at_ (by omega)
 subst hp
 exact⟨g,c,e,⟨fun _=>rfl,fun _=>hs.lt (by omega),fun j hj=>hs.cell j (by omega)⟩,a,b,d⟩
end Go.Proofs.YtjjlnmihkadlmaaGreat
namespace Go.Proofs.YtjjlnmihkadlmaaGreat
open Go.RowKit

structure TabC (w:World) (base kind:Int) (vd vf vX vY:Value) (wr:World):Prop where
 t0:wr.cell? ⟨w.heap.size,0,none⟩=some (.int .i64 base)
 t1:wr.cell? ⟨w.heap.size,1,none⟩=some (.int .i64 kind)
 t2:wr.cell? ⟨w.heap.size,2,none⟩=some vd
 t3:wr.cell? ⟨w.heap.size,3,none⟩=some vf
 d0:wr.cell? ⟨w.heap.size+1,0,none⟩=some (.int .i64 0)
 d1:wr.cell? ⟨w.heap.size+1,1,none⟩=some (.slice none 0 0)
 d2:wr.cell? ⟨w.heap.size+1,2,none⟩=some (.slice none 0 0)
 e0:wr.frozen? ⟨w.heap.size+1,0,none⟩=false
 e1:wr.frozen? ⟨w.heap.size+1,1,none⟩=false
 e2:wr.frozen? ⟨w.heap.size+1,2,none⟩=false
 o0:wr.cell? ⟨w.heap.size+2,0,none⟩=some (.int .i64 kind)
 o1:wr.cell? ⟨w.heap.size+2,1,none⟩=some vX
 o2:wr.cell? ⟨w.heap.size+2,2,none⟩=some vY
 f1:wr.frozen? ⟨w.heap.size+2,1,none⟩=false
 f2:wr.frozen? ⟨w.heap.size+2,2,none⟩=false
 bl:Below w.heap.size w wr
 sz:w.heap.size+3≤wr.heap.size
theorem TabC.stay {w wr w':World} {base kind:Int} {vd vf vX vY:Value} (h:TabC w base kind vd vf vX vY wr) (hb:Below (w.heap.size+3) wr w'):TabC w base kind vd vf vX vY w':=by
 have c:∀ k<3,∀ j,w'.cell? ⟨w.heap.size+k,j,none⟩=wr.cell? ⟨w.heap.size+k,j,none⟩:=fun k hk j=>hb.cell (p:=⟨w.heap.size+k,j,none⟩) (by show w.heap.size+k<_;omega)
 have g:∀ k<3,∀ j,w'.frozen? ⟨w.heap.size+k,j,none⟩=wr.frozen? ⟨w.heap.size+k,j,none⟩:=fun k hk j=>hb.frozen (p:=⟨w.heap.size+k,j,none⟩) (by show w.heap.size+k<_;omega)
 exact⟨(c 0 (by omega) 0).trans h.t0,(c 0 (by omega) 1).trans h.t1,(c 0 (by omega) 2).trans h.t2,(c 0 (by omega) 3).trans h.t3,(c 1 (by omega) 0).trans h.d0,(c 1 (by omega) 1).trans h.d1,(c 1 (by omega) 2).trans h.d2,(g 1 (by omega) 0).trans h.e0,(g 1 (by omega) 1).trans h.e1,(g 1 (by omega) 2).trans h.e2,(c 2 (by omega) 0).trans h.o0,(c 2 (by omega) 1).trans h.o1,(c 2 (by omega) 2).trans h.o2,(g 2 (by omega) 1).trans h.f1,(g 2 (by omega) 2).trans h.f2,h.bl.trans (hb.mono (by omega)),Nat.le_trans h.sz hb.size⟩
theorem TabC.putX {w wr:World} {base kind:Int} {vd vf vX vY:Value} (h:TabC w base kind vd vf vX vY wr) (v:Value):TabC w base kind vd vf v vY (wr.setCell ⟨w.heap.size+2,1,none⟩ v):=by
 have hb:Below (w.heap.size+2) wr (wr.setCell ⟨w.heap.size+2,1,none⟩ v):=(Below.refl _ wr).setCell (p:=⟨w.heap.size+2,1,none⟩) (Nat.le_refl _) v
 have c:∀ k<2,∀ j,(wr.setCell ⟨w.heap.size+2,1,none⟩ v).cell? ⟨w.heap.size+k,j,none⟩=wr.cell? ⟨w.heap.size+k,j,none⟩:=fun k hk j=>hb.cell (p:=⟨w.heap.size+k,j,none⟩) (by show w.heap.size+k<_;omega)
 have g:∀ k<2,∀ j,(wr.setCell ⟨w.heap.size+2,1,none⟩ v).frozen? ⟨w.heap.size+k,j,none⟩=wr.frozen? ⟨w.heap.size+k,j,none⟩:=fun k hk j=>hb.frozen (p:=⟨w.heap.size+k,j,none⟩) (by show w.heap.size+k<_;omega)
 refine⟨(c 0 (by omega) 0).trans h.t0,(c 0 (by omega) 1).trans h.t1,(c 0 (by omega) 2).trans h.t2,(c 0 (by omega) 3).trans h.t3,(c 1 (by omega) 0).trans h.d0,(c 1 (by omega) 1).trans h.d1,(c 1 (by omega) 2).trans h.d2,(g 1 (by omega) 0).trans h.e0,(g 1 (by omega) 1).trans h.e1,(g 1 (by omega) 2).trans h.e2,?_,?_,?_,?_,?_,h.bl.setCell (p:=⟨w.heap.size+2,1,none⟩) (by show w.heap.size≤w.heap.size+2;omega) v,by simpa using h.sz⟩
 ·simp [h.o0,go_sem]
 ·simp [h.o1,go_sem]
 ·simp [h.o2,go_sem]
 ·simp [h.f1,go_sem]
 ·simp [h.f2,go_sem]
theorem TabC.putY {w wr:World} {base kind:Int} {vd vf vX vY:Value} (h:TabC w base kind vd vf vX vY wr) (v:Value):TabC w base kind vd vf vX v (wr.setCell ⟨w.heap.size+2,2,none⟩ v):=by
 have hb:Below (w.heap.size+2) wr (wr.setCell ⟨w.heap.size+2,2,none⟩ v):=(Below.refl _ wr).setCell (p:=⟨w.heap.size+2,2,none⟩) (Nat.le_refl _) v
 have c:∀ k<2,∀ j,(wr.setCell ⟨w.heap.size+2,2,none⟩ v).cell? ⟨w.heap.size+k,j,none⟩=wr.cell? ⟨w.heap.size+k,j,none⟩:=fun k hk j=>hb.cell (p:=⟨w.heap.size+k,j,none⟩) (by show w.heap.size+k<_;omega)
 have g:∀ k<2,∀ j,(wr.setCell ⟨w.heap.size+2,2,none⟩ v).frozen? ⟨w.heap.size+k,j,none⟩=wr.frozen? ⟨w.heap.size+k,j,none⟩:=fun k hk j=>hb.frozen (p:=⟨w.heap.size+k,j,none⟩) (by show w.heap.size+k<_;omega)
 refine⟨(c 0 (by omega) 0).trans h.t0,(c 0 (by omega) 1).trans h.t1,(c 0 (by omega) 2).trans h.t2,(c 0 (by omega) 3).trans h.t3,(c 1 (by omega) 0).trans h.d0,(c 1 (by omega) 1).trans h.d1,(c 1 (by omega) 2).trans h.d2,(g 1 (by omega) 0).trans h.e0,(g 1 (by omega) 1).trans h.e1,(g 1 (by omega) 2).trans h.e2,?_,?_,?_,?_,?_,h.bl.setCell (p:=⟨w.heap.size+2,2,none⟩) (by show w.heap.size≤w.heap.size+2;omega) v,by simpa using h.sz⟩
 ·simp [h.o0,go_sem]
 ·simp [h.o1,go_sem]
 ·simp [h.o2,go_sem]
 ·simp [h.f1,go_sem]
 ·simp [h.f2,go_sem]
theorem Im (w:World) (base kind:Int) (vd vf:Value):TabC w base kind vd vf (.slice none 0 0) (.slice none 0 0) (((w.alloc (.cells #[.int .i64 base,.int .i64 kind,vd,vf] 64)).alloc (.cells #[.int .i64 0,.slice none 0 0,.slice none 0 0] 169)).alloc (.cells #[.int .i64 kind,.slice none 0 0,.slice none 0 0] 169)):=by
 have hA:∀ (w:World) o,Below w.heap.size w (w.alloc o):=fun w o=>(Below.refl _ _).alloc (Nat.le_refl _) _
 generalize hw1:w.alloc (.cells #[.int .i64 base,.int .i64 kind,vd,vf] 64)=w1
 have z1:w1.heap.size=w.heap.size+1:=by rw [← hw1];simp
 generalize hw2:w1.alloc (.cells #[.int .i64 0,.slice none 0 0,.slice none 0 0] 169)=w2
 have z2:w2.heap.size=w.heap.size+2:=by rw [← hw2];simp [z1]
 have c1:∀ j,w1.cell? ⟨w.heap.size,j,none⟩=(#[.int .i64 base,.int .i64 kind,vd,vf]:Array Value)[j]? :=fun j=>by rw [← hw1];exact bC w _ _ j
 have c2:∀ j,w2.cell? ⟨w.heap.size+1,j,none⟩=(#[.int .i64 0,.slice none 0 0,.slice none 0 0]:Array Value)[j]? :=fun j=>by rw [← hw2,← z1];exact bC w1 _ _ j
 have c3:∀ j,(w2.alloc (.cells #[.int .i64 kind,.slice none 0 0,.slice none 0 0] 169)).cell? ⟨w.heap.size+2,j,none⟩=(#[.int .i64 kind,.slice none 0 0,.slice none 0 0]:Array Value)[j]? :=fun j=>by rw [← z2];exact bC w2 _ _ j
 have k2:∀ j,w2.cell? ⟨w.heap.size,j,none⟩=w1.cell? ⟨w.heap.size,j,none⟩:=fun j=>by rw [← hw2];exact (hA w1 _).cell (p:=⟨w.heap.size,j,none⟩) (by show w.heap.size<w1.heap.size;omega)
 have k3:∀ k<2,∀ j o,(w2.alloc o).cell? ⟨w.heap.size+k,j,none⟩=w2.cell? ⟨w.heap.size+k,j,none⟩:=fun k hk j o=>(hA w2 o).cell (p:=⟨w.heap.size+k,j,none⟩) (by show w.heap.size+k<w2.heap.size;omega)
 have g3:∀ j o,(w2.alloc o).frozen? ⟨w.heap.size+1,j,none⟩=false:=fun j o=>by
  rw [(hA w2 o).frozen (p:=⟨w.heap.size+1,j,none⟩) (by show w.heap.size+1<w2.heap.size;omega),← hw2,← z1]
  exact World.frozen?_alloc_new _ _ _ _
 have hb:Below w.heap.size w (w2.alloc (.cells #[.int .i64 kind,.slice none 0 0,.slice none 0 0] 169)):=by
  have b1:Below w.heap.size w w1:=by rw [← hw1];exact hA w _
  have b2:Below w.heap.size w w2:=by rw [← hw2];exact b1.alloc b1.size _
  exact b2.alloc b2.size _
 exact⟨((k3 0 (by omega) 0 _).trans (k2 0)).trans (c1 0),((k3 0 (by omega) 1 _).trans (k2 1)).trans (c1 1),((k3 0 (by omega) 2 _).trans (k2 2)).trans (c1 2),((k3 0 (by omega) 3 _).trans (k2 3)).trans (c1 3),(k3 1 (by omega) 0 _).trans (c2 0),(k3 1 (by omega) 1 _).trans (c2 1),(k3 1 (by omega) 2 _).trans (c2 2),g3 0 _,g3 1 _,g3 2 _,c3 0,c3 1,c3 2,by rw [← z2];exact World.frozen?_alloc_new _ _ _ _,by rw [← z2];exact World.frozen?_alloc_new _ _ _ _,hb,by simp;omega⟩
end Go.Proofs.YtjjlnmihkadlmaaGreat
namespace Go.Proofs.YtjjlnmihkadlmaaGreat
open Go.RowKit

theorem In (w:World) (kind:Int) (o:Obj):((((w.alloc o).alloc (.cells #[.int .i64 0,.slice none 0 0,.slice none 0 0] 169)).alloc (.cells #[.int .i64 0,.slice none 0 0,.slice none 0 0] 169)).cell? ⟨w.heap.size+1+1,0,none⟩=some (.int .i64 0)∧(((w.alloc o).alloc (.cells #[.int .i64 0,.slice none 0 0,.slice none 0 0] 169)).alloc (.cells #[.int .i64 0,.slice none 0 0,.slice none 0 0] 169)).cell? ⟨w.heap.size+1+1,1,none⟩=some (.slice none 0 0)∧(((w.alloc o).alloc (.cells #[.int .i64 0,.slice none 0 0,.slice none 0 0] 169)).alloc (.cells #[.int .i64 0,.slice none 0 0,.slice none 0 0] 169)).cell? ⟨w.heap.size+1+1,2,none⟩=some (.slice none 0 0))∧(∀ i,(((w.alloc o).alloc (.cells #[.int .i64 0,.slice none 0 0,.slice none 0 0] 169)).alloc (.cells #[.int .i64 0,.slice none 0 0,.slice none 0 0] 169)).frozen? ⟨w.heap.size+1+1,i,none⟩=false)∧(((((w.alloc o).alloc (.cells #[.int .i64 0,.slice none 0 0,.slice none 0 0] 169)).alloc (.cells #[.int .i64 0,.slice none 0 0,.slice none 0 0] 169)).setCell ⟨w.heap.size+1+1,0,none⟩ (.int .i64 kind)).setCell ⟨w.heap.size+1+1,1,none⟩ (.slice none 0 0)).setCell ⟨w.heap.size+1+1,2,none⟩ (.slice none 0 0)=((w.alloc o).alloc (.cells #[.int .i64 0,.slice none 0 0,.slice none 0 0] 169)).alloc (.cells #[.int .i64 kind,.slice none 0 0,.slice none 0 0] 169):=by
 generalize hu:(w.alloc o).alloc (.cells #[.int .i64 0,.slice none 0 0,.slice none 0 0] 169)=u
 have z:w.heap.size+1+1=u.heap.size:=by rw [← hu];simp
 rw [z]
 refine⟨⟨bC u _ _ 0,bC u _ _ 1,bC u _ _ 2⟩,fun i=>World.frozen?_alloc_new _ _ _ _,?_⟩
 rw [World.setCell_alloc_at (hn:=rfl),World.setCell_alloc_at (hn:=rfl),World.setCell_alloc_at (hn:=rfl)]
 rfl
set_option maxRecDepth 20000 in
set_option maxHeartbeats 3200000 in
theorem oU (base kind:Int) (bd od cd b2 o2 cf n:Nat) (ds:List Int) (fs:List Nat) (w:World) (hd:VSrc w (some ⟨bd,od,none⟩) bd od n (xV ds)) (hf:VSrc w (some ⟨b2,o2,none⟩) b2 o2 n (yV fs)) (hl:ds.length=n) (hl2:fs.length=n) (hn:1≤n) (hn':n≤255) :
  Calls Tryz.prog 102 #[.agg #[.int .i64 base,.int .i64 kind,.slice (some ⟨bd,od,none⟩) n cd,.slice (some ⟨b2,o2,none⟩) n cf]] w fun e w'=>∃ gx cx gy cy,e=.returned (.agg #[.int .i64 kind,.slice (some ⟨gx,0,none⟩) (1+n) cx,.slice (some ⟨gy,0,none⟩) (1+n) cy])∧w'.ownsRow w.heap.size 3 1 (.slice (some ⟨gx,0,none⟩) (1+n) cx) (1+n) ((base::ds).map kV)∧w'.ownsRow w.heap.size 57 1 (.slice (some ⟨gy,0,none⟩) (1+n) cy) (1+n) ((4607182418800017408::fs).map uV)∧Below w.heap.size w w':=by
 obtain⟨vX,hvX⟩:∃ v:Value,v=.slice none 0 0:=⟨_,rfl⟩
 obtain⟨vY,hvY⟩:∃ v:Value,v=.slice none 0 0:=⟨_,rfl⟩
 have HT0:=Im w base kind (.slice (some ⟨bd,od,none⟩) n cd) (.slice (some ⟨b2,o2,none⟩) n cf)
 obtain⟨⟨y0,y1,y2⟩,yf,ye⟩:=In w kind (.cells #[.int .i64 base,.int .i64 kind,.slice (some ⟨bd,od,none⟩) n cd,.slice (some ⟨b2,o2,none⟩) n cf] 64)
 rw [← ye] at HT0
 obtain⟨w2,hw2⟩:∃ w2,((w.alloc (.cells #[.int .i64 base,.int .i64 kind,.slice (some ⟨bd,od,none⟩) n cd,.slice (some ⟨b2,o2,none⟩) n cf] 64)).alloc (.cells #[.int .i64 0,.slice none 0 0,.slice none 0 0] 169)).alloc (.cells #[.int .i64 0,.slice none 0 0,.slice none 0 0] 169)=w2:=⟨_,rfl⟩
 rw [hw2] at HT0 y0 y1 y2 yf
 obtain⟨w3,hw3⟩:∃ w3,((w2.setCell ⟨w.heap.size+1+1,0,none⟩ (.int .i64 kind)).setCell ⟨w.heap.size+1+1,1,none⟩ (.slice none 0 0)).setCell ⟨w.heap.size+1+1,2,none⟩ (.slice none 0 0)=w3:=⟨_,rfl⟩
 rw [hw3] at HT0
 have yf0:=yf 0
 have yf1:=yf 1
 have yf2:=yf 2
 clear yf ye
 have HT:Hid (TabC w base kind (.slice (some ⟨bd,od,none⟩) n cd) (.slice (some ⟨b2,o2,none⟩) n cf) vX vY w3):=by show TabC _ _ _ _ _ _ _ _;rw [hvX,hvY];exact HT0
 have HX0:Hid (∀ wx:World,wx.ownsRow (w.heap.size+3) 3 1 vX 0 (([]:List Int).map kV)):=fun wx=>by rw [hvX];exact Cc wx _
 have HY0:Hid (∀ (wx:World) (B:Nat),wx.ownsRow B 57 1 vY 0 (([]:List Nat).map uV)):=fun wx B=>by rw [hvY];exact tV wx _
 have HD:=hideS hd
 have HF:=hideS hf
 have HL:=hideS hl
 have HL2:=hideS hl2
 clear HT0 hvX hvY hd hf hl hl2
 have p0:∀ o,((w.alloc (.cells #[.int .i64 base,.int .i64 kind,.slice (some ⟨bd,od,none⟩) n cd,.slice (some ⟨b2,o2,none⟩) n cf] 64)).alloc o).cell? ⟨w.heap.size,1,none⟩=some (.int .i64 kind):=fun o=>sw w _ _ o 1
 have t0:=HT.out.t0
 have o1:=HT.out.o1
 have HT3:Hid (∀ o,TabC w base kind (.slice (some ⟨bd,od,none⟩) n cd) (.slice (some ⟨b2,o2,none⟩) n cf) vX vY (w3.alloc o)):=fun o=>HT.out.stay ((Below.refl _ _).alloc HT.out.sz o)
 have o1a:=(HT3.out (.cells #[.int .i64 base] 3)).o1
 have HS3a:Hid (w.heap.size+3≤(w3.alloc (.cells #[.int .i64 base] 3)).heap.size):=(HT3.out _).sz
 go_enter Tryz.func102,Tryz.ntmps102
 go_wp2_with (first
  | (at_builtin;(refine fM _ rfl (.tmp 8) (.tmp 11) rfl (w.heap.size+3) vX 0 [] rfl (HX0.out _) w3.heap.size 0 1 1 [base] rfl rfl (eX w3 base _) (by omega) (by omega) HS3a.out ?_;intro v4 w4 ho4 hg4;obtain⟨g4,c4,rfl,hs4,hb4,_,_⟩:=cj (xs:=[base]) ho4 rfl (by omega);have HT4:=hideS ((HT3.out _).stay (aG (HX0.out _) hg4 HS3a.out));have q1:=HT4.out.o1;have q2:=HT4.out.f1;obtain⟨w5,hw5⟩:∃ w5,w4.setCell ⟨w.heap.size+2,1,none⟩ (.slice (some ⟨g4,0,none⟩) 1 c4)=w5:=⟨_,rfl⟩;have HT5:Hid (TabC w base kind (.slice (some ⟨bd,od,none⟩) n cd) (.slice (some ⟨b2,o2,none⟩) n cf) (.slice (some ⟨g4,0,none⟩) 1 c4) vY w5):=(by rw [← hw5];exact HT4.out.putX _);have HX5:Hid (w5.ownsRow (w.heap.size+3) 3 1 (.slice (some ⟨g4,0,none⟩) 1 c4) 1 ([base].map kV)):=(by rw [← hw5];exact an ho4 (by omega) _);have HD5:=hideS (HD.out.below HT5.out.bl);have q3:=HT5.out.o1;have q4:=HT5.out.t2;clear ho4 hg4 hs4 hb4))
  | (at_builtin;(refine fM _ rfl (.tmp 15) (.tmp 17) rfl (w.heap.size+3) (.slice (some ⟨g4,0,none⟩) 1 c4) 1 [base] rfl HX5.out bd od cd n ds rfl HL.out HD5.out.cell (by omega) (by omega) HT5.out.sz ?_;intro v6 w6 ho6 hg6;obtain⟨g6,c6,rfl,hs6,hb6,_,_⟩:=cj (xs:=base::ds) ho6 (by rw [List.length_cons,HL.out];omega) (by omega);have HT6:=hideS (HT5.out.stay (aG HX5.out hg6 HT5.out.sz));have r1:=HT6.out.o1;have r2:=HT6.out.f1;obtain⟨w7,hw7⟩:∃ w7,w6.setCell ⟨w.heap.size+2,1,none⟩ (.slice (some ⟨g6,0,none⟩) (1+n) c6)=w7:=⟨_,rfl⟩;have HT7:Hid (TabC w base kind (.slice (some ⟨bd,od,none⟩) n cd) (.slice (some ⟨b2,o2,none⟩) n cf) (.slice (some ⟨g6,0,none⟩) (1+n) c6) vY w7):=(by rw [← hw7];exact HT6.out.putX _);have HX7:Hid (w7.ownsRow (w.heap.size+3) 3 1 (.slice (some ⟨g6,0,none⟩) (1+n) c6) (1+n) ((base::ds).map kV)):=(by rw [← hw7];exact an ho6 (by omega) _);have HG7:Hid (g6<w7.heap.size):=(by rw [← hw7,World.size_setCell];exact hs6.lt (by omega));have HT7a:Hid (∀ o,TabC w base kind (.slice (some ⟨bd,od,none⟩) n cd) (.slice (some ⟨b2,o2,none⟩) n cf) (.slice (some ⟨g6,0,none⟩) (1+n) c6) vY (w7.alloc o)):=(fun o=>HT7.out.stay ((Below.refl _ _).alloc HT7.out.sz o));have HS7:Hid (w7.heap.size≤(w7.alloc (.cells #[.int .u64 4607182418800017408] 57)).heap.size):=((Below.refl _ w7).alloc (Nat.le_refl _) _).size;have r3:=HT7.out.o2;have r4:=(HT7a.out (.cells #[.int .u64 4607182418800017408] 57)).o2;clear ho6 hg6 hs6 hb6))
  | (at_builtin;(refine du _ rfl (.tmp 21) (.tmp 22) rfl w7.heap.size vY 0 [] rfl (HY0.out _ _) w7.heap.size 0 1 1 [4607182418800017408] rfl rfl (vQ w7 4607182418800017408 _) (by omega) (by omega) HS7.out ?_;intro v8 w8 ho8 hg8;obtain⟨p8,g8,c8,rfl,hs8,hb8,_,_⟩:=bY (xs:=[4607182418800017408]) ho8 rfl;obtain rfl:=hs8.at_ (by decide);have B8:=aG (HY0.out _ _) hg8 HS7.out;have HT8:=hideS ((HT7a.out _).stay (B8.mono HT7.out.sz));have HX8:=hideS (aY HX7.out (((Below.refl _ w7).alloc (Nat.le_refl _) _).trans B8));have u1:=HT8.out.o2;have u2:=HT8.out.f2;obtain⟨w9,hw9⟩:∃ w9,w8.setCell ⟨w.heap.size+2,2,none⟩ (.slice (some ⟨g8,0,none⟩) 1 c8)=w9:=⟨_,rfl⟩;have HT9:Hid (TabC w base kind (.slice (some ⟨bd,od,none⟩) n cd) (.slice (some ⟨b2,o2,none⟩) n cf) (.slice (some ⟨g6,0,none⟩) (1+n) c6) (.slice (some ⟨g8,0,none⟩) 1 c8) w9):=(by rw [← hw9];exact HT8.out.putY _);have HX9:Hid (w9.ownsRow (w.heap.size+3) 3 1 (.slice (some ⟨g6,0,none⟩) (1+n) c6) (1+n) ((base::ds).map kV)):=(by rw [← hw9];exact an HX8.out (by omega) _);have HY9:Hid (w9.ownsRow w7.heap.size 57 1 (.slice (some ⟨g8,0,none⟩) 1 c8) 1 ([4607182418800017408].map uV)):=(by rw [← hw9];exact an ho8 (by have:=HT7.out.sz;omega) _);have HS9:Hid (w7.heap.size≤w9.heap.size):=(by show w7.heap.size≤w9.heap.size;rw [← hw9,World.size_setCell];have:=B8.size;have:=HS7.out;omega);have HF9:=hideS (HF.out.below HT9.out.bl);have u3:=HT9.out.o2;have u4:=HT9.out.t3;clear ho8 hg8 hs8 hb8 B8))
  | (at_builtin;(refine du _ rfl (.tmp 26) (.tmp 28) rfl w7.heap.size (.slice (some ⟨g8,0,none⟩) 1 c8) 1 [4607182418800017408] rfl HY9.out b2 o2 cf n fs rfl HL2.out HF9.out.cell (by omega) (by omega) HS9.out ?_;intro v10 w10 ho10 hg10;obtain⟨p10,g10,c10,rfl,hs10,hb10,_,_⟩:=bY (xs:=4607182418800017408::fs) ho10 (by rw [List.length_cons,HL2.out];omega);obtain rfl:=hs10.at_ (by rw [List.length_cons];omega);have B10:=aG HY9.out hg10 HS9.out;have HT10:=hideS (HT9.out.stay (B10.mono HT7.out.sz));have HX10:=hideS (Cd HX9.out B10 HG7.out);have s1:=HT10.out.o2;have s2:=HT10.out.f2;obtain⟨w11,hw11⟩:∃ w11,w10.setCell ⟨w.heap.size+2,2,none⟩ (.slice (some ⟨g10,0,none⟩) (1+n) c10)=w11:=⟨_,rfl⟩;have HT11:Hid (TabC w base kind (.slice (some ⟨bd,od,none⟩) n cd) (.slice (some ⟨b2,o2,none⟩) n cf) (.slice (some ⟨g6,0,none⟩) (1+n) c6) (.slice (some ⟨g10,0,none⟩) (1+n) c10) w11):=(by rw [← hw11];exact HT10.out.putY _);have HX11:Hid (w11.ownsRow (w.heap.size+3) 3 1 (.slice (some ⟨g6,0,none⟩) (1+n) c6) (1+n) ((base::ds).map kV)):=(by rw [← hw11];exact an HX10.out (by omega) _);have HY11:Hid (w11.ownsRow (w.heap.size+3) 57 1 (.slice (some ⟨g10,0,none⟩) (1+n) c10) (1+n) ((4607182418800017408::fs).map uV)):=(by rw [← hw11];exact cw (an ho10 (by have:=HT7.out.sz;omega) _) HT7.out.sz);obtain⟨_,_,_,_,d0,d1,d2,e0,e1,e2,o0,o1',o2',_,_,_,_⟩:=HT11.out;clear ho10 hg10 hs10 hb10 B10)))
 have hs:∀ j,w.heap.size≤(⟨w.heap.size+1,j,none⟩:Addr).block:=fun j=>by show w.heap.size≤w.heap.size+1;omega
 refine bodyPost_ret (v:=.agg #[.int .i64 kind,.slice (some ⟨g6,0,none⟩) (1+n) c6,.slice (some ⟨g10,0,none⟩) (1+n) c10]) (by simp [results,Tryz.results102,go_sem,d0,d1,d2]) rfl ?_
 have hbl:Below w.heap.size w (((w11.setCell ⟨w.heap.size+1,0,none⟩ (.int .i64 kind)).setCell ⟨w.heap.size+1,1,none⟩ (.slice (some ⟨g6,0,none⟩) (1+n) c6)).setCell ⟨w.heap.size+1,2,none⟩ (.slice (some ⟨g10,0,none⟩) (1+n) c10)):=((HT11.out.bl.setCell (hs 0) _).setCell (hs 1) _).setCell (hs 2) _
 exact⟨g6,c6,g10,c10,rfl,cw (an (an (an HX11.out (by omega) _) (by omega) _) (by omega) _) (by omega),cw (an (an (an HY11.out (by omega) _) (by omega) _) (by omega) _) (by omega),hbl⟩
end Go.Proofs.YtjjlnmihkadlmaaGreat
namespace Go.Proofs.YtjjlnmihkadlmaaGreat
open Go.RowKit

def qE (ds:List Int) (E:Int):Int:=if E=0 then ds.getD (ds.length - 1) 0 else 0
set_option maxRecDepth 20000 in
set_option maxHeartbeats 800000 in
theorem oY (base kind E:Int) (vd vf:Value) (w:World) (hE:E≠0) (HC:Hid (∀ wx,Below w.heap.size w wx→Calls Tryz.prog 56 #[.agg #[.int .i64 base,.int .i64 kind,vd,vf]] wx fun e w'=>e=.returned (.int .i64 E)∧Below wx.heap.size wx w')) :
  Calls Tryz.prog 62 #[.agg #[.int .i64 base,.int .i64 kind,vd,vf]] w fun e w'=>e=.returned (.tuple #[.int .i64 0,.int .i64 E])∧Below w.heap.size w w':=by
 have HB:=hideS (eV w base kind vd vf)
 have d1:(E !=0)=true:=bne_iff_ne.2 hE
 clear hE
 go_enter Tryz.func62,Tryz.ntmps62
 go_wp2_with (go_at_call 56;refine (HC.out _ HB.out.bl).mono ?_;rintro e w2 ⟨rfl,hb2⟩;have HB2:=hideS (HB.out.step hb2);clear hb2)
 go_ret2
 exact⟨rfl,HB2.out.bl⟩
set_option maxRecDepth 20000 in
set_option maxHeartbeats 800000 in
theorem sD (base kind:Int) (pd:Option Addr) (bd od cd n:Nat) (ds:List Int) (vf:Value) (w:World) (hX:VSrc w pd bd od n (xV ds)) (hn:1≤n) (hn':n≤255) (HC:Hid (∀ wx,Below w.heap.size w wx→Calls Tryz.prog 56 #[.agg #[.int .i64 base,.int .i64 kind,.slice pd n cd,vf]] wx fun e w'=>e=.returned (.int .i64 0)∧Below wx.heap.size wx w')) :
  Calls Tryz.prog 62 #[.agg #[.int .i64 base,.int .i64 kind,.slice pd n cd,vf]] w fun e w'=>e=.returned (.tuple #[.int .i64 (ds.getD (n - 1) 0),.int .i64 0])∧Below w.heap.size w w':=by
 have HB:=hideS (eV w base kind (.slice pd n cd) vf)
 have HX:=hideS hX
 obtain rfl:=hX.at_ (by omega)
 obtain⟨j,rfl⟩:∃ j,n=j+1:=⟨n - 1,by omega⟩
 rw [Nat.add_sub_cancel]
 have hj1:((j+1:Nat):Int) - 1=(j:Int):=by omega
 have hj2:j<j+1:=by omega
 clear hX
 go_enter Tryz.func62,Tryz.ntmps62
 go_wp2_with (go_at_call 56;refine (HC.out _ HB.out.bl).mono ?_;rintro e w2 ⟨rfl,hb2⟩;have HB2:=hideS (HB.out.step hb2);have q2:=HB2.out.t2;have hc:w2.cell? ⟨bd,od+j,none⟩=some (.int .i64 (ds.getD j 0)):=(HX.out.below HB2.out.bl).cell j (by omega);clear hb2)
 go_ret2
 exact⟨rfl,HB2.out.bl⟩
theorem oZ (base kind:Int) (pd pf:Option Addr) (bd od cd b2 o2 cf:Nat) (ds:List Int) (fs:List Nat) (w:World) (hS:CSrcD w pd pf bd od b2 o2 ds fs) {E:Int} (hE:CurR base kind ds fs E) :
  Calls Tryz.prog 62 #[.agg #[.int .i64 base,.int .i64 kind,.slice pd ds.length cd,.slice pf fs.length cf]] w fun e w'=>e=.returned (.tuple #[.int .i64 (qE ds E),.int .i64 E])∧Below w.heap.size w w':=by
 have HC:Hid (∀ wx,Below w.heap.size w wx→Calls Tryz.prog 56 #[.agg #[.int .i64 base,.int .i64 kind,.slice pd ds.length cd,.slice pf fs.length cf]] wx fun e w'=>e=.returned (.int .i64 E)∧Below wx.heap.size wx w'):=fun wx hb=>eG base kind pd pf bd od cd b2 o2 cf ds fs wx (hS.below hb) hE
 unfold qE
 by_cases h:E=0
 ·subst h
  have hk:=eU hE
  rw [if_pos rfl]
  exact sD base kind pd bd od cd ds.length ds _ w hS.d hk.lo hk.hi HC
 ·rw [if_neg h]
  exact oY base kind E _ _ w h HC
end Go.Proofs.YtjjlnmihkadlmaaGreat
