/-  -/
import Derived.Test.YtjjlnmihkadlmaaGreatHar
import Derived.Test.YtjjlnmihkadlmaaGreatHat
import Derived.Deep.RegionLaw
import Derived.Test.YtjjlnmihkadlmaaGreatHas
import Derived.Laws.AppendOwnNone
import Derived.OwnWalk
namespace Go.Proofs.YtjjlnmihkadlmaaGreat
open Go.RowKit

theorem mO {ops:Array Oper} {o:Oper} {a:Act} {w:World} {K:Act→World→Prop} {Q:Exit→Act→World→Prop} {E:Prop} (hgd:o.guard=none) (s x:Operand)
  (ho:o.op=.call { callee:=.builtin .append,args:=#[s,x],argTypes:=#[30,30] })
  (base:Nat) (v:Value) (n:Nat) (xs:List Nat) (hs:a.eval s=v) (hown:w.ownsRow base 57 1 v n (xs.map uV))
  (g:Nat) (z:Nat) (hx:a.eval x=.slice (some ⟨g,0,none⟩) 1 1) (hc:w.cell? ⟨g,0,none⟩=some (.int .u64 (z:Int))) (hn:n≤17592186044415) (hbase:base≤w.heap.size)
  (h:∀ v' w',w'.ownsRow base 57 1 v' (n+1) ((xs++[z]).map uV)→w.grownBy w' v.ownBlock→K (a.put o.dst v') w') :
  if Region.wanted o (yielded ops a.tmps)=true then Oper.wp Tryz.prog o a w K Q else E:=by
 have hw:Region.wanted o (yielded ops a.tmps)=true:=by simp [Region.wanted,hgd]
 rw [if_pos hw]
 obtain⟨i0,hi,hz0,hz1,hz2⟩:=info_parts xe
 refine wp_append_own w s x 30 ho base 57 i0 (.int .u64 0) 1 8 Tryz.underlying30 hi hz0 hz1 hz2 rfl (by decide) v n (xs.map uV) hs hown ⟨g,0,none⟩ 1 1 [uV z] hx rfl ?_ (fun u hu=>by rw [List.mem_singleton] at hu;rw [hu];rfl) (by unfold maxLen;omega) (by omega) hbase ?_
 ·intro j u hj
  cases j with
  | zero=>
   have:uV z=u:=Option.some.inj hj
   rw [← this,Addr.add_lit]
   exact hc
  | succ j=>cases hj
 ·intro v' w' h1 h2 _
  refine h v' w' ?_ h2
  rw [List.map_append];exact h1
def Iy (ys:List Nat) (j:Nat):Value:=.float .f64 (ys.getD j 0)
structure OfB (w:World) (kind:Int) (vx vf vo:Value) (wr:World):Prop where
 t0:wr.cell? ⟨w.heap.size,0,none⟩=some (.int .i64 kind)
 t1:wr.cell? ⟨w.heap.size,1,none⟩=some vx
 t2:wr.cell? ⟨w.heap.size,2,none⟩=some vf
 d0:wr.cell? ⟨w.heap.size+1,0,none⟩=some (.int .i64 0)
 d1:wr.cell? ⟨w.heap.size+1,1,none⟩=some (.slice none 0 0)
 d2:wr.cell? ⟨w.heap.size+1,2,none⟩=some (.slice none 0 0)
 e0:wr.frozen? ⟨w.heap.size+1,0,none⟩=false
 e1:wr.frozen? ⟨w.heap.size+1,1,none⟩=false
 e2:wr.frozen? ⟨w.heap.size+1,2,none⟩=false
 o0:wr.cell? ⟨w.heap.size+2,0,none⟩=some (.int .i64 kind)
 o1:wr.cell? ⟨w.heap.size+2,1,none⟩=some vx
 o2:wr.cell? ⟨w.heap.size+2,2,none⟩=some vo
 f2:wr.frozen? ⟨w.heap.size+2,2,none⟩=false
 bl:Below w.heap.size w wr
 sz:w.heap.size+3≤wr.heap.size
theorem OfB.stay {w wr w':World} {kind:Int} {vx vf vo:Value} (h:OfB w kind vx vf vo wr) (hb:Below (w.heap.size+3) wr w'):OfB w kind vx vf vo w':=by
 have c:∀ k<3,∀ j,w'.cell? ⟨w.heap.size+k,j,none⟩=wr.cell? ⟨w.heap.size+k,j,none⟩:=fun k hk j=>hb.cell (p:=⟨w.heap.size+k,j,none⟩) (by show w.heap.size+k<_;omega)
 have g:∀ k<3,∀ j,w'.frozen? ⟨w.heap.size+k,j,none⟩=wr.frozen? ⟨w.heap.size+k,j,none⟩:=fun k hk j=>hb.frozen (p:=⟨w.heap.size+k,j,none⟩) (by show w.heap.size+k<_;omega)
 exact⟨(c 0 (by omega) 0).trans h.t0,(c 0 (by omega) 1).trans h.t1,(c 0 (by omega) 2).trans h.t2,(c 1 (by omega) 0).trans h.d0,(c 1 (by omega) 1).trans h.d1,(c 1 (by omega) 2).trans h.d2,(g 1 (by omega) 0).trans h.e0,(g 1 (by omega) 1).trans h.e1,(g 1 (by omega) 2).trans h.e2,(c 2 (by omega) 0).trans h.o0,(c 2 (by omega) 1).trans h.o1,(c 2 (by omega) 2).trans h.o2,(g 2 (by omega) 2).trans h.f2,h.bl.trans (hb.mono (by omega)),Nat.le_trans h.sz hb.size⟩
theorem dj (W:World) (cs:Array Value) (t:TypeId) (k:Nat):(W.alloc (.cells cs t)).cell? ⟨W.heap.size,k,none⟩=cs[k]? :=by simp
theorem gr {w:World} {base n b j:Nat} {v:Value} {xs:List Nat} (h:w.ownsRow base 57 1 v n (xs.map uV)) (hb:b<base) (x:Value):(w.setCell ⟨b,j,none⟩ x).ownsRow base 57 1 v n (xs.map uV):=by
 refine⟨h.1,?_⟩
 rcases h.2 with hn | ⟨g,cap,cur,rfl,hg,hgg,rest⟩
 ·exact .inl hn
 ·exact .inr ⟨g,cap,cur,rfl,hg,by rw [Below.heap_setCell w ⟨b,j,none⟩ x g (by show g≠b;omega)];exact hgg,rest⟩
theorem tK {w:World} {base base' n:Nat} {v:Value} {xs:List Value} (h:w.ownsRow base 57 1 v n xs) (hb:base'≤base):w.ownsRow base' 57 1 v n xs:=by
 refine⟨h.1,?_⟩
 rcases h.2 with hn | ⟨g,cap,cur,e,hg,rest⟩
 ·exact .inl hn
 ·exact .inr ⟨g,cap,cur,e,Nat.le_trans hb hg,rest⟩
theorem wh (w:World) (cs:Array Value) (t:TypeId) (o:Obj) (j:Nat):((w.alloc (.cells cs t)).alloc o).cell? ⟨w.heap.size,j,none⟩=cs[j]? :=
 (((Below.refl _ (w.alloc (.cells cs t))).alloc (Nat.le_refl _) o).cell (p:=⟨w.heap.size,j,none⟩) (by show w.heap.size<_;simp)).trans (dj w cs t j)
end Go.Proofs.YtjjlnmihkadlmaaGreat
namespace Go.Proofs.YtjjlnmihkadlmaaGreat
open Go.RowKit

structure OfC (w:World) (base kind:Int) (vd vf vo:Value) (wr:World):Prop where
 t0:wr.cell? ⟨w.heap.size,0,none⟩=some (.int .i64 base)
 t1:wr.cell? ⟨w.heap.size,1,none⟩=some (.int .i64 kind)
 t2:wr.cell? ⟨w.heap.size,2,none⟩=some vd
 t3:wr.cell? ⟨w.heap.size,3,none⟩=some vf
 d0:wr.cell? ⟨w.heap.size+1,0,none⟩=some (.int .i64 0)
 d1:wr.cell? ⟨w.heap.size+1,1,none⟩=some (.int .i64 0)
 d2:wr.cell? ⟨w.heap.size+1,2,none⟩=some (.slice none 0 0)
 d3:wr.cell? ⟨w.heap.size+1,3,none⟩=some (.slice none 0 0)
 e0:wr.frozen? ⟨w.heap.size+1,0,none⟩=false
 e1:wr.frozen? ⟨w.heap.size+1,1,none⟩=false
 e2:wr.frozen? ⟨w.heap.size+1,2,none⟩=false
 e3:wr.frozen? ⟨w.heap.size+1,3,none⟩=false
 o0:wr.cell? ⟨w.heap.size+2,0,none⟩=some (.int .i64 base)
 o1:wr.cell? ⟨w.heap.size+2,1,none⟩=some (.int .i64 kind)
 o2:wr.cell? ⟨w.heap.size+2,2,none⟩=some vd
 o3:wr.cell? ⟨w.heap.size+2,3,none⟩=some vo
 f3:wr.frozen? ⟨w.heap.size+2,3,none⟩=false
 bl:Below w.heap.size w wr
 sz:w.heap.size+3≤wr.heap.size
theorem OfC.stay {w wr w':World} {base kind:Int} {vd vf vo:Value} (h:OfC w base kind vd vf vo wr) (hb:Below (w.heap.size+3) wr w'):OfC w base kind vd vf vo w':=by
 have c:∀ k<3,∀ j,w'.cell? ⟨w.heap.size+k,j,none⟩=wr.cell? ⟨w.heap.size+k,j,none⟩:=fun k hk j=>hb.cell (p:=⟨w.heap.size+k,j,none⟩) (by show w.heap.size+k<_;omega)
 have g:∀ k<3,∀ j,w'.frozen? ⟨w.heap.size+k,j,none⟩=wr.frozen? ⟨w.heap.size+k,j,none⟩:=fun k hk j=>hb.frozen (p:=⟨w.heap.size+k,j,none⟩) (by show w.heap.size+k<_;omega)
 exact⟨(c 0 (by omega) 0).trans h.t0,(c 0 (by omega) 1).trans h.t1,(c 0 (by omega) 2).trans h.t2,(c 0 (by omega) 3).trans h.t3,(c 1 (by omega) 0).trans h.d0,(c 1 (by omega) 1).trans h.d1,(c 1 (by omega) 2).trans h.d2,(c 1 (by omega) 3).trans h.d3,(g 1 (by omega) 0).trans h.e0,(g 1 (by omega) 1).trans h.e1,(g 1 (by omega) 2).trans h.e2,(g 1 (by omega) 3).trans h.e3,(c 2 (by omega) 0).trans h.o0,(c 2 (by omega) 1).trans h.o1,(c 2 (by omega) 2).trans h.o2,(c 2 (by omega) 3).trans h.o3,(g 2 (by omega) 3).trans h.f3,h.bl.trans (hb.mono (by omega)),Nat.le_trans h.sz hb.size⟩
theorem OfC.put {w wr:World} {base kind:Int} {vd vf vo:Value} (h:OfC w base kind vd vf vo wr) (v:Value):OfC w base kind vd vf v (wr.setCell ⟨w.heap.size+2,3,none⟩ v):=by
 have hb:Below (w.heap.size+2) wr (wr.setCell ⟨w.heap.size+2,3,none⟩ v):=(Below.refl _ wr).setCell (p:=⟨w.heap.size+2,3,none⟩) (Nat.le_refl _) v
 have c:∀ k<2,∀ j,(wr.setCell ⟨w.heap.size+2,3,none⟩ v).cell? ⟨w.heap.size+k,j,none⟩=wr.cell? ⟨w.heap.size+k,j,none⟩:=fun k hk j=>hb.cell (p:=⟨w.heap.size+k,j,none⟩) (by show w.heap.size+k<_;omega)
 have g:∀ k<2,∀ j,(wr.setCell ⟨w.heap.size+2,3,none⟩ v).frozen? ⟨w.heap.size+k,j,none⟩=wr.frozen? ⟨w.heap.size+k,j,none⟩:=fun k hk j=>hb.frozen (p:=⟨w.heap.size+k,j,none⟩) (by show w.heap.size+k<_;omega)
 refine⟨(c 0 (by omega) 0).trans h.t0,(c 0 (by omega) 1).trans h.t1,(c 0 (by omega) 2).trans h.t2,(c 0 (by omega) 3).trans h.t3,(c 1 (by omega) 0).trans h.d0,(c 1 (by omega) 1).trans h.d1,(c 1 (by omega) 2).trans h.d2,(c 1 (by omega) 3).trans h.d3,(g 1 (by omega) 0).trans h.e0,(g 1 (by omega) 1).trans h.e1,(g 1 (by omega) 2).trans h.e2,(g 1 (by omega) 3).trans h.e3,?_,?_,?_,?_,?_,h.bl.setCell (p:=⟨w.heap.size+2,3,none⟩) (by show w.heap.size≤w.heap.size+2;omega) v,by simpa using h.sz⟩
 ·simp [h.o0,go_sem]
 ·simp [h.o1,go_sem]
 ·simp [h.o2,go_sem]
 ·simp [h.o3,go_sem]
 ·simp [h.f3,go_sem]
theorem GM (w:World) (base kind:Int) (vd vf:Value):OfC w base kind vd vf (.slice none 0 0) (((w.alloc (.cells #[.int .i64 base,.int .i64 kind,vd,vf] 43)).alloc (.cells #[.int .i64 0,.int .i64 0,.slice none 0 0,.slice none 0 0] 64)).alloc (.cells #[.int .i64 base,.int .i64 kind,vd,.slice none 0 0] 64)):=by
 have hA:∀ (w:World) o,Below w.heap.size w (w.alloc o):=fun w o=>(Below.refl _ _).alloc (Nat.le_refl _) _
 generalize hw1:w.alloc (.cells #[.int .i64 base,.int .i64 kind,vd,vf] 43)=w1
 have z1:w1.heap.size=w.heap.size+1:=by rw [← hw1];simp
 generalize hw2:w1.alloc (.cells #[.int .i64 0,.int .i64 0,.slice none 0 0,.slice none 0 0] 64)=w2
 have z2:w2.heap.size=w.heap.size+2:=by rw [← hw2];simp [z1]
 have c1:∀ j,w1.cell? ⟨w.heap.size,j,none⟩=(#[.int .i64 base,.int .i64 kind,vd,vf]:Array Value)[j]? :=fun j=>by rw [← hw1];exact dj w _ _ j
 have c2:∀ j,w2.cell? ⟨w.heap.size+1,j,none⟩=(#[.int .i64 0,.int .i64 0,.slice none 0 0,.slice none 0 0]:Array Value)[j]? :=fun j=>by rw [← hw2,← z1];exact dj w1 _ _ j
 have c3:∀ j,(w2.alloc (.cells #[.int .i64 base,.int .i64 kind,vd,.slice none 0 0] 64)).cell? ⟨w.heap.size+2,j,none⟩=(#[.int .i64 base,.int .i64 kind,vd,.slice none 0 0]:Array Value)[j]? :=fun j=>by rw [← z2];exact dj w2 _ _ j
 have k2:∀ j,w2.cell? ⟨w.heap.size,j,none⟩=w1.cell? ⟨w.heap.size,j,none⟩:=fun j=>by rw [← hw2];exact (hA w1 _).cell (p:=⟨w.heap.size,j,none⟩) (by show w.heap.size<w1.heap.size;omega)
 have k3:∀ k<2,∀ j o,(w2.alloc o).cell? ⟨w.heap.size+k,j,none⟩=w2.cell? ⟨w.heap.size+k,j,none⟩:=fun k hk j o=>(hA w2 o).cell (p:=⟨w.heap.size+k,j,none⟩) (by show w.heap.size+k<w2.heap.size;omega)
 have g3:∀ j o,(w2.alloc o).frozen? ⟨w.heap.size+1,j,none⟩=false:=fun j o=>by
  rw [(hA w2 o).frozen (p:=⟨w.heap.size+1,j,none⟩) (by show w.heap.size+1<w2.heap.size;omega),← hw2,← z1]
  exact World.frozen?_alloc_new _ _ _ _
 have hb:Below w.heap.size w (w2.alloc (.cells #[.int .i64 base,.int .i64 kind,vd,.slice none 0 0] 64)):=by
  have b1:Below w.heap.size w w1:=by rw [← hw1];exact hA w _
  have b2:Below w.heap.size w w2:=by rw [← hw2];exact b1.alloc b1.size _
  exact b2.alloc b2.size _
 exact⟨((k3 0 (by omega) 0 _).trans (k2 0)).trans (c1 0),((k3 0 (by omega) 1 _).trans (k2 1)).trans (c1 1),((k3 0 (by omega) 2 _).trans (k2 2)).trans (c1 2),((k3 0 (by omega) 3 _).trans (k2 3)).trans (c1 3),(k3 1 (by omega) 0 _).trans (c2 0),(k3 1 (by omega) 1 _).trans (c2 1),(k3 1 (by omega) 2 _).trans (c2 2),(k3 1 (by omega) 3 _).trans (c2 3),g3 0 _,g3 1 _,g3 2 _,g3 3 _,c3 0,c3 1,c3 2,c3 3,by rw [← z2];exact World.frozen?_alloc_new _ _ _ _,hb,by simp;omega⟩
set_option maxRecDepth 20000 in
set_option maxHeartbeats 3200000 in
theorem gw (base kind:Int) (b2 oy cx cy m n:Nat) (px py:Option Addr) (ys:List Nat) (w:World) (hY:VSrc w py b2 oy n (Iy ys)) (hyl:ys.length=n) (hn:n≤17592186043904) :
  Calls Tryz.prog 23 #[.agg #[.int .i64 base,.int .i64 kind,(.slice px m cx),.slice py n cy]] w fun e w'=>∃ v,e=.returned (.agg #[.int .i64 base,.int .i64 kind,(.slice px m cx),v])∧w'.ownsRow w.heap.size 57 1 v n (ys.map uV)∧Below w.heap.size w w':=by
 have HY:=hideS hY
 have HL:=hideS hyl
 have HB:=hideS (GM w base kind (.slice px m cx) (.slice py n cy))
 have p0:∀ o,((w.alloc (.cells #[.int .i64 base,.int .i64 kind,(.slice px m cx),.slice py n cy] 43)).alloc o).cell? ⟨w.heap.size,0,none⟩=some (.int .i64 base):=fun o=>wh w _ _ o 0
 have p1:∀ o,((w.alloc (.cells #[.int .i64 base,.int .i64 kind,(.slice px m cx),.slice py n cy] 43)).alloc o).cell? ⟨w.heap.size,1,none⟩=some (.int .i64 kind):=fun o=>wh w _ _ o 1
 have p2:∀ o,((w.alloc (.cells #[.int .i64 base,.int .i64 kind,(.slice px m cx),.slice py n cy] 43)).alloc o).cell? ⟨w.heap.size,2,none⟩=some (.slice px m cx):=fun o=>wh w _ _ o 2
 clear hY hyl
 go_enter Tryz.func23,Tryz.ntmps23
 go_wp2_with fail
 go_loopw [4] (fun i wr=>∃ k:Nat,k≤n∧i=.int .i64 k∧Hid (∃ v,wr.ownsRow (w.heap.size+3) 57 1 v k ((ys.take k).map uV)∧OfC w base kind (.slice px m cx) (.slice py n cy) v wr)) (fun i _=>n - (intOf i).toNat)
 case atStart=>exact⟨0,Nat.zero_le _,rfl,_,BG _ _,HB.out⟩
 case round=>
  clear HB
  obtain⟨k,hk,rfl,HH⟩:=hrel
  obtain⟨v,ho,hb⟩:=HH.out
  obtain⟨q0,g0,cc0,rfl,_,_,_,_⟩:=gk ho (by rw [List.length_take,HL.out];omega)
  have HO:=hideS ho
  have HB:=hideS hb
  obtain⟨t0,t1,t2,t3,d0,d1,d2,d3,e0,e1,e2,e3,o0,o1,o2,o3,f3,_,_⟩:=HB.out
  clear ho hb HH
  by_cases hlt:k<n
  ·obtain rfl:=HY.out.at_ (by omega)
   have hcy:wr.cell? ⟨b2,oy+k,none⟩=some (.float .f64 (ys.getD k 0)):=(HB.out.bl.cell (p:=⟨b2,oy+k,none⟩) (HY.out.lt (by omega))).trans (HY.out.cell k hlt)
   have HN:Hid (ys.take (k+1)=ys.take k++[ys.getD k 0]):=by
    show _=_
    rw [List.take_add_one]
    congr 1
    simp [List.getD,List.getElem?_eq_getElem (show k<ys.length by rw [HL.out];exact hlt)]
   generalize ys.getD k 0=y at *
   have HOa:Hid (∀ o,(wr.drew.alloc o).ownsRow (w.heap.size+3) 57 1 (.slice q0 k cc0) k ((ys.take k).map uV)):=fun o=>uX (w:=wr) HO.out ((Below.refl _ wr).drew.alloc (Nat.le_refl _) o)
   have HBa:Hid (∀ o,OfC w base kind (.slice px m cx) (.slice (some ⟨b2,oy,none⟩) n cy) (.slice q0 k cc0) (wr.drew.alloc o)):=fun o=>HB.out.stay ((Below.refl (w.heap.size+3) wr).drew.alloc HB.out.sz o)
   have x2:(wr.alloc (.cells #[.int .u64 (y:Int)] 57)).drew.cell? ⟨w.heap.size+2,3,none⟩=some (.slice q0 k cc0):=(HBa.out _).o3
   have x3:(wr.alloc (.cells #[.int .u64 (y:Int)] 57)).cell? ⟨w.heap.size+2,3,none⟩=some (.slice q0 k cc0):=(HBa.out _).o3
   have g3:(0:Int)≤(k:Int):=by omega
   have g4:(k:Int)<(n:Int):=by omega
   go_wp2_with fail
   go_region_law (first | (go_simp;go_at_call 32;refine (turned (iE _ _)).mono ?_;rintro e wb ⟨rfl,rfl⟩) | (refine mO rfl (.tmp 20) (.tmp 27) rfl (w.heap.size+3) _ k (ys.take k) rfl (HOa.out _) wr.heap.size y rfl (by simp) (by omega) (HBa.out (.cells #[.int .u64 (y:Int)] 57)).sz ?_;intro v6 w6 ho6 hg6;obtain⟨q6,g6,c6,rfl,_,_,_,_⟩:=gk ho6 (by rw [List.length_append,List.length_take,HL.out];simp;omega);have HB6:=hideS ((HBa.out _).stay (pX (HOa.out _) hg6 (HBa.out (.cells #[.int .u64 (y:Int)] 57)).sz));have HO6:=hideS ho6;have c2:=HB6.out.o3;have c3:=HB6.out.f3;clear ho6 hg6))
   all_goals
    go_wp2_with fail
    go_roundw
    case rel=>exact⟨k+1,by omega,by simp,_,by rw [HN.out];exact gr HO6.out (by omega) _,HB6.out.put _⟩
    case measure=>simp [intOf];omega
  ·obtain rfl:k=n:=by omega
   have hge:¬ (k:Int)<(k:Int):=by omega
   have HE:Hid (ys.take k=ys):=by show _=_;exact List.take_of_length_le (by rw [HL.out];omega)
   rw [HE.out] at HO
   have hsz:=HB.out.sz
   go_wp2_with fail
   refine bodyPost_ret (v:=.agg #[.int .i64 base,.int .i64 kind,.slice px m cx,.slice q0 k cc0]) (by simp [results,Tryz.results23,go_sem,d0,d1,d2,d3]) rfl ?_
   have hs:∀ j,w.heap.size≤(⟨w.heap.size+1,j,none⟩:Addr).block:=fun j=>by show w.heap.size≤w.heap.size+1;omega
   have hbl:Below w.heap.size w ((((wr.setCell ⟨w.heap.size+1,0,none⟩ (.int .i64 base)).setCell ⟨w.heap.size+1,1,none⟩ (.int .i64 kind)).setCell ⟨w.heap.size+1,2,none⟩ (.slice px m cx)).setCell ⟨w.heap.size+1,3,none⟩ (.slice q0 k cc0)):=(((HB.out.bl.setCell (hs 0) _).setCell (hs 1) _).setCell (hs 2) _).setCell (hs 3) _
   exact⟨_,rfl,tK (gr (gr (gr (gr HO.out (by omega) _) (by omega) _) (by omega) _) (by omega) _) (by omega),hbl⟩
end Go.Proofs.YtjjlnmihkadlmaaGreat
namespace Go.Proofs.YtjjlnmihkadlmaaGreat
open Go.RowKit

def kV (x:Int):Value:=.int .i64 x
theorem mP:(Tryz.prog.info? 3).map (fun i=>(i.zero,i.size,i.bytes))=some (some (.int .i64 0),1,8):=by kernel_rfl
theorem zU (w:World) {ops:Array Oper} {rest:List Oper} {o:Oper} {a:Act} {Q:Exit→Act→World→Prop} (hgd:o.guard=none) (s x:Operand)
  (ho:o.op=.call { callee:=.builtin .append,args:=#[s,x],argTypes:=#[30,30] })
  (base:Nat) (v:Value) (n:Nat) (xs:List Nat) (hs:a.eval s=v) (hown:w.ownsRow base 57 1 v n (xs.map uV))
  (b off c m:Nat) (ys:List Nat) (hx:a.eval x=.slice (some ⟨b,off,none⟩) m c) (hm:ys.length=m) (hsrc:∀ j<m,w.cell? ⟨b,off+j,none⟩=some (yV ys j)) (hn:n≤100000) (hm2:m≤100000) (hbase:base≤w.heap.size)
  (h:∀ v' w',w'.ownsRow base 57 1 v' (n+m) ((xs++ys).map uV)→w.grownBy w' v.ownBlock→wpList Tryz.prog ops Q rest (a.put o.dst v') w'):wpList Tryz.prog ops Q (o::rest) a w:=by
 obtain⟨i0,hi,hz0,hz1,hz2⟩:=info_parts xe
 refine wpList_append_own w hgd s x 30 ho base 57 i0 (.int .u64 0) 1 8 Tryz.underlying30 hi hz0 hz1 hz2 rfl (by decide) v n (xs.map uV) hs hown ⟨b,off,none⟩ m c (ys.map uV) hx (by rw [List.length_map,hm,Nat.mul_one]) ?_ (fun u hu=>by obtain⟨z,_,rfl⟩:=List.mem_map.1 hu;rfl) (by unfold maxLen;omega) (by omega) hbase ?_
 ·intro j u hj
  have hj1:j<ys.length:=by
   have:=(List.getElem?_eq_some_iff.1 hj).1
   simpa using this
  rw [Addr.add_lit,hsrc j (by omega)]
  rw [List.getElem?_map,List.getElem?_eq_getElem hj1] at hj
  have hu:uV ys[j]=u:=Option.some.inj hj
  rw [← hu]
  show some (Value.int .u64 (ys.getD j 0:Nat))=_
  rw [List.getD_eq_getElem?_getD,List.getElem?_eq_getElem hj1];rfl
 ·intro v' w' h1 h2 _
  refine h v' w' ?_ h2
  rw [List.map_append];exact h1
theorem jY (w:World) {ops:Array Oper} {rest:List Oper} {o:Oper} {a:Act} {Q:Exit→Act→World→Prop} (hgd:o.guard=none) (s x:Operand)
  (ho:o.op=.call { callee:=.builtin .append,args:=#[s,x],argTypes:=#[41,41] })
  (base:Nat) (v:Value) (n:Nat) (xs:List Nat) (hs:a.eval s=v) (hown:w.ownsRow base 54 1 v n (xs.map fV))
  (b off c m:Nat) (ys:List Nat) (hx:a.eval x=.slice (some ⟨b,off,none⟩) m c) (hm:ys.length=m) (hsrc:∀ j<m,w.cell? ⟨b,off+j,none⟩=some (flV ys j)) (hn:n≤100000) (hm2:m≤100000) (hbase:base≤w.heap.size)
  (h:∀ v' w',w'.ownsRow base 54 1 v' (n+m) ((xs++ys).map fV)→w.grownBy w' v.ownBlock→wpList Tryz.prog ops Q rest (a.put o.dst v') w'):wpList Tryz.prog ops Q (o::rest) a w:=by
 obtain⟨i0,hi,hz0,hz1,hz2⟩:=info_parts mF
 refine wpList_append_own w hgd s x 41 ho base 54 i0 (.float .f64 0) 1 8 Tryz.underlying41 hi hz0 hz1 hz2 rfl (by decide) v n (xs.map fV) hs hown ⟨b,off,none⟩ m c (ys.map fV) hx (by rw [List.length_map,hm,Nat.mul_one]) ?_ (fun u hu=>by obtain⟨z,_,rfl⟩:=List.mem_map.1 hu;rfl) (by unfold maxLen;omega) (by omega) hbase ?_
 ·intro j u hj
  have hj1:j<ys.length:=by
   have:=(List.getElem?_eq_some_iff.1 hj).1
   simpa using this
  rw [Addr.add_lit,hsrc j (by omega)]
  rw [List.getElem?_map,List.getElem?_eq_getElem hj1] at hj
  have hu:fV ys[j]=u:=Option.some.inj hj
  rw [← hu]
  show some (Value.float .f64 (ys.getD j 0))=_
  rw [List.getD_eq_getElem?_getD,List.getElem?_eq_getElem hj1];rfl
 ·intro v' w' h1 h2 _
  refine h v' w' ?_ h2
  rw [List.map_append];exact h1
theorem aT {t:TypeId} {w w':World} {base n:Nat} {v:Value} {xs:List Value} (h:w.ownsRow base t 1 v n xs) (hb:Below w.heap.size w w'):w'.ownsRow base t 1 v n xs:=by
 refine⟨h.1,?_⟩
 rcases h.2 with hn | ⟨g,cap,cur,rfl,hg,hgg,rest⟩
 ·exact .inl hn
 ·exact .inr ⟨g,cap,cur,rfl,hg,by rw [hb.block g (Array.getElem?_eq_some_iff.1 hgg).1];exact hgg,rest⟩
theorem bB {t:TypeId} {w w':World} {v:Value} {B n:Nat} {xs:List Value} (ho:w.ownsRow B t 1 v n xs) (hg:w.grownBy w' v.ownBlock) (hB:B≤w.heap.size):Below B w w':=
 (Below.refl B w).grown hg hB (fun k hk=>by
  rcases ho.2 with⟨rfl,_⟩| ⟨g,cap,cur,rfl,hbg,_⟩
  ·cases hk
  ·obtain rfl:g=k:=by simpa [Value.ownBlock] using hk
   exact hbg)
theorem aG {t:TypeId} {w:World} {base n b j:Nat} {v:Value} {xs:List Value} (h:w.ownsRow base t 1 v n xs) (hb:b<base) (x:Value):(w.setCell ⟨b,j,none⟩ x).ownsRow base t 1 v n xs:=by
 refine⟨h.1,?_⟩
 rcases h.2 with hn | ⟨g,cap,cur,rfl,hg,hgg,rest⟩
 ·exact .inl hn
 ·exact .inr ⟨g,cap,cur,rfl,hg,by rw [Below.heap_setCell w ⟨b,j,none⟩ x g (by show g≠b;omega)];exact hgg,rest⟩
theorem gS {t:TypeId} {w:World} {base base' n:Nat} {v:Value} {xs:List Value} (h:w.ownsRow base t 1 v n xs) (hb:base'≤base):w.ownsRow base' t 1 v n xs:=by
 refine⟨h.1,?_⟩
 rcases h.2 with hn | ⟨g,cap,cur,e,hg,rest⟩
 ·exact .inl hn
 ·exact .inr ⟨g,cap,cur,e,Nat.le_trans hb hg,rest⟩
theorem gT (w:World) (x:Int) (t:TypeId):∀ j<1,(w.alloc (.cells #[.int .i64 x] t)).cell? ⟨w.heap.size,0+j,none⟩=some (xV [x] j):=fun j hj=>by
 obtain rfl:j=0:=by omega
 exact dj w _ _ 0
theorem jt (w:World) (x:Nat) (t:TypeId):∀ j<1,(w.alloc (.cells #[.float .f64 x] t)).cell? ⟨w.heap.size,0+j,none⟩=some (flV [x] j):=fun j hj=>by
 obtain rfl:j=0:=by omega
 exact dj w _ _ 0
theorem eX {w:World} {base n:Nat} {v:Value} {xs:List Int} (h:w.ownsRow base 3 1 v n (xs.map kV)) (hn:xs.length=n) (h0:0<n):∃ g c,v=.slice (some ⟨g,0,none⟩) n c∧VSrc w (some ⟨g,0,none⟩) g 0 n (xV xs)∧base≤g∧n≤c∧c≤maxLen:=by
 rcases h.2 with⟨rfl,rfl⟩| ⟨g,cap,cur,rfl,hg,hh,hnc,hcm,hsz,htk⟩
 ·omega
 ·refine⟨g,cap,rfl,⟨fun _=>rfl,fun _=>(Array.getElem?_eq_some_iff.1 hh).1,fun i hi=>?_⟩,hg,hnc,hcm⟩
  rw [Nat.zero_add,World.ownsRow.cellAt h i (by omega),List.getElem?_map]
  show Option.map kV xs[i]? =some (Value.int .i64 (xs.getD i 0))
  rw [List.getD_eq_getElem?_getD,List.getElem?_eq_getElem (by omega)];rfl
theorem dB {w:World} {base n:Nat} {v:Value} {xs:List Nat} (h:w.ownsRow base 54 1 v n (xs.map fV)) (hn:xs.length=n) (h0:0<n):∃ g c,v=.slice (some ⟨g,0,none⟩) n c∧VSrc w (some ⟨g,0,none⟩) g 0 n (flV xs)∧base≤g∧n≤c∧c≤maxLen:=by
 obtain⟨p,g,c,e,hs,a,b,d⟩:=zI h hn
 have hp:=hs.at_ (by omega)
 subst hp
 exact⟨g,c,e,⟨fun _=>rfl,fun _=>hs.lt (by omega),fun j hj=>hs.cell j (by omega)⟩,a,b,d⟩
end Go.Proofs.YtjjlnmihkadlmaaGreat
namespace Go.Proofs.YtjjlnmihkadlmaaGreat
open Go.RowKit

structure TabC (w:World) (base kind:Int) (vd vf vX vY:Value) (wr:World):Prop where
 t0:wr.cell? ⟨w.heap.size,0,none⟩=some (.int .i64 base)
 t1:wr.cell? ⟨w.heap.size,1,none⟩=some (.int .i64 kind)
 t2:wr.cell? ⟨w.heap.size,2,none⟩=some vd
 t3:wr.cell? ⟨w.heap.size,3,none⟩=some vf
 d0:wr.cell? ⟨w.heap.size+1,0,none⟩=some (.int .i64 0)
 d1:wr.cell? ⟨w.heap.size+1,1,none⟩=some (.slice none 0 0)
 d2:wr.cell? ⟨w.heap.size+1,2,none⟩=some (.slice none 0 0)
 e0:wr.frozen? ⟨w.heap.size+1,0,none⟩=false
 e1:wr.frozen? ⟨w.heap.size+1,1,none⟩=false
 e2:wr.frozen? ⟨w.heap.size+1,2,none⟩=false
 o0:wr.cell? ⟨w.heap.size+2,0,none⟩=some (.int .i64 kind)
 o1:wr.cell? ⟨w.heap.size+2,1,none⟩=some vX
 o2:wr.cell? ⟨w.heap.size+2,2,none⟩=some vY
 f1:wr.frozen? ⟨w.heap.size+2,1,none⟩=false
 f2:wr.frozen? ⟨w.heap.size+2,2,none⟩=false
 bl:Below w.heap.size w wr
 sz:w.heap.size+3≤wr.heap.size
theorem TabC.stay {w wr w':World} {base kind:Int} {vd vf vX vY:Value} (h:TabC w base kind vd vf vX vY wr) (hb:Below (w.heap.size+3) wr w'):TabC w base kind vd vf vX vY w':=by
 have c:∀ k<3,∀ j,w'.cell? ⟨w.heap.size+k,j,none⟩=wr.cell? ⟨w.heap.size+k,j,none⟩:=fun k hk j=>hb.cell (p:=⟨w.heap.size+k,j,none⟩) (by show w.heap.size+k<_;omega)
 have g:∀ k<3,∀ j,w'.frozen? ⟨w.heap.size+k,j,none⟩=wr.frozen? ⟨w.heap.size+k,j,none⟩:=fun k hk j=>hb.frozen (p:=⟨w.heap.size+k,j,none⟩) (by show w.heap.size+k<_;omega)
 exact⟨(c 0 (by omega) 0).trans h.t0,(c 0 (by omega) 1).trans h.t1,(c 0 (by omega) 2).trans h.t2,(c 0 (by omega) 3).trans h.t3,(c 1 (by omega) 0).trans h.d0,(c 1 (by omega) 1).trans h.d1,(c 1 (by omega) 2).trans h.d2,(g 1 (by omega) 0).trans h.e0,(g 1 (by omega) 1).trans h.e1,(g 1 (by omega) 2).trans h.e2,(c 2 (by omega) 0).trans h.o0,(c 2 (by omega) 1).trans h.o1,(c 2 (by omega) 2).trans h.o2,(g 2 (by omega) 1).trans h.f1,(g 2 (by omega) 2).trans h.f2,h.bl.trans (hb.mono (by omega)),Nat.le_trans h.sz hb.size⟩
end Go.Proofs.YtjjlnmihkadlmaaGreat
namespace Go.Proofs.YtjjlnmihkadlmaaGreat
open Go.RowKit

end Go.Proofs.YtjjlnmihkadlmaaGreat
namespace Go.Proofs.YtjjlnmihkadlmaaGreat
open Go.RowKit

def Di (ds:List Int) (E:Int):Int:=if E=0 then ds.getD (ds.length - 1) 0 else 0
end Go.Proofs.YtjjlnmihkadlmaaGreat
