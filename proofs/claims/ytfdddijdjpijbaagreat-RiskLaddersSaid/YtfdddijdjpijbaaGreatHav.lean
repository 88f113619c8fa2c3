/-  -/
import Derived.Test.YtfdddijdjpijbaaGreatHar
import Derived.Test.YtfdddijdjpijbaaGreatHau
import Derived.Deep.RegionLaw
import Derived.Test.YtfdddijdjpijbaaGreatHat
import Derived.Laws.AppendOwnNone
import Derived.OwnWalk
import Derived.Test.YtfdddijdjpijbaaGreatHas
set_option maxHeartbeats 3200000
set_option maxRecDepth 20000
namespace Go.Proofs.YtfdddijdjpijbaaGreat
open Go.RowKit
theorem qO {d:Array Oper} {o:Oper} {a:Act} {w:World} {K:Act->World->Prop} {Q:Exit->Act->World->Prop} {E:Prop} (i:o.guard=none) (s x:Operand)
  (D:o.op=.call { callee:=.builtin .append,args:=#[s,x],argTypes:=#[33,33] })
  (base:Nat) (v:Value) (n:Nat) (xs:List Nat) (B:a.eval s=v) (c:w.ownsRow base 41 1 v n (xs.map uV))
  (g:Nat) (z:Nat) (t:a.eval x=.slice (some ⟨g,0,none⟩) 1 1) (hc:w.cell? ⟨g,0,none⟩=some (.int .u64 (z:Int))) (hn:n<=17592186044415) (b:base<=w.heap.size)
  (h:∀ f e,e.ownsRow base 41 1 f (n+1) ((xs++[z]).map uV)->w.grownBy e v.ownBlock->K (a.put o.dst f) e) :
  if Region.wanted o (yielded d a.tmps)=true then Oper.wp Tryz.prog o a w K Q else E:=by
 have y:Region.wanted o (yielded d a.tmps)=true:=by simp [Region.wanted,i]
 rw [if_pos y];obtain⟨C,hi,l,k,m⟩:=info_parts uP;refine wp_append_own w s x 33 D base 41 C (.int .u64 0) 1 8 Tryz.underlying33 hi l k m rfl (by decide) v n (xs.map uV) B c ⟨g,0,none⟩ 1 1 [uV z] t rfl ?_ (fun u q=>by rw [List.mem_singleton] at q;rw [q];rfl) (by unfold maxLen;omega) (by omega) b ?_
 ·intro j u p;cases j with
  | zero=>
   have:uV z=u:=Option.some.inj p;rw [<- this,Addr.add_lit];exact hc
  | succ j=>cases p
 ·intro f e A r _;refine h f e ?_ r
  rw [List.map_append];exact A
def QM (ys:List Nat) (j:Nat):Value:=.float .f64 (ys.getD j 0)
structure OfB (w:World) (kind:Int) (vx vf vo:Value) (wr:World):Prop where
 t0:wr.cell? ⟨w.heap.size,0,none⟩=some (.int .i64 kind)
 t1:wr.cell? ⟨w.heap.size,1,none⟩=some vx
 t2:wr.cell? ⟨w.heap.size,2,none⟩=some vf
 d0:wr.cell? ⟨w.heap.size+1,0,none⟩=some (.int .i64 0)
 d1:wr.cell? ⟨w.heap.size+1,1,none⟩=some (.slice none 0 0)
 d2:wr.cell? ⟨w.heap.size+1,2,none⟩=some (.slice none 0 0)
 e0:wr.frozen? ⟨w.heap.size+1,0,none⟩=false
 e1:wr.frozen? ⟨w.heap.size+1,1,none⟩=false
 e2:wr.frozen? ⟨w.heap.size+1,2,none⟩=false
 o0:wr.cell? ⟨w.heap.size+2,0,none⟩=some (.int .i64 kind)
 o1:wr.cell? ⟨w.heap.size+2,1,none⟩=some vx
 o2:wr.cell? ⟨w.heap.size+2,2,none⟩=some vo
 f2:wr.frozen? ⟨w.heap.size+2,2,none⟩=false
 bl:Below w.heap.size w wr
 sz:w.heap.size+3<=wr.heap.size
theorem OfB.stay {w wr a:World} {kind:Int} {d f e:Value} (h:OfB w kind d f e wr) (b:Below (w.heap.size+3) wr a):OfB w kind d f e a:=by
 have c:∀ k<3,∀ j,a.cell? ⟨w.heap.size+k,j,none⟩=wr.cell? ⟨w.heap.size+k,j,none⟩:=fun k i j=>b.cell (p:=⟨w.heap.size+k,j,none⟩) (by show w.heap.size+k<_;omega)
 have g:∀ k<3,∀ j,a.frozen? ⟨w.heap.size+k,j,none⟩=wr.frozen? ⟨w.heap.size+k,j,none⟩:=fun k i j=>b.frozen (p:=⟨w.heap.size+k,j,none⟩) (by show w.heap.size+k<_;omega)
 exact⟨(c 0 (by omega) 0).trans h.t0,(c 0 (by omega) 1).trans h.t1,(c 0 (by omega) 2).trans h.t2,(c 1 (by omega) 0).trans h.d0,(c 1 (by omega) 1).trans h.d1,(c 1 (by omega) 2).trans h.d2,(g 1 (by omega) 0).trans h.e0,(g 1 (by omega) 1).trans h.e1,(g 1 (by omega) 2).trans h.e2,(c 2 (by omega) 0).trans h.o0,(c 2 (by omega) 1).trans h.o1,(c 2 (by omega) 2).trans h.o2,(g 2 (by omega) 2).trans h.f2,h.bl.trans (b.mono (by omega)),Nat.le_trans h.sz b.size⟩
theorem cP (W:World) (cs:Array Value) (t:TypeId) (k:Nat):(W.alloc (.cells cs t)).cell? ⟨W.heap.size,k,none⟩=cs[k]? :=by simp
theorem bt {w:World} {base n b j:Nat} {v:Value} {xs:List Nat} (h:w.ownsRow base 41 1 v n (xs.map uV)) (i:b<base) (x:Value):(w.setCell ⟨b,j,none⟩ x).ownsRow base 41 1 v n (xs.map uV):=by
 refine⟨h.1,?_⟩
 rcases h.2 with e | ⟨g,a,d,rfl,f,c,rest⟩
 ·exact .inl e
 ·exact .inr ⟨g,a,d,rfl,f,by rw [Below.heap_setCell w ⟨b,j,none⟩ x g (by show g≠b;omega)];exact c,rest⟩
theorem fX {w:World} {base a n:Nat} {v:Value} {xs:List Value} (h:w.ownsRow base 41 1 v n xs) (i:a<=base):w.ownsRow a 41 1 v n xs:=by
 refine⟨h.1,?_⟩
 rcases h.2 with d | ⟨g,b,c,e,f,rest⟩
 ·exact .inl d
 ·exact .inr ⟨g,b,c,e,Nat.le_trans i f,rest⟩
theorem kP (w:World) (cs:Array Value) (t:TypeId) (o:Obj) (j:Nat):((w.alloc (.cells cs t)).alloc o).cell? ⟨w.heap.size,j,none⟩=cs[j]? :=
 (((Below.refl _ (w.alloc (.cells cs t))).alloc (Nat.le_refl _) o).cell (p:=⟨w.heap.size,j,none⟩) (by show w.heap.size<_;simp)).trans (cP w cs t j)
structure OfC (w:World) (base kind:Int) (vd vf vo:Value) (wr:World):Prop where
 t0:wr.cell? ⟨w.heap.size,0,none⟩=some (.int .i64 base)
 t1:wr.cell? ⟨w.heap.size,1,none⟩=some (.int .i64 kind)
 t2:wr.cell? ⟨w.heap.size,2,none⟩=some vd
 t3:wr.cell? ⟨w.heap.size,3,none⟩=some vf
 d0:wr.cell? ⟨w.heap.size+1,0,none⟩=some (.int .i64 0)
 d1:wr.cell? ⟨w.heap.size+1,1,none⟩=some (.int .i64 0)
 d2:wr.cell? ⟨w.heap.size+1,2,none⟩=some (.slice none 0 0)
 d3:wr.cell? ⟨w.heap.size+1,3,none⟩=some (.slice none 0 0)
 e0:wr.frozen? ⟨w.heap.size+1,0,none⟩=false
 e1:wr.frozen? ⟨w.heap.size+1,1,none⟩=false
 e2:wr.frozen? ⟨w.heap.size+1,2,none⟩=false
 e3:wr.frozen? ⟨w.heap.size+1,3,none⟩=false
 o0:wr.cell? ⟨w.heap.size+2,0,none⟩=some (.int .i64 base)
 o1:wr.cell? ⟨w.heap.size+2,1,none⟩=some (.int .i64 kind)
 o2:wr.cell? ⟨w.heap.size+2,2,none⟩=some vd
 o3:wr.cell? ⟨w.heap.size+2,3,none⟩=some vo
 f3:wr.frozen? ⟨w.heap.size+2,3,none⟩=false
 bl:Below w.heap.size w wr
 sz:w.heap.size+3<=wr.heap.size
theorem OfC.stay {w wr a:World} {base kind:Int} {f e d:Value} (h:OfC w base kind f e d wr) (b:Below (w.heap.size+3) wr a):OfC w base kind f e d a:=by
 have c:∀ k<3,∀ j,a.cell? ⟨w.heap.size+k,j,none⟩=wr.cell? ⟨w.heap.size+k,j,none⟩:=fun k i j=>b.cell (p:=⟨w.heap.size+k,j,none⟩) (by show w.heap.size+k<_;omega)
 have g:∀ k<3,∀ j,a.frozen? ⟨w.heap.size+k,j,none⟩=wr.frozen? ⟨w.heap.size+k,j,none⟩:=fun k i j=>b.frozen (p:=⟨w.heap.size+k,j,none⟩) (by show w.heap.size+k<_;omega)
 exact⟨(c 0 (by omega) 0).trans h.t0,(c 0 (by omega) 1).trans h.t1,(c 0 (by omega) 2).trans h.t2,(c 0 (by omega) 3).trans h.t3,(c 1 (by omega) 0).trans h.d0,(c 1 (by omega) 1).trans h.d1,(c 1 (by omega) 2).trans h.d2,(c 1 (by omega) 3).trans h.d3,(g 1 (by omega) 0).trans h.e0,(g 1 (by omega) 1).trans h.e1,(g 1 (by omega) 2).trans h.e2,(g 1 (by omega) 3).trans h.e3,(c 2 (by omega) 0).trans h.o0,(c 2 (by omega) 1).trans h.o1,(c 2 (by omega) 2).trans h.o2,(c 2 (by omega) 3).trans h.o3,(g 2 (by omega) 3).trans h.f3,h.bl.trans (b.mono (by omega)),Nat.le_trans h.sz b.size⟩
theorem OfC.put {w wr:World} {base kind:Int} {b a e:Value} (h:OfC w base kind b a e wr) (v:Value):OfC w base kind b a v (wr.setCell ⟨w.heap.size+2,3,none⟩ v):=by
 have d:Below (w.heap.size+2) wr (wr.setCell ⟨w.heap.size+2,3,none⟩ v):=(Below.refl _ wr).setCell (p:=⟨w.heap.size+2,3,none⟩) (Nat.le_refl _) v;have c:∀ k<2,∀ j,(wr.setCell ⟨w.heap.size+2,3,none⟩ v).cell? ⟨w.heap.size+k,j,none⟩=wr.cell? ⟨w.heap.size+k,j,none⟩:=fun k f j=>d.cell (p:=⟨w.heap.size+k,j,none⟩) (by show w.heap.size+k<_;omega)
 have g:∀ k<2,∀ j,(wr.setCell ⟨w.heap.size+2,3,none⟩ v).frozen? ⟨w.heap.size+k,j,none⟩=wr.frozen? ⟨w.heap.size+k,j,none⟩:=fun k f j=>d.frozen (p:=⟨w.heap.size+k,j,none⟩) (by show w.heap.size+k<_;omega)
 refine⟨(c 0 (by omega) 0).trans h.t0,(c 0 (by omega) 1).trans h.t1,(c 0 (by omega) 2).trans h.t2,(c 0 (by omega) 3).trans h.t3,(c 1 (by omega) 0).trans h.d0,(c 1 (by omega) 1).trans h.d1,(c 1 (by omega) 2).trans h.d2,(c 1 (by omega) 3).trans h.d3,(g 1 (by omega) 0).trans h.e0,(g 1 (by omega) 1).trans h.e1,(g 1 (by omega) 2).trans h.e2,(g 1 (by omega) 3).trans h.e3,?_,?_,?_,?_,?_,h.bl.setCell (p:=⟨w.heap.size+2,3,none⟩) (by show w.heap.size<=w.heap.size+2;omega) v,by simpa using h.sz⟩
 ·simp [h.o0,go_sem]
 ·simp [h.o1,go_sem]
 ·simp [h.o2,go_sem]
 ·simp [h.o3,go_sem]
 ·simp [h.f3,go_sem]
theorem Pu (w:World) (base kind:Int) (d l:Value):OfC w base kind d l (.slice none 0 0) (((w.alloc (.cells #[.int .i64 base,.int .i64 kind,d,l] 26)).alloc (.cells #[.int .i64 0,.int .i64 0,.slice none 0 0,.slice none 0 0] 39)).alloc (.cells #[.int .i64 base,.int .i64 kind,d,.slice none 0 0] 39)):=by
 have g:∀ (w:World) o,Below w.heap.size w (w.alloc o):=fun w o=>(Below.refl _ _).alloc (Nat.le_refl _) _
 generalize f:w.alloc (.cells #[.int .i64 base,.int .i64 kind,d,l] 26)=c;have m:c.heap.size=w.heap.size+1:=by rw [<- f];simp
 generalize b:c.alloc (.cells #[.int .i64 0,.int .i64 0,.slice none 0 0,.slice none 0 0] 39)=a;have q:a.heap.size=w.heap.size+2:=by rw [<- b];simp [m]
 have c1:∀ j,c.cell? ⟨w.heap.size,j,none⟩=(#[.int .i64 base,.int .i64 kind,d,l]:Array Value)[j]? :=fun j=>by rw [<- f];exact cP w _ _ j
 have c2:∀ j,a.cell? ⟨w.heap.size+1,j,none⟩=(#[.int .i64 0,.int .i64 0,.slice none 0 0,.slice none 0 0]:Array Value)[j]? :=fun j=>by rw [<- b,<- m];exact cP c _ _ j
 have c3:∀ j,(a.alloc (.cells #[.int .i64 base,.int .i64 kind,d,.slice none 0 0] 39)).cell? ⟨w.heap.size+2,j,none⟩=(#[.int .i64 base,.int .i64 kind,d,.slice none 0 0]:Array Value)[j]? :=fun j=>by rw [<- q];exact cP a _ _ j
 have i:∀ j,a.cell? ⟨w.heap.size,j,none⟩=c.cell? ⟨w.heap.size,j,none⟩:=fun j=>by rw [<- b];exact (g c _).cell (p:=⟨w.heap.size,j,none⟩) (by show w.heap.size<c.heap.size;omega)
 have e:∀ k<2,∀ j o,(a.alloc o).cell? ⟨w.heap.size+k,j,none⟩=a.cell? ⟨w.heap.size+k,j,none⟩:=fun k t j o=>(g a o).cell (p:=⟨w.heap.size+k,j,none⟩) (by show w.heap.size+k<a.heap.size;omega)
 have h:∀ j o,(a.alloc o).frozen? ⟨w.heap.size+1,j,none⟩=false:=fun j o=>by
  rw [(g a o).frozen (p:=⟨w.heap.size+1,j,none⟩) (by show w.heap.size+1<a.heap.size;omega),<- b,<- m]
  exact World.frozen?_alloc_new _ _ _ _
 have s:Below w.heap.size w (a.alloc (.cells #[.int .i64 base,.int .i64 kind,d,.slice none 0 0] 39)):=by
  have n:Below w.heap.size w c:=by rw [<- f];exact g w _
  have r:Below w.heap.size w a:=by rw [<- b];exact n.alloc n.size _
  exact r.alloc r.size _
 exact⟨((e 0 (by omega) 0 _).trans (i 0)).trans (c1 0),((e 0 (by omega) 1 _).trans (i 1)).trans (c1 1),((e 0 (by omega) 2 _).trans (i 2)).trans (c1 2),((e 0 (by omega) 3 _).trans (i 3)).trans (c1 3),(e 1 (by omega) 0 _).trans (c2 0),(e 1 (by omega) 1 _).trans (c2 1),(e 1 (by omega) 2 _).trans (c2 2),(e 1 (by omega) 3 _).trans (c2 3),h 0 _,h 1 _,h 2 _,h 3 _,c3 0,c3 1,c3 2,c3 3,by rw [<- q];exact World.frozen?_alloc_new _ _ _ _,s,by simp;omega⟩
theorem yS (base kind:Int) (A u cx cy m n:Nat) (b h:Option Addr) (ys:List Nat) (w:World) (I:VSrc w h A u n (QM ys)) (s:ys.length=n) (hn:n<=17592186043904) :
  Calls Tryz.prog 10 #[.agg #[.int .i64 base,.int .i64 kind,(.slice b m cx),.slice h n cy]] w fun e J=>∃ v,e=.returned (.agg #[.int .i64 base,.int .i64 kind,(.slice b m cx),v])/\J.ownsRow w.heap.size 41 1 v n (ys.map uV)/\Below w.heap.size w J:=by
 have E:=hideS I;have x:=hideS s;have d:=hideS (Pu w base kind (.slice b m cx) (.slice h n cy));have p0:∀ o,((w.alloc (.cells #[.int .i64 base,.int .i64 kind,(.slice b m cx),.slice h n cy] 26)).alloc o).cell? ⟨w.heap.size,0,none⟩=some (.int .i64 base):=fun o=>kP w _ _ o 0
 have p1:∀ o,((w.alloc (.cells #[.int .i64 base,.int .i64 kind,(.slice b m cx),.slice h n cy] 26)).alloc o).cell? ⟨w.heap.size,1,none⟩=some (.int .i64 kind):=fun o=>kP w _ _ o 1
 have U:∀ o,((w.alloc (.cells #[.int .i64 base,.int .i64 kind,(.slice b m cx),.slice h n cy] 26)).alloc o).cell? ⟨w.heap.size,2,none⟩=some (.slice b m cx):=fun o=>kP w _ _ o 2
 clear I s
 go_enter Tryz.func10,Tryz.ntmps10
 go_wp2_with fail
 go_loopw [4] (fun i wr=>∃ k:Nat,k<=n/\i=.int .i64 k/\Hid (∃ v,wr.ownsRow (w.heap.size+3) 41 1 v k ((ys.take k).map uV)/\OfC w base kind (.slice b m cx) (.slice h n cy) v wr)) (fun i _=>n - (intOf i).toNat)
 case atStart=>exact⟨0,Nat.zero_le _,rfl,_,gF _ _,d.out⟩
 case round=>
  clear d;obtain⟨k,V,rfl,G⟩:=hrel;obtain⟨v,C,H⟩:=G.out;obtain⟨l,T,a,rfl,_,_,_,_⟩:=bq C (by rw [List.length_take,x.out];omega)
  have F:=hideS C;have d:=hideS H;obtain⟨t0,t1,t2,W,R,K,O,N,e0,e1,e2,e3,o0,o1,o2,o3,f3,_,_⟩:=d.out;clear C H G
  by_cases t:k<n
  ·obtain rfl:=E.out.at_ (by omega)
   have S:wr.cell? ⟨A,u+k,none⟩=some (.float .f64 (ys.getD k 0)):=(d.out.bl.cell (p:=⟨A,u+k,none⟩) (E.out.lt (by omega))).trans (E.out.cell k t)
   have Q:Hid (ys.take (k+1)=ys.take k++[ys.getD k 0]):=by
    show _=_
    rw [List.take_add_one]
    congr 1
    simp [List.getD,List.getElem?_eq_getElem (show k<ys.length by rw [x.out];exact t)]
   generalize ys.getD k 0=y at *
   have q:Hid (∀ o,(wr.drew.alloc o).ownsRow (w.heap.size+3) 41 1 (.slice l k a) k ((ys.take k).map uV)):=fun o=>ao (w:=wr) F.out ((Below.refl _ wr).drew.alloc (Nat.le_refl _) o)
   have c:Hid (∀ o,OfC w base kind (.slice b m cx) (.slice (some ⟨A,u,none⟩) n cy) (.slice l k a) (wr.drew.alloc o)):=fun o=>d.out.stay ((Below.refl (w.heap.size+3) wr).drew.alloc d.out.sz o)
   have Y:(wr.alloc (.cells #[.int .u64 (y:Int)] 41)).drew.cell? ⟨w.heap.size+2,3,none⟩=some (.slice l k a):=(c.out _).o3;have x3:(wr.alloc (.cells #[.int .u64 (y:Int)] 41)).cell? ⟨w.heap.size+2,3,none⟩=some (.slice l k a):=(c.out _).o3;have g3:(0:Int)<=(k:Int):=by omega
   have g4:(k:Int)<(n:Int):=by omega
   go_wp2_with fail
   go_region_law (first | (go_simp;go_at_call 11;refine (turned (gn _ _)).mono ?_;rintro e Z ⟨rfl,rfl⟩) | (refine qO rfl (.tmp 20) (.tmp 27) rfl (w.heap.size+3) _ k (ys.take k) rfl (q.out _) wr.heap.size y rfl (by simp) (by omega) (c.out (.cells #[.int .u64 (y:Int)] 41)).sz ?_;intro X w6 g r;obtain⟨q6,g6,c6,rfl,_,_,_,_⟩:=bq g (by rw [List.length_append,List.length_take,x.out];simp;omega);have f:=hideS ((c.out _).stay (aW (q.out _) r (c.out (.cells #[.int .u64 (y:Int)] 41)).sz));have B:=hideS g;have c2:=f.out.o3;have c3:=f.out.f3;clear g r))
   all_goals
    go_wp2_with fail
    go_roundw
    case rel=>exact⟨k+1,by omega,by simp,_,by rw [Q.out];exact bt B.out (by omega) _,f.out.put _⟩
    case measure=>simp [intOf];omega
  ·obtain rfl:k=n:=by omega
   have M:¬ (k:Int)<(k:Int):=by omega
   have L:Hid (ys.take k=ys):=by show _=_;exact List.take_of_length_le (by rw [x.out];omega)
   rw [L.out] at F
   have P:=d.out.sz
   go_wp2_with fail
   refine bodyPost_ret (v:=.agg #[.int .i64 base,.int .i64 kind,.slice b m cx,.slice l k a]) (by simp [results,Tryz.results10,go_sem,R,K,O,N]) rfl ?_
   have z:∀ j,w.heap.size<=(⟨w.heap.size+1,j,none⟩:Addr).block:=fun j=>by show w.heap.size<=w.heap.size+1;omega
   have D:Below w.heap.size w ((((wr.setCell ⟨w.heap.size+1,0,none⟩ (.int .i64 base)).setCell ⟨w.heap.size+1,1,none⟩ (.int .i64 kind)).setCell ⟨w.heap.size+1,2,none⟩ (.slice b m cx)).setCell ⟨w.heap.size+1,3,none⟩ (.slice l k a)):=(((d.out.bl.setCell (z 0) _).setCell (z 1) _).setCell (z 2) _).setCell (z 3) _;exact⟨_,rfl,fX (bt (bt (bt (bt F.out (by omega) _) (by omega) _) (by omega) _) (by omega) _) (by omega),D⟩
def kV (x:Int):Value:=.int .i64 x
theorem iI:(Tryz.prog.info? 3).map (fun i=>(i.zero,i.size,i.bytes))=some (some (.int .i64 0),1,8):=by kernel_rfl
theorem gO (w:World) {i:Array Oper} {rest:List Oper} {o:Oper} {a:Act} {Q:Exit->Act->World->Prop} (q:o.guard=none) (s x:Operand)
  (H:o.op=.call { callee:=.builtin .append,args:=#[s,x],argTypes:=#[23,23] })
  (base:Nat) (v:Value) (n:Nat) (xs:List Int) (E:a.eval s=v) (e:w.ownsRow base 3 1 v n (xs.map kV))
  (b off c m:Nat) (ys:List Int) (C:a.eval x=.slice (some ⟨b,off,none⟩) m c) (I:ys.length=m) (g:∀ j<m,w.cell? ⟨b,off+j,none⟩=some (xV ys j)) (hn:n<=100000) (F:m<=100000) (d:base<=w.heap.size)
  (h:∀ l k,k.ownsRow base 3 1 l (n+m) ((xs++ys).map kV)->w.grownBy k v.ownBlock->wpList Tryz.prog i Q rest (a.put o.dst l) k):wpList Tryz.prog i Q (o::rest) a w:=by
 obtain⟨G,hi,y,t,A⟩:=info_parts iI;refine wpList_append_own w q s x 23 H base 3 G (.int .i64 0) 1 8 Tryz.underlying23 hi y t A rfl (by decide) v n (xs.map kV) E e ⟨b,off,none⟩ m c (ys.map kV) C (by rw [List.length_map,I,Nat.mul_one]) ?_ (fun u r=>by obtain⟨z,_,rfl⟩:=List.mem_map.1 r;rfl) (by unfold maxLen;omega) (by omega) d ?_
 ·intro j u p;have f:j<ys.length:=by
   have:=(List.getElem?_eq_some_iff.1 p).1
   simpa using this
  rw [Addr.add_lit,g j (by omega)]
  rw [List.getElem?_map,List.getElem?_eq_getElem f] at p
  have r:kV ys[j]=u:=Option.some.inj p;rw [<- r]
  show some (Value.int .i64 (ys.getD j 0))=_
  rw [List.getD_eq_getElem?_getD,List.getElem?_eq_getElem f];rfl
 ·intro l k D B _;refine h l k ?_ B
  rw [List.map_append];exact D
theorem gP (w:World) {i:Array Oper} {rest:List Oper} {o:Oper} {a:Act} {Q:Exit->Act->World->Prop} (q:o.guard=none) (s x:Operand)
  (H:o.op=.call { callee:=.builtin .append,args:=#[s,x],argTypes:=#[33,33] })
  (base:Nat) (v:Value) (n:Nat) (xs:List Nat) (E:a.eval s=v) (e:w.ownsRow base 41 1 v n (xs.map uV))
  (b off c m:Nat) (ys:List Nat) (C:a.eval x=.slice (some ⟨b,off,none⟩) m c) (I:ys.length=m) (g:∀ j<m,w.cell? ⟨b,off+j,none⟩=some (yV ys j)) (hn:n<=100000) (F:m<=100000) (d:base<=w.heap.size)
  (h:∀ l k,k.ownsRow base 41 1 l (n+m) ((xs++ys).map uV)->w.grownBy k v.ownBlock->wpList Tryz.prog i Q rest (a.put o.dst l) k):wpList Tryz.prog i Q (o::rest) a w:=by
 obtain⟨G,hi,y,t,A⟩:=info_parts uP;refine wpList_append_own w q s x 33 H base 41 G (.int .u64 0) 1 8 Tryz.underlying33 hi y t A rfl (by decide) v n (xs.map uV) E e ⟨b,off,none⟩ m c (ys.map uV) C (by rw [List.length_map,I,Nat.mul_one]) ?_ (fun u r=>by obtain⟨z,_,rfl⟩:=List.mem_map.1 r;rfl) (by unfold maxLen;omega) (by omega) d ?_
 ·intro j u p;have f:j<ys.length:=by
   have:=(List.getElem?_eq_some_iff.1 p).1
   simpa using this
  rw [Addr.add_lit,g j (by omega)]
  rw [List.getElem?_map,List.getElem?_eq_getElem f] at p
  have r:uV ys[j]=u:=Option.some.inj p;rw [<- r]
  show some (Value.int .u64 (ys.getD j 0:Nat))=_
  rw [List.getD_eq_getElem?_getD,List.getElem?_eq_getElem f];rfl
 ·intro l k D B _;refine h l k ?_ B
  rw [List.map_append];exact D
theorem mV (w:World) {i:Array Oper} {rest:List Oper} {o:Oper} {a:Act} {Q:Exit->Act->World->Prop} (q:o.guard=none) (s x:Operand)
  (H:o.op=.call { callee:=.builtin .append,args:=#[s,x],argTypes:=#[24,24] })
  (base:Nat) (v:Value) (n:Nat) (xs:List Nat) (E:a.eval s=v) (e:w.ownsRow base 27 1 v n (xs.map fV))
  (b off c m:Nat) (ys:List Nat) (C:a.eval x=.slice (some ⟨b,off,none⟩) m c) (I:ys.length=m) (g:∀ j<m,w.cell? ⟨b,off+j,none⟩=some (flV ys j)) (hn:n<=100000) (F:m<=100000) (d:base<=w.heap.size)
  (h:∀ l k,k.ownsRow base 27 1 l (n+m) ((xs++ys).map fV)->w.grownBy k v.ownBlock->wpList Tryz.prog i Q rest (a.put o.dst l) k):wpList Tryz.prog i Q (o::rest) a w:=by
 obtain⟨G,hi,y,t,A⟩:=info_parts jo;refine wpList_append_own w q s x 24 H base 27 G (.float .f64 0) 1 8 Tryz.underlying24 hi y t A rfl (by decide) v n (xs.map fV) E e ⟨b,off,none⟩ m c (ys.map fV) C (by rw [List.length_map,I,Nat.mul_one]) ?_ (fun u r=>by obtain⟨z,_,rfl⟩:=List.mem_map.1 r;rfl) (by unfold maxLen;omega) (by omega) d ?_
 ·intro j u p;have f:j<ys.length:=by
   have:=(List.getElem?_eq_some_iff.1 p).1
   simpa using this
  rw [Addr.add_lit,g j (by omega)]
  rw [List.getElem?_map,List.getElem?_eq_getElem f] at p
  have r:fV ys[j]=u:=Option.some.inj p;rw [<- r]
  show some (Value.float .f64 (ys.getD j 0))=_
  rw [List.getD_eq_getElem?_getD,List.getElem?_eq_getElem f];rfl
 ·intro l k D B _;refine h l k ?_ B
  rw [List.map_append];exact D
theorem Fz (w:World) (base:Nat):w.ownsRow base 3 1 (.slice none 0 0) 0 (([]:List Int).map kV):=⟨rfl,Or.inl ⟨rfl,rfl⟩⟩
theorem cX {t:TypeId} {w d:World} {base n:Nat} {v:Value} {xs:List Value} (h:w.ownsRow base t 1 v n xs) (i:Below w.heap.size w d):d.ownsRow base t 1 v n xs:=by
 refine⟨h.1,?_⟩
 rcases h.2 with e | ⟨g,b,c,rfl,f,a,rest⟩
 ·exact .inl e
 ·exact .inr ⟨g,b,c,rfl,f,by rw [i.block g (Array.getElem?_eq_some_iff.1 a).1];exact a,rest⟩
theorem bA {t:TypeId} {w b:World} {v:Value} {B n:Nat} {xs:List Value} (h:w.ownsRow B t 1 v n xs) (e:w.grownBy b v.ownBlock) (f:B<=w.heap.size):Below B w b:=
 (Below.refl B w).grown e f (fun k c=>by
  rcases h.2 with⟨rfl,_⟩| ⟨g,d,i,rfl,a,_⟩
  ·cases c
  ·obtain rfl:g=k:=by simpa [Value.ownBlock] using c
   exact a)
theorem ax {t:TypeId} {w:World} {base n b j:Nat} {v:Value} {xs:List Value} (h:w.ownsRow base t 1 v n xs) (i:b<base) (x:Value):(w.setCell ⟨b,j,none⟩ x).ownsRow base t 1 v n xs:=by
 refine⟨h.1,?_⟩
 rcases h.2 with e | ⟨g,a,d,rfl,f,c,rest⟩
 ·exact .inl e
 ·exact .inr ⟨g,a,d,rfl,f,by rw [Below.heap_setCell w ⟨b,j,none⟩ x g (by show g≠b;omega)];exact c,rest⟩
theorem bO {t:TypeId} {w:World} {base a n:Nat} {v:Value} {xs:List Value} (h:w.ownsRow base t 1 v n xs) (i:a<=base):w.ownsRow a t 1 v n xs:=by
 refine⟨h.1,?_⟩
 rcases h.2 with d | ⟨g,b,c,e,f,rest⟩
 ·exact .inl d
 ·exact .inr ⟨g,b,c,e,Nat.le_trans i f,rest⟩
theorem FA {t:TypeId} {w i:World} {base n B g c:Nat} {xs:List Value} (h:w.ownsRow base t 1 (.slice (some ⟨g,0,none⟩) n c) n xs) (m:Below B w i) (l:g<B):i.ownsRow base t 1 (.slice (some ⟨g,0,none⟩) n c) n xs:=by
 refine⟨h.1,?_⟩
 rcases h.2 with⟨o,_⟩| ⟨k,b,d,e,j,f,rest⟩
 ·cases o
 ·have p:=e;injection e with a q r;injection a with a;injection a with a;subst a;exact .inr ⟨g,b,d,p,j,by rw [m.block g l];exact f,rest⟩
theorem vH (w:World) (x:Int) (t:TypeId):∀ j<1,(w.alloc (.cells #[.int .i64 x] t)).cell? ⟨w.heap.size,0+j,none⟩=some (xV [x] j):=fun j a=>by
 obtain rfl:j=0:=by omega
 exact cP w _ _ 0
theorem Ka (w:World) (x:Nat) (t:TypeId):∀ j<1,(w.alloc (.cells #[.int .u64 (x:Int)] t)).cell? ⟨w.heap.size,0+j,none⟩=some (yV [x] j):=fun j a=>by
 obtain rfl:j=0:=by omega
 exact cP w _ _ 0
theorem MV (w:World) (x:Nat) (t:TypeId):∀ j<1,(w.alloc (.cells #[.float .f64 x] t)).cell? ⟨w.heap.size,0+j,none⟩=some (flV [x] j):=fun j a=>by
 obtain rfl:j=0:=by omega
 exact cP w _ _ 0
theorem dz {w:World} {base n:Nat} {v:Value} {xs:List Int} (h:w.ownsRow base 3 1 v n (xs.map kV)) (hn:xs.length=n) (m:0<n):∃ g c,v=.slice (some ⟨g,0,none⟩) n c/\VSrc w (some ⟨g,0,none⟩) g 0 n (xV xs)/\base<=g/\n<=c/\c<=maxLen:=by
 rcases h.2 with⟨rfl,rfl⟩| ⟨g,a,k,rfl,j,l,b,d,e,f⟩
 ·omega
 ·refine⟨g,a,rfl,⟨fun _=>rfl,fun _=>(Array.getElem?_eq_some_iff.1 l).1,fun i hi=>?_⟩,j,b,d⟩
  rw [Nat.zero_add,World.ownsRow.cellAt h i (by omega),List.getElem?_map]
  show Option.map kV xs[i]? =some (Value.int .i64 (xs.getD i 0))
  rw [List.getD_eq_getElem?_getD,List.getElem?_eq_getElem (by omega)];rfl
theorem dO {w:World} {base n:Nat} {v:Value} {xs:List Nat} (h:w.ownsRow base 27 1 v n (xs.map fV)) (hn:xs.length=n) (k:0<n):∃ g c,v=.slice (some ⟨g,0,none⟩) n c/\VSrc w (some ⟨g,0,none⟩) g 0 n (flV xs)/\base<=g/\n<=c/\c<=maxLen:=by
 obtain⟨p,g,c,e,f,a,b,d⟩:=Fj h hn;have i:=f.at_ (by omega)
 subst i;exact⟨g,c,e,⟨fun _=>rfl,fun _=>f.lt (by omega),fun j l=>f.cell j (by omega)⟩,a,b,d⟩
structure TabC (w:World) (base kind:Int) (vd vf vX vY:Value) (wr:World):Prop where
 t0:wr.cell? ⟨w.heap.size,0,none⟩=some (.int .i64 base)
 t1:wr.cell? ⟨w.heap.size,1,none⟩=some (.int .i64 kind)
 t2:wr.cell? ⟨w.heap.size,2,none⟩=some vd
 t3:wr.cell? ⟨w.heap.size,3,none⟩=some vf
 d0:wr.cell? ⟨w.heap.size+1,0,none⟩=some (.int .i64 0)
 d1:wr.cell? ⟨w.heap.size+1,1,none⟩=some (.slice none 0 0)
 d2:wr.cell? ⟨w.heap.size+1,2,none⟩=some (.slice none 0 0)
 e0:wr.frozen? ⟨w.heap.size+1,0,none⟩=false
 e1:wr.frozen? ⟨w.heap.size+1,1,none⟩=false
 e2:wr.frozen? ⟨w.heap.size+1,2,none⟩=false
 o0:wr.cell? ⟨w.heap.size+2,0,none⟩=some (.int .i64 kind)
 o1:wr.cell? ⟨w.heap.size+2,1,none⟩=some vX
 o2:wr.cell? ⟨w.heap.size+2,2,none⟩=some vY
 f1:wr.frozen? ⟨w.heap.size+2,1,none⟩=false
 f2:wr.frozen? ⟨w.heap.size+2,2,none⟩=false
 bl:Below w.heap.size w wr
 sz:w.heap.size+3<=wr.heap.size
theorem TabC.stay {w wr a:World} {base kind:Int} {i f d e:Value} (h:TabC w base kind i f d e wr) (b:Below (w.heap.size+3) wr a):TabC w base kind i f d e a:=by
 have c:∀ k<3,∀ j,a.cell? ⟨w.heap.size+k,j,none⟩=wr.cell? ⟨w.heap.size+k,j,none⟩:=fun k l j=>b.cell (p:=⟨w.heap.size+k,j,none⟩) (by show w.heap.size+k<_;omega)
 have g:∀ k<3,∀ j,a.frozen? ⟨w.heap.size+k,j,none⟩=wr.frozen? ⟨w.heap.size+k,j,none⟩:=fun k l j=>b.frozen (p:=⟨w.heap.size+k,j,none⟩) (by show w.heap.size+k<_;omega)
 exact⟨(c 0 (by omega) 0).trans h.t0,(c 0 (by omega) 1).trans h.t1,(c 0 (by omega) 2).trans h.t2,(c 0 (by omega) 3).trans h.t3,(c 1 (by omega) 0).trans h.d0,(c 1 (by omega) 1).trans h.d1,(c 1 (by omega) 2).trans h.d2,(g 1 (by omega) 0).trans h.e0,(g 1 (by omega) 1).trans h.e1,(g 1 (by omega) 2).trans h.e2,(c 2 (by omega) 0).trans h.o0,(c 2 (by omega) 1).trans h.o1,(c 2 (by omega) 2).trans h.o2,(g 2 (by omega) 1).trans h.f1,(g 2 (by omega) 2).trans h.f2,h.bl.trans (b.mono (by omega)),Nat.le_trans h.sz b.size⟩
theorem TabC.putX {w wr:World} {base kind:Int} {d b f a:Value} (h:TabC w base kind d b f a wr) (v:Value):TabC w base kind d b v a (wr.setCell ⟨w.heap.size+2,1,none⟩ v):=by
 have e:Below (w.heap.size+2) wr (wr.setCell ⟨w.heap.size+2,1,none⟩ v):=(Below.refl _ wr).setCell (p:=⟨w.heap.size+2,1,none⟩) (Nat.le_refl _) v;have c:∀ k<2,∀ j,(wr.setCell ⟨w.heap.size+2,1,none⟩ v).cell? ⟨w.heap.size+k,j,none⟩=wr.cell? ⟨w.heap.size+k,j,none⟩:=fun k i j=>e.cell (p:=⟨w.heap.size+k,j,none⟩) (by show w.heap.size+k<_;omega)
 have g:∀ k<2,∀ j,(wr.setCell ⟨w.heap.size+2,1,none⟩ v).frozen? ⟨w.heap.size+k,j,none⟩=wr.frozen? ⟨w.heap.size+k,j,none⟩:=fun k i j=>e.frozen (p:=⟨w.heap.size+k,j,none⟩) (by show w.heap.size+k<_;omega)
 refine⟨(c 0 (by omega) 0).trans h.t0,(c 0 (by omega) 1).trans h.t1,(c 0 (by omega) 2).trans h.t2,(c 0 (by omega) 3).trans h.t3,(c 1 (by omega) 0).trans h.d0,(c 1 (by omega) 1).trans h.d1,(c 1 (by omega) 2).trans h.d2,(g 1 (by omega) 0).trans h.e0,(g 1 (by omega) 1).trans h.e1,(g 1 (by omega) 2).trans h.e2,?_,?_,?_,?_,?_,h.bl.setCell (p:=⟨w.heap.size+2,1,none⟩) (by show w.heap.size<=w.heap.size+2;omega) v,by simpa using h.sz⟩
 ·simp [h.o0,go_sem]
 ·simp [h.o1,go_sem]
 ·simp [h.o2,go_sem]
 ·simp [h.f1,go_sem]
 ·simp [h.f2,go_sem]
theorem TabC.putY {w wr:World} {base kind:Int} {d b a f:Value} (h:TabC w base kind d b a f wr) (v:Value):TabC w base kind d b a v (wr.setCell ⟨w.heap.size+2,2,none⟩ v):=by
 have e:Below (w.heap.size+2) wr (wr.setCell ⟨w.heap.size+2,2,none⟩ v):=(Below.refl _ wr).setCell (p:=⟨w.heap.size+2,2,none⟩) (Nat.le_refl _) v;have c:∀ k<2,∀ j,(wr.setCell ⟨w.heap.size+2,2,none⟩ v).cell? ⟨w.heap.size+k,j,none⟩=wr.cell? ⟨w.heap.size+k,j,none⟩:=fun k i j=>e.cell (p:=⟨w.heap.size+k,j,none⟩) (by show w.heap.size+k<_;omega)
 have g:∀ k<2,∀ j,(wr.setCell ⟨w.heap.size+2,2,none⟩ v).frozen? ⟨w.heap.size+k,j,none⟩=wr.frozen? ⟨w.heap.size+k,j,none⟩:=fun k i j=>e.frozen (p:=⟨w.heap.size+k,j,none⟩) (by show w.heap.size+k<_;omega)
 refine⟨(c 0 (by omega) 0).trans h.t0,(c 0 (by omega) 1).trans h.t1,(c 0 (by omega) 2).trans h.t2,(c 0 (by omega) 3).trans h.t3,(c 1 (by omega) 0).trans h.d0,(c 1 (by omega) 1).trans h.d1,(c 1 (by omega) 2).trans h.d2,(g 1 (by omega) 0).trans h.e0,(g 1 (by omega) 1).trans h.e1,(g 1 (by omega) 2).trans h.e2,?_,?_,?_,?_,?_,h.bl.setCell (p:=⟨w.heap.size+2,2,none⟩) (by show w.heap.size<=w.heap.size+2;omega) v,by simpa using h.sz⟩
 ·simp [h.o0,go_sem]
 ·simp [h.o1,go_sem]
 ·simp [h.o2,go_sem]
 ·simp [h.f1,go_sem]
 ·simp [h.f2,go_sem]
theorem MW (w:World) (base kind:Int) (g i:Value):TabC w base kind g i (.slice none 0 0) (.slice none 0 0) (((w.alloc (.cells #[.int .i64 base,.int .i64 kind,g,i] 39)).alloc (.cells #[.int .i64 0,.slice none 0 0,.slice none 0 0] 156)).alloc (.cells #[.int .i64 kind,.slice none 0 0,.slice none 0 0] 156)):=by
 have f:∀ (w:World) o,Below w.heap.size w (w.alloc o):=fun w o=>(Below.refl _ _).alloc (Nat.le_refl _) _
 generalize e:w.alloc (.cells #[.int .i64 base,.int .i64 kind,g,i] 39)=c;have l:c.heap.size=w.heap.size+1:=by rw [<- e];simp
 generalize b:c.alloc (.cells #[.int .i64 0,.slice none 0 0,.slice none 0 0] 156)=a;have m:a.heap.size=w.heap.size+2:=by rw [<- b];simp [l]
 have c1:∀ j,c.cell? ⟨w.heap.size,j,none⟩=(#[.int .i64 base,.int .i64 kind,g,i]:Array Value)[j]? :=fun j=>by rw [<- e];exact cP w _ _ j
 have c2:∀ j,a.cell? ⟨w.heap.size+1,j,none⟩=(#[.int .i64 0,.slice none 0 0,.slice none 0 0]:Array Value)[j]? :=fun j=>by rw [<- b,<- l];exact cP c _ _ j
 have c3:∀ j,(a.alloc (.cells #[.int .i64 kind,.slice none 0 0,.slice none 0 0] 156)).cell? ⟨w.heap.size+2,j,none⟩=(#[.int .i64 kind,.slice none 0 0,.slice none 0 0]:Array Value)[j]? :=fun j=>by rw [<- m];exact cP a _ _ j
 have h:∀ j,a.cell? ⟨w.heap.size,j,none⟩=c.cell? ⟨w.heap.size,j,none⟩:=fun j=>by rw [<- b];exact (f c _).cell (p:=⟨w.heap.size,j,none⟩) (by show w.heap.size<c.heap.size;omega)
 have d:∀ k<2,∀ j o,(a.alloc o).cell? ⟨w.heap.size+k,j,none⟩=a.cell? ⟨w.heap.size+k,j,none⟩:=fun k t j o=>(f a o).cell (p:=⟨w.heap.size+k,j,none⟩) (by show w.heap.size+k<a.heap.size;omega)
 have n:∀ j o,(a.alloc o).frozen? ⟨w.heap.size+1,j,none⟩=false:=fun j o=>by
  rw [(f a o).frozen (p:=⟨w.heap.size+1,j,none⟩) (by show w.heap.size+1<a.heap.size;omega),<- b,<- l]
  exact World.frozen?_alloc_new _ _ _ _
 have s:Below w.heap.size w (a.alloc (.cells #[.int .i64 kind,.slice none 0 0,.slice none 0 0] 156)):=by
  have q:Below w.heap.size w c:=by rw [<- e];exact f w _
  have r:Below w.heap.size w a:=by rw [<- b];exact q.alloc q.size _
  exact r.alloc r.size _
 exact⟨((d 0 (by omega) 0 _).trans (h 0)).trans (c1 0),((d 0 (by omega) 1 _).trans (h 1)).trans (c1 1),((d 0 (by omega) 2 _).trans (h 2)).trans (c1 2),((d 0 (by omega) 3 _).trans (h 3)).trans (c1 3),(d 1 (by omega) 0 _).trans (c2 0),(d 1 (by omega) 1 _).trans (c2 1),(d 1 (by omega) 2 _).trans (c2 2),n 0 _,n 1 _,n 2 _,c3 0,c3 1,c3 2,by rw [<- m];exact World.frozen?_alloc_new _ _ _ _,by rw [<- m];exact World.frozen?_alloc_new _ _ _ _,s,by simp;omega⟩
theorem MX (w:World) (kind:Int) (o:Obj):((((w.alloc o).alloc (.cells #[.int .i64 0,.slice none 0 0,.slice none 0 0] 156)).alloc (.cells #[.int .i64 0,.slice none 0 0,.slice none 0 0] 156)).cell? ⟨w.heap.size+1+1,0,none⟩=some (.int .i64 0)/\(((w.alloc o).alloc (.cells #[.int .i64 0,.slice none 0 0,.slice none 0 0] 156)).alloc (.cells #[.int .i64 0,.slice none 0 0,.slice none 0 0] 156)).cell? ⟨w.heap.size+1+1,1,none⟩=some (.slice none 0 0)/\(((w.alloc o).alloc (.cells #[.int .i64 0,.slice none 0 0,.slice none 0 0] 156)).alloc (.cells #[.int .i64 0,.slice none 0 0,.slice none 0 0] 156)).cell? ⟨w.heap.size+1+1,2,none⟩=some (.slice none 0 0))/\(∀ i,(((w.alloc o).alloc (.cells #[.int .i64 0,.slice none 0 0,.slice none 0 0] 156)).alloc (.cells #[.int .i64 0,.slice none 0 0,.slice none 0 0] 156)).frozen? ⟨w.heap.size+1+1,i,none⟩=false)/\(((((w.alloc o).alloc (.cells #[.int .i64 0,.slice none 0 0,.slice none 0 0] 156)).alloc (.cells #[.int .i64 0,.slice none 0 0,.slice none 0 0] 156)).setCell ⟨w.heap.size+1+1,0,none⟩ (.int .i64 kind)).setCell ⟨w.heap.size+1+1,1,none⟩ (.slice none 0 0)).setCell ⟨w.heap.size+1+1,2,none⟩ (.slice none 0 0)=((w.alloc o).alloc (.cells #[.int .i64 0,.slice none 0 0,.slice none 0 0] 156)).alloc (.cells #[.int .i64 kind,.slice none 0 0,.slice none 0 0] 156):=by
 generalize a:(w.alloc o).alloc (.cells #[.int .i64 0,.slice none 0 0,.slice none 0 0] 156)=u;have z:w.heap.size+1+1=u.heap.size:=by rw [<- a];simp
 rw [z];refine⟨⟨cP u _ _ 0,cP u _ _ 1,cP u _ _ 2⟩,fun i=>World.frozen?_alloc_new _ _ _ _,?_⟩
 rw [World.setCell_alloc_at (hn:=rfl),World.setCell_alloc_at (hn:=rfl),World.setCell_alloc_at (hn:=rfl)]
 rfl
theorem sj (base kind:Int) (bd c g f d h n:Nat) (z:List Int) (W:List Nat) (w:World) (hd:VSrc w (some ⟨bd,c,none⟩) bd c n (xV z)) (hf:VSrc w (some ⟨f,d,none⟩) f d n (yV W)) (hl:z.length=n) (al:W.length=n) (hn:1<=n) (db:n<=255) :
  Calls Tryz.prog 108 #[.agg #[.int .i64 base,.int .i64 kind,.slice (some ⟨bd,c,none⟩) n g,.slice (some ⟨f,d,none⟩) n h]] w fun e w'=>∃ gx cx gy cy,e=.returned (.agg #[.int .i64 kind,.slice (some ⟨gx,0,none⟩) (1+n) cx,.slice (some ⟨gy,0,none⟩) (1+n) cy])/\w'.ownsRow w.heap.size 3 1 (.slice (some ⟨gx,0,none⟩) (1+n) cx) (1+n) ((base::z).map kV)/\w'.ownsRow w.heap.size 41 1 (.slice (some ⟨gy,0,none⟩) (1+n) cy) (1+n) ((4607182418800017408::W).map uV)/\Below w.heap.size w w':=by
 obtain⟨vX,U⟩:∃ v:Value,v=.slice none 0 0:=⟨_,rfl⟩;obtain⟨H,G⟩:∃ v:Value,v=.slice none 0 0:=⟨_,rfl⟩;have t:=MW w base kind (.slice (some ⟨bd,c,none⟩) n g) (.slice (some ⟨f,d,none⟩) n h);obtain⟨⟨y0,y1,y2⟩,yf,ye⟩:=MX w kind (.cells #[.int .i64 base,.int .i64 kind,.slice (some ⟨bd,c,none⟩) n g,.slice (some ⟨f,d,none⟩) n h] 39);rw [<- ye] at t
 obtain⟨w2,cr⟩:∃ w2,((w.alloc (.cells #[.int .i64 base,.int .i64 kind,.slice (some ⟨bd,c,none⟩) n g,.slice (some ⟨f,d,none⟩) n h] 39)).alloc (.cells #[.int .i64 0,.slice none 0 0,.slice none 0 0] 156)).alloc (.cells #[.int .i64 0,.slice none 0 0,.slice none 0 0] 156)=w2:=⟨_,rfl⟩;rw [cr] at t y0 y1 y2 yf
 obtain⟨V,cl⟩:∃ V,((w2.setCell ⟨w.heap.size+1+1,0,none⟩ (.int .i64 kind)).setCell ⟨w.heap.size+1+1,1,none⟩ (.slice none 0 0)).setCell ⟨w.heap.size+1+1,2,none⟩ (.slice none 0 0)=V:=⟨_,rfl⟩;rw [cl] at t
 have dc:=yf 0;have dd:=yf 1;have da:=yf 2;clear yf ye;have HT:Hid (TabC w base kind (.slice (some ⟨bd,c,none⟩) n g) (.slice (some ⟨f,d,none⟩) n h) vX H V):=by show TabC _ _ _ _ _ _ _ _;rw [U,G];exact t
 have ab:Hid (∀ T:World,T.ownsRow (w.heap.size+3) 3 1 vX 0 (([]:List Int).map kV)):=fun T=>by rw [U];exact Fz T _
 have bk:Hid (∀ (T:World) (B:Nat),T.ownsRow B 41 1 H 0 (([]:List Nat).map uV)):=fun T B=>by rw [G];exact gF T _
 have HD:=hideS hd;have HF:=hideS hf;have HL:=hideS hl;have ai:=hideS al;clear t U G hd hf hl al;have p0:∀ o,((w.alloc (.cells #[.int .i64 base,.int .i64 kind,.slice (some ⟨bd,c,none⟩) n g,.slice (some ⟨f,d,none⟩) n h] 39)).alloc o).cell? ⟨w.heap.size,1,none⟩=some (.int .i64 kind):=fun o=>kP w _ _ o 1
 have t0:=HT.out.t0;have o1:=HT.out.o1;have K:Hid (∀ o,TabC w base kind (.slice (some ⟨bd,c,none⟩) n g) (.slice (some ⟨f,d,none⟩) n h) vX H (V.alloc o)):=fun o=>HT.out.stay ((Below.refl _ _).alloc HT.out.sz o)
 have df:=(K.out (.cells #[.int .i64 base] 3)).o1;have C:Hid (w.heap.size+3<=(V.alloc (.cells #[.int .i64 base] 3)).heap.size):=(K.out _).sz
 go_enter Tryz.func108,Tryz.ntmps108
 go_wp2_with (first
  | (at_builtin;(refine gO _ rfl (.tmp 8) (.tmp 11) rfl (w.heap.size+3) vX 0 [] rfl (ab.out _) V.heap.size 0 1 1 [base] rfl rfl (vH V base _) (by omega) (by omega) C.out ?_;intro v4 w4 N bi;obtain⟨g4,c4,rfl,ct,cc,_,_⟩:=dz (xs:=[base]) N rfl (by omega);have R:=hideS ((K.out _).stay (bA (ab.out _) bi C.out));have q1:=R.out.o1;have q2:=R.out.f1;obtain⟨w5,ad⟩:∃ w5,w4.setCell ⟨w.heap.size+2,1,none⟩ (.slice (some ⟨g4,0,none⟩) 1 c4)=w5:=⟨_,rfl⟩;have m:Hid (TabC w base kind (.slice (some ⟨bd,c,none⟩) n g) (.slice (some ⟨f,d,none⟩) n h) (.slice (some ⟨g4,0,none⟩) 1 c4) H w5):=(by rw [<- ad];exact R.out.putX _);have ak:Hid (w5.ownsRow (w.heap.size+3) 3 1 (.slice (some ⟨g4,0,none⟩) 1 c4) 1 ([base].map kV)):=(by rw [<- ad];exact ax N (by omega) _);have ca:=hideS (HD.out.below m.out.bl);have q3:=m.out.o1;have q4:=m.out.t2;clear N bi ct cc))
  | (at_builtin;(refine gO _ rfl (.tmp 15) (.tmp 17) rfl (w.heap.size+3) (.slice (some ⟨g4,0,none⟩) 1 c4) 1 [base] rfl ak.out bd c g n z rfl HL.out ca.out.cell (by omega) (by omega) m.out.sz ?_;intro v6 w6 P ba;obtain⟨p,s,rfl,bo,bz,_,_⟩:=dz (xs:=base::z) P (by rw [List.length_cons,HL.out];omega) (by omega);have J:=hideS (m.out.stay (bA ak.out ba m.out.sz));have r1:=J.out.o1;have r2:=J.out.f1;obtain⟨a,O⟩:∃ a,w6.setCell ⟨w.heap.size+2,1,none⟩ (.slice (some ⟨p,0,none⟩) (1+n) s)=a:=⟨_,rfl⟩;have b:Hid (TabC w base kind (.slice (some ⟨bd,c,none⟩) n g) (.slice (some ⟨f,d,none⟩) n h) (.slice (some ⟨p,0,none⟩) (1+n) s) H a):=(by rw [<- O];exact J.out.putX _);have cq:Hid (a.ownsRow (w.heap.size+3) 3 1 (.slice (some ⟨p,0,none⟩) (1+n) s) (1+n) ((base::z).map kV)):=(by rw [<- O];exact ax P (by omega) _);have cp:Hid (p<a.heap.size):=(by rw [<- O,World.size_setCell];exact bo.lt (by omega));have E:Hid (∀ o,TabC w base kind (.slice (some ⟨bd,c,none⟩) n g) (.slice (some ⟨f,d,none⟩) n h) (.slice (some ⟨p,0,none⟩) (1+n) s) H (a.alloc o)):=(fun o=>b.out.stay ((Below.refl _ _).alloc b.out.sz o));have M:Hid (a.heap.size<=(a.alloc (.cells #[.int .u64 4607182418800017408] 41)).heap.size):=((Below.refl _ a).alloc (Nat.le_refl _) _).size;have r3:=b.out.o2;have r4:=(E.out (.cells #[.int .u64 4607182418800017408] 41)).o2;clear P ba bo bz))
  | (at_builtin;(refine gP _ rfl (.tmp 21) (.tmp 22) rfl a.heap.size H 0 [] rfl (bk.out _ _) a.heap.size 0 1 1 [4607182418800017408] rfl rfl (Ka a 4607182418800017408 _) (by omega) (by omega) M.out ?_;intro v8 w8 S br;obtain⟨p8,g8,c8,rfl,bc,ci,_,_⟩:=bq (xs:=[4607182418800017408]) S rfl;obtain rfl:=bc.at_ (by decide);have B8:=bA (bk.out _ _) br M.out;have I:=hideS ((E.out _).stay (B8.mono b.out.sz));have cm:=hideS (cX cq.out (((Below.refl _ a).alloc (Nat.le_refl _) _).trans B8));have u1:=I.out.o2;have u2:=I.out.f2;obtain⟨L,y⟩:∃ L,w8.setCell ⟨w.heap.size+2,2,none⟩ (.slice (some ⟨g8,0,none⟩) 1 c8)=L:=⟨_,rfl⟩;have x:Hid (TabC w base kind (.slice (some ⟨bd,c,none⟩) n g) (.slice (some ⟨f,d,none⟩) n h) (.slice (some ⟨p,0,none⟩) (1+n) s) (.slice (some ⟨g8,0,none⟩) 1 c8) L):=(by rw [<- y];exact I.out.putY _);have cs:Hid (L.ownsRow (w.heap.size+3) 3 1 (.slice (some ⟨p,0,none⟩) (1+n) s) (1+n) ((base::z).map kV)):=(by rw [<- y];exact ax cm.out (by omega) _);have Y:Hid (L.ownsRow a.heap.size 41 1 (.slice (some ⟨g8,0,none⟩) 1 c8) 1 ([4607182418800017408].map uV)):=(by rw [<- y];exact ax S (by have:=b.out.sz;omega) _);have bh:Hid (a.heap.size<=L.heap.size):=(by show a.heap.size<=L.heap.size;rw [<- y,World.size_setCell];have:=B8.size;have:=M.out;omega);have bs:=hideS (HF.out.below x.out.bl);have u3:=x.out.o2;have u4:=x.out.t3;clear S br bc ci B8))
  | (at_builtin;(refine gP _ rfl (.tmp 26) (.tmp 28) rfl a.heap.size (.slice (some ⟨g8,0,none⟩) 1 c8) 1 [4607182418800017408] rfl Y.out f d h n W rfl ai.out bs.out.cell (by omega) (by omega) bh.out ?_;intro di bv r D;obtain⟨cu,i,k,rfl,A,bb,_,_⟩:=bq (xs:=4607182418800017408::W) r (by rw [List.length_cons,ai.out];omega);obtain rfl:=A.at_ (by rw [List.length_cons];omega);have Q:=bA Y.out D bh.out;have u:=hideS (x.out.stay (Q.mono b.out.sz));have X:=hideS (FA cs.out Q cp.out);have s1:=u.out.o2;have s2:=u.out.f2;obtain⟨l,q⟩:∃ l,bv.setCell ⟨w.heap.size+2,2,none⟩ (.slice (some ⟨i,0,none⟩) (1+n) k)=l:=⟨_,rfl⟩;have F:Hid (TabC w base kind (.slice (some ⟨bd,c,none⟩) n g) (.slice (some ⟨f,d,none⟩) n h) (.slice (some ⟨p,0,none⟩) (1+n) s) (.slice (some ⟨i,0,none⟩) (1+n) k) l):=(by rw [<- q];exact u.out.putY _);have am:Hid (l.ownsRow (w.heap.size+3) 3 1 (.slice (some ⟨p,0,none⟩) (1+n) s) (1+n) ((base::z).map kV)):=(by rw [<- q];exact ax X.out (by omega) _);have Z:Hid (l.ownsRow (w.heap.size+3) 41 1 (.slice (some ⟨i,0,none⟩) (1+n) k) (1+n) ((4607182418800017408::W).map uV)):=(by rw [<- q];exact bO (ax r (by have:=b.out.sz;omega) _) b.out.sz);obtain⟨_,_,_,_,d0,d1,d2,e0,e1,e2,o0,dg,cv,_,_,_,_⟩:=F.out;clear r D A bb Q)))
 have hs:∀ j,w.heap.size<=(⟨w.heap.size+1,j,none⟩:Addr).block:=fun j=>by show w.heap.size<=w.heap.size+1;omega
 refine bodyPost_ret (v:=.agg #[.int .i64 kind,.slice (some ⟨p,0,none⟩) (1+n) s,.slice (some ⟨i,0,none⟩) (1+n) k]) (by simp [results,Tryz.results108,go_sem,d0,d1,d2]) rfl ?_
 have bx:Below w.heap.size w (((l.setCell ⟨w.heap.size+1,0,none⟩ (.int .i64 kind)).setCell ⟨w.heap.size+1,1,none⟩ (.slice (some ⟨p,0,none⟩) (1+n) s)).setCell ⟨w.heap.size+1,2,none⟩ (.slice (some ⟨i,0,none⟩) (1+n) k)):=((F.out.bl.setCell (hs 0) _).setCell (hs 1) _).setCell (hs 2) _;exact⟨p,s,i,k,rfl,bO (ax (ax (ax am.out (by omega) _) (by omega) _) (by omega) _) (by omega),bO (ax (ax (ax Z.out (by omega) _) (by omega) _) (by omega) _) (by omega),bx⟩
end Go.Proofs.YtfdddijdjpijbaaGreat
