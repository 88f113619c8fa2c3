/-  -/
import Derived.Test.YtfdddijdjpijbaaGreatHar
import Derived.Test.YtfdddijdjpijbaaGreatHau
import Derived.Deep.RegionLaw
import Derived.Test.YtfdddijdjpijbaaGreatHat
import Derived.Laws.AppendOwnNone
import Derived.OwnWalk
import Derived.Test.YtfdddijdjpijbaaGreatHas
set_option maxHeartbeats 3200000
set_option maxRecDepth 20000
namespace Go.Proofs.YtfdddijdjpijbaaGreat
open Go.RowKit
theorem re {d:Array Oper} {o:Oper} {a:Act} {w:World} {K:Act->World->Prop} {Q:Exit->Act->World->Prop} {E:Prop} (i:o.guard=none) (s x:Operand)
  (y:o.op=.call { callee:=.builtin .append,args:=#[s,x],argTypes:=#[33,33] })
  (base:Nat) (v:Value) (n:Nat) (xs:List Nat) (B:a.eval s=v) (c:w.ownsRow base 41 1 v n (xs.map uV))
  (g:Nat) (z:Nat) (C:a.eval x=.slice (some ⟨g,0,none⟩) 1 1) (hc:w.cell? ⟨g,0,none⟩=some (.int .u64 (z:Int))) (hn:n<=17592186044415) (b:base<=w.heap.size)
  (h:∀ f e,e.ownsRow base 41 1 f (n+1) ((xs++[z]).map uV)->w.grownBy e v.ownBlock->K (a.put o.dst f) e) :
  if Region.wanted o (yielded d a.tmps)=true then Oper.wp Tryz.prog o a w K Q else E:=by
 have D:Region.wanted o (yielded d a.tmps)=true:=by simp [Region.wanted,i]
 rw [if_pos D];obtain⟨A,hi,k,l,m⟩:=info_parts vA;refine wp_append_own w s x 33 y base 41 A (.int .u64 0) 1 8 Tryz.underlying33 hi k l m rfl (by decide) v n (xs.map uV) B c ⟨g,0,none⟩ 1 1 [uV z] C rfl ?_ (fun u q=>by rw [List.mem_singleton] at q;rw [q];rfl) (by unfold maxLen;omega) (by omega) b ?_
 ·intro j u p;cases j with
  | zero=>
   have:uV z=u:=Option.some.inj p;rw [<- this,Addr.add_lit];exact hc
  | succ j=>cases p
 ·intro f e r t _;refine h f e ?_ t
  rw [List.map_append];exact r
def Ro (ys:List Nat) (j:Nat):Value:=.float .f64 (ys.getD j 0)
structure OfB (w:World) (kind:Int) (vx vf vo:Value) (wr:World):Prop where
 t0:wr.cell? ⟨w.heap.size,0,none⟩=some (.int .i64 kind)
 t1:wr.cell? ⟨w.heap.size,1,none⟩=some vx
 t2:wr.cell? ⟨w.heap.size,2,none⟩=some vf
 d0:wr.cell? ⟨w.heap.size+1,0,none⟩=some (.int .i64 0)
 d1:wr.cell? ⟨w.heap.size+1,1,none⟩=some (.slice none 0 0)
 d2:wr.cell? ⟨w.heap.size+1,2,none⟩=some (.slice none 0 0)
 e0:wr.frozen? ⟨w.heap.size+1,0,none⟩=false
 e1:wr.frozen? ⟨w.heap.size+1,1,none⟩=false
 e2:wr.frozen? ⟨w.heap.size+1,2,none⟩=false
 o0:wr.cell? ⟨w.heap.size+2,0,none⟩=some (.int .i64 kind)
 o1:wr.cell? ⟨w.heap.size+2,1,none⟩=some vx
 o2:wr.cell? ⟨w.heap.size+2,2,none⟩=some vo
 f2:wr.frozen? ⟨w.heap.size+2,2,none⟩=false
 bl:Below w.heap.size w wr
 sz:w.heap.size+3<=wr.heap.size
theorem OfB.stay {w wr b:World} {kind:Int} {d f e:Value} (h:OfB w kind d f e wr) (a:Below (w.heap.size+3) wr b):OfB w kind d f e b:=by
 have c:∀ k<3,∀ j,b.cell? ⟨w.heap.size+k,j,none⟩=wr.cell? ⟨w.heap.size+k,j,none⟩:=fun k i j=>a.cell (p:=⟨w.heap.size+k,j,none⟩) (by show w.heap.size+k<_;omega)
 have g:∀ k<3,∀ j,b.frozen? ⟨w.heap.size+k,j,none⟩=wr.frozen? ⟨w.heap.size+k,j,none⟩:=fun k i j=>a.frozen (p:=⟨w.heap.size+k,j,none⟩) (by show w.heap.size+k<_;omega)
 exact⟨(c 0 (by omega) 0).trans h.t0,(c 0 (by omega) 1).trans h.t1,(c 0 (by omega) 2).trans h.t2,(c 1 (by omega) 0).trans h.d0,(c 1 (by omega) 1).trans h.d1,(c 1 (by omega) 2).trans h.d2,(g 1 (by omega) 0).trans h.e0,(g 1 (by omega) 1).trans h.e1,(g 1 (by omega) 2).trans h.e2,(c 2 (by omega) 0).trans h.o0,(c 2 (by omega) 1).trans h.o1,(c 2 (by omega) 2).trans h.o2,(g 2 (by omega) 2).trans h.f2,h.bl.trans (a.mono (by omega)),Nat.le_trans h.sz a.size⟩
theorem cT (W:World) (cs:Array Value) (t:TypeId) (k:Nat):(W.alloc (.cells cs t)).cell? ⟨W.heap.size,k,none⟩=cs[k]? :=by simp
theorem bw {w:World} {base n b j:Nat} {v:Value} {xs:List Nat} (h:w.ownsRow base 41 1 v n (xs.map uV)) (i:b<base) (x:Value):(w.setCell ⟨b,j,none⟩ x).ownsRow base 41 1 v n (xs.map uV):=by
 refine⟨h.1,?_⟩
 rcases h.2 with e | ⟨g,d,a,rfl,f,c,rest⟩
 ·exact .inl e
 ·exact .inr ⟨g,d,a,rfl,f,by rw [Below.heap_setCell w ⟨b,j,none⟩ x g (by show g≠b;omega)];exact c,rest⟩
theorem gr {w:World} {base a n:Nat} {v:Value} {xs:List Value} (h:w.ownsRow base 41 1 v n xs) (d:a<=base):w.ownsRow a 41 1 v n xs:=by
 refine⟨h.1,?_⟩
 rcases h.2 with f | ⟨g,c,b,e,i,rest⟩
 ·exact .inl f
 ·exact .inr ⟨g,c,b,e,Nat.le_trans d i,rest⟩
theorem kU (w:World) (cs:Array Value) (t:TypeId) (o:Obj) (j:Nat):((w.alloc (.cells cs t)).alloc o).cell? ⟨w.heap.size,j,none⟩=cs[j]? :=
 (((Below.refl _ (w.alloc (.cells cs t))).alloc (Nat.le_refl _) o).cell (p:=⟨w.heap.size,j,none⟩) (by show w.heap.size<_;simp)).trans (cT w cs t j)
structure OfC (w:World) (base kind:Int) (vd vf vo:Value) (wr:World):Prop where
 t0:wr.cell? ⟨w.heap.size,0,none⟩=some (.int .i64 base)
 t1:wr.cell? ⟨w.heap.size,1,none⟩=some (.int .i64 kind)
 t2:wr.cell? ⟨w.heap.size,2,none⟩=some vd
 t3:wr.cell? ⟨w.heap.size,3,none⟩=some vf
 d0:wr.cell? ⟨w.heap.size+1,0,none⟩=some (.int .i64 0)
 d1:wr.cell? ⟨w.heap.size+1,1,none⟩=some (.int .i64 0)
 d2:wr.cell? ⟨w.heap.size+1,2,none⟩=some (.slice none 0 0)
 d3:wr.cell? ⟨w.heap.size+1,3,none⟩=some (.slice none 0 0)
 e0:wr.frozen? ⟨w.heap.size+1,0,none⟩=false
 e1:wr.frozen? ⟨w.heap.size+1,1,none⟩=false
 e2:wr.frozen? ⟨w.heap.size+1,2,none⟩=false
 e3:wr.frozen? ⟨w.heap.size+1,3,none⟩=false
 o0:wr.cell? ⟨w.heap.size+2,0,none⟩=some (.int .i64 base)
 o1:wr.cell? ⟨w.heap.size+2,1,none⟩=some (.int .i64 kind)
 o2:wr.cell? ⟨w.heap.size+2,2,none⟩=some vd
 o3:wr.cell? ⟨w.heap.size+2,3,none⟩=some vo
 f3:wr.frozen? ⟨w.heap.size+2,3,none⟩=false
 bl:Below w.heap.size w wr
 sz:w.heap.size+3<=wr.heap.size
theorem OfC.stay {w wr b:World} {base kind:Int} {d f e:Value} (h:OfC w base kind d f e wr) (a:Below (w.heap.size+3) wr b):OfC w base kind d f e b:=by
 have c:∀ k<3,∀ j,b.cell? ⟨w.heap.size+k,j,none⟩=wr.cell? ⟨w.heap.size+k,j,none⟩:=fun k i j=>a.cell (p:=⟨w.heap.size+k,j,none⟩) (by show w.heap.size+k<_;omega)
 have g:∀ k<3,∀ j,b.frozen? ⟨w.heap.size+k,j,none⟩=wr.frozen? ⟨w.heap.size+k,j,none⟩:=fun k i j=>a.frozen (p:=⟨w.heap.size+k,j,none⟩) (by show w.heap.size+k<_;omega)
 exact⟨(c 0 (by omega) 0).trans h.t0,(c 0 (by omega) 1).trans h.t1,(c 0 (by omega) 2).trans h.t2,(c 0 (by omega) 3).trans h.t3,(c 1 (by omega) 0).trans h.d0,(c 1 (by omega) 1).trans h.d1,(c 1 (by omega) 2).trans h.d2,(c 1 (by omega) 3).trans h.d3,(g 1 (by omega) 0).trans h.e0,(g 1 (by omega) 1).trans h.e1,(g 1 (by omega) 2).trans h.e2,(g 1 (by omega) 3).trans h.e3,(c 2 (by omega) 0).trans h.o0,(c 2 (by omega) 1).trans h.o1,(c 2 (by omega) 2).trans h.o2,(c 2 (by omega) 3).trans h.o3,(g 2 (by omega) 3).trans h.f3,h.bl.trans (a.mono (by omega)),Nat.le_trans h.sz a.size⟩
theorem OfC.put {w wr:World} {base kind:Int} {a d e:Value} (h:OfC w base kind a d e wr) (v:Value):OfC w base kind a d v (wr.setCell ⟨w.heap.size+2,3,none⟩ v):=by
 have b:Below (w.heap.size+2) wr (wr.setCell ⟨w.heap.size+2,3,none⟩ v):=(Below.refl _ wr).setCell (p:=⟨w.heap.size+2,3,none⟩) (Nat.le_refl _) v;have c:∀ k<2,∀ j,(wr.setCell ⟨w.heap.size+2,3,none⟩ v).cell? ⟨w.heap.size+k,j,none⟩=wr.cell? ⟨w.heap.size+k,j,none⟩:=fun k f j=>b.cell (p:=⟨w.heap.size+k,j,none⟩) (by show w.heap.size+k<_;omega)
 have g:∀ k<2,∀ j,(wr.setCell ⟨w.heap.size+2,3,none⟩ v).frozen? ⟨w.heap.size+k,j,none⟩=wr.frozen? ⟨w.heap.size+k,j,none⟩:=fun k f j=>b.frozen (p:=⟨w.heap.size+k,j,none⟩) (by show w.heap.size+k<_;omega)
 refine⟨(c 0 (by omega) 0).trans h.t0,(c 0 (by omega) 1).trans h.t1,(c 0 (by omega) 2).trans h.t2,(c 0 (by omega) 3).trans h.t3,(c 1 (by omega) 0).trans h.d0,(c 1 (by omega) 1).trans h.d1,(c 1 (by omega) 2).trans h.d2,(c 1 (by omega) 3).trans h.d3,(g 1 (by omega) 0).trans h.e0,(g 1 (by omega) 1).trans h.e1,(g 1 (by omega) 2).trans h.e2,(g 1 (by omega) 3).trans h.e3,?_,?_,?_,?_,?_,h.bl.setCell (p:=⟨w.heap.size+2,3,none⟩) (by show w.heap.size<=w.heap.size+2;omega) v,by simpa using h.sz⟩
 ·simp [h.o0,go_sem]
 ·simp [h.o1,go_sem]
 ·simp [h.o2,go_sem]
 ·simp [h.o3,go_sem]
 ·simp [h.f3,go_sem]
theorem PY (w:World) (base kind:Int) (c g:Value):OfC w base kind c g (.slice none 0 0) (((w.alloc (.cells #[.int .i64 base,.int .i64 kind,c,g] 26)).alloc (.cells #[.int .i64 0,.int .i64 0,.slice none 0 0,.slice none 0 0] 39)).alloc (.cells #[.int .i64 base,.int .i64 kind,c,.slice none 0 0] 39)):=by
 have h:∀ (w:World) o,Below w.heap.size w (w.alloc o):=fun w o=>(Below.refl _ _).alloc (Nat.le_refl _) _
 generalize f:w.alloc (.cells #[.int .i64 base,.int .i64 kind,c,g] 26)=e;have m:e.heap.size=w.heap.size+1:=by rw [<- f];simp
 generalize b:e.alloc (.cells #[.int .i64 0,.int .i64 0,.slice none 0 0,.slice none 0 0] 39)=a;have n:a.heap.size=w.heap.size+2:=by rw [<- b];simp [m]
 have c1:∀ j,e.cell? ⟨w.heap.size,j,none⟩=(#[.int .i64 base,.int .i64 kind,c,g]:Array Value)[j]? :=fun j=>by rw [<- f];exact cT w _ _ j
 have c2:∀ j,a.cell? ⟨w.heap.size+1,j,none⟩=(#[.int .i64 0,.int .i64 0,.slice none 0 0,.slice none 0 0]:Array Value)[j]? :=fun j=>by rw [<- b,<- m];exact cT e _ _ j
 have c3:∀ j,(a.alloc (.cells #[.int .i64 base,.int .i64 kind,c,.slice none 0 0] 39)).cell? ⟨w.heap.size+2,j,none⟩=(#[.int .i64 base,.int .i64 kind,c,.slice none 0 0]:Array Value)[j]? :=fun j=>by rw [<- n];exact cT a _ _ j
 have l:∀ j,a.cell? ⟨w.heap.size,j,none⟩=e.cell? ⟨w.heap.size,j,none⟩:=fun j=>by rw [<- b];exact (h e _).cell (p:=⟨w.heap.size,j,none⟩) (by show w.heap.size<e.heap.size;omega)
 have d:∀ k<2,∀ j o,(a.alloc o).cell? ⟨w.heap.size+k,j,none⟩=a.cell? ⟨w.heap.size+k,j,none⟩:=fun k t j o=>(h a o).cell (p:=⟨w.heap.size+k,j,none⟩) (by show w.heap.size+k<a.heap.size;omega)
 have i:∀ j o,(a.alloc o).frozen? ⟨w.heap.size+1,j,none⟩=false:=fun j o=>by
  rw [(h a o).frozen (p:=⟨w.heap.size+1,j,none⟩) (by show w.heap.size+1<a.heap.size;omega),<- b,<- m]
  exact World.frozen?_alloc_new _ _ _ _
 have s:Below w.heap.size w (a.alloc (.cells #[.int .i64 base,.int .i64 kind,c,.slice none 0 0] 39)):=by
  have r:Below w.heap.size w e:=by rw [<- f];exact h w _
  have q:Below w.heap.size w a:=by rw [<- b];exact r.alloc r.size _
  exact q.alloc q.size _
 exact⟨((d 0 (by omega) 0 _).trans (l 0)).trans (c1 0),((d 0 (by omega) 1 _).trans (l 1)).trans (c1 1),((d 0 (by omega) 2 _).trans (l 2)).trans (c1 2),((d 0 (by omega) 3 _).trans (l 3)).trans (c1 3),(d 1 (by omega) 0 _).trans (c2 0),(d 1 (by omega) 1 _).trans (c2 1),(d 1 (by omega) 2 _).trans (c2 2),(d 1 (by omega) 3 _).trans (c2 3),i 0 _,i 1 _,i 2 _,i 3 _,c3 0,c3 1,c3 2,c3 3,by rw [<- n];exact World.frozen?_alloc_new _ _ _ _,s,by simp;omega⟩
theorem zt (base kind:Int) (B z cx cy m n:Nat) (d l:Option Addr) (ys:List Nat) (w:World) (K:VSrc w l B z n (Ro ys)) (r:ys.length=n) (hn:n<=17592186043904) :
  Calls Tryz.prog 10 #[.agg #[.int .i64 base,.int .i64 kind,(.slice d m cx),.slice l n cy]] w fun e H=>∃ v,e=.returned (.agg #[.int .i64 base,.int .i64 kind,(.slice d m cx),v])/\H.ownsRow w.heap.size 41 1 v n (ys.map uV)/\Below w.heap.size w H:=by
 have E:=hideS K;have x:=hideS r;have f:=hideS (PY w base kind (.slice d m cx) (.slice l n cy));have p0:∀ o,((w.alloc (.cells #[.int .i64 base,.int .i64 kind,(.slice d m cx),.slice l n cy] 26)).alloc o).cell? ⟨w.heap.size,0,none⟩=some (.int .i64 base):=fun o=>kU w _ _ o 0
 have p1:∀ o,((w.alloc (.cells #[.int .i64 base,.int .i64 kind,(.slice d m cx),.slice l n cy] 26)).alloc o).cell? ⟨w.heap.size,1,none⟩=some (.int .i64 kind):=fun o=>kU w _ _ o 1
 have p2:∀ o,((w.alloc (.cells #[.int .i64 base,.int .i64 kind,(.slice d m cx),.slice l n cy] 26)).alloc o).cell? ⟨w.heap.size,2,none⟩=some (.slice d m cx):=fun o=>kU w _ _ o 2
 clear K r
 go_enter Tryz.func10,Tryz.ntmps10
 go_wp2_with fail
 go_loopw [4] (fun i b=>∃ k:Nat,k<=n/\i=.int .i64 k/\Hid (∃ v,b.ownsRow (w.heap.size+3) 41 1 v k ((ys.take k).map uV)/\OfC w base kind (.slice d m cx) (.slice l n cy) v b)) (fun i _=>n - (intOf i).toNat)
 case atStart=>exact⟨0,Nat.zero_le _,rfl,_,qe _ _,f.out⟩
 case round=>
  clear f;obtain⟨k,X,rfl,I⟩:=hrel;obtain⟨v,G,J⟩:=I.out;obtain⟨q,g0,a,rfl,_,_,_,_⟩:=bq G (by rw [List.length_take,x.out];omega)
  have C:=hideS G;have f:=hideS J;obtain⟨t0,t1,t2,t3,N,P,O,R,U,e1,V,Z,o0,o1,o2,o3,f3,_,_⟩:=f.out;clear G J I
  by_cases u:k<n
  ·obtain rfl:=E.out.at_ (by omega)
   have Q:b.cell? ⟨B,z+k,none⟩=some (.float .f64 (ys.getD k 0)):=(f.out.bl.cell (p:=⟨B,z+k,none⟩) (E.out.lt (by omega))).trans (E.out.cell k u)
   have S:Hid (ys.take (k+1)=ys.take k++[ys.getD k 0]):=by
    show _=_
    rw [List.take_add_one]
    congr 1
    simp [List.getD,List.getElem?_eq_getElem (show k<ys.length by rw [x.out];exact u)]
   generalize ys.getD k 0=y at *
   have t:Hid (∀ o,(b.drew.alloc o).ownsRow (w.heap.size+3) 41 1 (.slice q k a) k ((ys.take k).map uV)):=fun o=>aq (w:=b) C.out ((Below.refl _ b).drew.alloc (Nat.le_refl _) o)
   have c:Hid (∀ o,OfC w base kind (.slice d m cx) (.slice (some ⟨B,z,none⟩) n cy) (.slice q k a) (b.drew.alloc o)):=fun o=>f.out.stay ((Below.refl (w.heap.size+3) b).drew.alloc f.out.sz o)
   have x2:(b.alloc (.cells #[.int .u64 (y:Int)] 41)).drew.cell? ⟨w.heap.size+2,3,none⟩=some (.slice q k a):=(c.out _).o3;have x3:(b.alloc (.cells #[.int .u64 (y:Int)] 41)).cell? ⟨w.heap.size+2,3,none⟩=some (.slice q k a):=(c.out _).o3;have g3:(0:Int)<=(k:Int):=by omega
   have Y:(k:Int)<(n:Int):=by omega
   go_wp2_with fail
   go_region_law (first | (go_simp;go_at_call 11;refine (turned (fC _ _)).mono ?_;rintro e wb ⟨rfl,rfl⟩) | (refine re rfl (.tmp 20) (.tmp 27) rfl (w.heap.size+3) _ k (ys.take k) rfl (t.out _) b.heap.size y rfl (by simp) (by omega) (c.out (.cells #[.int .u64 (y:Int)] 41)).sz ?_;intro v6 w6 g s;obtain⟨q6,g6,W,rfl,_,_,_,_⟩:=bq g (by rw [List.length_append,List.length_take,x.out];simp;omega);have h:=hideS ((c.out _).stay (be (t.out _) s (c.out (.cells #[.int .u64 (y:Int)] 41)).sz));have D:=hideS g;have c2:=h.out.o3;have c3:=h.out.f3;clear g s))
   all_goals
    go_wp2_with fail
    go_roundw
    case rel=>exact⟨k+1,by omega,by simp,_,by rw [S.out];exact bw D.out (by omega) _,h.out.put _⟩
    case measure=>simp [intOf];omega
  ·obtain rfl:k=n:=by omega
   have T:¬ (k:Int)<(k:Int):=by omega
   have M:Hid (ys.take k=ys):=by show _=_;exact List.take_of_length_le (by rw [x.out];omega)
   rw [M.out] at C
   have L:=f.out.sz
   go_wp2_with fail
   refine bodyPost_ret (v:=.agg #[.int .i64 base,.int .i64 kind,.slice d m cx,.slice q k a]) (by simp [results,Tryz.results10,go_sem,N,P,O,R]) rfl ?_
   have A:∀ j,w.heap.size<=(⟨w.heap.size+1,j,none⟩:Addr).block:=fun j=>by show w.heap.size<=w.heap.size+1;omega
   have F:Below w.heap.size w ((((b.setCell ⟨w.heap.size+1,0,none⟩ (.int .i64 base)).setCell ⟨w.heap.size+1,1,none⟩ (.int .i64 kind)).setCell ⟨w.heap.size+1,2,none⟩ (.slice d m cx)).setCell ⟨w.heap.size+1,3,none⟩ (.slice q k a)):=(((f.out.bl.setCell (A 0) _).setCell (A 1) _).setCell (A 2) _).setCell (A 3) _;exact⟨_,rfl,gr (bw (bw (bw (bw C.out (by omega) _) (by omega) _) (by omega) _) (by omega) _) (by omega),F⟩
def kV (x:Int):Value:=.int .i64 x
theorem iP:(Tryz.prog.info? 3).map (fun i=>(i.zero,i.size,i.bytes))=some (some (.int .i64 0),1,8):=by kernel_rfl
theorem gY (w:World) {f:Array Oper} {rest:List Oper} {o:Oper} {a:Act} {Q:Exit->Act->World->Prop} (q:o.guard=none) (s x:Operand)
  (E:o.op=.call { callee:=.builtin .append,args:=#[s,x],argTypes:=#[23,23] })
  (base:Nat) (v:Value) (n:Nat) (xs:List Int) (H:a.eval s=v) (e:w.ownsRow base 3 1 v n (xs.map kV))
  (b off c m:Nat) (ys:List Int) (I:a.eval x=.slice (some ⟨b,off,none⟩) m c) (B:ys.length=m) (k:∀ j<m,w.cell? ⟨b,off+j,none⟩=some (xV ys j)) (hn:n<=100000) (F:m<=100000) (d:base<=w.heap.size)
  (h:∀ l g,g.ownsRow base 3 1 l (n+m) ((xs++ys).map kV)->w.grownBy g v.ownBlock->wpList Tryz.prog f Q rest (a.put o.dst l) g):wpList Tryz.prog f Q (o::rest) a w:=by
 obtain⟨G,hi,r,t,A⟩:=info_parts iP;refine wpList_append_own w q s x 23 E base 3 G (.int .i64 0) 1 8 Tryz.underlying23 hi r t A rfl (by decide) v n (xs.map kV) H e ⟨b,off,none⟩ m c (ys.map kV) I (by rw [List.length_map,B,Nat.mul_one]) ?_ (fun u y=>by obtain⟨z,_,rfl⟩:=List.mem_map.1 y;rfl) (by unfold maxLen;omega) (by omega) d ?_
 ·intro j u p;have i:j<ys.length:=by
   have:=(List.getElem?_eq_some_iff.1 p).1
   simpa using this
  rw [Addr.add_lit,k j (by omega)]
  rw [List.getElem?_map,List.getElem?_eq_getElem i] at p
  have y:kV ys[j]=u:=Option.some.inj p;rw [<- y]
  show some (Value.int .i64 (ys.getD j 0))=_
  rw [List.getD_eq_getElem?_getD,List.getElem?_eq_getElem i];rfl
 ·intro l g D C _;refine h l g ?_ C
  rw [List.map_append];exact D
theorem gZ (w:World) {f:Array Oper} {rest:List Oper} {o:Oper} {a:Act} {Q:Exit->Act->World->Prop} (q:o.guard=none) (s x:Operand)
  (E:o.op=.call { callee:=.builtin .append,args:=#[s,x],argTypes:=#[33,33] })
  (base:Nat) (v:Value) (n:Nat) (xs:List Nat) (H:a.eval s=v) (e:w.ownsRow base 41 1 v n (xs.map uV))
  (b off c m:Nat) (ys:List Nat) (I:a.eval x=.slice (some ⟨b,off,none⟩) m c) (B:ys.length=m) (k:∀ j<m,w.cell? ⟨b,off+j,none⟩=some (yV ys j)) (hn:n<=100000) (F:m<=100000) (d:base<=w.heap.size)
  (h:∀ l g,g.ownsRow base 41 1 l (n+m) ((xs++ys).map uV)->w.grownBy g v.ownBlock->wpList Tryz.prog f Q rest (a.put o.dst l) g):wpList Tryz.prog f Q (o::rest) a w:=by
 obtain⟨G,hi,r,t,A⟩:=info_parts vA;refine wpList_append_own w q s x 33 E base 41 G (.int .u64 0) 1 8 Tryz.underlying33 hi r t A rfl (by decide) v n (xs.map uV) H e ⟨b,off,none⟩ m c (ys.map uV) I (by rw [List.length_map,B,Nat.mul_one]) ?_ (fun u y=>by obtain⟨z,_,rfl⟩:=List.mem_map.1 y;rfl) (by unfold maxLen;omega) (by omega) d ?_
 ·intro j u p;have i:j<ys.length:=by
   have:=(List.getElem?_eq_some_iff.1 p).1
   simpa using this
  rw [Addr.add_lit,k j (by omega)]
  rw [List.getElem?_map,List.getElem?_eq_getElem i] at p
  have y:uV ys[j]=u:=Option.some.inj p;rw [<- y]
  show some (Value.int .u64 (ys.getD j 0:Nat))=_
  rw [List.getD_eq_getElem?_getD,List.getElem?_eq_getElem i];rfl
 ·intro l g D C _;refine h l g ?_ C
  rw [List.map_append];exact D
theorem nl (w:World) {f:Array Oper} {rest:List Oper} {o:Oper} {a:Act} {Q:Exit->Act->World->Prop} (q:o.guard=none) (s x:Operand)
  (E:o.op=.call { callee:=.builtin .append,args:=#[s,x],argTypes:=#[24,24] })
  (base:Nat) (v:Value) (n:Nat) (xs:List Nat) (H:a.eval s=v) (e:w.ownsRow base 27 1 v n (xs.map fV))
  (b off c m:Nat) (ys:List Nat) (I:a.eval x=.slice (some ⟨b,off,none⟩) m c) (B:ys.length=m) (k:∀ j<m,w.cell? ⟨b,off+j,none⟩=some (flV ys j)) (hn:n<=100000) (F:m<=100000) (d:base<=w.heap.size)
  (h:∀ l g,g.ownsRow base 27 1 l (n+m) ((xs++ys).map fV)->w.grownBy g v.ownBlock->wpList Tryz.prog f Q rest (a.put o.dst l) g):wpList Tryz.prog f Q (o::rest) a w:=by
 obtain⟨G,hi,r,t,A⟩:=info_parts jx;refine wpList_append_own w q s x 24 E base 27 G (.float .f64 0) 1 8 Tryz.underlying24 hi r t A rfl (by decide) v n (xs.map fV) H e ⟨b,off,none⟩ m c (ys.map fV) I (by rw [List.length_map,B,Nat.mul_one]) ?_ (fun u y=>by obtain⟨z,_,rfl⟩:=List.mem_map.1 y;rfl) (by unfold maxLen;omega) (by omega) d ?_
 ·intro j u p;have i:j<ys.length:=by
   have:=(List.getElem?_eq_some_iff.1 p).1
   simpa using this
  rw [Addr.add_lit,k j (by omega)]
  rw [List.getElem?_map,List.getElem?_eq_getElem i] at p
  have y:fV ys[j]=u:=Option.some.inj p;rw [<- y]
  show some (Value.float .f64 (ys.getD j 0))=_
  rw [List.getD_eq_getElem?_getD,List.getElem?_eq_getElem i];rfl
 ·intro l g D C _;refine h l g ?_ C
  rw [List.map_append];exact D
theorem Gf (w:World) (base:Nat):w.ownsRow base 3 1 (.slice none 0 0) 0 (([]:List Int).map kV):=⟨rfl,Or.inl ⟨rfl,rfl⟩⟩
theorem de {t:TypeId} {w d:World} {base n:Nat} {v:Value} {xs:List Value} (h:w.ownsRow base t 1 v n xs) (e:Below w.heap.size w d):d.ownsRow base t 1 v n xs:=by
 refine⟨h.1,?_⟩
 rcases h.2 with f | ⟨g,c,b,rfl,i,a,rest⟩
 ·exact .inl f
 ·exact .inr ⟨g,c,b,rfl,i,by rw [e.block g (Array.getElem?_eq_some_iff.1 a).1];exact a,rest⟩
theorem bC {t:TypeId} {w c:World} {v:Value} {B n:Nat} {xs:List Value} (h:w.ownsRow B t 1 v n xs) (e:w.grownBy c v.ownBlock) (d:B<=w.heap.size):Below B w c:=
 (Below.refl B w).grown e d (fun k b=>by
  rcases h.2 with⟨rfl,_⟩| ⟨g,i,f,rfl,a,_⟩
  ·cases b
  ·obtain rfl:g=k:=by simpa [Value.ownBlock] using b
   exact a)
theorem aw {t:TypeId} {w:World} {base n b j:Nat} {v:Value} {xs:List Value} (h:w.ownsRow base t 1 v n xs) (i:b<base) (x:Value):(w.setCell ⟨b,j,none⟩ x).ownsRow base t 1 v n xs:=by
 refine⟨h.1,?_⟩
 rcases h.2 with e | ⟨g,d,a,rfl,f,c,rest⟩
 ·exact .inl e
 ·exact .inr ⟨g,d,a,rfl,f,by rw [Below.heap_setCell w ⟨b,j,none⟩ x g (by show g≠b;omega)];exact c,rest⟩
theorem bS {t:TypeId} {w:World} {base a n:Nat} {v:Value} {xs:List Value} (h:w.ownsRow base t 1 v n xs) (d:a<=base):w.ownsRow a t 1 v n xs:=by
 refine⟨h.1,?_⟩
 rcases h.2 with f | ⟨g,c,b,e,i,rest⟩
 ·exact .inl f
 ·exact .inr ⟨g,c,b,e,Nat.le_trans d i,rest⟩
theorem Gg {t:TypeId} {w i:World} {base n B g c:Nat} {xs:List Value} (h:w.ownsRow base t 1 (.slice (some ⟨g,0,none⟩) n c) n xs) (m:Below B w i) (p:g<B):i.ownsRow base t 1 (.slice (some ⟨g,0,none⟩) n c) n xs:=by
 refine⟨h.1,?_⟩
 rcases h.2 with⟨l,_⟩| ⟨k,b,f,e,o,d,rest⟩
 ·cases l
 ·have j:=e;injection e with a q r;injection a with a;injection a with a;subst a;exact .inr ⟨g,b,f,j,o,by rw [m.block g p];exact d,rest⟩
theorem wG (w:World) (x:Int) (t:TypeId):∀ j<1,(w.alloc (.cells #[.int .i64 x] t)).cell? ⟨w.heap.size,0+j,none⟩=some (xV [x] j):=fun j a=>by
 obtain rfl:j=0:=by omega
 exact cT w _ _ 0
theorem KF (w:World) (x:Nat) (t:TypeId):∀ j<1,(w.alloc (.cells #[.int .u64 (x:Int)] t)).cell? ⟨w.heap.size,0+j,none⟩=some (yV [x] j):=fun j a=>by
 obtain rfl:j=0:=by omega
 exact cT w _ _ 0
theorem NA (w:World) (x:Nat) (t:TypeId):∀ j<1,(w.alloc (.cells #[.float .f64 x] t)).cell? ⟨w.heap.size,0+j,none⟩=some (flV [x] j):=fun j a=>by
 obtain rfl:j=0:=by omega
 exact cT w _ _ 0
theorem dD {w:World} {base n:Nat} {v:Value} {xs:List Int} (h:w.ownsRow base 3 1 v n (xs.map kV)) (hn:xs.length=n) (m:0<n):∃ g c,v=.slice (some ⟨g,0,none⟩) n c/\VSrc w (some ⟨g,0,none⟩) g 0 n (xV xs)/\base<=g/\n<=c/\c<=maxLen:=by
 rcases h.2 with⟨rfl,rfl⟩| ⟨g,a,l,rfl,k,f,d,b,e,j⟩
 ·omega
 ·refine⟨g,a,rfl,⟨fun _=>rfl,fun _=>(Array.getElem?_eq_some_iff.1 f).1,fun i hi=>?_⟩,k,d,b⟩
  rw [Nat.zero_add,World.ownsRow.cellAt h i (by omega),List.getElem?_map]
  show Option.map kV xs[i]? =some (Value.int .i64 (xs.getD i 0))
  rw [List.getD_eq_getElem?_getD,List.getElem?_eq_getElem (by omega)];rfl
theorem fx {w:World} {base n:Nat} {v:Value} {xs:List Nat} (h:w.ownsRow base 27 1 v n (xs.map fV)) (hn:xs.length=n) (k:0<n):∃ g c,v=.slice (some ⟨g,0,none⟩) n c/\VSrc w (some ⟨g,0,none⟩) g 0 n (flV xs)/\base<=g/\n<=c/\c<=maxLen:=by
 obtain⟨p,g,c,e,f,a,b,d⟩:=FQ h hn;have i:=f.at_ (by omega)
 subst i;exact⟨g,c,e,⟨fun _=>rfl,fun _=>f.lt (by omega),fun j l=>f.cell j (by omega)⟩,a,b,d⟩
structure TabC (w:World) (base kind:Int) (vd vf vX vY:Value) (wr:World):Prop where
 t0:wr.cell? ⟨w.heap.size,0,none⟩=some (.int .i64 base)
 t1:wr.cell? ⟨w.heap.size,1,none⟩=some (.int .i64 kind)
 t2:wr.cell? ⟨w.heap.size,2,none⟩=some vd
 t3:wr.cell? ⟨w.heap.size,3,none⟩=some vf
 d0:wr.cell? ⟨w.heap.size+1,0,none⟩=some (.int .i64 0)
 d1:wr.cell? ⟨w.heap.size+1,1,none⟩=some (.slice none 0 0)
 d2:wr.cell? ⟨w.heap.size+1,2,none⟩=some (.slice none 0 0)
 e0:wr.frozen? ⟨w.heap.size+1,0,none⟩=false
 e1:wr.frozen? ⟨w.heap.size+1,1,none⟩=false
 e2:wr.frozen? ⟨w.heap.size+1,2,none⟩=false
 o0:wr.cell? ⟨w.heap.size+2,0,none⟩=some (.int .i64 kind)
 o1:wr.cell? ⟨w.heap.size+2,1,none⟩=some vX
 o2:wr.cell? ⟨w.heap.size+2,2,none⟩=some vY
 f1:wr.frozen? ⟨w.heap.size+2,1,none⟩=false
 f2:wr.frozen? ⟨w.heap.size+2,2,none⟩=false
 bl:Below w.heap.size w wr
 sz:w.heap.size+3<=wr.heap.size
theorem TabC.stay {w wr b:World} {base kind:Int} {d i f e:Value} (h:TabC w base kind d i f e wr) (a:Below (w.heap.size+3) wr b):TabC w base kind d i f e b:=by
 have c:∀ k<3,∀ j,b.cell? ⟨w.heap.size+k,j,none⟩=wr.cell? ⟨w.heap.size+k,j,none⟩:=fun k l j=>a.cell (p:=⟨w.heap.size+k,j,none⟩) (by show w.heap.size+k<_;omega)
 have g:∀ k<3,∀ j,b.frozen? ⟨w.heap.size+k,j,none⟩=wr.frozen? ⟨w.heap.size+k,j,none⟩:=fun k l j=>a.frozen (p:=⟨w.heap.size+k,j,none⟩) (by show w.heap.size+k<_;omega)
 exact⟨(c 0 (by omega) 0).trans h.t0,(c 0 (by omega) 1).trans h.t1,(c 0 (by omega) 2).trans h.t2,(c 0 (by omega) 3).trans h.t3,(c 1 (by omega) 0).trans h.d0,(c 1 (by omega) 1).trans h.d1,(c 1 (by omega) 2).trans h.d2,(g 1 (by omega) 0).trans h.e0,(g 1 (by omega) 1).trans h.e1,(g 1 (by omega) 2).trans h.e2,(c 2 (by omega) 0).trans h.o0,(c 2 (by omega) 1).trans h.o1,(c 2 (by omega) 2).trans h.o2,(g 2 (by omega) 1).trans h.f1,(g 2 (by omega) 2).trans h.f2,h.bl.trans (a.mono (by omega)),Nat.le_trans h.sz a.size⟩
theorem TabC.putX {w wr:World} {base kind:Int} {a e i d:Value} (h:TabC w base kind a e i d wr) (v:Value):TabC w base kind a e v d (wr.setCell ⟨w.heap.size+2,1,none⟩ v):=by
 have b:Below (w.heap.size+2) wr (wr.setCell ⟨w.heap.size+2,1,none⟩ v):=(Below.refl _ wr).setCell (p:=⟨w.heap.size+2,1,none⟩) (Nat.le_refl _) v;have c:∀ k<2,∀ j,(wr.setCell ⟨w.heap.size+2,1,none⟩ v).cell? ⟨w.heap.size+k,j,none⟩=wr.cell? ⟨w.heap.size+k,j,none⟩:=fun k f j=>b.cell (p:=⟨w.heap.size+k,j,none⟩) (by show w.heap.size+k<_;omega)
 have g:∀ k<2,∀ j,(wr.setCell ⟨w.heap.size+2,1,none⟩ v).frozen? ⟨w.heap.size+k,j,none⟩=wr.frozen? ⟨w.heap.size+k,j,none⟩:=fun k f j=>b.frozen (p:=⟨w.heap.size+k,j,none⟩) (by show w.heap.size+k<_;omega)
 refine⟨(c 0 (by omega) 0).trans h.t0,(c 0 (by omega) 1).trans h.t1,(c 0 (by omega) 2).trans h.t2,(c 0 (by omega) 3).trans h.t3,(c 1 (by omega) 0).trans h.d0,(c 1 (by omega) 1).trans h.d1,(c 1 (by omega) 2).trans h.d2,(g 1 (by omega) 0).trans h.e0,(g 1 (by omega) 1).trans h.e1,(g 1 (by omega) 2).trans h.e2,?_,?_,?_,?_,?_,h.bl.setCell (p:=⟨w.heap.size+2,1,none⟩) (by show w.heap.size<=w.heap.size+2;omega) v,by simpa using h.sz⟩
 ·simp [h.o0,go_sem]
 ·simp [h.o1,go_sem]
 ·simp [h.o2,go_sem]
 ·simp [h.f1,go_sem]
 ·simp [h.f2,go_sem]
theorem TabC.putY {w wr:World} {base kind:Int} {a e d i:Value} (h:TabC w base kind a e d i wr) (v:Value):TabC w base kind a e d v (wr.setCell ⟨w.heap.size+2,2,none⟩ v):=by
 have b:Below (w.heap.size+2) wr (wr.setCell ⟨w.heap.size+2,2,none⟩ v):=(Below.refl _ wr).setCell (p:=⟨w.heap.size+2,2,none⟩) (Nat.le_refl _) v;have c:∀ k<2,∀ j,(wr.setCell ⟨w.heap.size+2,2,none⟩ v).cell? ⟨w.heap.size+k,j,none⟩=wr.cell? ⟨w.heap.size+k,j,none⟩:=fun k f j=>b.cell (p:=⟨w.heap.size+k,j,none⟩) (by show w.heap.size+k<_;omega)
 have g:∀ k<2,∀ j,(wr.setCell ⟨w.heap.size+2,2,none⟩ v).frozen? ⟨w.heap.size+k,j,none⟩=wr.frozen? ⟨w.heap.size+k,j,none⟩:=fun k f j=>b.frozen (p:=⟨w.heap.size+k,j,none⟩) (by show w.heap.size+k<_;omega)
 refine⟨(c 0 (by omega) 0).trans h.t0,(c 0 (by omega) 1).trans h.t1,(c 0 (by omega) 2).trans h.t2,(c 0 (by omega) 3).trans h.t3,(c 1 (by omega) 0).trans h.d0,(c 1 (by omega) 1).trans h.d1,(c 1 (by omega) 2).trans h.d2,(g 1 (by omega) 0).trans h.e0,(g 1 (by omega) 1).trans h.e1,(g 1 (by omega) 2).trans h.e2,?_,?_,?_,?_,?_,h.bl.setCell (p:=⟨w.heap.size+2,2,none⟩) (by show w.heap.size<=w.heap.size+2;omega) v,by simpa using h.sz⟩
 ·simp [h.o0,go_sem]
 ·simp [h.o1,go_sem]
 ·simp [h.o2,go_sem]
 ·simp [h.f1,go_sem]
 ·simp [h.f2,go_sem]
theorem NB (w:World) (base kind:Int) (f g:Value):TabC w base kind f g (.slice none 0 0) (.slice none 0 0) (((w.alloc (.cells #[.int .i64 base,.int .i64 kind,f,g] 39)).alloc (.cells #[.int .i64 0,.slice none 0 0,.slice none 0 0] 156)).alloc (.cells #[.int .i64 kind,.slice none 0 0,.slice none 0 0] 156)):=by
 have h:∀ (w:World) o,Below w.heap.size w (w.alloc o):=fun w o=>(Below.refl _ _).alloc (Nat.le_refl _) _
 generalize e:w.alloc (.cells #[.int .i64 base,.int .i64 kind,f,g] 39)=c;have n:c.heap.size=w.heap.size+1:=by rw [<- e];simp
 generalize b:c.alloc (.cells #[.int .i64 0,.slice none 0 0,.slice none 0 0] 156)=a;have m:a.heap.size=w.heap.size+2:=by rw [<- b];simp [n]
 have c1:∀ j,c.cell? ⟨w.heap.size,j,none⟩=(#[.int .i64 base,.int .i64 kind,f,g]:Array Value)[j]? :=fun j=>by rw [<- e];exact cT w _ _ j
 have c2:∀ j,a.cell? ⟨w.heap.size+1,j,none⟩=(#[.int .i64 0,.slice none 0 0,.slice none 0 0]:Array Value)[j]? :=fun j=>by rw [<- b,<- n];exact cT c _ _ j
 have c3:∀ j,(a.alloc (.cells #[.int .i64 kind,.slice none 0 0,.slice none 0 0] 156)).cell? ⟨w.heap.size+2,j,none⟩=(#[.int .i64 kind,.slice none 0 0,.slice none 0 0]:Array Value)[j]? :=fun j=>by rw [<- m];exact cT a _ _ j
 have i:∀ j,a.cell? ⟨w.heap.size,j,none⟩=c.cell? ⟨w.heap.size,j,none⟩:=fun j=>by rw [<- b];exact (h c _).cell (p:=⟨w.heap.size,j,none⟩) (by show w.heap.size<c.heap.size;omega)
 have d:∀ k<2,∀ j o,(a.alloc o).cell? ⟨w.heap.size+k,j,none⟩=a.cell? ⟨w.heap.size+k,j,none⟩:=fun k t j o=>(h a o).cell (p:=⟨w.heap.size+k,j,none⟩) (by show w.heap.size+k<a.heap.size;omega)
 have l:∀ j o,(a.alloc o).frozen? ⟨w.heap.size+1,j,none⟩=false:=fun j o=>by
  rw [(h a o).frozen (p:=⟨w.heap.size+1,j,none⟩) (by show w.heap.size+1<a.heap.size;omega),<- b,<- n]
  exact World.frozen?_alloc_new _ _ _ _
 have s:Below w.heap.size w (a.alloc (.cells #[.int .i64 kind,.slice none 0 0,.slice none 0 0] 156)):=by
  have r:Below w.heap.size w c:=by rw [<- e];exact h w _
  have q:Below w.heap.size w a:=by rw [<- b];exact r.alloc r.size _
  exact q.alloc q.size _
 exact⟨((d 0 (by omega) 0 _).trans (i 0)).trans (c1 0),((d 0 (by omega) 1 _).trans (i 1)).trans (c1 1),((d 0 (by omega) 2 _).trans (i 2)).trans (c1 2),((d 0 (by omega) 3 _).trans (i 3)).trans (c1 3),(d 1 (by omega) 0 _).trans (c2 0),(d 1 (by omega) 1 _).trans (c2 1),(d 1 (by omega) 2 _).trans (c2 2),l 0 _,l 1 _,l 2 _,c3 0,c3 1,c3 2,by rw [<- m];exact World.frozen?_alloc_new _ _ _ _,by rw [<- m];exact World.frozen?_alloc_new _ _ _ _,s,by simp;omega⟩
theorem NC (w:World) (kind:Int) (o:Obj):((((w.alloc o).alloc (.cells #[.int .i64 0,.slice none 0 0,.slice none 0 0] 156)).alloc (.cells #[.int .i64 0,.slice none 0 0,.slice none 0 0] 156)).cell? ⟨w.heap.size+1+1,0,none⟩=some (.int .i64 0)/\(((w.alloc o).alloc (.cells #[.int .i64 0,.slice none 0 0,.slice none 0 0] 156)).alloc (.cells #[.int .i64 0,.slice none 0 0,.slice none 0 0] 156)).cell? ⟨w.heap.size+1+1,1,none⟩=some (.slice none 0 0)/\(((w.alloc o).alloc (.cells #[.int .i64 0,.slice none 0 0,.slice none 0 0] 156)).alloc (.cells #[.int .i64 0,.slice none 0 0,.slice none 0 0] 156)).cell? ⟨w.heap.size+1+1,2,none⟩=some (.slice none 0 0))/\(∀ i,(((w.alloc o).alloc (.cells #[.int .i64 0,.slice none 0 0,.slice none 0 0] 156)).alloc (.cells #[.int .i64 0,.slice none 0 0,.slice none 0 0] 156)).frozen? ⟨w.heap.size+1+1,i,none⟩=false)/\(((((w.alloc o).alloc (.cells #[.int .i64 0,.slice none 0 0,.slice none 0 0] 156)).alloc (.cells #[.int .i64 0,.slice none 0 0,.slice none 0 0] 156)).setCell ⟨w.heap.size+1+1,0,none⟩ (.int .i64 kind)).setCell ⟨w.heap.size+1+1,1,none⟩ (.slice none 0 0)).setCell ⟨w.heap.size+1+1,2,none⟩ (.slice none 0 0)=((w.alloc o).alloc (.cells #[.int .i64 0,.slice none 0 0,.slice none 0 0] 156)).alloc (.cells #[.int .i64 kind,.slice none 0 0,.slice none 0 0] 156):=by
 generalize a:(w.alloc o).alloc (.cells #[.int .i64 0,.slice none 0 0,.slice none 0 0] 156)=u;have z:w.heap.size+1+1=u.heap.size:=by rw [<- a];simp
 rw [z];refine⟨⟨cT u _ _ 0,cT u _ _ 1,cT u _ _ 2⟩,fun i=>World.frozen?_alloc_new _ _ _ _,?_⟩
 rw [World.setCell_alloc_at (hn:=rfl),World.setCell_alloc_at (hn:=rfl),World.setCell_alloc_at (hn:=rfl)]
 rfl
theorem sJ (base kind:Int) (bd c k f d h n:Nat) (A:List Int) (W:List Nat) (w:World) (hd:VSrc w (some ⟨bd,c,none⟩) bd c n (xV A)) (hf:VSrc w (some ⟨f,d,none⟩) f d n (yV W)) (hl:A.length=n) (al:W.length=n) (hn:1<=n) (dc:n<=255) :
  Calls Tryz.prog 108 #[.agg #[.int .i64 base,.int .i64 kind,.slice (some ⟨bd,c,none⟩) n k,.slice (some ⟨f,d,none⟩) n h]] w fun e w'=>∃ gx cx gy cy,e=.returned (.agg #[.int .i64 kind,.slice (some ⟨gx,0,none⟩) (1+n) cx,.slice (some ⟨gy,0,none⟩) (1+n) cy])/\w'.ownsRow w.heap.size 3 1 (.slice (some ⟨gx,0,none⟩) (1+n) cx) (1+n) ((base::A).map kV)/\w'.ownsRow w.heap.size 41 1 (.slice (some ⟨gy,0,none⟩) (1+n) cy) (1+n) ((4607182418800017408::W).map uV)/\Below w.heap.size w w':=by
 obtain⟨vX,L⟩:∃ v:Value,v=.slice none 0 0:=⟨_,rfl⟩;obtain⟨V,U⟩:∃ v:Value,v=.slice none 0 0:=⟨_,rfl⟩;have u:=NB w base kind (.slice (some ⟨bd,c,none⟩) n k) (.slice (some ⟨f,d,none⟩) n h);obtain⟨⟨y0,y1,y2⟩,yf,ye⟩:=NC w kind (.cells #[.int .i64 base,.int .i64 kind,.slice (some ⟨bd,c,none⟩) n k,.slice (some ⟨f,d,none⟩) n h] 39);rw [<- ye] at u
 obtain⟨w2,bs⟩:∃ w2,((w.alloc (.cells #[.int .i64 base,.int .i64 kind,.slice (some ⟨bd,c,none⟩) n k,.slice (some ⟨f,d,none⟩) n h] 39)).alloc (.cells #[.int .i64 0,.slice none 0 0,.slice none 0 0] 156)).alloc (.cells #[.int .i64 0,.slice none 0 0,.slice none 0 0] 156)=w2:=⟨_,rfl⟩;rw [bs] at u y0 y1 y2 yf
 obtain⟨O,bv⟩:∃ O,((w2.setCell ⟨w.heap.size+1+1,0,none⟩ (.int .i64 kind)).setCell ⟨w.heap.size+1+1,1,none⟩ (.slice none 0 0)).setCell ⟨w.heap.size+1+1,2,none⟩ (.slice none 0 0)=O:=⟨_,rfl⟩;rw [bv] at u
 have da:=yf 0;have dg:=yf 1;have ct:=yf 2;clear yf ye;have HT:Hid (TabC w base kind (.slice (some ⟨bd,c,none⟩) n k) (.slice (some ⟨f,d,none⟩) n h) vX V O):=by show TabC _ _ _ _ _ _ _ _;rw [L,U];exact u
 have bo:Hid (∀ H:World,H.ownsRow (w.heap.size+3) 3 1 vX 0 (([]:List Int).map kV)):=fun H=>by rw [L];exact Gf H _
 have ai:Hid (∀ (H:World) (B:Nat),H.ownsRow B 41 1 V 0 (([]:List Nat).map uV)):=fun H B=>by rw [U];exact qe H _
 have HD:=hideS hd;have HF:=hideS hf;have HL:=hideS hl;have ad:=hideS al;clear u L U hd hf hl al;have p0:∀ o,((w.alloc (.cells #[.int .i64 base,.int .i64 kind,.slice (some ⟨bd,c,none⟩) n k,.slice (some ⟨f,d,none⟩) n h] 39)).alloc o).cell? ⟨w.heap.size,1,none⟩=some (.int .i64 kind):=fun o=>kU w _ _ o 1
 have t0:=HT.out.t0;have o1:=HT.out.o1;have J:Hid (∀ o,TabC w base kind (.slice (some ⟨bd,c,none⟩) n k) (.slice (some ⟨f,d,none⟩) n h) vX V (O.alloc o)):=fun o=>HT.out.stay ((Below.refl _ _).alloc HT.out.sz o)
 have db:=(J.out (.cells #[.int .i64 base] 3)).o1;have D:Hid (w.heap.size+3<=(O.alloc (.cells #[.int .i64 base] 3)).heap.size):=(J.out _).sz
 go_enter Tryz.func108,Tryz.ntmps108
 go_wp2_with (first
  | (at_builtin;(refine gY _ rfl (.tmp 8) (.tmp 11) rfl (w.heap.size+3) vX 0 [] rfl (bo.out _) O.heap.size 0 1 1 [base] rfl rfl (wG O base _) (by omega) (by omega) D.out ?_;intro v4 w4 R ab;obtain⟨g4,c4,rfl,ca,bx,_,_⟩:=dD (xs:=[base]) R rfl (by omega);have G:=hideS ((J.out _).stay (bC (bo.out _) ab D.out));have q1:=G.out.o1;have q2:=G.out.f1;obtain⟨w5,bb⟩:∃ w5,w4.setCell ⟨w.heap.size+2,1,none⟩ (.slice (some ⟨g4,0,none⟩) 1 c4)=w5:=⟨_,rfl⟩;have m:Hid (TabC w base kind (.slice (some ⟨bd,c,none⟩) n k) (.slice (some ⟨f,d,none⟩) n h) (.slice (some ⟨g4,0,none⟩) 1 c4) V w5):=(by rw [<- bb];exact G.out.putX _);have X:Hid (w5.ownsRow (w.heap.size+3) 3 1 (.slice (some ⟨g4,0,none⟩) 1 c4) 1 ([base].map kV)):=(by rw [<- bb];exact aw R (by omega) _);have bz:=hideS (HD.out.below m.out.bl);have q3:=m.out.o1;have q4:=m.out.t2;clear R ab ca bx))
  | (at_builtin;(refine gY _ rfl (.tmp 15) (.tmp 17) rfl (w.heap.size+3) (.slice (some ⟨g4,0,none⟩) 1 c4) 1 [base] rfl X.out bd c k n A rfl HL.out bz.out.cell (by omega) (by omega) m.out.sz ?_;intro v6 w6 K bk;obtain⟨p,q,rfl,bc,cm,_,_⟩:=dD (xs:=base::A) K (by rw [List.length_cons,HL.out];omega) (by omega);have Q:=hideS (m.out.stay (bC X.out bk m.out.sz));have r1:=Q.out.o1;have r2:=Q.out.f1;obtain⟨a,P⟩:∃ a,w6.setCell ⟨w.heap.size+2,1,none⟩ (.slice (some ⟨p,0,none⟩) (1+n) q)=a:=⟨_,rfl⟩;have b:Hid (TabC w base kind (.slice (some ⟨bd,c,none⟩) n k) (.slice (some ⟨f,d,none⟩) n h) (.slice (some ⟨p,0,none⟩) (1+n) q) V a):=(by rw [<- P];exact Q.out.putX _);have cl:Hid (a.ownsRow (w.heap.size+3) 3 1 (.slice (some ⟨p,0,none⟩) (1+n) q) (1+n) ((base::A).map kV)):=(by rw [<- P];exact aw K (by omega) _);have cc:Hid (p<a.heap.size):=(by rw [<- P,World.size_setCell];exact bc.lt (by omega));have E:Hid (∀ o,TabC w base kind (.slice (some ⟨bd,c,none⟩) n k) (.slice (some ⟨f,d,none⟩) n h) (.slice (some ⟨p,0,none⟩) (1+n) q) V (a.alloc o)):=(fun o=>b.out.stay ((Below.refl _ _).alloc b.out.sz o));have N:Hid (a.heap.size<=(a.alloc (.cells #[.int .u64 4607182418800017408] 41)).heap.size):=((Below.refl _ a).alloc (Nat.le_refl _) _).size;have r3:=b.out.o2;have r4:=(E.out (.cells #[.int .u64 4607182418800017408] 41)).o2;clear K bk bc cm))
  | (at_builtin;(refine gZ _ rfl (.tmp 21) (.tmp 22) rfl a.heap.size V 0 [] rfl (ai.out _ _) a.heap.size 0 1 1 [4607182418800017408] rfl rfl (KF a 4607182418800017408 _) (by omega) (by omega) N.out ?_;intro v8 w8 S ba;obtain⟨p8,g8,c8,rfl,bh,cp,_,_⟩:=bq (xs:=[4607182418800017408]) S rfl;obtain rfl:=bh.at_ (by decide);have B8:=bC (ai.out _ _) ba N.out;have T:=hideS ((E.out _).stay (B8.mono b.out.sz));have ci:=hideS (de cl.out (((Below.refl _ a).alloc (Nat.le_refl _) _).trans B8));have u1:=T.out.o2;have u2:=T.out.f2;obtain⟨I,y⟩:∃ I,w8.setCell ⟨w.heap.size+2,2,none⟩ (.slice (some ⟨g8,0,none⟩) 1 c8)=I:=⟨_,rfl⟩;have x:Hid (TabC w base kind (.slice (some ⟨bd,c,none⟩) n k) (.slice (some ⟨f,d,none⟩) n h) (.slice (some ⟨p,0,none⟩) (1+n) q) (.slice (some ⟨g8,0,none⟩) 1 c8) I):=(by rw [<- y];exact T.out.putY _);have cs:Hid (I.ownsRow (w.heap.size+3) 3 1 (.slice (some ⟨p,0,none⟩) (1+n) q) (1+n) ((base::A).map kV)):=(by rw [<- y];exact aw ci.out (by omega) _);have as:Hid (I.ownsRow a.heap.size 41 1 (.slice (some ⟨g8,0,none⟩) 1 c8) 1 ([4607182418800017408].map uV)):=(by rw [<- y];exact aw S (by have:=b.out.sz;omega) _);have bi:Hid (a.heap.size<=I.heap.size):=(by show a.heap.size<=I.heap.size;rw [<- y,World.size_setCell];have:=B8.size;have:=N.out;omega);have br:=hideS (HF.out.below x.out.bl);have u3:=x.out.o2;have u4:=x.out.t3;clear S ba bh cp B8))
  | (at_builtin;(refine gZ _ rfl (.tmp 26) (.tmp 28) rfl a.heap.size (.slice (some ⟨g8,0,none⟩) 1 c8) 1 [4607182418800017408] rfl as.out f d h n W rfl ad.out br.out.cell (by omega) (by omega) bi.out ?_;intro cu cr t z;obtain⟨dd,g,l,rfl,F,ac,_,_⟩:=bq (xs:=4607182418800017408::W) t (by rw [List.length_cons,ad.out];omega);obtain rfl:=F.at_ (by rw [List.length_cons];omega);have M:=bC as.out z bi.out;have s:=hideS (x.out.stay (M.mono b.out.sz));have Z:=hideS (Gg cs.out M cc.out);have s1:=s.out.o2;have s2:=s.out.f2;obtain⟨i,r⟩:∃ i,cr.setCell ⟨w.heap.size+2,2,none⟩ (.slice (some ⟨g,0,none⟩) (1+n) l)=i:=⟨_,rfl⟩;have C:Hid (TabC w base kind (.slice (some ⟨bd,c,none⟩) n k) (.slice (some ⟨f,d,none⟩) n h) (.slice (some ⟨p,0,none⟩) (1+n) q) (.slice (some ⟨g,0,none⟩) (1+n) l) i):=(by rw [<- r];exact s.out.putY _);have Y:Hid (i.ownsRow (w.heap.size+3) 3 1 (.slice (some ⟨p,0,none⟩) (1+n) q) (1+n) ((base::A).map kV)):=(by rw [<- r];exact aw Z.out (by omega) _);have am:Hid (i.ownsRow (w.heap.size+3) 41 1 (.slice (some ⟨g,0,none⟩) (1+n) l) (1+n) ((4607182418800017408::W).map uV)):=(by rw [<- r];exact bS (aw t (by have:=b.out.sz;omega) _) b.out.sz);obtain⟨_,_,_,_,d0,d1,d2,e0,e1,e2,o0,df,cv,_,_,_,_⟩:=C.out;clear t z F ac M)))
 have hs:∀ j,w.heap.size<=(⟨w.heap.size+1,j,none⟩:Addr).block:=fun j=>by show w.heap.size<=w.heap.size+1;omega
 refine bodyPost_ret (v:=.agg #[.int .i64 kind,.slice (some ⟨p,0,none⟩) (1+n) q,.slice (some ⟨g,0,none⟩) (1+n) l]) (by simp [results,Tryz.results108,go_sem,d0,d1,d2]) rfl ?_
 have cq:Below w.heap.size w (((i.setCell ⟨w.heap.size+1,0,none⟩ (.int .i64 kind)).setCell ⟨w.heap.size+1,1,none⟩ (.slice (some ⟨p,0,none⟩) (1+n) q)).setCell ⟨w.heap.size+1,2,none⟩ (.slice (some ⟨g,0,none⟩) (1+n) l)):=((C.out.bl.setCell (hs 0) _).setCell (hs 1) _).setCell (hs 2) _;exact⟨p,q,g,l,rfl,bS (aw (aw (aw Y.out (by omega) _) (by omega) _) (by omega) _) (by omega),bS (aw (aw (aw am.out (by omega) _) (by omega) _) (by omega) _) (by omega),cq⟩
end Go.Proofs.YtfdddijdjpijbaaGreat
