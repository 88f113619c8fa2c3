/-  -/
import Derived.Test.YtfdddijdjpijbaaGreatHar
import Derived.Test.YtfdddijdjpijbaaGreatHau
import Derived.Deep.RegionLaw
import Derived.Test.YtfdddijdjpijbaaGreatHat
import Derived.Laws.AppendOwnNone
import Derived.OwnWalk
import Derived.Test.YtfdddijdjpijbaaGreatHas
set_option maxHeartbeats 3200000
set_option maxRecDepth 20000
namespace Go.Proofs.YtfdddijdjpijbaaGreat
open Go.RowKit
theorem qO {c:Array Oper} {o:Oper} {a:Act} {w:World} {K:Act->World->Prop} {Q:Exit->Act->World->Prop} {E:Prop} (l:o.guard=none) (s x:Operand)
  (y:o.op=.call { callee:=.builtin .append,args:=#[s,x],argTypes:=#[33,33] })
  (base:Nat) (v:Value) (n:Nat) (xs:List Nat) (C:a.eval s=v) (e:w.ownsRow base 41 1 v n (xs.map uV))
  (g:Nat) (z:Nat) (D:a.eval x=.slice (some ⟨g,0,none⟩) 1 1) (hc:w.cell? ⟨g,0,none⟩=some (.int .u64 (z:Int))) (hn:n<=17592186044415) (b:base<=w.heap.size)
  (h:∀ f d,d.ownsRow base 41 1 f (n+1) ((xs++[z]).map uV)->w.grownBy d v.ownBlock->K (a.put o.dst f) d) :
  if Region.wanted o (yielded c a.tmps)=true then Oper.wp Tryz.prog o a w K Q else E:=by
 have A:Region.wanted o (yielded c a.tmps)=true:=by simp [Region.wanted,l]
 rw [if_pos A];obtain⟨t,hi,m,i,k⟩:=info_parts uP;refine wp_append_own w s x 33 y base 41 t (.int .u64 0) 1 8 Tryz.underlying33 hi m i k rfl (by decide) v n (xs.map uV) C e ⟨g,0,none⟩ 1 1 [uV z] D rfl ?_ (fun u q=>by rw [List.mem_singleton] at q;rw [q];rfl) (by unfold maxLen;omega) (by omega) b ?_
 ·intro j u p;cases j with
  | zero=>
   have:uV z=u:=Option.some.inj p;rw [<- this,Addr.add_lit];exact hc
  | succ j=>cases p
 ·intro f d B r _;refine h f d ?_ r
  rw [List.map_append];exact B
def QM (ys:List Nat) (j:Nat):Value:=.float .f64 (ys.getD j 0)
structure OfB (w:World) (kind:Int) (vx vf vo:Value) (wr:World):Prop where
 t0:wr.cell? ⟨w.heap.size,0,none⟩=some (.int .i64 kind)
 t1:wr.cell? ⟨w.heap.size,1,none⟩=some vx
 t2:wr.cell? ⟨w.heap.size,2,none⟩=some vf
 d0:wr.cell? ⟨w.heap.size+1,0,none⟩=some (.int .i64 0)
 d1:wr.cell? ⟨w.heap.size+1,1,none⟩=some (.slice none 0 0)
 d2:wr.cell? ⟨w.heap.size+1,2,none⟩=some (.slice none 0 0)
 e0:wr.frozen? ⟨w.heap.size+1,0,none⟩=false
 e1:wr.frozen? ⟨w.heap.size+1,1,none⟩=false
 e2:wr.frozen? ⟨w.heap.size+1,2,none⟩=false
 o0:wr.cell? ⟨w.heap.size+2,0,none⟩=some (.int .i64 kind)
 o1:wr.cell? ⟨w.heap.size+2,1,none⟩=some vx
 o2:wr.cell? ⟨w.heap.size+2,2,none⟩=some vo
 f2:wr.frozen? ⟨w.heap.size+2,2,none⟩=false
 bl:Below w.heap.size w wr
 sz:w.heap.size+3<=wr.heap.size
theorem OfB.stay {w wr a:World} {kind:Int} {f d e:Value} (h:OfB w kind f d e wr) (b:Below (w.heap.size+3) wr a):OfB w kind f d e a:=by
 have c:∀ k<3,∀ j,a.cell? ⟨w.heap.size+k,j,none⟩=wr.cell? ⟨w.heap.size+k,j,none⟩:=fun k i j=>b.cell (p:=⟨w.heap.size+k,j,none⟩) (by show w.heap.size+k<_;omega)
 have g:∀ k<3,∀ j,a.frozen? ⟨w.heap.size+k,j,none⟩=wr.frozen? ⟨w.heap.size+k,j,none⟩:=fun k i j=>b.frozen (p:=⟨w.heap.size+k,j,none⟩) (by show w.heap.size+k<_;omega)
 exact⟨(c 0 (by omega) 0).trans h.t0,(c 0 (by omega) 1).trans h.t1,(c 0 (by omega) 2).trans h.t2,(c 1 (by omega) 0).trans h.d0,(c 1 (by omega) 1).trans h.d1,(c 1 (by omega) 2).trans h.d2,(g 1 (by omega) 0).trans h.e0,(g 1 (by omega) 1).trans h.e1,(g 1 (by omega) 2).trans h.e2,(c 2 (by omega) 0).trans h.o0,(c 2 (by omega) 1).trans h.o1,(c 2 (by omega) 2).trans h.o2,(g 2 (by omega) 2).trans h.f2,h.bl.trans (b.mono (by omega)),Nat.le_trans h.sz b.size⟩
theorem cP (W:World) (cs:Array Value) (t:TypeId) (k:Nat):(W.alloc (.cells cs t)).cell? ⟨W.heap.size,k,none⟩=cs[k]? :=by simp
theorem bt {w:World} {base n b j:Nat} {v:Value} {xs:List Nat} (h:w.ownsRow base 41 1 v n (xs.map uV)) (i:b<base) (x:Value):(w.setCell ⟨b,j,none⟩ x).ownsRow base 41 1 v n (xs.map uV):=by
 refine⟨h.1,?_⟩
 rcases h.2 with e | ⟨g,d,c,rfl,f,a,rest⟩
 ·exact .inl e
 ·exact .inr ⟨g,d,c,rfl,f,by rw [Below.heap_setCell w ⟨b,j,none⟩ x g (by show g≠b;omega)];exact a,rest⟩
theorem fX {w:World} {base a n:Nat} {v:Value} {xs:List Value} (h:w.ownsRow base 41 1 v n xs) (d:a<=base):w.ownsRow a 41 1 v n xs:=by
 refine⟨h.1,?_⟩
 rcases h.2 with f | ⟨g,c,b,e,i,rest⟩
 ·exact .inl f
 ·exact .inr ⟨g,c,b,e,Nat.le_trans d i,rest⟩
theorem kP (w:World) (cs:Array Value) (t:TypeId) (o:Obj) (j:Nat):((w.alloc (.cells cs t)).alloc o).cell? ⟨w.heap.size,j,none⟩=cs[j]? :=
 (((Below.refl _ (w.alloc (.cells cs t))).alloc (Nat.le_refl _) o).cell (p:=⟨w.heap.size,j,none⟩) (by show w.heap.size<_;simp)).trans (cP w cs t j)
structure OfC (w:World) (base kind:Int) (vd vf vo:Value) (wr:World):Prop where
 t0:wr.cell? ⟨w.heap.size,0,none⟩=some (.int .i64 base)
 t1:wr.cell? ⟨w.heap.size,1,none⟩=some (.int .i64 kind)
 t2:wr.cell? ⟨w.heap.size,2,none⟩=some vd
 t3:wr.cell? ⟨w.heap.size,3,none⟩=some vf
 d0:wr.cell? ⟨w.heap.size+1,0,none⟩=some (.int .i64 0)
 d1:wr.cell? ⟨w.heap.size+1,1,none⟩=some (.int .i64 0)
 d2:wr.cell? ⟨w.heap.size+1,2,none⟩=some (.slice none 0 0)
 d3:wr.cell? ⟨w.heap.size+1,3,none⟩=some (.slice none 0 0)
 e0:wr.frozen? ⟨w.heap.size+1,0,none⟩=false
 e1:wr.frozen? ⟨w.heap.size+1,1,none⟩=false
 e2:wr.frozen? ⟨w.heap.size+1,2,none⟩=false
 e3:wr.frozen? ⟨w.heap.size+1,3,none⟩=false
 o0:wr.cell? ⟨w.heap.size+2,0,none⟩=some (.int .i64 base)
 o1:wr.cell? ⟨w.heap.size+2,1,none⟩=some (.int .i64 kind)
 o2:wr.cell? ⟨w.heap.size+2,2,none⟩=some vd
 o3:wr.cell? ⟨w.heap.size+2,3,none⟩=some vo
 f3:wr.frozen? ⟨w.heap.size+2,3,none⟩=false
 bl:Below w.heap.size w wr
 sz:w.heap.size+3<=wr.heap.size
theorem OfC.stay {w wr a:World} {base kind:Int} {f d e:Value} (h:OfC w base kind f d e wr) (b:Below (w.heap.size+3) wr a):OfC w base kind f d e a:=by
 have c:∀ k<3,∀ j,a.cell? ⟨w.heap.size+k,j,none⟩=wr.cell? ⟨w.heap.size+k,j,none⟩:=fun k i j=>b.cell (p:=⟨w.heap.size+k,j,none⟩) (by show w.heap.size+k<_;omega)
 have g:∀ k<3,∀ j,a.frozen? ⟨w.heap.size+k,j,none⟩=wr.frozen? ⟨w.heap.size+k,j,none⟩:=fun k i j=>b.frozen (p:=⟨w.heap.size+k,j,none⟩) (by show w.heap.size+k<_;omega)
 exact⟨(c 0 (by omega) 0).trans h.t0,(c 0 (by omega) 1).trans h.t1,(c 0 (by omega) 2).trans h.t2,(c 0 (by omega) 3).trans h.t3,(c 1 (by omega) 0).trans h.d0,(c 1 (by omega) 1).trans h.d1,(c 1 (by omega) 2).trans h.d2,(c 1 (by omega) 3).trans h.d3,(g 1 (by omega) 0).trans h.e0,(g 1 (by omega) 1).trans h.e1,(g 1 (by omega) 2).trans h.e2,(g 1 (by omega) 3).trans h.e3,(c 2 (by omega) 0).trans h.o0,(c 2 (by omega) 1).trans h.o1,(c 2 (by omega) 2).trans h.o2,(c 2 (by omega) 3).trans h.o3,(g 2 (by omega) 3).trans h.f3,h.bl.trans (b.mono (by omega)),Nat.le_trans h.sz b.size⟩
theorem OfC.put {w wr:World} {base kind:Int} {b a e:Value} (h:OfC w base kind b a e wr) (v:Value):OfC w base kind b a v (wr.setCell ⟨w.heap.size+2,3,none⟩ v):=by
 have d:Below (w.heap.size+2) wr (wr.setCell ⟨w.heap.size+2,3,none⟩ v):=(Below.refl _ wr).setCell (p:=⟨w.heap.size+2,3,none⟩) (Nat.le_refl _) v;have c:∀ k<2,∀ j,(wr.setCell ⟨w.heap.size+2,3,none⟩ v).cell? ⟨w.heap.size+k,j,none⟩=wr.cell? ⟨w.heap.size+k,j,none⟩:=fun k f j=>d.cell (p:=⟨w.heap.size+k,j,none⟩) (by show w.heap.size+k<_;omega)
 have g:∀ k<2,∀ j,(wr.setCell ⟨w.heap.size+2,3,none⟩ v).frozen? ⟨w.heap.size+k,j,none⟩=wr.frozen? ⟨w.heap.size+k,j,none⟩:=fun k f j=>d.frozen (p:=⟨w.heap.size+k,j,none⟩) (by show w.heap.size+k<_;omega)
 refine⟨(c 0 (by omega) 0).trans h.t0,(c 0 (by omega) 1).trans h.t1,(c 0 (by omega) 2).trans h.t2,(c 0 (by omega) 3).trans h.t3,(c 1 (by omega) 0).trans h.d0,(c 1 (by omega) 1).trans h.d1,(c 1 (by omega) 2).trans h.d2,(c 1 (by omega) 3).trans h.d3,(g 1 (by omega) 0).trans h.e0,(g 1 (by omega) 1).trans h.e1,(g 1 (by omega) 2).trans h.e2,(g 1 (by omega) 3).trans h.e3,?_,?_,?_,?_,?_,h.bl.setCell (p:=⟨w.heap.size+2,3,none⟩) (by show w.heap.size<=w.heap.size+2;omega) v,by simpa using h.sz⟩
 ·simp [h.o0,go_sem]
 ·simp [h.o1,go_sem]
 ·simp [h.o2,go_sem]
 ·simp [h.o3,go_sem]
 ·simp [h.f3,go_sem]
theorem Pu (w:World) (base kind:Int) (c h:Value):OfC w base kind c h (.slice none 0 0) (((w.alloc (.cells #[.int .i64 base,.int .i64 kind,c,h] 26)).alloc (.cells #[.int .i64 0,.int .i64 0,.slice none 0 0,.slice none 0 0] 39)).alloc (.cells #[.int .i64 base,.int .i64 kind,c,.slice none 0 0] 39)):=by
 have l:∀ (w:World) o,Below w.heap.size w (w.alloc o):=fun w o=>(Below.refl _ _).alloc (Nat.le_refl _) _
 generalize f:w.alloc (.cells #[.int .i64 base,.int .i64 kind,c,h] 26)=d;have m:d.heap.size=w.heap.size+1:=by rw [<- f];simp
 generalize b:d.alloc (.cells #[.int .i64 0,.int .i64 0,.slice none 0 0,.slice none 0 0] 39)=a;have r:a.heap.size=w.heap.size+2:=by rw [<- b];simp [m]
 have c1:∀ j,d.cell? ⟨w.heap.size,j,none⟩=(#[.int .i64 base,.int .i64 kind,c,h]:Array Value)[j]? :=fun j=>by rw [<- f];exact cP w _ _ j
 have c2:∀ j,a.cell? ⟨w.heap.size+1,j,none⟩=(#[.int .i64 0,.int .i64 0,.slice none 0 0,.slice none 0 0]:Array Value)[j]? :=fun j=>by rw [<- b,<- m];exact cP d _ _ j
 have c3:∀ j,(a.alloc (.cells #[.int .i64 base,.int .i64 kind,c,.slice none 0 0] 39)).cell? ⟨w.heap.size+2,j,none⟩=(#[.int .i64 base,.int .i64 kind,c,.slice none 0 0]:Array Value)[j]? :=fun j=>by rw [<- r];exact cP a _ _ j
 have g:∀ j,a.cell? ⟨w.heap.size,j,none⟩=d.cell? ⟨w.heap.size,j,none⟩:=fun j=>by rw [<- b];exact (l d _).cell (p:=⟨w.heap.size,j,none⟩) (by show w.heap.size<d.heap.size;omega)
 have e:∀ k<2,∀ j o,(a.alloc o).cell? ⟨w.heap.size+k,j,none⟩=a.cell? ⟨w.heap.size+k,j,none⟩:=fun k t j o=>(l a o).cell (p:=⟨w.heap.size+k,j,none⟩) (by show w.heap.size+k<a.heap.size;omega)
 have i:∀ j o,(a.alloc o).frozen? ⟨w.heap.size+1,j,none⟩=false:=fun j o=>by
  rw [(l a o).frozen (p:=⟨w.heap.size+1,j,none⟩) (by show w.heap.size+1<a.heap.size;omega),<- b,<- m]
  exact World.frozen?_alloc_new _ _ _ _
 have s:Below w.heap.size w (a.alloc (.cells #[.int .i64 base,.int .i64 kind,c,.slice none 0 0] 39)):=by
  have n:Below w.heap.size w d:=by rw [<- f];exact l w _
  have q:Below w.heap.size w a:=by rw [<- b];exact n.alloc n.size _
  exact q.alloc q.size _
 exact⟨((e 0 (by omega) 0 _).trans (g 0)).trans (c1 0),((e 0 (by omega) 1 _).trans (g 1)).trans (c1 1),((e 0 (by omega) 2 _).trans (g 2)).trans (c1 2),((e 0 (by omega) 3 _).trans (g 3)).trans (c1 3),(e 1 (by omega) 0 _).trans (c2 0),(e 1 (by omega) 1 _).trans (c2 1),(e 1 (by omega) 2 _).trans (c2 2),(e 1 (by omega) 3 _).trans (c2 3),i 0 _,i 1 _,i 2 _,i 3 _,c3 0,c3 1,c3 2,c3 3,by rw [<- r];exact World.frozen?_alloc_new _ _ _ _,s,by simp;omega⟩
theorem yS (base kind:Int) (z A cx cy m n:Nat) (d l:Option Addr) (ys:List Nat) (w:World) (J:VSrc w l z A n (QM ys)) (s:ys.length=n) (hn:n<=17592186043904) :
  Calls Tryz.prog 10 #[.agg #[.int .i64 base,.int .i64 kind,(.slice d m cx),.slice l n cy]] w fun e H=>∃ v,e=.returned (.agg #[.int .i64 base,.int .i64 kind,(.slice d m cx),v])/\H.ownsRow w.heap.size 41 1 v n (ys.map uV)/\Below w.heap.size w H:=by
 have F:=hideS J;have B:=hideS s;have f:=hideS (Pu w base kind (.slice d m cx) (.slice l n cy));have p0:∀ o,((w.alloc (.cells #[.int .i64 base,.int .i64 kind,(.slice d m cx),.slice l n cy] 26)).alloc o).cell? ⟨w.heap.size,0,none⟩=some (.int .i64 base):=fun o=>kP w _ _ o 0
 have p1:∀ o,((w.alloc (.cells #[.int .i64 base,.int .i64 kind,(.slice d m cx),.slice l n cy] 26)).alloc o).cell? ⟨w.heap.size,1,none⟩=some (.int .i64 kind):=fun o=>kP w _ _ o 1
 have Z:∀ o,((w.alloc (.cells #[.int .i64 base,.int .i64 kind,(.slice d m cx),.slice l n cy] 26)).alloc o).cell? ⟨w.heap.size,2,none⟩=some (.slice d m cx):=fun o=>kP w _ _ o 2
 clear J s
 go_enter Tryz.func10,Tryz.ntmps10
 go_wp2_with fail
 go_loopw [4] (fun i b=>∃ k:Nat,k<=n/\i=.int .i64 k/\Hid (∃ v,b.ownsRow (w.heap.size+3) 41 1 v k ((ys.take k).map uV)/\OfC w base kind (.slice d m cx) (.slice l n cy) v b)) (fun i _=>n - (intOf i).toNat)
 case atStart=>exact⟨0,Nat.zero_le _,rfl,_,gF _ _,f.out⟩
 case round=>
  clear f;obtain⟨k,hk,rfl,K⟩:=hrel;obtain⟨v,C,I⟩:=K.out;obtain⟨q,g0,a,rfl,_,_,_,_⟩:=bq C (by rw [List.length_take,B.out];omega)
  have G:=hideS C;have f:=hideS I;obtain⟨t0,t1,W,t3,R,P,O,S,e0,e1,Y,e3,o0,o1,o2,o3,U,_,_⟩:=f.out;clear C I K
  by_cases t:k<n
  ·obtain rfl:=F.out.at_ (by omega)
   have Q:b.cell? ⟨z,A+k,none⟩=some (.float .f64 (ys.getD k 0)):=(f.out.bl.cell (p:=⟨z,A+k,none⟩) (F.out.lt (by omega))).trans (F.out.cell k t)
   have N:Hid (ys.take (k+1)=ys.take k++[ys.getD k 0]):=by
    show _=_
    rw [List.take_add_one]
    congr 1
    simp [List.getD,List.getElem?_eq_getElem (show k<ys.length by rw [B.out];exact t)]
   generalize ys.getD k 0=y at *
   have u:Hid (∀ o,(b.drew.alloc o).ownsRow (w.heap.size+3) 41 1 (.slice q k a) k ((ys.take k).map uV)):=fun o=>ao (w:=b) G.out ((Below.refl _ b).drew.alloc (Nat.le_refl _) o)
   have c:Hid (∀ o,OfC w base kind (.slice d m cx) (.slice (some ⟨z,A,none⟩) n cy) (.slice q k a) (b.drew.alloc o)):=fun o=>f.out.stay ((Below.refl (w.heap.size+3) b).drew.alloc f.out.sz o)
   have x2:(b.alloc (.cells #[.int .u64 (y:Int)] 41)).drew.cell? ⟨w.heap.size+2,3,none⟩=some (.slice q k a):=(c.out _).o3;have X:(b.alloc (.cells #[.int .u64 (y:Int)] 41)).cell? ⟨w.heap.size+2,3,none⟩=some (.slice q k a):=(c.out _).o3;have g3:(0:Int)<=(k:Int):=by omega
   have g4:(k:Int)<(n:Int):=by omega
   go_wp2_with fail
   go_region_law (first | (go_simp;go_at_call 11;refine (turned (gn _ _)).mono ?_;rintro e V ⟨rfl,rfl⟩) | (refine qO rfl (.tmp 20) (.tmp 27) rfl (w.heap.size+3) _ k (ys.take k) rfl (u.out _) b.heap.size y rfl (by simp) (by omega) (c.out (.cells #[.int .u64 (y:Int)] 41)).sz ?_;intro v6 w6 h r;obtain⟨q6,g6,c6,rfl,_,_,_,_⟩:=bq h (by rw [List.length_append,List.length_take,B.out];simp;omega);have g:=hideS ((c.out _).stay (aW (u.out _) r (c.out (.cells #[.int .u64 (y:Int)] 41)).sz));have D:=hideS h;have c2:=g.out.o3;have c3:=g.out.f3;clear h r))
   all_goals
    go_wp2_with fail
    go_roundw
    case rel=>exact⟨k+1,by omega,by simp,_,by rw [N.out];exact bt D.out (by omega) _,g.out.put _⟩
    case measure=>simp [intOf];omega
  ·obtain rfl:k=n:=by omega
   have M:¬ (k:Int)<(k:Int):=by omega
   have T:Hid (ys.take k=ys):=by show _=_;exact List.take_of_length_le (by rw [B.out];omega)
   rw [T.out] at G
   have L:=f.out.sz
   go_wp2_with fail
   refine bodyPost_ret (v:=.agg #[.int .i64 base,.int .i64 kind,.slice d m cx,.slice q k a]) (by simp [results,Tryz.results10,go_sem,R,P,O,S]) rfl ?_
   have x:∀ j,w.heap.size<=(⟨w.heap.size+1,j,none⟩:Addr).block:=fun j=>by show w.heap.size<=w.heap.size+1;omega
   have E:Below w.heap.size w ((((b.setCell ⟨w.heap.size+1,0,none⟩ (.int .i64 base)).setCell ⟨w.heap.size+1,1,none⟩ (.int .i64 kind)).setCell ⟨w.heap.size+1,2,none⟩ (.slice d m cx)).setCell ⟨w.heap.size+1,3,none⟩ (.slice q k a)):=(((f.out.bl.setCell (x 0) _).setCell (x 1) _).setCell (x 2) _).setCell (x 3) _;exact⟨_,rfl,fX (bt (bt (bt (bt G.out (by omega) _) (by omega) _) (by omega) _) (by omega) _) (by omega),E⟩
def kV (x:Int):Value:=.int .i64 x
theorem iI:(Tryz.prog.info? 3).map (fun i=>(i.zero,i.size,i.bytes))=some (some (.int .i64 0),1,8):=by kernel_rfl
theorem gO (w:World) {e:Array Oper} {rest:List Oper} {o:Oper} {a:Act} {Q:Exit->Act->World->Prop} (A:o.guard=none) (s x:Operand)
  (D:o.op=.call { callee:=.builtin .append,args:=#[s,x],argTypes:=#[23,23] })
  (base:Nat) (v:Value) (n:Nat) (xs:List Int) (H:a.eval s=v) (k:w.ownsRow base 3 1 v n (xs.map kV))
  (b off c m:Nat) (ys:List Int) (I:a.eval x=.slice (some ⟨b,off,none⟩) m c) (E:ys.length=m) (i:∀ j<m,w.cell? ⟨b,off+j,none⟩=some (xV ys j)) (hn:n<=100000) (G:m<=100000) (d:base<=w.heap.size)
  (h:∀ l f,f.ownsRow base 3 1 l (n+m) ((xs++ys).map kV)->w.grownBy f v.ownBlock->wpList Tryz.prog e Q rest (a.put o.dst l) f):wpList Tryz.prog e Q (o::rest) a w:=by
 obtain⟨C,hi,t,r,y⟩:=info_parts iI;refine wpList_append_own w A s x 23 D base 3 C (.int .i64 0) 1 8 Tryz.underlying23 hi t r y rfl (by decide) v n (xs.map kV) H k ⟨b,off,none⟩ m c (ys.map kV) I (by rw [List.length_map,E,Nat.mul_one]) ?_ (fun u q=>by obtain⟨z,_,rfl⟩:=List.mem_map.1 q;rfl) (by unfold maxLen;omega) (by omega) d ?_
 ·intro j u p;have g:j<ys.length:=by
   have:=(List.getElem?_eq_some_iff.1 p).1
   simpa using this
  rw [Addr.add_lit,i j (by omega)]
  rw [List.getElem?_map,List.getElem?_eq_getElem g] at p
  have q:kV ys[j]=u:=Option.some.inj p;rw [<- q]
  show some (Value.int .i64 (ys.getD j 0))=_
  rw [List.getD_eq_getElem?_getD,List.getElem?_eq_getElem g];rfl
 ·intro l f F B _;refine h l f ?_ B
  rw [List.map_append];exact F
theorem gP (w:World) {e:Array Oper} {rest:List Oper} {o:Oper} {a:Act} {Q:Exit->Act->World->Prop} (A:o.guard=none) (s x:Operand)
  (D:o.op=.call { callee:=.builtin .append,args:=#[s,x],argTypes:=#[33,33] })
  (base:Nat) (v:Value) (n:Nat) (xs:List Nat) (H:a.eval s=v) (k:w.ownsRow base 41 1 v n (xs.map uV))
  (b off c m:Nat) (ys:List Nat) (I:a.eval x=.slice (some ⟨b,off,none⟩) m c) (E:ys.length=m) (i:∀ j<m,w.cell? ⟨b,off+j,none⟩=some (yV ys j)) (hn:n<=100000) (G:m<=100000) (d:base<=w.heap.size)
  (h:∀ l f,f.ownsRow base 41 1 l (n+m) ((xs++ys).map uV)->w.grownBy f v.ownBlock->wpList Tryz.prog e Q rest (a.put o.dst l) f):wpList Tryz.prog e Q (o::rest) a w:=by
 obtain⟨C,hi,t,r,y⟩:=info_parts uP;refine wpList_append_own w A s x 33 D base 41 C (.int .u64 0) 1 8 Tryz.underlying33 hi t r y rfl (by decide) v n (xs.map uV) H k ⟨b,off,none⟩ m c (ys.map uV) I (by rw [List.length_map,E,Nat.mul_one]) ?_ (fun u q=>by obtain⟨z,_,rfl⟩:=List.mem_map.1 q;rfl) (by unfold maxLen;omega) (by omega) d ?_
 ·intro j u p;have g:j<ys.length:=by
   have:=(List.getElem?_eq_some_iff.1 p).1
   simpa using this
  rw [Addr.add_lit,i j (by omega)]
  rw [List.getElem?_map,List.getElem?_eq_getElem g] at p
  have q:uV ys[j]=u:=Option.some.inj p;rw [<- q]
  show some (Value.int .u64 (ys.getD j 0:Nat))=_
  rw [List.getD_eq_getElem?_getD,List.getElem?_eq_getElem g];rfl
 ·intro l f F B _;refine h l f ?_ B
  rw [List.map_append];exact F
theorem mV (w:World) {e:Array Oper} {rest:List Oper} {o:Oper} {a:Act} {Q:Exit->Act->World->Prop} (A:o.guard=none) (s x:Operand)
  (D:o.op=.call { callee:=.builtin .append,args:=#[s,x],argTypes:=#[24,24] })
  (base:Nat) (v:Value) (n:Nat) (xs:List Nat) (H:a.eval s=v) (k:w.ownsRow base 27 1 v n (xs.map fV))
  (b off c m:Nat) (ys:List Nat) (I:a.eval x=.slice (some ⟨b,off,none⟩) m c) (E:ys.length=m) (i:∀ j<m,w.cell? ⟨b,off+j,none⟩=some (flV ys j)) (hn:n<=100000) (G:m<=100000) (d:base<=w.heap.size)
  (h:∀ l f,f.ownsRow base 27 1 l (n+m) ((xs++ys).map fV)->w.grownBy f v.ownBlock->wpList Tryz.prog e Q rest (a.put o.dst l) f):wpList Tryz.prog e Q (o::rest) a w:=by
 obtain⟨C,hi,t,r,y⟩:=info_parts jo;refine wpList_append_own w A s x 24 D base 27 C (.float .f64 0) 1 8 Tryz.underlying24 hi t r y rfl (by decide) v n (xs.map fV) H k ⟨b,off,none⟩ m c (ys.map fV) I (by rw [List.length_map,E,Nat.mul_one]) ?_ (fun u q=>by obtain⟨z,_,rfl⟩:=List.mem_map.1 q;rfl) (by unfold maxLen;omega) (by omega) d ?_
 ·intro j u p;have g:j<ys.length:=by
   have:=(List.getElem?_eq_some_iff.1 p).1
   simpa using this
  rw [Addr.add_lit,i j (by omega)]
  rw [List.getElem?_map,List.getElem?_eq_getElem g] at p
  have q:fV ys[j]=u:=Option.some.inj p;rw [<- q]
  show some (Value.float .f64 (ys.getD j 0))=_
  rw [List.getD_eq_getElem?_getD,List.getElem?_eq_getElem g];rfl
 ·intro l f F B _;refine h l f ?_ B
  rw [List.map_append];exact F
theorem Fz (w:World) (base:Nat):w.ownsRow base 3 1 (.slice none 0 0) 0 (([]:List Int).map kV):=⟨rfl,Or.inl ⟨rfl,rfl⟩⟩
theorem cX {t:TypeId} {w d:World} {base n:Nat} {v:Value} {xs:List Value} (h:w.ownsRow base t 1 v n xs) (e:Below w.heap.size w d):d.ownsRow base t 1 v n xs:=by
 refine⟨h.1,?_⟩
 rcases h.2 with f | ⟨g,c,b,rfl,i,a,rest⟩
 ·exact .inl f
 ·exact .inr ⟨g,c,b,rfl,i,by rw [e.block g (Array.getElem?_eq_some_iff.1 a).1];exact a,rest⟩
theorem bA {t:TypeId} {w b:World} {v:Value} {B n:Nat} {xs:List Value} (f:w.ownsRow B t 1 v n xs) (h:w.grownBy b v.ownBlock) (d:B<=w.heap.size):Below B w b:=
 (Below.refl B w).grown h d (fun k c=>by
  rcases f.2 with⟨rfl,_⟩| ⟨g,e,i,rfl,a,_⟩
  ·cases c
  ·obtain rfl:g=k:=by simpa [Value.ownBlock] using c
   exact a)
theorem ax {t:TypeId} {w:World} {base n b j:Nat} {v:Value} {xs:List Value} (h:w.ownsRow base t 1 v n xs) (i:b<base) (x:Value):(w.setCell ⟨b,j,none⟩ x).ownsRow base t 1 v n xs:=by
 refine⟨h.1,?_⟩
 rcases h.2 with e | ⟨g,d,c,rfl,f,a,rest⟩
 ·exact .inl e
 ·exact .inr ⟨g,d,c,rfl,f,by rw [Below.heap_setCell w ⟨b,j,none⟩ x g (by show g≠b;omega)];exact a,rest⟩
theorem bO {t:TypeId} {w:World} {base a n:Nat} {v:Value} {xs:List Value} (h:w.ownsRow base t 1 v n xs) (d:a<=base):w.ownsRow a t 1 v n xs:=by
 refine⟨h.1,?_⟩
 rcases h.2 with f | ⟨g,c,b,e,i,rest⟩
 ·exact .inl f
 ·exact .inr ⟨g,c,b,e,Nat.le_trans d i,rest⟩
theorem FA {t:TypeId} {w i:World} {base n B g c:Nat} {xs:List Value} (h:w.ownsRow base t 1 (.slice (some ⟨g,0,none⟩) n c) n xs) (o:Below B w i) (j:g<B):i.ownsRow base t 1 (.slice (some ⟨g,0,none⟩) n c) n xs:=by
 refine⟨h.1,?_⟩
 rcases h.2 with⟨l,_⟩| ⟨k,d,f,e,m,b,rest⟩
 ·cases l
 ·have p:=e;injection e with a r q;injection a with a;injection a with a;subst a;exact .inr ⟨g,d,f,p,m,by rw [o.block g j];exact b,rest⟩
theorem vH (w:World) (x:Int) (t:TypeId):∀ j<1,(w.alloc (.cells #[.int .i64 x] t)).cell? ⟨w.heap.size,0+j,none⟩=some (xV [x] j):=fun j a=>by
 obtain rfl:j=0:=by omega
 exact cP w _ _ 0
theorem Ka (w:World) (x:Nat) (t:TypeId):∀ j<1,(w.alloc (.cells #[.int .u64 (x:Int)] t)).cell? ⟨w.heap.size,0+j,none⟩=some (yV [x] j):=fun j a=>by
 obtain rfl:j=0:=by omega
 exact cP w _ _ 0
theorem MV (w:World) (x:Nat) (t:TypeId):∀ j<1,(w.alloc (.cells #[.float .f64 x] t)).cell? ⟨w.heap.size,0+j,none⟩=some (flV [x] j):=fun j a=>by
 obtain rfl:j=0:=by omega
 exact cP w _ _ 0
theorem dz {w:World} {base n:Nat} {v:Value} {xs:List Int} (h:w.ownsRow base 3 1 v n (xs.map kV)) (hn:xs.length=n) (m:0<n):∃ g c,v=.slice (some ⟨g,0,none⟩) n c/\VSrc w (some ⟨g,0,none⟩) g 0 n (xV xs)/\base<=g/\n<=c/\c<=maxLen:=by
 rcases h.2 with⟨rfl,rfl⟩| ⟨g,b,l,rfl,j,k,a,d,e,f⟩
 ·omega
 ·refine⟨g,b,rfl,⟨fun _=>rfl,fun _=>(Array.getElem?_eq_some_iff.1 k).1,fun i hi=>?_⟩,j,a,d⟩
  rw [Nat.zero_add,World.ownsRow.cellAt h i (by omega),List.getElem?_map]
  show Option.map kV xs[i]? =some (Value.int .i64 (xs.getD i 0))
  rw [List.getD_eq_getElem?_getD,List.getElem?_eq_getElem (by omega)];rfl
theorem dO {w:World} {base n:Nat} {v:Value} {xs:List Nat} (h:w.ownsRow base 27 1 v n (xs.map fV)) (hn:xs.length=n) (l:0<n):∃ g c,v=.slice (some ⟨g,0,none⟩) n c/\VSrc w (some ⟨g,0,none⟩) g 0 n (flV xs)/\base<=g/\n<=c/\c<=maxLen:=by
 obtain⟨p,g,c,e,f,a,b,d⟩:=Fj h hn;have i:=f.at_ (by omega)
 subst i;exact⟨g,c,e,⟨fun _=>rfl,fun _=>f.lt (by omega),fun j k=>f.cell j (by omega)⟩,a,b,d⟩
structure TabC (w:World) (base kind:Int) (vd vf vX vY:Value) (wr:World):Prop where
 t0:wr.cell? ⟨w.heap.size,0,none⟩=some (.int .i64 base)
 t1:wr.cell? ⟨w.heap.size,1,none⟩=some (.int .i64 kind)
 t2:wr.cell? ⟨w.heap.size,2,none⟩=some vd
 t3:wr.cell? ⟨w.heap.size,3,none⟩=some vf
 d0:wr.cell? ⟨w.heap.size+1,0,none⟩=some (.int .i64 0)
 d1:wr.cell? ⟨w.heap.size+1,1,none⟩=some (.slice none 0 0)
 d2:wr.cell? ⟨w.heap.size+1,2,none⟩=some (.slice none 0 0)
 e0:wr.frozen? ⟨w.heap.size+1,0,none⟩=false
 e1:wr.frozen? ⟨w.heap.size+1,1,none⟩=false
 e2:wr.frozen? ⟨w.heap.size+1,2,none⟩=false
 o0:wr.cell? ⟨w.heap.size+2,0,none⟩=some (.int .i64 kind)
 o1:wr.cell? ⟨w.heap.size+2,1,none⟩=some vX
 o2:wr.cell? ⟨w.heap.size+2,2,none⟩=some vY
 f1:wr.frozen? ⟨w.heap.size+2,1,none⟩=false
 f2:wr.frozen? ⟨w.heap.size+2,2,none⟩=false
 bl:Below w.heap.size w wr
 sz:w.heap.size+3<=wr.heap.size
theorem TabC.stay {w wr a:World} {base kind:Int} {f d e i:Value} (h:TabC w base kind f d e i wr) (b:Below (w.heap.size+3) wr a):TabC w base kind f d e i a:=by
 have c:∀ k<3,∀ j,a.cell? ⟨w.heap.size+k,j,none⟩=wr.cell? ⟨w.heap.size+k,j,none⟩:=fun k l j=>b.cell (p:=⟨w.heap.size+k,j,none⟩) (by show w.heap.size+k<_;omega)
 have g:∀ k<3,∀ j,a.frozen? ⟨w.heap.size+k,j,none⟩=wr.frozen? ⟨w.heap.size+k,j,none⟩:=fun k l j=>b.frozen (p:=⟨w.heap.size+k,j,none⟩) (by show w.heap.size+k<_;omega)
 exact⟨(c 0 (by omega) 0).trans h.t0,(c 0 (by omega) 1).trans h.t1,(c 0 (by omega) 2).trans h.t2,(c 0 (by omega) 3).trans h.t3,(c 1 (by omega) 0).trans h.d0,(c 1 (by omega) 1).trans h.d1,(c 1 (by omega) 2).trans h.d2,(g 1 (by omega) 0).trans h.e0,(g 1 (by omega) 1).trans h.e1,(g 1 (by omega) 2).trans h.e2,(c 2 (by omega) 0).trans h.o0,(c 2 (by omega) 1).trans h.o1,(c 2 (by omega) 2).trans h.o2,(g 2 (by omega) 1).trans h.f1,(g 2 (by omega) 2).trans h.f2,h.bl.trans (b.mono (by omega)),Nat.le_trans h.sz b.size⟩
theorem TabC.putX {w wr:World} {base kind:Int} {d a f e:Value} (h:TabC w base kind d a f e wr) (v:Value):TabC w base kind d a v e (wr.setCell ⟨w.heap.size+2,1,none⟩ v):=by
 have b:Below (w.heap.size+2) wr (wr.setCell ⟨w.heap.size+2,1,none⟩ v):=(Below.refl _ wr).setCell (p:=⟨w.heap.size+2,1,none⟩) (Nat.le_refl _) v;have c:∀ k<2,∀ j,(wr.setCell ⟨w.heap.size+2,1,none⟩ v).cell? ⟨w.heap.size+k,j,none⟩=wr.cell? ⟨w.heap.size+k,j,none⟩:=fun k i j=>b.cell (p:=⟨w.heap.size+k,j,none⟩) (by show w.heap.size+k<_;omega)
 have g:∀ k<2,∀ j,(wr.setCell ⟨w.heap.size+2,1,none⟩ v).frozen? ⟨w.heap.size+k,j,none⟩=wr.frozen? ⟨w.heap.size+k,j,none⟩:=fun k i j=>b.frozen (p:=⟨w.heap.size+k,j,none⟩) (by show w.heap.size+k<_;omega)
 refine⟨(c 0 (by omega) 0).trans h.t0,(c 0 (by omega) 1).trans h.t1,(c 0 (by omega) 2).trans h.t2,(c 0 (by omega) 3).trans h.t3,(c 1 (by omega) 0).trans h.d0,(c 1 (by omega) 1).trans h.d1,(c 1 (by omega) 2).trans h.d2,(g 1 (by omega) 0).trans h.e0,(g 1 (by omega) 1).trans h.e1,(g 1 (by omega) 2).trans h.e2,?_,?_,?_,?_,?_,h.bl.setCell (p:=⟨w.heap.size+2,1,none⟩) (by show w.heap.size<=w.heap.size+2;omega) v,by simpa using h.sz⟩
 ·simp [h.o0,go_sem]
 ·simp [h.o1,go_sem]
 ·simp [h.o2,go_sem]
 ·simp [h.f1,go_sem]
 ·simp [h.f2,go_sem]
theorem TabC.putY {w wr:World} {base kind:Int} {e a d f:Value} (h:TabC w base kind e a d f wr) (v:Value):TabC w base kind e a d v (wr.setCell ⟨w.heap.size+2,2,none⟩ v):=by
 have b:Below (w.heap.size+2) wr (wr.setCell ⟨w.heap.size+2,2,none⟩ v):=(Below.refl _ wr).setCell (p:=⟨w.heap.size+2,2,none⟩) (Nat.le_refl _) v;have c:∀ k<2,∀ j,(wr.setCell ⟨w.heap.size+2,2,none⟩ v).cell? ⟨w.heap.size+k,j,none⟩=wr.cell? ⟨w.heap.size+k,j,none⟩:=fun k i j=>b.cell (p:=⟨w.heap.size+k,j,none⟩) (by show w.heap.size+k<_;omega)
 have g:∀ k<2,∀ j,(wr.setCell ⟨w.heap.size+2,2,none⟩ v).frozen? ⟨w.heap.size+k,j,none⟩=wr.frozen? ⟨w.heap.size+k,j,none⟩:=fun k i j=>b.frozen (p:=⟨w.heap.size+k,j,none⟩) (by show w.heap.size+k<_;omega)
 refine⟨(c 0 (by omega) 0).trans h.t0,(c 0 (by omega) 1).trans h.t1,(c 0 (by omega) 2).trans h.t2,(c 0 (by omega) 3).trans h.t3,(c 1 (by omega) 0).trans h.d0,(c 1 (by omega) 1).trans h.d1,(c 1 (by omega) 2).trans h.d2,(g 1 (by omega) 0).trans h.e0,(g 1 (by omega) 1).trans h.e1,(g 1 (by omega) 2).trans h.e2,?_,?_,?_,?_,?_,h.bl.setCell (p:=⟨w.heap.size+2,2,none⟩) (by show w.heap.size<=w.heap.size+2;omega) v,by simpa using h.sz⟩
 ·simp [h.o0,go_sem]
 ·simp [h.o1,go_sem]
 ·simp [h.o2,go_sem]
 ·simp [h.f1,go_sem]
 ·simp [h.f2,go_sem]
theorem MW (w:World) (base kind:Int) (g h:Value):TabC w base kind g h (.slice none 0 0) (.slice none 0 0) (((w.alloc (.cells #[.int .i64 base,.int .i64 kind,g,h] 39)).alloc (.cells #[.int .i64 0,.slice none 0 0,.slice none 0 0] 156)).alloc (.cells #[.int .i64 kind,.slice none 0 0,.slice none 0 0] 156)):=by
 have i:∀ (w:World) o,Below w.heap.size w (w.alloc o):=fun w o=>(Below.refl _ _).alloc (Nat.le_refl _) _
 generalize d:w.alloc (.cells #[.int .i64 base,.int .i64 kind,g,h] 39)=c;have l:c.heap.size=w.heap.size+1:=by rw [<- d];simp
 generalize b:c.alloc (.cells #[.int .i64 0,.slice none 0 0,.slice none 0 0] 156)=a;have n:a.heap.size=w.heap.size+2:=by rw [<- b];simp [l]
 have c1:∀ j,c.cell? ⟨w.heap.size,j,none⟩=(#[.int .i64 base,.int .i64 kind,g,h]:Array Value)[j]? :=fun j=>by rw [<- d];exact cP w _ _ j
 have c2:∀ j,a.cell? ⟨w.heap.size+1,j,none⟩=(#[.int .i64 0,.slice none 0 0,.slice none 0 0]:Array Value)[j]? :=fun j=>by rw [<- b,<- l];exact cP c _ _ j
 have c3:∀ j,(a.alloc (.cells #[.int .i64 kind,.slice none 0 0,.slice none 0 0] 156)).cell? ⟨w.heap.size+2,j,none⟩=(#[.int .i64 kind,.slice none 0 0,.slice none 0 0]:Array Value)[j]? :=fun j=>by rw [<- n];exact cP a _ _ j
 have f:∀ j,a.cell? ⟨w.heap.size,j,none⟩=c.cell? ⟨w.heap.size,j,none⟩:=fun j=>by rw [<- b];exact (i c _).cell (p:=⟨w.heap.size,j,none⟩) (by show w.heap.size<c.heap.size;omega)
 have e:∀ k<2,∀ j o,(a.alloc o).cell? ⟨w.heap.size+k,j,none⟩=a.cell? ⟨w.heap.size+k,j,none⟩:=fun k t j o=>(i a o).cell (p:=⟨w.heap.size+k,j,none⟩) (by show w.heap.size+k<a.heap.size;omega)
 have m:∀ j o,(a.alloc o).frozen? ⟨w.heap.size+1,j,none⟩=false:=fun j o=>by
  rw [(i a o).frozen (p:=⟨w.heap.size+1,j,none⟩) (by show w.heap.size+1<a.heap.size;omega),<- b,<- l]
  exact World.frozen?_alloc_new _ _ _ _
 have s:Below w.heap.size w (a.alloc (.cells #[.int .i64 kind,.slice none 0 0,.slice none 0 0] 156)):=by
  have q:Below w.heap.size w c:=by rw [<- d];exact i w _
  have r:Below w.heap.size w a:=by rw [<- b];exact q.alloc q.size _
  exact r.alloc r.size _
 exact⟨((e 0 (by omega) 0 _).trans (f 0)).trans (c1 0),((e 0 (by omega) 1 _).trans (f 1)).trans (c1 1),((e 0 (by omega) 2 _).trans (f 2)).trans (c1 2),((e 0 (by omega) 3 _).trans (f 3)).trans (c1 3),(e 1 (by omega) 0 _).trans (c2 0),(e 1 (by omega) 1 _).trans (c2 1),(e 1 (by omega) 2 _).trans (c2 2),m 0 _,m 1 _,m 2 _,c3 0,c3 1,c3 2,by rw [<- n];exact World.frozen?_alloc_new _ _ _ _,by rw [<- n];exact World.frozen?_alloc_new _ _ _ _,s,by simp;omega⟩
theorem MX (w:World) (kind:Int) (o:Obj):((((w.alloc o).alloc (.cells #[.int .i64 0,.slice none 0 0,.slice none 0 0] 156)).alloc (.cells #[.int .i64 0,.slice none 0 0,.slice none 0 0] 156)).cell? ⟨w.heap.size+1+1,0,none⟩=some (.int .i64 0)/\(((w.alloc o).alloc (.cells #[.int .i64 0,.slice none 0 0,.slice none 0 0] 156)).alloc (.cells #[.int .i64 0,.slice none 0 0,.slice none 0 0] 156)).cell? ⟨w.heap.size+1+1,1,none⟩=some (.slice none 0 0)/\(((w.alloc o).alloc (.cells #[.int .i64 0,.slice none 0 0,.slice none 0 0] 156)).alloc (.cells #[.int .i64 0,.slice none 0 0,.slice none 0 0] 156)).cell? ⟨w.heap.size+1+1,2,none⟩=some (.slice none 0 0))/\(∀ i,(((w.alloc o).alloc (.cells #[.int .i64 0,.slice none 0 0,.slice none 0 0] 156)).alloc (.cells #[.int .i64 0,.slice none 0 0,.slice none 0 0] 156)).frozen? ⟨w.heap.size+1+1,i,none⟩=false)/\(((((w.alloc o).alloc (.cells #[.int .i64 0,.slice none 0 0,.slice none 0 0] 156)).alloc (.cells #[.int .i64 0,.slice none 0 0,.slice none 0 0] 156)).setCell ⟨w.heap.size+1+1,0,none⟩ (.int .i64 kind)).setCell ⟨w.heap.size+1+1,1,none⟩ (.slice none 0 0)).setCell ⟨w.heap.size+1+1,2,none⟩ (.slice none 0 0)=((w.alloc o).alloc (.cells #[.int .i64 0,.slice none 0 0,.slice none 0 0] 156)).alloc (.cells #[.int .i64 kind,.slice none 0 0,.slice none 0 0] 156):=by
 generalize a:(w.alloc o).alloc (.cells #[.int .i64 0,.slice none 0 0,.slice none 0 0] 156)=u;have z:w.heap.size+1+1=u.heap.size:=by rw [<- a];simp
 rw [z];refine⟨⟨cP u _ _ 0,cP u _ _ 1,cP u _ _ 2⟩,fun i=>World.frozen?_alloc_new _ _ _ _,?_⟩
 rw [World.setCell_alloc_at (hn:=rfl),World.setCell_alloc_at (hn:=rfl),World.setCell_alloc_at (hn:=rfl)]
 rfl
theorem sj (base kind:Int) (bd d h c f k n:Nat) (F:List Int) (W:List Nat) (w:World) (hd:VSrc w (some ⟨bd,d,none⟩) bd d n (xV F)) (hf:VSrc w (some ⟨c,f,none⟩) c f n (yV W)) (hl:F.length=n) (bk:W.length=n) (hn:1<=n) (cv:n<=255) :
  Calls Tryz.prog 108 #[.agg #[.int .i64 base,.int .i64 kind,.slice (some ⟨bd,d,none⟩) n h,.slice (some ⟨c,f,none⟩) n k]] w fun e w'=>∃ gx cx gy cy,e=.returned (.agg #[.int .i64 kind,.slice (some ⟨gx,0,none⟩) (1+n) cx,.slice (some ⟨gy,0,none⟩) (1+n) cy])/\w'.ownsRow w.heap.size 3 1 (.slice (some ⟨gx,0,none⟩) (1+n) cx) (1+n) ((base::F).map kV)/\w'.ownsRow w.heap.size 41 1 (.slice (some ⟨gy,0,none⟩) (1+n) cy) (1+n) ((4607182418800017408::W).map uV)/\Below w.heap.size w w':=by
 obtain⟨vX,I⟩:∃ v:Value,v=.slice none 0 0:=⟨_,rfl⟩;obtain⟨G,V⟩:∃ v:Value,v=.slice none 0 0:=⟨_,rfl⟩;have q:=MW w base kind (.slice (some ⟨bd,d,none⟩) n h) (.slice (some ⟨c,f,none⟩) n k);obtain⟨⟨y0,y1,y2⟩,yf,ye⟩:=MX w kind (.cells #[.int .i64 base,.int .i64 kind,.slice (some ⟨bd,d,none⟩) n h,.slice (some ⟨c,f,none⟩) n k] 39);rw [<- ye] at q
 obtain⟨w2,cq⟩:∃ w2,((w.alloc (.cells #[.int .i64 base,.int .i64 kind,.slice (some ⟨bd,d,none⟩) n h,.slice (some ⟨c,f,none⟩) n k] 39)).alloc (.cells #[.int .i64 0,.slice none 0 0,.slice none 0 0] 156)).alloc (.cells #[.int .i64 0,.slice none 0 0,.slice none 0 0] 156)=w2:=⟨_,rfl⟩;rw [cq] at q y0 y1 y2 yf
 obtain⟨N,ca⟩:∃ N,((w2.setCell ⟨w.heap.size+1+1,0,none⟩ (.int .i64 kind)).setCell ⟨w.heap.size+1+1,1,none⟩ (.slice none 0 0)).setCell ⟨w.heap.size+1+1,2,none⟩ (.slice none 0 0)=N:=⟨_,rfl⟩;rw [ca] at q
 have df:=yf 0;have dc:=yf 1;have da:=yf 2;clear yf ye;have HT:Hid (TabC w base kind (.slice (some ⟨bd,d,none⟩) n h) (.slice (some ⟨c,f,none⟩) n k) vX G N):=by show TabC _ _ _ _ _ _ _ _;rw [I,V];exact q
 have ai:Hid (∀ P:World,P.ownsRow (w.heap.size+3) 3 1 vX 0 (([]:List Int).map kV)):=fun P=>by rw [I];exact Fz P _
 have ab:Hid (∀ (P:World) (B:Nat),P.ownsRow B 41 1 G 0 (([]:List Nat).map uV)):=fun P B=>by rw [V];exact gF P _
 have HD:=hideS hd;have HF:=hideS hf;have HL:=hideS hl;have am:=hideS bk;clear q I V hd hf hl bk;have p0:∀ o,((w.alloc (.cells #[.int .i64 base,.int .i64 kind,.slice (some ⟨bd,d,none⟩) n h,.slice (some ⟨c,f,none⟩) n k] 39)).alloc o).cell? ⟨w.heap.size,1,none⟩=some (.int .i64 kind):=fun o=>kP w _ _ o 1
 have t0:=HT.out.t0;have o1:=HT.out.o1;have K:Hid (∀ o,TabC w base kind (.slice (some ⟨bd,d,none⟩) n h) (.slice (some ⟨c,f,none⟩) n k) vX G (N.alloc o)):=fun o=>HT.out.stay ((Below.refl _ _).alloc HT.out.sz o)
 have db:=(K.out (.cells #[.int .i64 base] 3)).o1;have C:Hid (w.heap.size+3<=(N.alloc (.cells #[.int .i64 base] 3)).heap.size):=(K.out _).sz
 go_enter Tryz.func108,Tryz.ntmps108
 go_wp2_with (first
  | (at_builtin;(refine gO _ rfl (.tmp 8) (.tmp 11) rfl (w.heap.size+3) vX 0 [] rfl (ai.out _) N.heap.size 0 1 1 [base] rfl rfl (vH N base _) (by omega) (by omega) C.out ?_;intro v4 w4 H bb;obtain⟨g4,c4,rfl,ci,cc,_,_⟩:=dz (xs:=[base]) H rfl (by omega);have R:=hideS ((K.out _).stay (bA (ai.out _) bb C.out));have q1:=R.out.o1;have q2:=R.out.f1;obtain⟨w5,ac⟩:∃ w5,w4.setCell ⟨w.heap.size+2,1,none⟩ (.slice (some ⟨g4,0,none⟩) 1 c4)=w5:=⟨_,rfl⟩;have i:Hid (TabC w base kind (.slice (some ⟨bd,d,none⟩) n h) (.slice (some ⟨c,f,none⟩) n k) (.slice (some ⟨g4,0,none⟩) 1 c4) G w5):=(by rw [<- ac];exact R.out.putX _);have Y:Hid (w5.ownsRow (w.heap.size+3) 3 1 (.slice (some ⟨g4,0,none⟩) 1 c4) 1 ([base].map kV)):=(by rw [<- ac];exact ax H (by omega) _);have bz:=hideS (HD.out.below i.out.bl);have q3:=i.out.o1;have q4:=i.out.t2;clear H bb ci cc))
  | (at_builtin;(refine gO _ rfl (.tmp 15) (.tmp 17) rfl (w.heap.size+3) (.slice (some ⟨g4,0,none⟩) 1 c4) 1 [base] rfl Y.out bd d h n F rfl HL.out bz.out.cell (by omega) (by omega) i.out.sz ?_;intro v6 w6 O X;obtain⟨p,t,rfl,bi,bx,_,_⟩:=dz (xs:=base::F) O (by rw [List.length_cons,HL.out];omega) (by omega);have U:=hideS (i.out.stay (bA Y.out X i.out.sz));have r1:=U.out.o1;have r2:=U.out.f1;obtain⟨b,Q⟩:∃ b,w6.setCell ⟨w.heap.size+2,1,none⟩ (.slice (some ⟨p,0,none⟩) (1+n) t)=b:=⟨_,rfl⟩;have a:Hid (TabC w base kind (.slice (some ⟨bd,d,none⟩) n h) (.slice (some ⟨c,f,none⟩) n k) (.slice (some ⟨p,0,none⟩) (1+n) t) G b):=(by rw [<- Q];exact U.out.putX _);have cm:Hid (b.ownsRow (w.heap.size+3) 3 1 (.slice (some ⟨p,0,none⟩) (1+n) t) (1+n) ((base::F).map kV)):=(by rw [<- Q];exact ax O (by omega) _);have bs:Hid (p<b.heap.size):=(by rw [<- Q,World.size_setCell];exact bi.lt (by omega));have A:Hid (∀ o,TabC w base kind (.slice (some ⟨bd,d,none⟩) n h) (.slice (some ⟨c,f,none⟩) n k) (.slice (some ⟨p,0,none⟩) (1+n) t) G (b.alloc o)):=(fun o=>a.out.stay ((Below.refl _ _).alloc a.out.sz o));have M:Hid (b.heap.size<=(b.alloc (.cells #[.int .u64 4607182418800017408] 41)).heap.size):=((Below.refl _ b).alloc (Nat.le_refl _) _).size;have r3:=a.out.o2;have r4:=(A.out (.cells #[.int .u64 4607182418800017408] 41)).o2;clear O X bi bx))
  | (at_builtin;(refine gP _ rfl (.tmp 21) (.tmp 22) rfl b.heap.size G 0 [] rfl (ab.out _ _) b.heap.size 0 1 1 [4607182418800017408] rfl rfl (Ka b 4607182418800017408 _) (by omega) (by omega) M.out ?_;intro v8 w8 L ak;obtain⟨p8,g8,c8,rfl,bh,cp,_,_⟩:=bq (xs:=[4607182418800017408]) L rfl;obtain rfl:=bh.at_ (by decide);have B8:=bA (ab.out _ _) ak M.out;have J:=hideS ((A.out _).stay (B8.mono a.out.sz));have br:=hideS (cX cm.out (((Below.refl _ b).alloc (Nat.le_refl _) _).trans B8));have u1:=J.out.o2;have u2:=J.out.f2;obtain⟨S,x⟩:∃ S,w8.setCell ⟨w.heap.size+2,2,none⟩ (.slice (some ⟨g8,0,none⟩) 1 c8)=S:=⟨_,rfl⟩;have y:Hid (TabC w base kind (.slice (some ⟨bd,d,none⟩) n h) (.slice (some ⟨c,f,none⟩) n k) (.slice (some ⟨p,0,none⟩) (1+n) t) (.slice (some ⟨g8,0,none⟩) 1 c8) S):=(by rw [<- x];exact J.out.putY _);have cr:Hid (S.ownsRow (w.heap.size+3) 3 1 (.slice (some ⟨p,0,none⟩) (1+n) t) (1+n) ((base::F).map kV)):=(by rw [<- x];exact ax br.out (by omega) _);have bc:Hid (S.ownsRow b.heap.size 41 1 (.slice (some ⟨g8,0,none⟩) 1 c8) 1 ([4607182418800017408].map uV)):=(by rw [<- x];exact ax L (by have:=a.out.sz;omega) _);have al:Hid (b.heap.size<=S.heap.size):=(by show b.heap.size<=S.heap.size;rw [<- x,World.size_setCell];have:=B8.size;have:=M.out;omega);have cl:=hideS (HF.out.below y.out.bl);have u3:=y.out.o2;have u4:=y.out.t3;clear L ak bh cp B8))
  | (at_builtin;(refine gP _ rfl (.tmp 26) (.tmp 28) rfl b.heap.size (.slice (some ⟨g8,0,none⟩) 1 c8) 1 [4607182418800017408] rfl bc.out c f k n W rfl am.out cl.out.cell (by omega) (by omega) al.out ?_;intro cs bv u z;obtain⟨cu,m,g,rfl,E,ba,_,_⟩:=bq (xs:=4607182418800017408::W) u (by rw [List.length_cons,am.out];omega);obtain rfl:=E.at_ (by rw [List.length_cons];omega);have T:=bA bc.out z al.out;have s:=hideS (y.out.stay (T.mono a.out.sz));have Z:=hideS (FA cr.out T bs.out);have s1:=s.out.o2;have s2:=s.out.f2;obtain⟨l,r⟩:∃ l,bv.setCell ⟨w.heap.size+2,2,none⟩ (.slice (some ⟨m,0,none⟩) (1+n) g)=l:=⟨_,rfl⟩;have D:Hid (TabC w base kind (.slice (some ⟨bd,d,none⟩) n h) (.slice (some ⟨c,f,none⟩) n k) (.slice (some ⟨p,0,none⟩) (1+n) t) (.slice (some ⟨m,0,none⟩) (1+n) g) l):=(by rw [<- r];exact s.out.putY _);have ad:Hid (l.ownsRow (w.heap.size+3) 3 1 (.slice (some ⟨p,0,none⟩) (1+n) t) (1+n) ((base::F).map kV)):=(by rw [<- r];exact ax Z.out (by omega) _);have as:Hid (l.ownsRow (w.heap.size+3) 41 1 (.slice (some ⟨m,0,none⟩) (1+n) g) (1+n) ((4607182418800017408::W).map uV)):=(by rw [<- r];exact bO (ax u (by have:=a.out.sz;omega) _) a.out.sz);obtain⟨_,_,_,_,d0,d1,d2,e0,e1,e2,o0,dd,ct,_,_,_,_⟩:=D.out;clear u z E ba T)))
 have hs:∀ j,w.heap.size<=(⟨w.heap.size+1,j,none⟩:Addr).block:=fun j=>by show w.heap.size<=w.heap.size+1;omega
 refine bodyPost_ret (v:=.agg #[.int .i64 kind,.slice (some ⟨p,0,none⟩) (1+n) t,.slice (some ⟨m,0,none⟩) (1+n) g]) (by simp [results,Tryz.results108,go_sem,d0,d1,d2]) rfl ?_
 have bo:Below w.heap.size w (((l.setCell ⟨w.heap.size+1,0,none⟩ (.int .i64 kind)).setCell ⟨w.heap.size+1,1,none⟩ (.slice (some ⟨p,0,none⟩) (1+n) t)).setCell ⟨w.heap.size+1,2,none⟩ (.slice (some ⟨m,0,none⟩) (1+n) g)):=((D.out.bl.setCell (hs 0) _).setCell (hs 1) _).setCell (hs 2) _;exact⟨p,t,m,g,rfl,bO (ax (ax (ax ad.out (by omega) _) (by omega) _) (by omega) _) (by omega),bO (ax (ax (ax as.out (by omega) _) (by omega) _) (by omega) _) (by omega),bo⟩
end Go.Proofs.YtfdddijdjpijbaaGreat
