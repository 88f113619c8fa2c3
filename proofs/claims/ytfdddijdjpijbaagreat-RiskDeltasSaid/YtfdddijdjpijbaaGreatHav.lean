/-  -/
import Derived.Test.YtfdddijdjpijbaaGreatHar
import Derived.Test.YtfdddijdjpijbaaGreatHau
import Derived.Deep.RegionLaw
import Derived.Test.YtfdddijdjpijbaaGreatHat
import Derived.Laws.AppendOwnNone
import Derived.OwnWalk
import Derived.Test.YtfdddijdjpijbaaGreatHas
set_option maxHeartbeats 3200000
set_option maxRecDepth 20000
namespace Go.Proofs.YtfdddijdjpijbaaGreat
open Go.RowKit
theorem re {d:Array Oper} {o:Oper} {a:Act} {w:World} {K:Act->World->Prop} {Q:Exit->Act->World->Prop} {E:Prop} (l:o.guard=none) (s x:Operand)
  (D:o.op=.call { callee:=.builtin .append,args:=#[s,x],argTypes:=#[33,33] })
  (base:Nat) (v:Value) (n:Nat) (xs:List Nat) (B:a.eval s=v) (e:w.ownsRow base 41 1 v n (xs.map uV))
  (g:Nat) (z:Nat) (y:a.eval x=.slice (some ⟨g,0,none⟩) 1 1) (hc:w.cell? ⟨g,0,none⟩=some (.int .u64 (z:Int))) (hn:n<=17592186044415) (b:base<=w.heap.size)
  (h:∀ f c,c.ownsRow base 41 1 f (n+1) ((xs++[z]).map uV)->w.grownBy c v.ownBlock->K (a.put o.dst f) c) :
  if Region.wanted o (yielded d a.tmps)=true then Oper.wp Tryz.prog o a w K Q else E:=by
 have C:Region.wanted o (yielded d a.tmps)=true:=by simp [Region.wanted,l]
 rw [if_pos C];obtain⟨r,hi,i,k,m⟩:=info_parts vA;refine wp_append_own w s x 33 D base 41 r (.int .u64 0) 1 8 Tryz.underlying33 hi i k m rfl (by decide) v n (xs.map uV) B e ⟨g,0,none⟩ 1 1 [uV z] y rfl ?_ (fun u q=>by rw [List.mem_singleton] at q;rw [q];rfl) (by unfold maxLen;omega) (by omega) b ?_
 ·intro j u p;cases j with
  | zero=>
   have:uV z=u:=Option.some.inj p;rw [<- this,Addr.add_lit];exact hc
  | succ j=>cases p
 ·intro f c A t _;refine h f c ?_ t
  rw [List.map_append];exact A
def Ro (ys:List Nat) (j:Nat):Value:=.float .f64 (ys.getD j 0)
structure OfB (w:World) (kind:Int) (vx vf vo:Value) (wr:World):Prop where
 t0:wr.cell? ⟨w.heap.size,0,none⟩=some (.int .i64 kind)
 t1:wr.cell? ⟨w.heap.size,1,none⟩=some vx
 t2:wr.cell? ⟨w.heap.size,2,none⟩=some vf
 d0:wr.cell? ⟨w.heap.size+1,0,none⟩=some (.int .i64 0)
 d1:wr.cell? ⟨w.heap.size+1,1,none⟩=some (.slice none 0 0)
 d2:wr.cell? ⟨w.heap.size+1,2,none⟩=some (.slice none 0 0)
 e0:wr.frozen? ⟨w.heap.size+1,0,none⟩=false
 e1:wr.frozen? ⟨w.heap.size+1,1,none⟩=false
 e2:wr.frozen? ⟨w.heap.size+1,2,none⟩=false
 o0:wr.cell? ⟨w.heap.size+2,0,none⟩=some (.int .i64 kind)
 o1:wr.cell? ⟨w.heap.size+2,1,none⟩=some vx
 o2:wr.cell? ⟨w.heap.size+2,2,none⟩=some vo
 f2:wr.frozen? ⟨w.heap.size+2,2,none⟩=false
 bl:Below w.heap.size w wr
 sz:w.heap.size+3<=wr.heap.size
theorem OfB.stay {w wr a:World} {kind:Int} {e f d:Value} (h:OfB w kind e f d wr) (b:Below (w.heap.size+3) wr a):OfB w kind e f d a:=by
 have c:∀ k<3,∀ j,a.cell? ⟨w.heap.size+k,j,none⟩=wr.cell? ⟨w.heap.size+k,j,none⟩:=fun k i j=>b.cell (p:=⟨w.heap.size+k,j,none⟩) (by show w.heap.size+k<_;omega)
 have g:∀ k<3,∀ j,a.frozen? ⟨w.heap.size+k,j,none⟩=wr.frozen? ⟨w.heap.size+k,j,none⟩:=fun k i j=>b.frozen (p:=⟨w.heap.size+k,j,none⟩) (by show w.heap.size+k<_;omega)
 exact⟨(c 0 (by omega) 0).trans h.t0,(c 0 (by omega) 1).trans h.t1,(c 0 (by omega) 2).trans h.t2,(c 1 (by omega) 0).trans h.d0,(c 1 (by omega) 1).trans h.d1,(c 1 (by omega) 2).trans h.d2,(g 1 (by omega) 0).trans h.e0,(g 1 (by omega) 1).trans h.e1,(g 1 (by omega) 2).trans h.e2,(c 2 (by omega) 0).trans h.o0,(c 2 (by omega) 1).trans h.o1,(c 2 (by omega) 2).trans h.o2,(g 2 (by omega) 2).trans h.f2,h.bl.trans (b.mono (by omega)),Nat.le_trans h.sz b.size⟩
theorem cT (W:World) (cs:Array Value) (t:TypeId) (k:Nat):(W.alloc (.cells cs t)).cell? ⟨W.heap.size,k,none⟩=cs[k]? :=by simp
theorem bw {w:World} {base n b j:Nat} {v:Value} {xs:List Nat} (h:w.ownsRow base 41 1 v n (xs.map uV)) (i:b<base) (x:Value):(w.setCell ⟨b,j,none⟩ x).ownsRow base 41 1 v n (xs.map uV):=by
 refine⟨h.1,?_⟩
 rcases h.2 with e | ⟨g,c,a,rfl,f,d,rest⟩
 ·exact .inl e
 ·exact .inr ⟨g,c,a,rfl,f,by rw [Below.heap_setCell w ⟨b,j,none⟩ x g (by show g≠b;omega)];exact d,rest⟩
theorem gr {w:World} {base a n:Nat} {v:Value} {xs:List Value} (h:w.ownsRow base 41 1 v n xs) (d:a<=base):w.ownsRow a 41 1 v n xs:=by
 refine⟨h.1,?_⟩
 rcases h.2 with f | ⟨g,c,b,e,i,rest⟩
 ·exact .inl f
 ·exact .inr ⟨g,c,b,e,Nat.le_trans d i,rest⟩
theorem kU (w:World) (cs:Array Value) (t:TypeId) (o:Obj) (j:Nat):((w.alloc (.cells cs t)).alloc o).cell? ⟨w.heap.size,j,none⟩=cs[j]? :=
 (((Below.refl _ (w.alloc (.cells cs t))).alloc (Nat.le_refl _) o).cell (p:=⟨w.heap.size,j,none⟩) (by show w.heap.size<_;simp)).trans (cT w cs t j)
structure OfC (w:World) (base kind:Int) (vd vf vo:Value) (wr:World):Prop where
 t0:wr.cell? ⟨w.heap.size,0,none⟩=some (.int .i64 base)
 t1:wr.cell? ⟨w.heap.size,1,none⟩=some (.int .i64 kind)
 t2:wr.cell? ⟨w.heap.size,2,none⟩=some vd
 t3:wr.cell? ⟨w.heap.size,3,none⟩=some vf
 d0:wr.cell? ⟨w.heap.size+1,0,none⟩=some (.int .i64 0)
 d1:wr.cell? ⟨w.heap.size+1,1,none⟩=some (.int .i64 0)
 d2:wr.cell? ⟨w.heap.size+1,2,none⟩=some (.slice none 0 0)
 d3:wr.cell? ⟨w.heap.size+1,3,none⟩=some (.slice none 0 0)
 e0:wr.frozen? ⟨w.heap.size+1,0,none⟩=false
 e1:wr.frozen? ⟨w.heap.size+1,1,none⟩=false
 e2:wr.frozen? ⟨w.heap.size+1,2,none⟩=false
 e3:wr.frozen? ⟨w.heap.size+1,3,none⟩=false
 o0:wr.cell? ⟨w.heap.size+2,0,none⟩=some (.int .i64 base)
 o1:wr.cell? ⟨w.heap.size+2,1,none⟩=some (.int .i64 kind)
 o2:wr.cell? ⟨w.heap.size+2,2,none⟩=some vd
 o3:wr.cell? ⟨w.heap.size+2,3,none⟩=some vo
 f3:wr.frozen? ⟨w.heap.size+2,3,none⟩=false
 bl:Below w.heap.size w wr
 sz:w.heap.size+3<=wr.heap.size
theorem OfC.stay {w wr a:World} {base kind:Int} {e f d:Value} (h:OfC w base kind e f d wr) (b:Below (w.heap.size+3) wr a):OfC w base kind e f d a:=by
 have c:∀ k<3,∀ j,a.cell? ⟨w.heap.size+k,j,none⟩=wr.cell? ⟨w.heap.size+k,j,none⟩:=fun k i j=>b.cell (p:=⟨w.heap.size+k,j,none⟩) (by show w.heap.size+k<_;omega)
 have g:∀ k<3,∀ j,a.frozen? ⟨w.heap.size+k,j,none⟩=wr.frozen? ⟨w.heap.size+k,j,none⟩:=fun k i j=>b.frozen (p:=⟨w.heap.size+k,j,none⟩) (by show w.heap.size+k<_;omega)
 exact⟨(c 0 (by omega) 0).trans h.t0,(c 0 (by omega) 1).trans h.t1,(c 0 (by omega) 2).trans h.t2,(c 0 (by omega) 3).trans h.t3,(c 1 (by omega) 0).trans h.d0,(c 1 (by omega) 1).trans h.d1,(c 1 (by omega) 2).trans h.d2,(c 1 (by omega) 3).trans h.d3,(g 1 (by omega) 0).trans h.e0,(g 1 (by omega) 1).trans h.e1,(g 1 (by omega) 2).trans h.e2,(g 1 (by omega) 3).trans h.e3,(c 2 (by omega) 0).trans h.o0,(c 2 (by omega) 1).trans h.o1,(c 2 (by omega) 2).trans h.o2,(c 2 (by omega) 3).trans h.o3,(g 2 (by omega) 3).trans h.f3,h.bl.trans (b.mono (by omega)),Nat.le_trans h.sz b.size⟩
theorem OfC.put {w wr:World} {base kind:Int} {b d e:Value} (h:OfC w base kind b d e wr) (v:Value):OfC w base kind b d v (wr.setCell ⟨w.heap.size+2,3,none⟩ v):=by
 have a:Below (w.heap.size+2) wr (wr.setCell ⟨w.heap.size+2,3,none⟩ v):=(Below.refl _ wr).setCell (p:=⟨w.heap.size+2,3,none⟩) (Nat.le_refl _) v;have c:∀ k<2,∀ j,(wr.setCell ⟨w.heap.size+2,3,none⟩ v).cell? ⟨w.heap.size+k,j,none⟩=wr.cell? ⟨w.heap.size+k,j,none⟩:=fun k f j=>a.cell (p:=⟨w.heap.size+k,j,none⟩) (by show w.heap.size+k<_;omega)
 have g:∀ k<2,∀ j,(wr.setCell ⟨w.heap.size+2,3,none⟩ v).frozen? ⟨w.heap.size+k,j,none⟩=wr.frozen? ⟨w.heap.size+k,j,none⟩:=fun k f j=>a.frozen (p:=⟨w.heap.size+k,j,none⟩) (by show w.heap.size+k<_;omega)
 refine⟨(c 0 (by omega) 0).trans h.t0,(c 0 (by omega) 1).trans h.t1,(c 0 (by omega) 2).trans h.t2,(c 0 (by omega) 3).trans h.t3,(c 1 (by omega) 0).trans h.d0,(c 1 (by omega) 1).trans h.d1,(c 1 (by omega) 2).trans h.d2,(c 1 (by omega) 3).trans h.d3,(g 1 (by omega) 0).trans h.e0,(g 1 (by omega) 1).trans h.e1,(g 1 (by omega) 2).trans h.e2,(g 1 (by omega) 3).trans h.e3,?_,?_,?_,?_,?_,h.bl.setCell (p:=⟨w.heap.size+2,3,none⟩) (by show w.heap.size<=w.heap.size+2;omega) v,by simpa using h.sz⟩
 ·simp [h.o0,go_sem]
 ·simp [h.o1,go_sem]
 ·simp [h.o2,go_sem]
 ·simp [h.o3,go_sem]
 ·simp [h.f3,go_sem]
theorem PY (w:World) (base kind:Int) (c l:Value):OfC w base kind c l (.slice none 0 0) (((w.alloc (.cells #[.int .i64 base,.int .i64 kind,c,l] 26)).alloc (.cells #[.int .i64 0,.int .i64 0,.slice none 0 0,.slice none 0 0] 39)).alloc (.cells #[.int .i64 base,.int .i64 kind,c,.slice none 0 0] 39)):=by
 have h:∀ (w:World) o,Below w.heap.size w (w.alloc o):=fun w o=>(Below.refl _ _).alloc (Nat.le_refl _) _
 generalize f:w.alloc (.cells #[.int .i64 base,.int .i64 kind,c,l] 26)=d;have m:d.heap.size=w.heap.size+1:=by rw [<- f];simp
 generalize b:d.alloc (.cells #[.int .i64 0,.int .i64 0,.slice none 0 0,.slice none 0 0] 39)=a;have q:a.heap.size=w.heap.size+2:=by rw [<- b];simp [m]
 have c1:∀ j,d.cell? ⟨w.heap.size,j,none⟩=(#[.int .i64 base,.int .i64 kind,c,l]:Array Value)[j]? :=fun j=>by rw [<- f];exact cT w _ _ j
 have c2:∀ j,a.cell? ⟨w.heap.size+1,j,none⟩=(#[.int .i64 0,.int .i64 0,.slice none 0 0,.slice none 0 0]:Array Value)[j]? :=fun j=>by rw [<- b,<- m];exact cT d _ _ j
 have c3:∀ j,(a.alloc (.cells #[.int .i64 base,.int .i64 kind,c,.slice none 0 0] 39)).cell? ⟨w.heap.size+2,j,none⟩=(#[.int .i64 base,.int .i64 kind,c,.slice none 0 0]:Array Value)[j]? :=fun j=>by rw [<- q];exact cT a _ _ j
 have g:∀ j,a.cell? ⟨w.heap.size,j,none⟩=d.cell? ⟨w.heap.size,j,none⟩:=fun j=>by rw [<- b];exact (h d _).cell (p:=⟨w.heap.size,j,none⟩) (by show w.heap.size<d.heap.size;omega)
 have e:∀ k<2,∀ j o,(a.alloc o).cell? ⟨w.heap.size+k,j,none⟩=a.cell? ⟨w.heap.size+k,j,none⟩:=fun k t j o=>(h a o).cell (p:=⟨w.heap.size+k,j,none⟩) (by show w.heap.size+k<a.heap.size;omega)
 have i:∀ j o,(a.alloc o).frozen? ⟨w.heap.size+1,j,none⟩=false:=fun j o=>by
  rw [(h a o).frozen (p:=⟨w.heap.size+1,j,none⟩) (by show w.heap.size+1<a.heap.size;omega),<- b,<- m]
  exact World.frozen?_alloc_new _ _ _ _
 have s:Below w.heap.size w (a.alloc (.cells #[.int .i64 base,.int .i64 kind,c,.slice none 0 0] 39)):=by
  have r:Below w.heap.size w d:=by rw [<- f];exact h w _
  have n:Below w.heap.size w a:=by rw [<- b];exact r.alloc r.size _
  exact n.alloc n.size _
 exact⟨((e 0 (by omega) 0 _).trans (g 0)).trans (c1 0),((e 0 (by omega) 1 _).trans (g 1)).trans (c1 1),((e 0 (by omega) 2 _).trans (g 2)).trans (c1 2),((e 0 (by omega) 3 _).trans (g 3)).trans (c1 3),(e 1 (by omega) 0 _).trans (c2 0),(e 1 (by omega) 1 _).trans (c2 1),(e 1 (by omega) 2 _).trans (c2 2),(e 1 (by omega) 3 _).trans (c2 3),i 0 _,i 1 _,i 2 _,i 3 _,c3 0,c3 1,c3 2,c3 3,by rw [<- q];exact World.frozen?_alloc_new _ _ _ _,s,by simp;omega⟩
theorem zt (base kind:Int) (A u cx cy m n:Nat) (c g:Option Addr) (ys:List Nat) (w:World) (H:VSrc w g A u n (Ro ys)) (s:ys.length=n) (hn:n<=17592186043904) :
  Calls Tryz.prog 10 #[.agg #[.int .i64 base,.int .i64 kind,(.slice c m cx),.slice g n cy]] w fun e G=>∃ v,e=.returned (.agg #[.int .i64 base,.int .i64 kind,(.slice c m cx),v])/\G.ownsRow w.heap.size 41 1 v n (ys.map uV)/\Below w.heap.size w G:=by
 have C:=hideS H;have x:=hideS s;have d:=hideS (PY w base kind (.slice c m cx) (.slice g n cy));have p0:∀ o,((w.alloc (.cells #[.int .i64 base,.int .i64 kind,(.slice c m cx),.slice g n cy] 26)).alloc o).cell? ⟨w.heap.size,0,none⟩=some (.int .i64 base):=fun o=>kU w _ _ o 0
 have T:∀ o,((w.alloc (.cells #[.int .i64 base,.int .i64 kind,(.slice c m cx),.slice g n cy] 26)).alloc o).cell? ⟨w.heap.size,1,none⟩=some (.int .i64 kind):=fun o=>kU w _ _ o 1
 have p2:∀ o,((w.alloc (.cells #[.int .i64 base,.int .i64 kind,(.slice c m cx),.slice g n cy] 26)).alloc o).cell? ⟨w.heap.size,2,none⟩=some (.slice c m cx):=fun o=>kU w _ _ o 2
 clear H s
 go_enter Tryz.func10,Tryz.ntmps10
 go_wp2_with fail
 go_loopw [4] (fun i wr=>∃ k:Nat,k<=n/\i=.int .i64 k/\Hid (∃ v,wr.ownsRow (w.heap.size+3) 41 1 v k ((ys.take k).map uV)/\OfC w base kind (.slice c m cx) (.slice g n cy) v wr)) (fun i _=>n - (intOf i).toNat)
 case atStart=>exact⟨0,Nat.zero_le _,rfl,_,qe _ _,d.out⟩
 case round=>
  clear d;obtain⟨k,hk,rfl,J⟩:=hrel;obtain⟨v,F,I⟩:=J.out;obtain⟨l,g0,a,rfl,_,_,_,_⟩:=bq F (by rw [List.length_take,x.out];omega)
  have E:=hideS F;have d:=hideS I;obtain⟨t0,t1,t2,t3,S,Q,L,M,e0,e1,e2,e3,o0,U,o2,o3,V,_,_⟩:=d.out;clear F I J
  by_cases q:k<n
  ·obtain rfl:=C.out.at_ (by omega)
   have R:wr.cell? ⟨A,u+k,none⟩=some (.float .f64 (ys.getD k 0)):=(d.out.bl.cell (p:=⟨A,u+k,none⟩) (C.out.lt (by omega))).trans (C.out.cell k q)
   have N:Hid (ys.take (k+1)=ys.take k++[ys.getD k 0]):=by
    show _=_
    rw [List.take_add_one]
    congr 1
    simp [List.getD,List.getElem?_eq_getElem (show k<ys.length by rw [x.out];exact q)]
   generalize ys.getD k 0=y at *
   have r:Hid (∀ o,(wr.drew.alloc o).ownsRow (w.heap.size+3) 41 1 (.slice l k a) k ((ys.take k).map uV)):=fun o=>aq (w:=wr) E.out ((Below.refl _ wr).drew.alloc (Nat.le_refl _) o)
   have b:Hid (∀ o,OfC w base kind (.slice c m cx) (.slice (some ⟨A,u,none⟩) n cy) (.slice l k a) (wr.drew.alloc o)):=fun o=>d.out.stay ((Below.refl (w.heap.size+3) wr).drew.alloc d.out.sz o)
   have x2:(wr.alloc (.cells #[.int .u64 (y:Int)] 41)).drew.cell? ⟨w.heap.size+2,3,none⟩=some (.slice l k a):=(b.out _).o3;have x3:(wr.alloc (.cells #[.int .u64 (y:Int)] 41)).cell? ⟨w.heap.size+2,3,none⟩=some (.slice l k a):=(b.out _).o3;have g3:(0:Int)<=(k:Int):=by omega
   have g4:(k:Int)<(n:Int):=by omega
   go_wp2_with fail
   go_region_law (first | (go_simp;go_at_call 11;refine (turned (fC _ _)).mono ?_;rintro e wb ⟨rfl,rfl⟩) | (refine re rfl (.tmp 20) (.tmp 27) rfl (w.heap.size+3) _ k (ys.take k) rfl (r.out _) wr.heap.size y rfl (by simp) (by omega) (b.out (.cells #[.int .u64 (y:Int)] 41)).sz ?_;intro W Z h t;obtain⟨X,Y,c6,rfl,_,_,_,_⟩:=bq h (by rw [List.length_append,List.length_take,x.out];simp;omega);have f:=hideS ((b.out _).stay (be (r.out _) t (b.out (.cells #[.int .u64 (y:Int)] 41)).sz));have D:=hideS h;have c2:=f.out.o3;have c3:=f.out.f3;clear h t))
   all_goals
    go_wp2_with fail
    go_roundw
    case rel=>exact⟨k+1,by omega,by simp,_,by rw [N.out];exact bw D.out (by omega) _,f.out.put _⟩
    case measure=>simp [intOf];omega
  ·obtain rfl:k=n:=by omega
   have O:¬ (k:Int)<(k:Int):=by omega
   have P:Hid (ys.take k=ys):=by show _=_;exact List.take_of_length_le (by rw [x.out];omega)
   rw [P.out] at E
   have K:=d.out.sz
   go_wp2_with fail
   refine bodyPost_ret (v:=.agg #[.int .i64 base,.int .i64 kind,.slice c m cx,.slice l k a]) (by simp [results,Tryz.results10,go_sem,S,Q,L,M]) rfl ?_
   have z:∀ j,w.heap.size<=(⟨w.heap.size+1,j,none⟩:Addr).block:=fun j=>by show w.heap.size<=w.heap.size+1;omega
   have B:Below w.heap.size w ((((wr.setCell ⟨w.heap.size+1,0,none⟩ (.int .i64 base)).setCell ⟨w.heap.size+1,1,none⟩ (.int .i64 kind)).setCell ⟨w.heap.size+1,2,none⟩ (.slice c m cx)).setCell ⟨w.heap.size+1,3,none⟩ (.slice l k a)):=(((d.out.bl.setCell (z 0) _).setCell (z 1) _).setCell (z 2) _).setCell (z 3) _;exact⟨_,rfl,gr (bw (bw (bw (bw E.out (by omega) _) (by omega) _) (by omega) _) (by omega) _) (by omega),B⟩
def kV (x:Int):Value:=.int .i64 x
theorem iP:(Tryz.prog.info? 3).map (fun i=>(i.zero,i.size,i.bytes))=some (some (.int .i64 0),1,8):=by kernel_rfl
theorem gY (w:World) {g:Array Oper} {rest:List Oper} {o:Oper} {a:Act} {Q:Exit->Act->World->Prop} (y:o.guard=none) (s x:Operand)
  (I:o.op=.call { callee:=.builtin .append,args:=#[s,x],argTypes:=#[23,23] })
  (base:Nat) (v:Value) (n:Nat) (xs:List Int) (H:a.eval s=v) (i:w.ownsRow base 3 1 v n (xs.map kV))
  (b off c m:Nat) (ys:List Int) (E:a.eval x=.slice (some ⟨b,off,none⟩) m c) (G:ys.length=m) (e:∀ j<m,w.cell? ⟨b,off+j,none⟩=some (xV ys j)) (hn:n<=100000) (B:m<=100000) (d:base<=w.heap.size)
  (h:∀ l f,f.ownsRow base 3 1 l (n+m) ((xs++ys).map kV)->w.grownBy f v.ownBlock->wpList Tryz.prog g Q rest (a.put o.dst l) f):wpList Tryz.prog g Q (o::rest) a w:=by
 obtain⟨C,hi,r,t,A⟩:=info_parts iP;refine wpList_append_own w y s x 23 I base 3 C (.int .i64 0) 1 8 Tryz.underlying23 hi r t A rfl (by decide) v n (xs.map kV) H i ⟨b,off,none⟩ m c (ys.map kV) E (by rw [List.length_map,G,Nat.mul_one]) ?_ (fun u q=>by obtain⟨z,_,rfl⟩:=List.mem_map.1 q;rfl) (by unfold maxLen;omega) (by omega) d ?_
 ·intro j u p;have k:j<ys.length:=by
   have:=(List.getElem?_eq_some_iff.1 p).1
   simpa using this
  rw [Addr.add_lit,e j (by omega)]
  rw [List.getElem?_map,List.getElem?_eq_getElem k] at p
  have q:kV ys[j]=u:=Option.some.inj p;rw [<- q]
  show some (Value.int .i64 (ys.getD j 0))=_
  rw [List.getD_eq_getElem?_getD,List.getElem?_eq_getElem k];rfl
 ·intro l f F D _;refine h l f ?_ D
  rw [List.map_append];exact F
theorem gZ (w:World) {g:Array Oper} {rest:List Oper} {o:Oper} {a:Act} {Q:Exit->Act->World->Prop} (y:o.guard=none) (s x:Operand)
  (I:o.op=.call { callee:=.builtin .append,args:=#[s,x],argTypes:=#[33,33] })
  (base:Nat) (v:Value) (n:Nat) (xs:List Nat) (H:a.eval s=v) (i:w.ownsRow base 41 1 v n (xs.map uV))
  (b off c m:Nat) (ys:List Nat) (E:a.eval x=.slice (some ⟨b,off,none⟩) m c) (G:ys.length=m) (e:∀ j<m,w.cell? ⟨b,off+j,none⟩=some (yV ys j)) (hn:n<=100000) (B:m<=100000) (d:base<=w.heap.size)
  (h:∀ l f,f.ownsRow base 41 1 l (n+m) ((xs++ys).map uV)->w.grownBy f v.ownBlock->wpList Tryz.prog g Q rest (a.put o.dst l) f):wpList Tryz.prog g Q (o::rest) a w:=by
 obtain⟨C,hi,r,t,A⟩:=info_parts vA;refine wpList_append_own w y s x 33 I base 41 C (.int .u64 0) 1 8 Tryz.underlying33 hi r t A rfl (by decide) v n (xs.map uV) H i ⟨b,off,none⟩ m c (ys.map uV) E (by rw [List.length_map,G,Nat.mul_one]) ?_ (fun u q=>by obtain⟨z,_,rfl⟩:=List.mem_map.1 q;rfl) (by unfold maxLen;omega) (by omega) d ?_
 ·intro j u p;have k:j<ys.length:=by
   have:=(List.getElem?_eq_some_iff.1 p).1
   simpa using this
  rw [Addr.add_lit,e j (by omega)]
  rw [List.getElem?_map,List.getElem?_eq_getElem k] at p
  have q:uV ys[j]=u:=Option.some.inj p;rw [<- q]
  show some (Value.int .u64 (ys.getD j 0:Nat))=_
  rw [List.getD_eq_getElem?_getD,List.getElem?_eq_getElem k];rfl
 ·intro l f F D _;refine h l f ?_ D
  rw [List.map_append];exact F
theorem nl (w:World) {g:Array Oper} {rest:List Oper} {o:Oper} {a:Act} {Q:Exit->Act->World->Prop} (y:o.guard=none) (s x:Operand)
  (I:o.op=.call { callee:=.builtin .append,args:=#[s,x],argTypes:=#[24,24] })
  (base:Nat) (v:Value) (n:Nat) (xs:List Nat) (H:a.eval s=v) (i:w.ownsRow base 27 1 v n (xs.map fV))
  (b off c m:Nat) (ys:List Nat) (E:a.eval x=.slice (some ⟨b,off,none⟩) m c) (G:ys.length=m) (e:∀ j<m,w.cell? ⟨b,off+j,none⟩=some (flV ys j)) (hn:n<=100000) (B:m<=100000) (d:base<=w.heap.size)
  (h:∀ l f,f.ownsRow base 27 1 l (n+m) ((xs++ys).map fV)->w.grownBy f v.ownBlock->wpList Tryz.prog g Q rest (a.put o.dst l) f):wpList Tryz.prog g Q (o::rest) a w:=by
 obtain⟨C,hi,r,t,A⟩:=info_parts jx;refine wpList_append_own w y s x 24 I base 27 C (.float .f64 0) 1 8 Tryz.underlying24 hi r t A rfl (by decide) v n (xs.map fV) H i ⟨b,off,none⟩ m c (ys.map fV) E (by rw [List.length_map,G,Nat.mul_one]) ?_ (fun u q=>by obtain⟨z,_,rfl⟩:=List.mem_map.1 q;rfl) (by unfold maxLen;omega) (by omega) d ?_
 ·intro j u p;have k:j<ys.length:=by
   have:=(List.getElem?_eq_some_iff.1 p).1
   simpa using this
  rw [Addr.add_lit,e j (by omega)]
  rw [List.getElem?_map,List.getElem?_eq_getElem k] at p
  have q:fV ys[j]=u:=Option.some.inj p;rw [<- q]
  show some (Value.float .f64 (ys.getD j 0))=_
  rw [List.getD_eq_getElem?_getD,List.getElem?_eq_getElem k];rfl
 ·intro l f F D _;refine h l f ?_ D
  rw [List.map_append];exact F
theorem Gf (w:World) (base:Nat):w.ownsRow base 3 1 (.slice none 0 0) 0 (([]:List Int).map kV):=⟨rfl,Or.inl ⟨rfl,rfl⟩⟩
theorem de {t:TypeId} {w d:World} {base n:Nat} {v:Value} {xs:List Value} (h:w.ownsRow base t 1 v n xs) (e:Below w.heap.size w d):d.ownsRow base t 1 v n xs:=by
 refine⟨h.1,?_⟩
 rcases h.2 with f | ⟨g,c,b,rfl,i,a,rest⟩
 ·exact .inl f
 ·exact .inr ⟨g,c,b,rfl,i,by rw [e.block g (Array.getElem?_eq_some_iff.1 a).1];exact a,rest⟩
theorem bC {t:TypeId} {w b:World} {v:Value} {B n:Nat} {xs:List Value} (i:w.ownsRow B t 1 v n xs) (h:w.grownBy b v.ownBlock) (f:B<=w.heap.size):Below B w b:=
 (Below.refl B w).grown h f (fun k c=>by
  rcases i.2 with⟨rfl,_⟩| ⟨g,e,d,rfl,a,_⟩
  ·cases c
  ·obtain rfl:g=k:=by simpa [Value.ownBlock] using c
   exact a)
theorem aw {t:TypeId} {w:World} {base n b j:Nat} {v:Value} {xs:List Value} (h:w.ownsRow base t 1 v n xs) (i:b<base) (x:Value):(w.setCell ⟨b,j,none⟩ x).ownsRow base t 1 v n xs:=by
 refine⟨h.1,?_⟩
 rcases h.2 with e | ⟨g,c,a,rfl,f,d,rest⟩
 ·exact .inl e
 ·exact .inr ⟨g,c,a,rfl,f,by rw [Below.heap_setCell w ⟨b,j,none⟩ x g (by show g≠b;omega)];exact d,rest⟩
theorem bS {t:TypeId} {w:World} {base a n:Nat} {v:Value} {xs:List Value} (h:w.ownsRow base t 1 v n xs) (d:a<=base):w.ownsRow a t 1 v n xs:=by
 refine⟨h.1,?_⟩
 rcases h.2 with f | ⟨g,c,b,e,i,rest⟩
 ·exact .inl f
 ·exact .inr ⟨g,c,b,e,Nat.le_trans d i,rest⟩
theorem Gg {t:TypeId} {w i:World} {base n B g c:Nat} {xs:List Value} (h:w.ownsRow base t 1 (.slice (some ⟨g,0,none⟩) n c) n xs) (o:Below B w i) (m:g<B):i.ownsRow base t 1 (.slice (some ⟨g,0,none⟩) n c) n xs:=by
 refine⟨h.1,?_⟩
 rcases h.2 with⟨l,_⟩| ⟨k,f,d,e,p,b,rest⟩
 ·cases l
 ·have j:=e;injection e with a q r;injection a with a;injection a with a;subst a;exact .inr ⟨g,f,d,j,p,by rw [o.block g m];exact b,rest⟩
theorem wG (w:World) (x:Int) (t:TypeId):∀ j<1,(w.alloc (.cells #[.int .i64 x] t)).cell? ⟨w.heap.size,0+j,none⟩=some (xV [x] j):=fun j a=>by
 obtain rfl:j=0:=by omega
 exact cT w _ _ 0
theorem KF (w:World) (x:Nat) (t:TypeId):∀ j<1,(w.alloc (.cells #[.int .u64 (x:Int)] t)).cell? ⟨w.heap.size,0+j,none⟩=some (yV [x] j):=fun j a=>by
 obtain rfl:j=0:=by omega
 exact cT w _ _ 0
theorem NA (w:World) (x:Nat) (t:TypeId):∀ j<1,(w.alloc (.cells #[.float .f64 x] t)).cell? ⟨w.heap.size,0+j,none⟩=some (flV [x] j):=fun j a=>by
 obtain rfl:j=0:=by omega
 exact cT w _ _ 0
theorem dD {w:World} {base n:Nat} {v:Value} {xs:List Int} (h:w.ownsRow base 3 1 v n (xs.map kV)) (hn:xs.length=n) (m:0<n):∃ g c,v=.slice (some ⟨g,0,none⟩) n c/\VSrc w (some ⟨g,0,none⟩) g 0 n (xV xs)/\base<=g/\n<=c/\c<=maxLen:=by
 rcases h.2 with⟨rfl,rfl⟩| ⟨g,d,f,rfl,e,j,b,a,l,k⟩
 ·omega
 ·refine⟨g,d,rfl,⟨fun _=>rfl,fun _=>(Array.getElem?_eq_some_iff.1 j).1,fun i hi=>?_⟩,e,b,a⟩
  rw [Nat.zero_add,World.ownsRow.cellAt h i (by omega),List.getElem?_map]
  show Option.map kV xs[i]? =some (Value.int .i64 (xs.getD i 0))
  rw [List.getD_eq_getElem?_getD,List.getElem?_eq_getElem (by omega)];rfl
theorem fx {w:World} {base n:Nat} {v:Value} {xs:List Nat} (h:w.ownsRow base 27 1 v n (xs.map fV)) (hn:xs.length=n) (l:0<n):∃ g c,v=.slice (some ⟨g,0,none⟩) n c/\VSrc w (some ⟨g,0,none⟩) g 0 n (flV xs)/\base<=g/\n<=c/\c<=maxLen:=by
 obtain⟨p,g,c,e,f,a,b,d⟩:=FQ h hn;have i:=f.at_ (by omega)
 subst i;exact⟨g,c,e,⟨fun _=>rfl,fun _=>f.lt (by omega),fun j k=>f.cell j (by omega)⟩,a,b,d⟩
structure TabC (w:World) (base kind:Int) (vd vf vX vY:Value) (wr:World):Prop where
 t0:wr.cell? ⟨w.heap.size,0,none⟩=some (.int .i64 base)
 t1:wr.cell? ⟨w.heap.size,1,none⟩=some (.int .i64 kind)
 t2:wr.cell? ⟨w.heap.size,2,none⟩=some vd
 t3:wr.cell? ⟨w.heap.size,3,none⟩=some vf
 d0:wr.cell? ⟨w.heap.size+1,0,none⟩=some (.int .i64 0)
 d1:wr.cell? ⟨w.heap.size+1,1,none⟩=some (.slice none 0 0)
 d2:wr.cell? ⟨w.heap.size+1,2,none⟩=some (.slice none 0 0)
 e0:wr.frozen? ⟨w.heap.size+1,0,none⟩=false
 e1:wr.frozen? ⟨w.heap.size+1,1,none⟩=false
 e2:wr.frozen? ⟨w.heap.size+1,2,none⟩=false
 o0:wr.cell? ⟨w.heap.size+2,0,none⟩=some (.int .i64 kind)
 o1:wr.cell? ⟨w.heap.size+2,1,none⟩=some vX
 o2:wr.cell? ⟨w.heap.size+2,2,none⟩=some vY
 f1:wr.frozen? ⟨w.heap.size+2,1,none⟩=false
 f2:wr.frozen? ⟨w.heap.size+2,2,none⟩=false
 bl:Below w.heap.size w wr
 sz:w.heap.size+3<=wr.heap.size
theorem TabC.stay {w wr a:World} {base kind:Int} {e i f d:Value} (h:TabC w base kind e i f d wr) (b:Below (w.heap.size+3) wr a):TabC w base kind e i f d a:=by
 have c:∀ k<3,∀ j,a.cell? ⟨w.heap.size+k,j,none⟩=wr.cell? ⟨w.heap.size+k,j,none⟩:=fun k l j=>b.cell (p:=⟨w.heap.size+k,j,none⟩) (by show w.heap.size+k<_;omega)
 have g:∀ k<3,∀ j,a.frozen? ⟨w.heap.size+k,j,none⟩=wr.frozen? ⟨w.heap.size+k,j,none⟩:=fun k l j=>b.frozen (p:=⟨w.heap.size+k,j,none⟩) (by show w.heap.size+k<_;omega)
 exact⟨(c 0 (by omega) 0).trans h.t0,(c 0 (by omega) 1).trans h.t1,(c 0 (by omega) 2).trans h.t2,(c 0 (by omega) 3).trans h.t3,(c 1 (by omega) 0).trans h.d0,(c 1 (by omega) 1).trans h.d1,(c 1 (by omega) 2).trans h.d2,(g 1 (by omega) 0).trans h.e0,(g 1 (by omega) 1).trans h.e1,(g 1 (by omega) 2).trans h.e2,(c 2 (by omega) 0).trans h.o0,(c 2 (by omega) 1).trans h.o1,(c 2 (by omega) 2).trans h.o2,(g 2 (by omega) 1).trans h.f1,(g 2 (by omega) 2).trans h.f2,h.bl.trans (b.mono (by omega)),Nat.le_trans h.sz b.size⟩
theorem TabC.putX {w wr:World} {base kind:Int} {d e f a:Value} (h:TabC w base kind d e f a wr) (v:Value):TabC w base kind d e v a (wr.setCell ⟨w.heap.size+2,1,none⟩ v):=by
 have b:Below (w.heap.size+2) wr (wr.setCell ⟨w.heap.size+2,1,none⟩ v):=(Below.refl _ wr).setCell (p:=⟨w.heap.size+2,1,none⟩) (Nat.le_refl _) v;have c:∀ k<2,∀ j,(wr.setCell ⟨w.heap.size+2,1,none⟩ v).cell? ⟨w.heap.size+k,j,none⟩=wr.cell? ⟨w.heap.size+k,j,none⟩:=fun k i j=>b.cell (p:=⟨w.heap.size+k,j,none⟩) (by show w.heap.size+k<_;omega)
 have g:∀ k<2,∀ j,(wr.setCell ⟨w.heap.size+2,1,none⟩ v).frozen? ⟨w.heap.size+k,j,none⟩=wr.frozen? ⟨w.heap.size+k,j,none⟩:=fun k i j=>b.frozen (p:=⟨w.heap.size+k,j,none⟩) (by show w.heap.size+k<_;omega)
 refine⟨(c 0 (by omega) 0).trans h.t0,(c 0 (by omega) 1).trans h.t1,(c 0 (by omega) 2).trans h.t2,(c 0 (by omega) 3).trans h.t3,(c 1 (by omega) 0).trans h.d0,(c 1 (by omega) 1).trans h.d1,(c 1 (by omega) 2).trans h.d2,(g 1 (by omega) 0).trans h.e0,(g 1 (by omega) 1).trans h.e1,(g 1 (by omega) 2).trans h.e2,?_,?_,?_,?_,?_,h.bl.setCell (p:=⟨w.heap.size+2,1,none⟩) (by show w.heap.size<=w.heap.size+2;omega) v,by simpa using h.sz⟩
 ·simp [h.o0,go_sem]
 ·simp [h.o1,go_sem]
 ·simp [h.o2,go_sem]
 ·simp [h.f1,go_sem]
 ·simp [h.f2,go_sem]
theorem TabC.putY {w wr:World} {base kind:Int} {b e d f:Value} (h:TabC w base kind b e d f wr) (v:Value):TabC w base kind b e d v (wr.setCell ⟨w.heap.size+2,2,none⟩ v):=by
 have a:Below (w.heap.size+2) wr (wr.setCell ⟨w.heap.size+2,2,none⟩ v):=(Below.refl _ wr).setCell (p:=⟨w.heap.size+2,2,none⟩) (Nat.le_refl _) v;have c:∀ k<2,∀ j,(wr.setCell ⟨w.heap.size+2,2,none⟩ v).cell? ⟨w.heap.size+k,j,none⟩=wr.cell? ⟨w.heap.size+k,j,none⟩:=fun k i j=>a.cell (p:=⟨w.heap.size+k,j,none⟩) (by show w.heap.size+k<_;omega)
 have g:∀ k<2,∀ j,(wr.setCell ⟨w.heap.size+2,2,none⟩ v).frozen? ⟨w.heap.size+k,j,none⟩=wr.frozen? ⟨w.heap.size+k,j,none⟩:=fun k i j=>a.frozen (p:=⟨w.heap.size+k,j,none⟩) (by show w.heap.size+k<_;omega)
 refine⟨(c 0 (by omega) 0).trans h.t0,(c 0 (by omega) 1).trans h.t1,(c 0 (by omega) 2).trans h.t2,(c 0 (by omega) 3).trans h.t3,(c 1 (by omega) 0).trans h.d0,(c 1 (by omega) 1).trans h.d1,(c 1 (by omega) 2).trans h.d2,(g 1 (by omega) 0).trans h.e0,(g 1 (by omega) 1).trans h.e1,(g 1 (by omega) 2).trans h.e2,?_,?_,?_,?_,?_,h.bl.setCell (p:=⟨w.heap.size+2,2,none⟩) (by show w.heap.size<=w.heap.size+2;omega) v,by simpa using h.sz⟩
 ·simp [h.o0,go_sem]
 ·simp [h.o1,go_sem]
 ·simp [h.o2,go_sem]
 ·simp [h.f1,go_sem]
 ·simp [h.f2,go_sem]
theorem NB (w:World) (base kind:Int) (g i:Value):TabC w base kind g i (.slice none 0 0) (.slice none 0 0) (((w.alloc (.cells #[.int .i64 base,.int .i64 kind,g,i] 39)).alloc (.cells #[.int .i64 0,.slice none 0 0,.slice none 0 0] 156)).alloc (.cells #[.int .i64 kind,.slice none 0 0,.slice none 0 0] 156)):=by
 have h:∀ (w:World) o,Below w.heap.size w (w.alloc o):=fun w o=>(Below.refl _ _).alloc (Nat.le_refl _) _
 generalize e:w.alloc (.cells #[.int .i64 base,.int .i64 kind,g,i] 39)=c;have l:c.heap.size=w.heap.size+1:=by rw [<- e];simp
 generalize b:c.alloc (.cells #[.int .i64 0,.slice none 0 0,.slice none 0 0] 156)=a;have m:a.heap.size=w.heap.size+2:=by rw [<- b];simp [l]
 have c1:∀ j,c.cell? ⟨w.heap.size,j,none⟩=(#[.int .i64 base,.int .i64 kind,g,i]:Array Value)[j]? :=fun j=>by rw [<- e];exact cT w _ _ j
 have c2:∀ j,a.cell? ⟨w.heap.size+1,j,none⟩=(#[.int .i64 0,.slice none 0 0,.slice none 0 0]:Array Value)[j]? :=fun j=>by rw [<- b,<- l];exact cT c _ _ j
 have c3:∀ j,(a.alloc (.cells #[.int .i64 kind,.slice none 0 0,.slice none 0 0] 156)).cell? ⟨w.heap.size+2,j,none⟩=(#[.int .i64 kind,.slice none 0 0,.slice none 0 0]:Array Value)[j]? :=fun j=>by rw [<- m];exact cT a _ _ j
 have f:∀ j,a.cell? ⟨w.heap.size,j,none⟩=c.cell? ⟨w.heap.size,j,none⟩:=fun j=>by rw [<- b];exact (h c _).cell (p:=⟨w.heap.size,j,none⟩) (by show w.heap.size<c.heap.size;omega)
 have d:∀ k<2,∀ j o,(a.alloc o).cell? ⟨w.heap.size+k,j,none⟩=a.cell? ⟨w.heap.size+k,j,none⟩:=fun k t j o=>(h a o).cell (p:=⟨w.heap.size+k,j,none⟩) (by show w.heap.size+k<a.heap.size;omega)
 have n:∀ j o,(a.alloc o).frozen? ⟨w.heap.size+1,j,none⟩=false:=fun j o=>by
  rw [(h a o).frozen (p:=⟨w.heap.size+1,j,none⟩) (by show w.heap.size+1<a.heap.size;omega),<- b,<- l]
  exact World.frozen?_alloc_new _ _ _ _
 have s:Below w.heap.size w (a.alloc (.cells #[.int .i64 kind,.slice none 0 0,.slice none 0 0] 156)):=by
  have r:Below w.heap.size w c:=by rw [<- e];exact h w _
  have q:Below w.heap.size w a:=by rw [<- b];exact r.alloc r.size _
  exact q.alloc q.size _
 exact⟨((d 0 (by omega) 0 _).trans (f 0)).trans (c1 0),((d 0 (by omega) 1 _).trans (f 1)).trans (c1 1),((d 0 (by omega) 2 _).trans (f 2)).trans (c1 2),((d 0 (by omega) 3 _).trans (f 3)).trans (c1 3),(d 1 (by omega) 0 _).trans (c2 0),(d 1 (by omega) 1 _).trans (c2 1),(d 1 (by omega) 2 _).trans (c2 2),n 0 _,n 1 _,n 2 _,c3 0,c3 1,c3 2,by rw [<- m];exact World.frozen?_alloc_new _ _ _ _,by rw [<- m];exact World.frozen?_alloc_new _ _ _ _,s,by simp;omega⟩
theorem NC (w:World) (kind:Int) (o:Obj):((((w.alloc o).alloc (.cells #[.int .i64 0,.slice none 0 0,.slice none 0 0] 156)).alloc (.cells #[.int .i64 0,.slice none 0 0,.slice none 0 0] 156)).cell? ⟨w.heap.size+1+1,0,none⟩=some (.int .i64 0)/\(((w.alloc o).alloc (.cells #[.int .i64 0,.slice none 0 0,.slice none 0 0] 156)).alloc (.cells #[.int .i64 0,.slice none 0 0,.slice none 0 0] 156)).cell? ⟨w.heap.size+1+1,1,none⟩=some (.slice none 0 0)/\(((w.alloc o).alloc (.cells #[.int .i64 0,.slice none 0 0,.slice none 0 0] 156)).alloc (.cells #[.int .i64 0,.slice none 0 0,.slice none 0 0] 156)).cell? ⟨w.heap.size+1+1,2,none⟩=some (.slice none 0 0))/\(∀ i,(((w.alloc o).alloc (.cells #[.int .i64 0,.slice none 0 0,.slice none 0 0] 156)).alloc (.cells #[.int .i64 0,.slice none 0 0,.slice none 0 0] 156)).frozen? ⟨w.heap.size+1+1,i,none⟩=false)/\(((((w.alloc o).alloc (.cells #[.int .i64 0,.slice none 0 0,.slice none 0 0] 156)).alloc (.cells #[.int .i64 0,.slice none 0 0,.slice none 0 0] 156)).setCell ⟨w.heap.size+1+1,0,none⟩ (.int .i64 kind)).setCell ⟨w.heap.size+1+1,1,none⟩ (.slice none 0 0)).setCell ⟨w.heap.size+1+1,2,none⟩ (.slice none 0 0)=((w.alloc o).alloc (.cells #[.int .i64 0,.slice none 0 0,.slice none 0 0] 156)).alloc (.cells #[.int .i64 kind,.slice none 0 0,.slice none 0 0] 156):=by
 generalize a:(w.alloc o).alloc (.cells #[.int .i64 0,.slice none 0 0,.slice none 0 0] 156)=u;have z:w.heap.size+1+1=u.heap.size:=by rw [<- a];simp
 rw [z];refine⟨⟨cT u _ _ 0,cT u _ _ 1,cT u _ _ 2⟩,fun i=>World.frozen?_alloc_new _ _ _ _,?_⟩
 rw [World.setCell_alloc_at (hn:=rfl),World.setCell_alloc_at (hn:=rfl),World.setCell_alloc_at (hn:=rfl)]
 rfl
theorem sJ (base kind:Int) (bd d k f c h n:Nat) (F:List Int) (W:List Nat) (w:World) (hd:VSrc w (some ⟨bd,d,none⟩) bd d n (xV F)) (hf:VSrc w (some ⟨f,c,none⟩) f c n (yV W)) (hl:F.length=n) (bb:W.length=n) (hn:1<=n) (da:n<=255) :
  Calls Tryz.prog 108 #[.agg #[.int .i64 base,.int .i64 kind,.slice (some ⟨bd,d,none⟩) n k,.slice (some ⟨f,c,none⟩) n h]] w fun e w'=>∃ gx cx gy cy,e=.returned (.agg #[.int .i64 kind,.slice (some ⟨gx,0,none⟩) (1+n) cx,.slice (some ⟨gy,0,none⟩) (1+n) cy])/\w'.ownsRow w.heap.size 3 1 (.slice (some ⟨gx,0,none⟩) (1+n) cx) (1+n) ((base::F).map kV)/\w'.ownsRow w.heap.size 41 1 (.slice (some ⟨gy,0,none⟩) (1+n) cy) (1+n) ((4607182418800017408::W).map uV)/\Below w.heap.size w w':=by
 obtain⟨vX,S⟩:∃ v:Value,v=.slice none 0 0:=⟨_,rfl⟩;obtain⟨I,Q⟩:∃ v:Value,v=.slice none 0 0:=⟨_,rfl⟩;have s:=NB w base kind (.slice (some ⟨bd,d,none⟩) n k) (.slice (some ⟨f,c,none⟩) n h);obtain⟨⟨y0,y1,y2⟩,Y,ye⟩:=NC w kind (.cells #[.int .i64 base,.int .i64 kind,.slice (some ⟨bd,d,none⟩) n k,.slice (some ⟨f,c,none⟩) n h] 39);rw [<- ye] at s
 obtain⟨w2,cm⟩:∃ w2,((w.alloc (.cells #[.int .i64 base,.int .i64 kind,.slice (some ⟨bd,d,none⟩) n k,.slice (some ⟨f,c,none⟩) n h] 39)).alloc (.cells #[.int .i64 0,.slice none 0 0,.slice none 0 0] 156)).alloc (.cells #[.int .i64 0,.slice none 0 0,.slice none 0 0] 156)=w2:=⟨_,rfl⟩;rw [cm] at s y0 y1 y2 Y
 obtain⟨N,cq⟩:∃ N,((w2.setCell ⟨w.heap.size+1+1,0,none⟩ (.int .i64 kind)).setCell ⟨w.heap.size+1+1,1,none⟩ (.slice none 0 0)).setCell ⟨w.heap.size+1+1,2,none⟩ (.slice none 0 0)=N:=⟨_,rfl⟩;rw [cq] at s
 have di:=Y 0;have dn:=Y 1;have dk:=Y 2;clear Y ye;have HT:Hid (TabC w base kind (.slice (some ⟨bd,d,none⟩) n k) (.slice (some ⟨f,c,none⟩) n h) vX I N):=by show TabC _ _ _ _ _ _ _ _;rw [S,Q];exact s
 have br:Hid (∀ O:World,O.ownsRow (w.heap.size+3) 3 1 vX 0 (([]:List Int).map kV)):=fun O=>by rw [S];exact Gf O _
 have bs:Hid (∀ (O:World) (B:Nat),O.ownsRow B 41 1 I 0 (([]:List Nat).map uV)):=fun O B=>by rw [Q];exact qe O _
 have HD:=hideS hd;have HF:=hideS hf;have HL:=hideS hl;have Z:=hideS bb;clear s S Q hd hf hl bb;have p0:∀ o,((w.alloc (.cells #[.int .i64 base,.int .i64 kind,.slice (some ⟨bd,d,none⟩) n k,.slice (some ⟨f,c,none⟩) n h] 39)).alloc o).cell? ⟨w.heap.size,1,none⟩=some (.int .i64 kind):=fun o=>kU w _ _ o 1
 have t0:=HT.out.t0;have o1:=HT.out.o1;have L:Hid (∀ o,TabC w base kind (.slice (some ⟨bd,d,none⟩) n k) (.slice (some ⟨f,c,none⟩) n h) vX I (N.alloc o)):=fun o=>HT.out.stay ((Below.refl _ _).alloc HT.out.sz o)
 have db:=(L.out (.cells #[.int .i64 base] 3)).o1;have E:Hid (w.heap.size+3<=(N.alloc (.cells #[.int .i64 base] 3)).heap.size):=(L.out _).sz
 go_enter Tryz.func108,Tryz.ntmps108
 go_wp2_with (first
  | (at_builtin;(refine gY _ rfl (.tmp 8) (.tmp 11) rfl (w.heap.size+3) vX 0 [] rfl (br.out _) N.heap.size 0 1 1 [base] rfl rfl (wG N base _) (by omega) (by omega) E.out ?_;intro v4 w4 U X;obtain⟨g4,c4,rfl,bz,cl,_,_⟩:=dD (xs:=[base]) U rfl (by omega);have R:=hideS ((L.out _).stay (bC (br.out _) X E.out));have q1:=R.out.o1;have q2:=R.out.f1;obtain⟨w5,bv⟩:∃ w5,w4.setCell ⟨w.heap.size+2,1,none⟩ (.slice (some ⟨g4,0,none⟩) 1 c4)=w5:=⟨_,rfl⟩;have m:Hid (TabC w base kind (.slice (some ⟨bd,d,none⟩) n k) (.slice (some ⟨f,c,none⟩) n h) (.slice (some ⟨g4,0,none⟩) 1 c4) I w5):=(by rw [<- bv];exact R.out.putX _);have bh:Hid (w5.ownsRow (w.heap.size+3) 3 1 (.slice (some ⟨g4,0,none⟩) 1 c4) 1 ([base].map kV)):=(by rw [<- bv];exact aw U (by omega) _);have cp:=hideS (HD.out.below m.out.bl);have q3:=m.out.o1;have q4:=m.out.t2;clear U X bz cl))
  | (at_builtin;(refine gY _ rfl (.tmp 15) (.tmp 17) rfl (w.heap.size+3) (.slice (some ⟨g4,0,none⟩) 1 c4) 1 [base] rfl bh.out bd d k n F rfl HL.out cp.out.cell (by omega) (by omega) m.out.sz ?_;intro v6 w6 V bi;obtain⟨p,q,rfl,bo,cv,_,_⟩:=dD (xs:=base::F) V (by rw [List.length_cons,HL.out];omega) (by omega);have J:=hideS (m.out.stay (bC bh.out bi m.out.sz));have r1:=J.out.o1;have r2:=J.out.f1;obtain⟨a,P⟩:∃ a,w6.setCell ⟨w.heap.size+2,1,none⟩ (.slice (some ⟨p,0,none⟩) (1+n) q)=a:=⟨_,rfl⟩;have b:Hid (TabC w base kind (.slice (some ⟨bd,d,none⟩) n k) (.slice (some ⟨f,c,none⟩) n h) (.slice (some ⟨p,0,none⟩) (1+n) q) I a):=(by rw [<- P];exact J.out.putX _);have ci:Hid (a.ownsRow (w.heap.size+3) 3 1 (.slice (some ⟨p,0,none⟩) (1+n) q) (1+n) ((base::F).map kV)):=(by rw [<- P];exact aw V (by omega) _);have cr:Hid (p<a.heap.size):=(by rw [<- P,World.size_setCell];exact bo.lt (by omega));have A:Hid (∀ o,TabC w base kind (.slice (some ⟨bd,d,none⟩) n k) (.slice (some ⟨f,c,none⟩) n h) (.slice (some ⟨p,0,none⟩) (1+n) q) I (a.alloc o)):=(fun o=>b.out.stay ((Below.refl _ _).alloc b.out.sz o));have T:Hid (a.heap.size<=(a.alloc (.cells #[.int .u64 4607182418800017408] 41)).heap.size):=((Below.refl _ a).alloc (Nat.le_refl _) _).size;have r3:=b.out.o2;have r4:=(A.out (.cells #[.int .u64 4607182418800017408] 41)).o2;clear V bi bo cv))
  | (at_builtin;(refine gZ _ rfl (.tmp 21) (.tmp 22) rfl a.heap.size I 0 [] rfl (bs.out _ _) a.heap.size 0 1 1 [4607182418800017408] rfl rfl (KF a 4607182418800017408 _) (by omega) (by omega) T.out ?_;intro v8 w8 M bc;obtain⟨p8,g8,c8,rfl,ai,cs,_,_⟩:=bq (xs:=[4607182418800017408]) M rfl;obtain rfl:=ai.at_ (by decide);have B8:=bC (bs.out _ _) bc T.out;have H:=hideS ((A.out _).stay (B8.mono b.out.sz));have ct:=hideS (de ci.out (((Below.refl _ a).alloc (Nat.le_refl _) _).trans B8));have u1:=H.out.o2;have u2:=H.out.f2;obtain⟨G,y⟩:∃ G,w8.setCell ⟨w.heap.size+2,2,none⟩ (.slice (some ⟨g8,0,none⟩) 1 c8)=G:=⟨_,rfl⟩;have x:Hid (TabC w base kind (.slice (some ⟨bd,d,none⟩) n k) (.slice (some ⟨f,c,none⟩) n h) (.slice (some ⟨p,0,none⟩) (1+n) q) (.slice (some ⟨g8,0,none⟩) 1 c8) G):=(by rw [<- y];exact H.out.putY _);have cu:Hid (G.ownsRow (w.heap.size+3) 3 1 (.slice (some ⟨p,0,none⟩) (1+n) q) (1+n) ((base::F).map kV)):=(by rw [<- y];exact aw ct.out (by omega) _);have am:Hid (G.ownsRow a.heap.size 41 1 (.slice (some ⟨g8,0,none⟩) 1 c8) 1 ([4607182418800017408].map uV)):=(by rw [<- y];exact aw M (by have:=b.out.sz;omega) _);have bk:Hid (a.heap.size<=G.heap.size):=(by show a.heap.size<=G.heap.size;rw [<- y,World.size_setCell];have:=B8.size;have:=T.out;omega);have cc:=hideS (HF.out.below x.out.bl);have u3:=x.out.o2;have u4:=x.out.t3;clear M bc ai cs B8))
  | (at_builtin;(refine gZ _ rfl (.tmp 26) (.tmp 28) rfl a.heap.size (.slice (some ⟨g8,0,none⟩) 1 c8) 1 [4607182418800017408] rfl am.out f c h n W rfl Z.out cc.out.cell (by omega) (by omega) bk.out ?_;intro dg ca u z;obtain⟨dd,g,i,rfl,C,ab,_,_⟩:=bq (xs:=4607182418800017408::W) u (by rw [List.length_cons,Z.out];omega);obtain rfl:=C.at_ (by rw [List.length_cons];omega);have K:=bC am.out z bk.out;have r:=hideS (x.out.stay (K.mono b.out.sz));have ba:=hideS (Gg cu.out K cr.out);have s1:=r.out.o2;have s2:=r.out.f2;obtain⟨l,t⟩:∃ l,ca.setCell ⟨w.heap.size+2,2,none⟩ (.slice (some ⟨g,0,none⟩) (1+n) i)=l:=⟨_,rfl⟩;have D:Hid (TabC w base kind (.slice (some ⟨bd,d,none⟩) n k) (.slice (some ⟨f,c,none⟩) n h) (.slice (some ⟨p,0,none⟩) (1+n) q) (.slice (some ⟨g,0,none⟩) (1+n) i) l):=(by rw [<- t];exact r.out.putY _);have ad:Hid (l.ownsRow (w.heap.size+3) 3 1 (.slice (some ⟨p,0,none⟩) (1+n) q) (1+n) ((base::F).map kV)):=(by rw [<- t];exact aw ba.out (by omega) _);have al:Hid (l.ownsRow (w.heap.size+3) 41 1 (.slice (some ⟨g,0,none⟩) (1+n) i) (1+n) ((4607182418800017408::W).map uV)):=(by rw [<- t];exact bS (aw u (by have:=b.out.sz;omega) _) b.out.sz);obtain⟨_,_,_,_,d0,d1,d2,e0,e1,e2,o0,df,dc,_,_,_,_⟩:=D.out;clear u z C ab K)))
 have hs:∀ j,w.heap.size<=(⟨w.heap.size+1,j,none⟩:Addr).block:=fun j=>by show w.heap.size<=w.heap.size+1;omega
 refine bodyPost_ret (v:=.agg #[.int .i64 kind,.slice (some ⟨p,0,none⟩) (1+n) q,.slice (some ⟨g,0,none⟩) (1+n) i]) (by simp [results,Tryz.results108,go_sem,d0,d1,d2]) rfl ?_
 have bx:Below w.heap.size w (((l.setCell ⟨w.heap.size+1,0,none⟩ (.int .i64 kind)).setCell ⟨w.heap.size+1,1,none⟩ (.slice (some ⟨p,0,none⟩) (1+n) q)).setCell ⟨w.heap.size+1,2,none⟩ (.slice (some ⟨g,0,none⟩) (1+n) i)):=((D.out.bl.setCell (hs 0) _).setCell (hs 1) _).setCell (hs 2) _;exact⟨p,q,g,i,rfl,bS (aw (aw (aw ad.out (by omega) _) (by omega) _) (by omega) _) (by omega),bS (aw (aw (aw al.out (by omega) _) (by omega) _) (by omega) _) (by omega),bx⟩
end Go.Proofs.YtfdddijdjpijbaaGreat
