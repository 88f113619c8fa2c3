/-  -/
import Derived.Test.YtfdddijdjpijbaaGreatHbg
import Derived.Deep.LoopGhost
import Derived.Deep.RegionWith
import Derived.Test.YtfdddijdjpijbaaGreatHaq
set_option maxHeartbeats 3200000
set_option maxRecDepth 100000
namespace Go.Proofs.YtfdddijdjpijbaaGreat.A
open Go.RowKit
def New (w:World) (v a:Value):Prop:=∀ k,a.ownBlock=some k->v.ownBlock=some k\/w.heap.size<=k
theorem New.refl (w:World) (v:Value):New w v v:=fun _ h=>Or.inl h
theorem New.trans {w w1:World} {v b a:Value} (h:New w v b) (e:New w1 b a) (f:w.heap.size<=w1.heap.size):New w v a:=fun k d=>by
 rcases e k d with c | c
 ·exact h k c
 ·exact Or.inr (by omega)
def At (v:Value) (k:Nat):Prop:=v.ownBlock=some k
theorem oA (t p:TypeId) (K:Tryz.prog.underlying t=some (.slice 41)) (w:World) (B:Nat) (v:Value) (xs:List Nat) (b:OwnW w B v xs) (a:Addr) (c x:Nat) (S:x<18446744073709551616) (l:w.cell? (a.add 0)=some (.int .u64 (x:Int))) (hn:xs.length<=100000000) (U:B<=w.heap.size) :
  ∃ h f,(Builtin.append_ #[t,t] p #[v,.slice (some a) 1 c]).run Tryz.prog w=.ok h f/\OwnW f B h (xs++[x])/\w.grownBy f v.ownBlock/\New w v h:=by
 obtain⟨C,hi,r,i,z⟩:=info_parts infoU;have e:∀ (j:Nat) (u:Value),[uV x][j]? =some u->w.cell? (a.add j)=some u:=by
  intro j u A
  match j,A with
  | 0,A=>simp at A;subst A;exact l
 have M:∀ u ∈ [uV x],u.oneCell'=true:=by intro u N;simp at N;subst N;rfl
 have q:∀ y,y<=w.heap.size->w.ownsRow y 41 1 v xs.length (xs.map uV)->∃ h f,(Builtin.append_ #[t,t] p #[v,.slice (some a) 1 c]).run Tryz.prog w=.ok h f/\f.ownsRow y 41 1 h (xs.length+1) (xs.map uV++[uV x])/\w.grownBy f v.ownBlock:=by
  intro y D X;obtain⟨h,f,o,F,E,_⟩:=run_append_own (P:=Tryz.prog) w y t p 41 C (.int .u64 0) 1 8 K hi r i z rfl (by decide) v xs.length (xs.map uV) X a 1 c [uV x] rfl e M (by unfold maxLen;omega) (by omega) D
  exact⟨h,f,o,F,E⟩
 obtain⟨h,f,o,F,E⟩:=q B U b.own;refine⟨h,f,o,⟨by rw [List.length_append,List.length_singleton,List.map_append];exact F,b.fit.snoc S⟩,E,?_⟩
 intro k J;rcases b.own.2 with⟨rfl,I⟩| ⟨g,n,V,rfl,hb,Z,R,Q,W,G⟩
 ·have H:xs=[]:=List.length_eq_zero_iff.1 I;subst H;obtain⟨Y,T,d,L,_⟩:=q w.heap.size (Nat.le_refl _) (World.ownsRow_nil _ _ _ _);rw [o] at d
  injection d with s O;subst s;exact Or.inr (L.lt k J).1
 ·by_cases m:xs.length+1<=n
  ·obtain⟨T,d,_⟩:=run_append_fits (P:=Tryz.prog) w B t p 41 C 1 K hi i g xs.length n (xs.map uV) b.own a 1 c [uV x] rfl e M m;rw [o] at d
   injection d with s O;subst s;exact Or.inl J
  ·have d:=run_append_grow (P:=Tryz.prog) w t p 41 C (.int .u64 0) K hi r ⟨g,0,none⟩ xs.length n (xs.map uV) (by rw [i];simp) (b.own.cells rfl) a 1 c [uV x] (by rw [i];rfl) e (by omega) (by omega) (by rw [z];exact growslice_fits (by omega) (by omega))
   rw [o] at d
   injection d with s O;subst s;simp [Value.ownBlock] at J
   exact Or.inr (by omega)
theorem fP (w:World) {f:Array Oper} {rest:List Oper} {o:Oper} {a:Act} {Q:Exit->Act->World->Prop} (i:o.guard=none) (s x:Operand) (t:TypeId)
  (A:o.op=.call { callee:=.builtin .append,args:=#[s,x],argTypes:=#[t,t] }) (z:Tryz.prog.underlying t=some (.slice 41)) (B:Nat) (v:Value) (xs:List Nat) (p:a.eval s=v) (g:OwnW w B v xs)
  (j:Addr) (c y:Nat) (m:a.eval x=.slice (some j) 1 c) (n:y<18446744073709551616) (b:w.cell? (j.add 0)=some (.int .u64 (y:Int))) (hn:xs.length<=100000000) (C:B<=w.heap.size)
  (h:∀ d e,OwnW e B d (xs++[y])->w.grownBy e v.ownBlock->New w v d->wpList Tryz.prog f Q rest (a.put o.dst d) e):wpList Tryz.prog f Q (o::rest) a w:=by
 obtain⟨d,e,r,l,k,q⟩:=oA t o.type z w B v xs g j c y n b hn C;refine wpList_plain i fun K u=>?_
 unfold Oper.wp execOp;simp only [A,resolve,invoke,builtin,Sem.run_bind,Sem.run_pure,Result.andThen_ok,List.map_toArray,List.map_cons,List.map_nil,p,m,r];exact u _ _ (h d e l k q)
theorem wrote_app {w w1:World} {v:Value} (o:Obj) (h:(w.alloc o).grownBy w1 v.ownBlock):Wrote w w1 (At v):=
 ⟨h.os,h.tape,h.output,Nat.le_trans (by simp) h.size,fun k b a=>(h.block k (by simp;omega) (fun e=>a e.symm)).trans (heap_alloc_old w o b)⟩
theorem Do {w:World} {v b:Value} (o:Obj) (h:New (w.alloc o) v b):New w v b:=fun k c=>by
 rcases h k c with a | a
 ·exact Or.inl a
 ·exact Or.inr (by simp at a;omega)
theorem OwnW.alloc {w:World} {B:Nat} {v:Value} {xs:List Nat} (h:OwnW w B v xs) (o:Obj):OwnW (w.alloc o) B v xs:=⟨h.own.alloc o,h.fit⟩
theorem EP {e:Nat} (h:e<18446744073709551616):IntKind.u64.wrap (IntKind.i64.wrap (e:Int) / 9223372036854775808)=((if e<9223372036854775808 then 0 else 18446744073709551615:Nat):Int):=by
 rw [IntKind.wrap_u64,IntKind.wrap_i64]
 split<;>omega
theorem xQ (B:Nat) (v:Value) (xs:List Nat) (w:World) (h:OwnW w B v xs) (hn:xs.length<=100000) (z:B<=w.heap.size) :
  Calls Tryz.prog 185 #[v] w fun e c=>∃ b,e=.returned b/\OwnW c B b (settle xs)/\Wrote w c (At v)/\New w v b:=by
 have f:=hideS (qj B v xs w h (by omega))
 have l:=hideS h;have m:endW xs<18446744073709551616:=h.fit _;have i:=hideS (show settle xs=if endW xs=0\/endW xs=18446744073709551615 then xs else xs++[if endW xs<9223372036854775808 then 0 else 18446744073709551615] from rfl)
 clear h;generalize endW xs=e at *
 by_cases d:e=0\/e=18446744073709551615
 ·have a:Hid (settle xs=xs):=by show _=_;rw [i.out,if_pos d]
  rw [a.out];clear i a;rcases d with rfl | rfl
  ·go_enter Tryz.func185,Tryz.ntmps185
   go_wp2_with (go_at_call 133;refine f.out.mono ?_;rintro e c ⟨rfl,rfl⟩)
   go_ret
   exact⟨v,rfl,l.out,Wrote.refl _ _,New.refl _ _⟩
  ·go_enter Tryz.func185,Tryz.ntmps185
   go_wp2_with (go_at_call 133;refine f.out.mono ?_;rintro e c ⟨rfl,rfl⟩)
   go_ret
   exact⟨v,rfl,l.out,Wrote.refl _ _,New.refl _ _⟩
 ·have a:Hid (settle xs=xs++[if e<9223372036854775808 then 0 else 18446744073709551615]):=by show _=_;rw [i.out,if_neg d]
  have g:=EP m;obtain⟨s,j⟩:∃ s:Nat,(if e<9223372036854775808 then 0 else 18446744073709551615:Nat)=s:=⟨_,rfl⟩
  have k:s<18446744073709551616:=by rw [<- j];split<;>omega
  rw [j] at g a
  rw [a.out];clear i a j;obtain⟨u,n⟩:∃ u:Int,u=e:=⟨_,rfl⟩;have x:(u !=0)=true:=by simp;omega
  have t:(u !=18446744073709551615)=true:=by simp;omega
  rw [<- n] at f g
  clear d m n;have r:IntKind.u64.wrap (wrap64 u / 9223372036854775808)=(s:Int):=by rw [<- g,IntKind.wrap_i64,wrap64]
  clear g
  go_enter Tryz.func185,Tryz.ntmps185
  go_wp2_with (first | (go_at_call 133;refine f.out.mono ?_;rintro e c ⟨rfl,rfl⟩) | (at_builtin;refine fP _ rfl _ _ 133 rfl Tryz.underlying133 B v xs rfl (l.out.alloc _) ⟨_,0,none⟩ 1 s rfl k ?c1 (by omega) ?c2 ?_))
  case c1=>simp [Addr.add]
  case c2=>simp;omega
  intro b y q p o;have R:=hideS (And.intro q (And.intro (wrote_app _ p) (Do _ o)));clear q p o;go_wp2
  go_ret
  exact⟨b,rfl,R.out.1,R.out.2.1,R.out.2.2⟩
def cJ (xs:List Nat) (n:Nat):List Nat:=xs++List.replicate (n - xs.length) (endW xs)
theorem tw (xs:List Nat) (n:Nat):(cJ xs n).length=max xs.length n:=by simp [cJ];omega
theorem dS {xs:List Nat} {n:Nat} (h:n<=xs.length):cJ xs n=xs:=by simp [cJ,Nat.sub_eq_zero_of_le h]
theorem kM {xs:List Nat} {k:Nat} (h:xs.length<=k):cJ xs (k+1)=cJ xs k++[endW xs]:=by
 unfold cJ;rw [show k+1 - xs.length=(k - xs.length)+1 by omega,List.replicate_succ',List.append_assoc]
theorem EQ {xs:List Nat} {k:Nat} (h:xs.length<=k):endW (cJ xs k)=endW xs:=by
 induction k with
 | zero=>rw [dS (by omega)]
 | succ k a=>
  by_cases b:xs.length=k+1
  ·rw [dS (by omega)]
  ·rw [kM (by omega),fq]
theorem _root_.Go.Proofs.YtfdddijdjpijbaaGreat.Sg.long {xs:List Nat} {N:Int} (h:Sg xs N) (n:Nat):Sg (cJ xs n) N:=by
 induction n with
 | zero=>rw [dS (by omega)];exact h
 | succ k a=>
  by_cases b:k+1<=xs.length
  ·rw [dS b];exact h
  ·have:=a.more;rw [EQ (by omega)] at this
   rw [kM (by omega)];exact this
theorem IN (B:Nat) (v:Value) (xs:List Nat) (n:Nat) (w:World) (h:OwnW w B v xs) (hn:xs.length+n<=1000000) (M:B<=w.heap.size) :
  Calls Tryz.prog 203 #[v,.int .i64 n] w fun e i=>∃ l,e=.returned l/\OwnW i B l xs/\Wrote w i (At v)/\New w v l:=by
 obtain⟨J,hi,A,s,F⟩:=info_parts infoU;have f:∀ (p:Option Addr) (c:Nat) (r:List Value),v=.slice p xs.length c->xs.length<=c->c<xs.length+n->r.length=c->(p=none->c=0)->(∀ a,p=some a->∀ j u,r[j]? =some u->w.cell? (a.add j)=some u)->r.take xs.length=xs.map uV->
   Calls Tryz.prog 203 #[v,.int .i64 n] w fun e i=>∃ l,e=.returned l/\OwnW i B l xs/\Wrote w i (At v)/\New w v l:=by
  intro p c r b L K H O Q N;have C:=Any8.slices_Grow_grow Tryz.growL J (.int .u64 0) hi A (by rw [s];decide) p xs.length c n r w L K (by rw [F];omega) (by omega) (by rw [H,s];omega) O Q
  rw [b];refine Calls.mono C ?_
  rintro e i ⟨rfl,rfl⟩;refine⟨_,rfl,⟨⟨by simp,.inr ⟨w.heap.size,_,_,rfl,M,heap_alloc_new w.drew _,?_,?_,?_,?_⟩⟩,h.fit⟩,?_,?_⟩
  ·exact Nat.le_trans (Nat.le_add_right _ _) (grownCap_ge w _ _ _)
  ·exact grownCap_le_maxLen w _ _ _ (by unfold maxLen;omega)
  ·have:=grownCap_ge w (xs.length+n) c (Tryz.growL_ren.t 25);simp only [Array.size_append,List.size_toArray,size_zeroCells,H,show (Value.int IntKind.u64 0).cells.size=1 from rfl,Nat.mul_one]
   omega
  ·rw [Array.toList_append,Array.toList_append,List.append_assoc,Nat.mul_one];rw [List.take_append_of_le_length (by simp;omega)]
   simpa using N
  ·exact⟨rfl,rfl,rfl,by simp,fun k G _=>heap_alloc_old w.drew _ G⟩
  ·intro k G;simp [Value.ownBlock] at G
   exact Or.inr (by omega)
 rcases h.own.2 with⟨b,y⟩| ⟨g,d,x,b,R,C,q,z,E,m⟩
 ·by_cases P:n=0
  ·subst P;refine Calls.mono (Any8.slices_Grow_room Tryz.growL none 0 0 0 w (Nat.le_refl _) (by omega) (by omega) (by omega):Calls Tryz.prog 203 #[.slice none 0 0,.int .i64 (0:Nat)] w _) ?_ |> (by rw [b];exact ·)
   rintro e i ⟨rfl,rfl⟩;exact⟨_,rfl,b▸h,Wrote.refl _ _,New.refl _ _⟩
  ·exact f none 0 [] (by rw [b,y]) (by omega) (by omega) rfl (fun _=>rfl) (fun a D=>by cases D) (by simp [List.length_eq_zero_iff.1 y])
 ·by_cases o:xs.length+n<=d
  ·refine Calls.mono (Any8.slices_Grow_room Tryz.growL (some ⟨g,0,none⟩) xs.length d n w q (by unfold maxLen at z;omega) (by omega) o:Calls Tryz.prog 203 #[.slice (some ⟨g,0,none⟩) xs.length d,.int .i64 (n:Nat)] w _) ?_ |> (by rw [b];exact ·)
   rintro e i ⟨rfl,rfl⟩;exact⟨_,rfl,b▸h,Wrote.refl _ _,New.refl _ _⟩
  ·refine f (some ⟨g,0,none⟩) d x.toList b q (by omega) (by simpa using E) (fun e=>by cases e) ?_ (by simpa using m)
   intro a D j u I;cases D
   rw [Addr.add_lit,cell_of_row w g _ x _ (0,0) C]
   simpa using I
theorem IO (B:Nat) (v:Value) (xs:List Nat) (n:Nat) (w:World) (h:OwnW w B v xs) (hl:xs.length<=100000) (hn:n<=100000) (O:B<=w.heap.size) :
  Calls Tryz.prog 183 #[v,.int .i64 n] w fun e d=>∃ b,e=.returned b/\OwnW d B b (cJ xs n)/\Wrote w d (At v)/\New w v b:=by
 obtain⟨p,g,c,x,X,Y,_,_⟩:=h.shape;have y:=hideS (qj B v xs w h (by omega))
 have A:endW xs<18446744073709551616:=h.fit _;have z:=hideS h
 by_cases T:n<=xs.length
 ·rw [dS T];rw [x] at y z ⊢
  clear h x;generalize xs.length=l at *
  go_enter Tryz.func183,Tryz.ntmps183
  go_wp2
  go_ret
  exact⟨_,rfl,z.out,Wrote.refl _ _,New.refl _ _⟩
 ·have E:Hid (Calls Tryz.prog 203 #[v,.int .i64 ((n:Int) - (xs.length:Int)+1)] w fun e d=>∃ b,e=.returned b/\OwnW d B b xs/\Wrote w d (At v)/\New w v b):=by
   have:=IN B v xs (n - xs.length+1) w h (by omega) O
   rw [show ((n - xs.length+1:Nat):Int)=(n:Int) - (xs.length:Int)+1 by omega] at this
   exact this
  have K:=hideS (fun k (N:xs.length<=k)=>kM (xs:=xs) N)
  have G:=hideS (fun k=>tw xs k)
  have V:=hideS (dS (Nat.le_refl xs.length));rw [x] at y z E ⊢
  clear h x;have q:Hid (xs.length=xs.length):=rfl;generalize r:xs.length=l at *
  replace q:Hid (xs.length=l):=r
  clear r;generalize endW xs=W at *
  go_enter Tryz.func183,Tryz.ntmps183
  go_wp2_with (first | (go_at_call 133;refine y.out.mono ?_;rintro e d ⟨rfl,rfl⟩) | (go_at_call 203;refine E.out.mono ?_;rintro e w1 ⟨v1,rfl,F,L,J⟩))
  have I:=hideS (And.intro F (And.intro L J));clear F L J E y z
  go_loopg [0] (n - l) (fun m v wr=>∃ (k:Nat) (t:Option Addr) (s:Nat),l<=k/\k<=n/\m=n - k/\v=.slice t k s/\Hid (OwnW wr B (.slice t k s) (cJ xs k)/\Wrote d wr (At (.slice p l c))/\New d (.slice p l c) (.slice t k s)))
  case atStart=>
   obtain⟨Q,g1,c1,i,_⟩:=I.out.1.shape;rw [q.out] at i
   refine⟨l,Q,c1,Nat.le_refl _,by omega,rfl,i,?_⟩
   rw [<- i,V.out];exact I.out
  case round=>
   obtain⟨k,t,s,o,N,rfl,rfl,f⟩:=hrel
   by_cases P:k<n
   ·have U:B<=wr.heap.size:=Nat.le_trans O f.out.2.1.size
    go_wp2_with (at_builtin;refine fP _ rfl _ _ 133 rfl Tryz.underlying133 B (.slice t k s) (cJ xs k) rfl (f.out.1.alloc _) ⟨_,0,none⟩ 1 W rfl A ?c1 (by rw [G.out];omega) ?c2 ?_)
    case c1=>simp [Addr.add]
    case c2=>simp;omega
    intro b w2 u H C;obtain⟨S,g2,c2,a,_⟩:=u.shape;rw [<- K.out k o,G.out,show max l (k+1)=k+1 by omega] at a
    rw [<- K.out k o,a] at u
    rw [a] at C
    have R:=hideS (And.intro u (And.intro (f.out.2.1.trans (wrote_app _ H) ?t1) (f.out.2.2.trans (Do _ C) f.out.2.1.size)))
    case t1=>
     intro j Z D;rcases f.out.2.2 j D with M | M
     ·exact M
     ·omega
    subst a;clear u H C f;go_wp2
    go_roundg (n - (k+1))
    case measure=>omega
    case rel=>exact⟨k+1,S,c2,by omega,by omega,rfl,rfl,R⟩
   ·obtain rfl:k=n:=by omega
    go_wp2
    go_ret
    exact⟨_,rfl,f.out⟩
theorem Bi (n:Nat):(madeCells #[.int .u64 0] n).toList=(List.replicate n 0).map uV:=by
 apply List.ext_getElem
 ·simp [size_madeCells]
 ·intro i a b;simp [madeCells,uV,Nat.mod_one]
theorem OwnW.made (w:World) (n:Nat) (hn:n<=1000000):OwnW (w.alloc (.cells (madeCells #[.int .u64 0] n) 41)) w.heap.size (.slice (some ⟨w.heap.size,0,none⟩) n n) (List.replicate n 0):=by
 refine⟨?_,fun i=>?_⟩
 ·have:=World.ownsRow_lit (base:=w.heap.size) (e:=41) (size:=1) w (madeCells #[.int .u64 0] n) n (Nat.le_refl _) (by unfold maxLen;omega) (by simp [size_madeCells])
  rw [Bi] at this
  simpa using this
 ·show (List.replicate n 0).getD i 0<_
  rw [List.getD,List.getElem?_replicate]
  split<;>decide
theorem Dp {s:Int} {ys:List Nat} {x f:Nat->Nat} {c c' k z:Nat} (h:Rel s (fun i=>ys.getD i 0) x f c k) (a:k<ys.length) (b:(z:Int)+s*((c':Int)*18446744073709551616)=(x k:Int)+s*((f k:Int)+c)):Rel s (fun i=>(ys.set k z).getD i 0) x f c' (k+1):=by
 have d:Rel s (fun i=>(ys.set k z).getD i 0) x f c k:=h.congr (fun i hi=>by show ys.getD i 0=(ys.set k z).getD i 0;rw [getD_set a,if_neg (by omega)]) (fun _ _=>rfl) (fun _ _=>rfl)
 refine d.step ?_
 show (((ys.set k z).getD k 0:Nat):Int)+_=_
 rw [getD_set a,if_pos rfl];exact b
theorem xR (B:Nat) (v:Value) (xs:List Nat) (w:World) (h:OwnW w B v xs) (hn:xs.length<=100000) :
  Calls Tryz.prog 134 #[v] w fun e G=>∃ C ys c,e=.returned C/\OwnW G w.heap.size C ys/\ys.length=xs.length/\Rel (-1) (fun i=>ys.getD i 0) (fun _=>0) (fun i=>xs.getD i 0) c xs.length/\Below w.heap.size w G:=by
 obtain⟨p,g,c,rfl,V,X,K,H⟩:=h.shape;have W:=hideS H;have R:=hideS h.fit;clear h H;have A:=hideS (OwnW.made w xs.length (by omega))
 have E:=hideS ((Below.refl w.heap.size w).alloc (Nat.le_refl _) (.cells (madeCells #[.int .u64 0] xs.length) 41));have u:=fun w=>run_make_row' (P:=Tryz.prog) 133 41 (.int .u64 0) 8 Tryz.underlying133 infoU rfl .i64 .i64 xs.length (by omega) (by omega) w
 generalize xs.length=n at *
 go_enter Tryz.func134,Tryz.ntmps134
 go_wp2;clear u
 go_loopw [4,5,11] (fun b _ i wr=>∃ (k c:Nat) (ys:List Nat),k<=n/\c<=1/\b=.int .u64 c/\i=.int .i64 k/\Hid (OwnW wr w.heap.size (.slice (some ⟨w.heap.size,0,none⟩) n n) ys/\ys.length=n/\Rel (-1) (fun i=>ys.getD i 0) (fun _=>0) (fun i=>xs.getD i 0) c k/\Below w.heap.size w wr)) (fun _ _ i _=>n - (intOf i).toNat)
 case atStart=>exact⟨0,0,List.replicate n 0,Nat.zero_le _,by omega,rfl,rfl,A.out,by simp,Rel.start _ _ _ _,E.out⟩
 case round=>
  clear A E;obtain⟨k,o,ys,Y,m,rfl,rfl,a⟩:=hrel
  by_cases f:k<n
  ·obtain⟨rfl,T,s⟩:=K (by omega)
   have r:wr.cell? ⟨g,k,none⟩=some (.int .u64 (xs.getD k 0:Nat)):=(a.out.2.2.2.cell (p:=⟨g,k,none⟩) s).trans (W.out k f);have S:wr.cell? ⟨w.heap.size,k,none⟩=some (.int .u64 (ys.getD k 0:Nat)):=a.out.1.cell1 a.out.2.1 k (by rw [a.out.2.1];exact f)
   have N:wr.frozen? ⟨w.heap.size,k,none⟩=false:=a.out.1.frozen1 a.out.2.1 k;have j:xs.getD k 0<18446744073709551616:=R.out k;obtain⟨x,t⟩:∃ x,xs.getD k 0=x:=⟨_,rfl⟩;have Q:=hideS t;rw [t] at r j
   generalize ys.getD k 0=d at S
   obtain⟨z,J,F,I,M,L,D⟩:=nM 0 x o m (by decide) j
   have y:=qk 0 x o m;rw [F,I] at y
   have U:=hideS D;have l:=(a.out.1.set a.out.2.1 k z M);have q:=hideS l;clear l F I D t j;have O:∀ w,(callFunc 165 #[.int .u64 0,.int .u64 x,.int .u64 o]).run Tryz.prog w=.ok (.value (.tuple #[.int .u64 z,.int .u64 J])) w:=y;clear y;go_wp2
   go_roundw
   case rel=>
    refine⟨k+1,J,ys.set k z,by omega,L,rfl,by simp,q.out.1,by rw [List.length_set];exact a.out.2.1,?_,a.out.2.2.2.setCell (Nat.le_refl _) _⟩
    refine Dp a.out.2.2.1 (by rw [a.out.2.1];exact f) ?_
    rw [Q.out];exact U.out
   case measure=>simp [intOf];omega
  ·obtain rfl:k=n:=by omega
   go_wp2
   go_ret
   exact⟨_,ys,o,rfl,a.out.1,a.out.2.1,a.out.2.2.1,a.out.2.2.2⟩
theorem Bj (xs:List Nat):(settle xs).length<=xs.length+1:=by unfold settle;split<;>simp
theorem tx (B:Nat) (v:Value) (xs:List Nat) (N:Int) (w:World) (h:OwnW w B v xs) (b:Sg xs N) (hn:xs.length<=100000) (F:B<=w.heap.size) :
  Calls Tryz.prog 92 #[v] w fun e j=>∃ p ys,e=.returned (.tuple #[p,.bool (decide (N<0))])/\OwnW j B p ys/\ys.length=xs.length/\ps (fun i=>ys.getD i 0) ys.length=N.natAbs/\Below w.heap.size w j:=by
 have m:=hideS (qj B v xs w h (by omega))
 have r:=hideS (xR B v xs w h hn);have C:=hideS b;have D:=hideS h
 by_cases a:endW xs=0
 ·have d:=(b.range (n:=xs.length) (by omega)).1 a
  have s:=b.eq;rw [if_pos a,Dj (Nat.le_refl _)] at s
  have f:decide (N<0)=false:=by simp;omega
  rw [f];have E:Hid (ps (fun i=>xs.getD i 0) xs.length=N.natAbs):=by show _=_;omega
  rw [a] at m
  clear b h s d f a r
  go_enter Tryz.func92,Tryz.ntmps92
  go_wp2_with (go_at_call 133;refine m.out.mono ?_;rintro e j ⟨rfl,rfl⟩)
  go_ret2
  exact⟨v,xs,rfl,D.out,rfl,E.out,Below.refl _ _⟩
 ·have d:=(b.range (n:=xs.length) (by omega)).2 a
  have f:decide (N<0)=true:=by simp;omega
  rw [f];have G:((endW xs:Int)==0)=false:=by simpa using a
  have A:=hideS a;clear b h d f a;generalize (endW xs:Int)=q at *
  go_enter Tryz.func92,Tryz.ntmps92
  go_wp2_with (first | (go_at_call 133;refine (turned m.out).mono ?_;rintro e j ⟨rfl,rfl⟩) | (go_at_call 134;refine r.out.mono ?_;rintro e H ⟨y,ys,c,rfl,x,u,d,t⟩))
  have R:=hideS (And.intro x (And.intro u (And.intro d t)));clear x u d t;go_wp2
  go_ret2
  have I:=Iq C.out A.out R.out.2.1 R.out.1.fit R.out.2.2.1;refine⟨y,ys,rfl,⟨?_,R.out.1.fit⟩,R.out.2.1,by omega,R.out.2.2.2⟩
  refine⟨R.out.1.own.1,?_⟩
  rcases R.out.1.own.2 with k | ⟨g,o,l,k,z,rest⟩
  ·exact .inl k
  ·exact .inr ⟨g,o,l,k,Nat.le_trans F z,rest⟩
theorem Wrote.own {a b c:World} {v e:Value} (h:Wrote a b (At v)) (hn:New a v e) (g:Wrote b c (At e)):Wrote a c (At v):=
 h.trans g (fun k i d=>by
  rcases hn k d with f | f
  ·exact f
  ·omega)
def at3 (f a b c:Nat) (i:Nat):Nat:=if i=f then a else if i=f+1 then b else if i=f+2 then c else 0
theorem Pj (f c a b n:Nat) (hn:f+3<=n):ps (at3 f c a b) n=(c+a*18446744073709551616+b*(18446744073709551616*18446744073709551616))*2^(64*f):=by
 have d:ps (at3 f c a b) f=0:=by
  rw [cQ (g:=fun _=>0) (fun i hi=>by unfold at3;rw [if_neg (by omega),if_neg (by omega),if_neg (by omega)]),oQ]
 have e:ps (at3 f c a b) (f+3)=(c+a*18446744073709551616+b*(18446744073709551616*18446744073709551616))*2^(64*f):=by
  rw [ps,ps,ps,d];have k:at3 f c a b f=c:=by unfold at3;rw [if_pos rfl]
  have m:at3 f c a b (f+1)=a:=by unfold at3;rw [if_neg (by omega),if_pos rfl]
  have l:at3 f c a b (f+2)=b:=by unfold at3;rw [if_neg (by omega),if_neg (by omega),if_pos rfl]
  rw [k,m,l,lu (f+1),lu f];generalize (2:Nat)^(64*f)=P;rw [Nat.add_mul,Nat.add_mul,Nat.mul_assoc a,Nat.mul_assoc b,Nat.mul_assoc 18446744073709551616 18446744073709551616,Nat.zero_add]
 rw [<- e];clear e d
 induction n with
 | zero=>omega
 | succ n j=>
  by_cases h:f+3=n+1
  ·rw [h]
  ·rw [ps,j (by omega)]
   have:at3 f c a b n=0:=by unfold at3;rw [if_neg (by omega),if_neg (by omega),if_neg (by omega)]
   rw [this];simp
theorem fQ {x o:Nat}:IntKind.u64.wrap ((x:Int)*2^o)=((x*2^o % 18446744073709551616:Nat):Int):=by
 rw [IntKind.wrap_u64,Int.natCast_emod,Int.natCast_mul,Int.natCast_pow];rfl
theorem lI {x o:Nat}:(x:Int) / 2^(64 - o)=((x / 2^(64 - o):Nat):Int):=by
 rw [Int.natCast_ediv,Int.natCast_pow];rfl
theorem QE (f a c b:Nat):at3 f a c b f=a:=by unfold at3;rw [if_pos rfl]
theorem QF (f c a b:Nat):at3 f c a b (f+1)=a:=by unfold at3;rw [if_neg (by omega),if_pos rfl]
theorem QG (f b c a:Nat):at3 f b c a (f+2)=a:=by unfold at3;rw [if_neg (by omega),if_neg (by omega),if_pos rfl]
theorem vB {f a b c i:Nat} (h:f+3<=i\/i<f):at3 f a b c i=0:=by unfold at3;rw [if_neg (by omega),if_neg (by omega),if_neg (by omega)]
structure Mid (w1 wr:World) (B:Nat) (v1:Value) (n:Nat) (less:Bool) (F x0:Nat->Nat) (ys:List Nat) (c k:Nat):Prop where
 own:OwnW wr B v1 ys
 len:ys.length=n
 rel:Rel (sI less) (fun i=>ys.getD i 0) x0 F c k
 rest:∀ j,k<=j->ys.getD j 0=x0 j
 wrote:Wrote w1 wr (At v1)
theorem Mid.step {w1 wr:World} {B g n f:Nat} {a:Bool} {F d:Nat->Nat} {ys:List Nat} {c c' k z:Nat} (h:Mid w1 wr B (.slice (some ⟨g,0,none⟩) n f) n a F d ys c k) (q:k<n) (i:z<18446744073709551616) (l:(z:Int)+sI a*((c':Int)*18446744073709551616)=(d k:Int)+sI a*((F k:Int)+c)) :
  Mid w1 (wr.setCell ⟨g,k,none⟩ (.int .u64 (z:Int))) B (.slice (some ⟨g,0,none⟩) n f) n a F d (ys.set k z) c' (k+1):=by
 have e:=h.own.set h.len k z i;have p:=h.len;refine⟨e.1,by rw [List.length_set];exact h.len,Dp h.rel (by omega) l,fun j m=>?_,h.wrote.trans (xO e.2) (fun o _ b=>b)⟩
 rw [getD_set (by omega),if_neg (by omega)]
 exact h.rest j (by omega)
theorem QH (a:Bool):sI a=1\/sI a= -1:=by cases a<;>simp [sI]
theorem IP {w1 wr:World} {B n f d e h F c k:Nat} {p:Value} {a:Bool} {xs ys:List Nat} {N:Int} (r:Sg xs N) (t:(cJ xs (f+3)).length=n) (b:Mid w1 wr B p n a (at3 f d e h) (fun i=>(cJ xs (f+3)).getD i 0) ys c k) (hc:c=0\/k=n) (u:f+3<=k) (q:k<=n) (hF:ps (at3 f d e h) n=F) (s:4*(F:Int)<=2^(64*n)):Sg (settle ys) (N+sI a*F):=by
 obtain⟨m,rfl⟩:∃ m,n=m+1:=⟨n - 1,by omega⟩
 have g:∃ l,Rel (sI a) (fun i=>ys.getD i 0) (fun i=>(cJ xs (f+3)).getD i 0) (at3 f d e h) l (m+1):=by
  rcases hc with rfl | rfl
  ·exact⟨0,b.rel.rest q (fun j o _=>⟨b.rest j o,vB (Or.inl (by omega))⟩)⟩
  ·exact⟨c,b.rel⟩
 obtain⟨l,g⟩:=g;exact Mu (r.long _) t b.len b.own.fit (QH a) hF s g
theorem IQ (B:Nat) (v:Value) (xs:List Nat) (N:Int) (hi lo A:Nat) (d:Bool) (w:World) (h:OwnW w B v xs) (hs:Sg xs N) (ca:hi<4398046511104) (al:lo<18446744073709551616) (cf:A<=100000) (hn:xs.length<=50000) (hB:B<=w.heap.size) :
  Calls Tryz.prog 164 #[v,.int .u64 hi,.int .u64 lo,.int .i64 A,.bool d] w fun e P=>∃ v' zs,e=.returned v'/\OwnW P B v' zs/\zs.length<=max xs.length (A / 64+3)+1/\Sg zs (N+sI d*(((hi*18446744073709551616+lo)*2^A:Nat):Int))/\Wrote w P (At v)/\New w v v':=by
 obtain⟨f,hf⟩:∃ f,A / 64=f:=⟨_,rfl⟩;obtain⟨o,ho⟩:∃ o,A % 64=o:=⟨_,rfl⟩;have Z:o<64:=by omega
 have hq:(A:Int) / 64=(f:Int):=by omega
 have hr:(A:Int) % 64=(o:Int):=by omega
 have cq:f<=2000:=by omega
 obtain⟨r,M⟩:∃ r,lo*2^o % 18446744073709551616=r:=⟨_,rfl⟩;obtain⟨W,K⟩:∃ W,hi*2^o % 18446744073709551616=W:=⟨_,rfl⟩;obtain⟨S,I⟩:∃ S,lo / 2^(64 - o)=S:=⟨_,rfl⟩;obtain⟨q,Q⟩:∃ q,hi / 2^(64 - o)=q:=⟨_,rfl⟩;have f0:IntKind.u64.wrap ((lo:Int)*2^o)=(r:Int):=by rw [<- M];exact fQ
 have f1:IntKind.u64.wrap ((hi:Int)*2^o)=(W:Int):=by rw [<- K];exact fQ
 have f2:(lo:Int) / 2^(64 - o)=(S:Int):=by rw [<- I];exact lI
 have f4:(hi:Int) / 2^(64 - o)=(q:Int):=by rw [<- Q];exact lI
 have T:=AQ (hi:=hi) Z al;rw [K,I] at T
 have b0:r<18446744073709551616:=by rw [<- M];exact Nat.mod_lt _ (by decide)
 have ai:W<18446744073709551616:=by rw [<- K];exact Nat.mod_lt _ (by decide)
 have am:S<18446744073709551616:=by rw [<- I];exact Nat.lt_of_le_of_lt (Nat.div_le_self _ _) al
 have b2:q<18446744073709551616:=by rw [<- Q];have:=Nat.div_le_self hi (2^(64 - o));omega
 have b1:W+S<18446744073709551616:=by rw [<- T];exact Nat.or_lt_two_pow (n:=64) ai am
 have f3:bits .or .u64 (W:Int) (S:Int)=((W+S:Nat):Int):=by rw [bits_or_u64_nat W S ai am,T]
 obtain⟨s,u⟩:∃ s,W+S=s:=⟨_,rfl⟩;rw [u] at f3 b1
 have J:Hid (ps (at3 f r s q) (max xs.length (f+3))=(hi*18446744073709551616+lo)*2^A):=by
  show _=_
  rw [Pj _ _ _ _ _ (by omega),<- M,<- u,<- K,<- I,<- Q,pP Z,Nat.mul_assoc,<- Nat.pow_add]
  congr 2;omega
 have G:Hid (4*(((hi*18446744073709551616+lo)*2^A:Nat):Int)<=2^(64*(max xs.length (f+3)))):=by
  show _<=_
  have e1:(hi*18446744073709551616+lo)<2^106:=by omega
  have e2:4*((hi*18446744073709551616+lo)*2^A)<=2^108*2^A:=by
   rw [<- Nat.mul_assoc];exact Nat.mul_le_mul_right _ (by omega)
  have e3:2^108*2^A<=2^(64*(max xs.length (f+3))):=by
   rw [<- Nat.pow_add];exact Nat.pow_le_pow_right (by decide) (by omega)
  have e4:=dO (max xs.length (f+3));omega
 have HO:=hideS h;have HS:=hideS hs;have bs:Hid (∀ w1:World,OwnW w1 B v xs->B<=w1.heap.size->Calls Tryz.prog 183 #[v,.int .i64 ((f:Int)+3)] w1 fun e P=>∃ v',e=.returned v'/\OwnW P B v' (cJ xs (f+3))/\Wrote w1 P (At v)/\New w1 v v'):=fun w1 p L=>by
  have:=IO B v xs (f+3) w1 p (by omega) (by omega) L
  rw [show ((f+3:Nat):Int)=(f:Int)+3 by omega] at this
  exact this
 have U:=hideS (tw xs (f+3));rw [hf];obtain⟨n,hN⟩:∃ n,max xs.length (f+3)=n:=⟨_,rfl⟩;have cc:f+3<=n:=by omega
 have ab:n<=60000:=by omega
 rw [hN] at J G U ⊢
 generalize (hi*18446744073709551616+lo)*2^A=F at J G ⊢
 clear h hs T M K I Q hf ho ai am ca al u hN hn
 go_enter Tryz.func164,Tryz.ntmps164
 go_wp2_with fail
 go_region
 rw [hr];clear f0 f1 f2 f3 f4 hr hq;obtain⟨O,hO⟩:∃ O:Obj,O=.cells #[.int .u64 (r:Int),.int .u64 (s:Int),.int .u64 (q:Int)] 219:=⟨_,rfl⟩;have HA:=hideS (bs.out (w.alloc O).drew ((HO.out.alloc O).drewN 1) (by simp;omega))
 rw [hO] at HA
 clear hO
 go_wp2_with fail
 refine HA.out.mono ?_
 rintro e w1 ⟨v1,rfl,o1,r1,n1⟩;have Y:¬ At v w.heap.size:=fun e=>by have:=(HO.out.lt _ e).2;omega
 have C:w1.heap[w.heap.size]? =some (.cells #[.int .u64 (r:Int),.int .u64 (s:Int),.int .u64 (q:Int)] 219 (0,0)):=(r1.block w.heap.size (by simp) Y).trans (heap_alloc_new w _)
 have d0:w1.cell? ⟨w.heap.size,0,none⟩=some (.int .u64 (r:Int)):=by simp [World.cell?,C]
 have d1:w1.cell? ⟨w.heap.size,1,none⟩=some (.int .u64 (s:Int)):=by simp [World.cell?,C]
 have d2:w1.cell? ⟨w.heap.size,2,none⟩=some (.int .u64 (q:Int)):=by simp [World.cell?,C]
 have bo:Wrote w w1 (At v):=⟨r1.os,r1.tape,r1.output,Nat.le_trans (by simp) r1.size,fun k hk hn=>(r1.block k (by simp;omega) hn).trans (heap_alloc_old w _ hk)⟩
 have bv:New w v v1:=fun k hk=>by
  rcases n1 k hk with p | p
  ·exact Or.inl p
  ·exact Or.inr (by simp at p;omega)
 have X:=hideS (And.intro o1 (And.intro bo bv));clear C o1 r1 n1 bo bv Y HA bs;obtain⟨pp,g1,c1,bc,bz,ci,u,_⟩:=X.out.1.shape;rw [U.out] at bc bz u
 obtain⟨rfl,_,_⟩:=u (by omega)
 subst bc;clear u;have bb:Hid (Mid w1 w1 B (.slice (some ⟨g1,0,none⟩) n c1) n d (at3 f r s q) (fun i=>(cJ xs (f+3)).getD i 0) (cJ xs (f+3)) 0 f):=
  ⟨X.out.1,U.out,(Rel.start _ _ _ _).rest (Nat.zero_le _) (fun j _ hj=>⟨rfl,vB (Or.inr hj)⟩),fun _ _=>rfl,Wrote.refl _ _⟩
 go_wp2_with fail
 go_loopw [14,15,16,43] (fun b _ _ i wr=>∃ (k c:Nat) (l:List Nat),k<=3/\c<=1/\b=.int .u64 c/\i=.int .i64 k/\Hid (Mid w1 wr B (.slice (some ⟨g1,0,none⟩) n c1) n d (at3 f r s q) (fun i=>(cJ xs (f+3)).getD i 0) l c (f+k))) (fun _ _ _ i _=>3 - (intOf i).toNat)
 case atStart=>exact⟨0,0,cJ xs (f+3),by omega,by omega,rfl,rfl,bb⟩
 case round=>
  obtain⟨k,E,l,hk,D,rfl,rfl,a⟩:=hrel
  by_cases ba:k<3
  ·have cm:∀ w:World,(Instr.index 219 (.agg #[.int .u64 (r:Int),.int .u64 (s:Int),.int .u64 (q:Int)]) (.int .i64 0)).run Tryz.prog w=.ok (.int .u64 (r:Int)) w:=fun _=>by kernel_rfl
   have cp:∀ w:World,(Instr.index 219 (.agg #[.int .u64 (r:Int),.int .u64 (s:Int),.int .u64 (q:Int)]) (.int .i64 1)).run Tryz.prog w=.ok (.int .u64 (s:Int)) w:=fun _=>by kernel_rfl
   have cd:∀ w:World,(Instr.index 219 (.agg #[.int .u64 (r:Int),.int .u64 (s:Int),.int .u64 (q:Int)]) (.int .i64 2)).run Tryz.prog w=.ok (.int .u64 (q:Int)) w:=fun _=>by kernel_rfl
   have R:k=0\/k=1\/k=2:=by omega
   rcases R with rfl | rfl | rfl
   ·have t:=a.out.own.cell1 a.out.len f (by rw [a.out.len];omega)
    have ad:=a.out.own.frozen1 a.out.len f;have g:l.getD (f) 0<18446744073709551616:=a.out.own.fit _;have y:=hideS (a.out.rest (f) (Nat.le_refl _));generalize l.getD (f) 0=x at t g y
    have m:=hideS (fun w=>lH x r E d w D g b0)
    clear g
    go_wp2_with (go_at_call 184;refine (turned (m.out _)).mono ?_;rintro e P ⟨⟨z,c',rfl,p,L,H⟩,rfl⟩)
    have H3:=hideS (a.out.step (k:=f) (by omega) p (by rw [<- y.out,QE];exact H))
    clear p H m y
    go_wp2_with fail
    go_roundw
    case rel=>exact⟨0+1,c',l.set (f) z,by omega,L,rfl,rfl,H3⟩
    case measure=>simp [intOf]
   ·have t:=a.out.own.cell1 a.out.len (f+1) (by rw [a.out.len];omega)
    have ad:=a.out.own.frozen1 a.out.len (f+1);have g:l.getD (f+1) 0<18446744073709551616:=a.out.own.fit _;have y:=hideS (a.out.rest (f+1) (Nat.le_refl _));generalize l.getD (f+1) 0=x at t g y
    have m:=hideS (fun w=>lH x s E d w D g b1)
    clear g
    go_wp2_with (go_at_call 184;refine (turned (m.out _)).mono ?_;rintro e P ⟨⟨z,c',rfl,p,L,H⟩,rfl⟩)
    have H3:=hideS (a.out.step (k:=f+1) (by omega) p (by rw [<- y.out,QF];exact H))
    clear p H m y
    go_wp2_with fail
    go_roundw
    case rel=>exact⟨1+1,c',l.set (f+1) z,by omega,L,rfl,rfl,H3⟩
    case measure=>simp [intOf]
   ·have t:=a.out.own.cell1 a.out.len (f+2) (by rw [a.out.len];omega)
    have ad:=a.out.own.frozen1 a.out.len (f+2);have g:l.getD (f+2) 0<18446744073709551616:=a.out.own.fit _;have y:=hideS (a.out.rest (f+2) (Nat.le_refl _));generalize l.getD (f+2) 0=x at t g y
    have m:=hideS (fun w=>lH x q E d w D g b2)
    clear g
    go_wp2_with (go_at_call 184;refine (turned (m.out _)).mono ?_;rintro e P ⟨⟨z,c',rfl,p,L,H⟩,rfl⟩)
    have H3:=hideS (a.out.step (k:=f+2) (by omega) p (by rw [<- y.out,QG];exact H))
    clear p H m y
    go_wp2_with fail
    go_roundw
    case rel=>exact⟨2+1,c',l.set (f+2) z,by omega,L,rfl,rfl,H3⟩
    case measure=>simp [intOf]
  ·have R:f+k=f+3:=by omega
   rw [R] at a
   clear bb R;have HT:=hideS (fun (wr:World) (l:List Nat) (c k:Nat) (hM:Mid w1 wr B (.slice (some ⟨g1,0,none⟩) n c1) n d (at3 f r s q) (fun i=>(cJ xs (f+3)).getD i 0) l c k)=>xQ B _ l wr hM.own (by rw [hM.len];omega) (Nat.le_trans hB (Nat.le_trans X.out.2.1.size hM.wrote.size)))
   go_wp2_with fail
   go_loopw [14,17] (fun b i wr=>∃ (k c:Nat) (l:List Nat),f+3<=k/\k<=n/\c<=1/\b=.int .u64 c/\i=.int .i64 k/\Hid (Mid w1 wr B (.slice (some ⟨g1,0,none⟩) n c1) n d (at3 f r s q) (fun i=>(cJ xs (f+3)).getD i 0) l c k)) (fun _ i _=>n - (intOf i).toNat)
   case atStart=>exact⟨f+3,E,l,Nat.le_refl _,cc,D,rfl,by simp,a⟩
   case round=>
    clear a D;clear ba hk;obtain⟨k,E,l,bh,hk,D,rfl,rfl,a⟩:=hrel
    by_cases V:E=1/\k<n
    ·obtain⟨rfl,ba⟩:=V;have t:=a.out.own.cell1 a.out.len k (by rw [a.out.len];omega)
     have ad:=a.out.own.frozen1 a.out.len k;have g:l.getD k 0<18446744073709551616:=a.out.own.fit _;have y:=hideS (a.out.rest k (Nat.le_refl _));generalize l.getD k 0=x at t g y
     have m:=hideS (fun w=>lH x 0 1 d w (Nat.le_refl _) g (by decide))
     clear g
     go_wp2_with (go_at_call 184;refine (turned (m.out _)).mono ?_;rintro e P ⟨⟨z,c',rfl,p,L,H⟩,rfl⟩)
     have H3:=hideS (a.out.step (k:=k) (by omega) p (by rw [<- y.out,vB (Or.inl bh)];exact H))
     clear p H m y
     go_wp2_with fail
     go_roundw
     case rel=>exact⟨k+1,c',l.set k z,by omega,by omega,L,rfl,by simp,H3⟩
     case measure=>simp [intOf];omega
    ·have HC:Hid (E=0\/k=n):=by
      show _\/_
      by_cases e:E=0
      ·exact Or.inl e
      ·exact Or.inr (by have:¬ (k<n):=fun h=>V ⟨by omega,h⟩;omega)
     have HE:=hideS (IP HS.out U.out a.out HC.out bh hk J.out G.out);have bi:=hideS (HT.out wr l E k a.out);have bx:E=0\/(E=1/\¬ (k<n)):=by
      by_cases e:E=0
      ·exact Or.inl e
      ·exact Or.inr ⟨by omega,fun h=>V ⟨by omega,h⟩⟩
     clear V HC HT;rcases bx with rfl | ⟨rfl,cl⟩
     all_goals
      go_wp2_with fail
      refine bi.out.mono ?_
      rintro e w2 ⟨v2,rfl,br,bk,ab⟩;have R2:=hideS (And.intro br (And.intro bk ab));clear br bk ab bi
      go_wp2_with fail
      go_ret
      refine⟨v2,settle l,rfl,R2.out.1,?_,HE.out,?_,?_⟩
      ·have:=Bj l;have:=a.out.len;omega
      ·exact (X.out.2.1.own X.out.2.2 a.out.wrote).own X.out.2.2 R2.out.2.1
      ·exact X.out.2.2.trans (w1:=wr) R2.out.2.2 (Nat.le_trans X.out.2.1.size a.out.wrote.size)
theorem or_one_nat (k:Nat):k||| 1=if k % 2=1 then k else k+1:=by
 have h:∀ q:Nat,2*q||| 1=2*q+1:=fun q=>by
  have:=Nat.two_pow_add_eq_or_of_lt (i:=1) (b:=1) (by decide) q
  rw [Nat.pow_one] at this;exact this.symm
 by_cases a:k % 2=1
 ·rw [if_pos a];have e:k=2*(k / 2)||| 1:=by rw [h];omega
  conv=>lhs;rw [e]
  rw [Nat.or_assoc,Nat.or_self,<- e]
 ·rw [if_neg a];have e:k=2*(k / 2):=by omega
  conv=>lhs;rw [e]
  rw [h];omega
theorem Bk (k:Nat) (b:k<4611686018427387904):bits .or .i64 (k:Int) 1=((if k % 2=1 then k else k+1:Nat):Int):=by
 have a:(BitVec.ofInt 64 (k:Int)).toNat=k:=by
  rw [BitVec.ofInt_natCast,BitVec.toNat_ofNat];exact Nat.mod_eq_of_lt (by omega)
 show IntKind.i64.wrap ((BitVec.ofInt 64 (k:Int)||| BitVec.ofInt 64 1).toNat:Int)=_
 rw [BitVec.toNat_or,a,show (BitVec.ofInt 64 1).toNat=1 from rfl,or_one_nat,IntKind.wrap_i64]
 split<;>omega
structure Tail (x y ld:Nat) (a b u m r z m1:Int):Prop where
 f1:IntKind.u64.wrap ((x:Int)*2^ld)=a
 f2:(y:Int) / 2^(64 - ld)=b
 f3:bits .or .u64 a b=u
 u0:0<=u
 u1:u<18446744073709551616
 uw:u=((x*2^ld+y / 2^(64 - ld):Nat):Int)
 fm:u / 4=m
 m0:0<=m
 m2:m<4611686018427387904
 fr:bits .and .u64 u 3=r
 rr:r=u % 4
 fz:IntKind.u64.wrap ((y:Int)*2^ld)=z
 zz:z=((y*2^ld % 18446744073709551616:Nat):Int)
 fo:bits .or .i64 m 1=m1
 oo:m1=if m % 2=1 then m else m+1
 lds:ld<=63
theorem xS {x y c:Nat} (o:x≠0) (f:x<18446744073709551616) (i:y<18446744073709551616) (d:c=63 - x.log2):∃ a b u m r z l,Tail x y c a b u m r z l:=by
 obtain⟨h,n,t,p⟩:=pQ o f i d;have g:y / 2^(64 - c)<18446744073709551616:=Nat.lt_of_le_of_lt (Nat.div_le_self _ _) i;obtain⟨W,j⟩:∃ W,x*2^c+y / 2^(64 - c)=W:=⟨_,rfl⟩;refine⟨((x*2^c:Nat):Int),((y / 2^(64 - c):Nat):Int),(W:Int),(W:Int) / 4,(W:Int) % 4,_,if (W:Int) / 4 % 2=1 then (W:Int) / 4 else (W:Int) / 4+1,⟨?_,lI,?_,by omega,by omega,by rw [j],rfl,by omega,by omega,?_,rfl,fQ,rfl,?_,rfl,p⟩⟩
 ·rw [fQ,Nat.mod_eq_of_lt h]
 ·rw [bits_or_u64_nat _ _ h g,n,j]
 ·have e:=bits_and_u64_nat W 3 (by omega) (by decide)
  have q:W&&& 3=W % 4:=Nat.and_two_pow_sub_one_eq_mod W 2;rw [show ((3:Nat):Int)=3 from rfl] at e
  rw [e,q];omega
 ·obtain⟨k,s⟩:∃ k:Nat,(W:Int) / 4=k:=⟨W / 4,by omega⟩
  rw [s,Bk k (by omega)]
  split<;>split<;>omega
theorem ER (c:Nat) (p:Option Addr) (neg:Bool) (w:World) :
  Calls Tryz.prog 93 #[.slice p 0 c,.bool false,.bool neg] w fun e a=>e=.returned (.float .f64 0)/\∃ q,a=w.drewN q:=by
 have b:bits .or .u64 0 0=0:=rfl;have d:wrap64 0=0:=by unfold wrap64;omega
 cases neg
 all_goals
  go_enter Tryz.func93,Tryz.ntmps93
  go_wp2_with fail
  go_loop [7] (fun t=>t=.int .i64 (-1)) (fun _=>0)
  case atStart=>rfl
  case round=>
   subst hrel
   go_wp2_with (go_at_call 136;refine (jJ 0 64 _ (by decide) (by decide) (by show _=_;rfl)).mono ?_;rintro e a ⟨rfl,rfl⟩)
   go_region
   go_wp2_with fail
   refine (ce _ _ _ (by omega) (by omega)).mono ?_
   rintro e a ⟨rfl,q,rfl⟩
   go_wp2_with fail
   go_ret
   exact⟨rfl,_,rfl⟩
theorem Bm (x b:Nat) (w:World) (c:x≠0) (a:x<18446744073709551616) (d:b=63 - x.log2) :
  Calls Tryz.prog 136 #[.int .u64 x] w fun e f=>e=.returned (.int .i64 (b:Int))/\f=w:=
 jJ x b w (by omega) (by omega) (by
  show _=_
  have g:x.log2<64:=(Nat.log2_lt c).2 a;rw [Int.toNat_natCast,jd c a];omega)
theorem xT {x y d T R M:Nat} {a b u m r z e:Int} {more neg:Bool} (h:Tail x y d a b u m r z e) (p:x≠0) (l:x<18446744073709551616) (j:d=63 - x.log2) (A:M*2^64=(x*18446744073709551616+y)*2^(64*T)+R*2^64) (o:R*2^64<2^(64*T)) (k:y<18446744073709551616) :
  aI (sgM neg (mant M more)) (ko M)=aI (if neg then -(if (more=true\/R≠0)\/r≠0\/z≠0 then e else m) else (if (more=true\/R≠0)\/r≠0\/z≠0 then e else m)) (64*(T:Int) - d+2+ -2148):=by
 obtain⟨g,n⟩:=EH (more:=more) p l j A o k;rw [n];have w:=h.uw;obtain⟨W,B⟩:∃ W,x*2^d+y / 2^(64 - d)=W:=⟨_,rfl⟩;rw [B] at g w
 have D:=h.rr;have s:=h.zz;have C:=h.fm;have t:=h.oo;obtain⟨q,v⟩:∃ q,y*2^d % 18446744073709551616=q:=⟨_,rfl⟩;rw [v] at g s
 have c:((more=true\/R≠0)\/W % 4≠0\/q≠0)↔((more=true\/R≠0)\/r≠0\/z≠0):=by
  constructor
  ·rintro (h | h | h)
   ·exact Or.inl h
   ·exact Or.inr (Or.inl (by omega))
   ·exact Or.inr (Or.inr (by omega))
  ·rintro (h | h | h)
   ·exact Or.inl h
   ·exact Or.inr (Or.inl (by omega))
   ·exact Or.inr (Or.inr (by omega))
 have i:(mant M more:Int)=if (more=true\/R≠0)\/r≠0\/z≠0 then e else m:=by
  rw [g]
  by_cases f:(more=true\/R≠0)\/W % 4≠0\/q≠0
  ·rw [if_pos f,if_pos (c.1 f),t]
   split<;>split<;>omega
  ·rw [if_neg f,if_neg (fun h=>f (c.2 h))];omega
 unfold sgM;rw [i]
theorem ES (F:Nat->Nat) (j:Nat):ps F (j+1+1)*2^64=(F (j+1)*18446744073709551616+F j)*2^(64*(j+1))+ps F j*2^64:=by
 rw [ps,ps,lu j,show (2:Nat)^64=18446744073709551616 from rfl]
 generalize (2:Nat)^(64*j)=P;generalize ps F j=R;generalize F j=y;generalize F (j+1)=x;simp only [Nat.add_mul];have a:x*(18446744073709551616*P)*18446744073709551616=x*18446744073709551616*(18446744073709551616*P):=by rw [Nat.mul_right_comm]
 have b:y*P*18446744073709551616=y*(18446744073709551616*P):=by rw [Nat.mul_assoc,Nat.mul_comm P]
 rw [a,b,Nat.add_assoc,Nat.add_comm,Nat.add_comm (y*_)]
theorem Pk {F:Nat->Nat} (h:pN F) (j:Nat):ps F j*2^64<2^(64*(j+1)):=by
 have a:=ku h j;rw [lu,Nat.mul_comm,show (2:Nat)^64=18446744073709551616 from rfl]
 exact (Nat.mul_lt_mul_left (show 0<18446744073709551616 by decide)).2 a
theorem ET (p:Option Addr) (g c n:Nat) (F:Nat->Nat) (more neg:Bool) (w:World) (ab:0<n) (hp:p=some ⟨g,0,none⟩) (hc:Hid (∀ j,j<n->w.cell? ⟨g,j,none⟩=some (.int .u64 (F j:Nat)))) (S:n<=c) (V:c<=9223372036854775807) (hF:Hid (pN F)) (hn:n<=100000)
  (L:Hid (∀ k,k<=n->Calls Tryz.prog 135 #[.slice p k c] w fun e f=>e=.returned (.bool (decide (ps F k≠0)))/\f=w)) (O:Nat) (l:Hid (aI (sgM neg (mant (ps F n) more)) (ko (ps F n))=O)) :
  Calls Tryz.prog 93 #[.slice p n c,.bool more,.bool neg] w fun e f=>e=.returned (.float .f64 O)/\∃ q,f=w.drewN q:=by
 subst hp
 go_enter Tryz.func93,Tryz.ntmps93
 go_wp2_with fail
 go_loop [7] (fun t=>∃ k:Nat,k<n/\t=.int .i64 k/\Hid (ps F n=ps F (k+1))) (fun t=>(intOf t).toNat)
 case atStart=>exact⟨n - 1,by omega,by congr 1;omega,by show _=_;rw [show n - 1+1=n by omega]⟩
 case round=>
  obtain⟨k,P,rfl,U⟩:=hrel;rw [U.out] at l
  cases k with
  | zero=>
   have G:=hc.out 0 P;have o:F 0<18446744073709551616:=hF.out 0;rw [show ps F (0+1)=F 0 by simp [ps]] at l
   generalize F 0=x at *
   by_cases s:x=0
   ·subst s;have A:=l;have ad:bits .or .u64 0 0=0:=rfl;have al:bits .or .i64 0 1=1:=rfl;have w0:wrap64 0=0:=by unfold wrap64;omega
    have w1:wrap64 (-1)= -1:=by unfold wrap64;omega
    cases more
    all_goals cases neg
    all_goals
     go_wp2_with (go_at_call 136;refine (jJ 0 64 _ (by decide) (by decide) (by show _=_;rfl)).mono ?_;rintro e f ⟨rfl,rfl⟩)
     go_region
     go_wp2_with fail
     refine (ce _ _ _ (by omega) (by omega)).mono ?_
     rintro e f ⟨rfl,q,rfl⟩
     go_wp2_with fail
     go_ret
     refine⟨dX ?_,_,rfl⟩
     rw [<- A.out]
     rfl
   ·obtain⟨H,h⟩:∃ H,H=63 - x.log2:=⟨_,rfl⟩;obtain⟨a,b,u,m,r,z,C,d⟩:=xS s o (show 0<18446744073709551616 by decide) h
    have D:=hideS (xT (T:=0) (R:=0) (M:=x) (more:=more) (neg:=neg) d s o h (by simp) (by simp) (by decide))
    have B:=hideS (Bm x H w s o h);have h1:=d.f1;have W:=d.f3;have u0:=d.u0;have Z:=d.u1;have m0:=d.m0;have X:=d.m2;have fm:=d.fm;have fr:=d.fr;have fo:=d.fo;have wm:wrap64 m=m:=by unfold wrap64;omega
    have wn:wrap64 (-m)= -m:=by unfold wrap64;omega
    have m3:0<=C/\C<4611686018427387905:=by rw [d.oo];split<;>omega
    have wo:wrap64 (-C)= -C:=by unfold wrap64;omega
    have Q:=d.lds;have hb:b=0:=by rw [<- d.f2];simp
    have hz:z=0:=by rw [d.zz];simp
    subst hb hz;clear d s h;have A:=l
    go_wp2_with (go_at_call 136;refine B.out.mono ?_;rintro e f ⟨rfl,rfl⟩)
    go_region
    cases more
    ·by_cases v:r=0
     ·subst v;cases neg
      all_goals
       go_wp2_with fail
       refine (ce _ _ _ (by omega) (by omega)).mono ?_
       rintro e f ⟨rfl,q,rfl⟩
       go_wp2_with fail
       go_ret
       refine⟨dX ?_,_,rfl⟩
       rw [<- A.out,D.out];simp
       try omega
     ·cases neg
      all_goals
       go_wp2_with fail
       refine (ce _ _ _ (by omega) (by omega)).mono ?_
       rintro e f ⟨rfl,q,rfl⟩
       go_wp2_with fail
       go_ret
       refine⟨dX ?_,_,rfl⟩
       rw [<- A.out,D.out];simp [v]
       try omega
    ·cases neg
     all_goals
      go_wp2_with fail
      refine (ce _ _ _ (by omega) (by omega)).mono ?_
      rintro e f ⟨rfl,q,rfl⟩
      go_wp2_with fail
      go_ret
      refine⟨dX ?_,_,rfl⟩
      rw [<- A.out,D.out];simp
      try omega
  | succ j=>
   by_cases s:F (j+1)=0
   ·have G:=hc.out (j+1) P;rw [s] at G
    have HN:Hid (ps F n=ps F (j+1)):=by show _=_;rw [U.out,ps,s];simp
    clear s
    go_wp2_with fail
    go_round
    case rel=>exact⟨j,by omega,by simp,HN⟩
    case measure=>simp [intOf]
   ·have G:=hc.out (j+1) P;have ai:=hc.out j (by omega)
    have o:F (j+1)<18446744073709551616:=hF.out _;have E:F j<18446744073709551616:=hF.out _;have N:=ES F j;have J:=Pk hF.out j;have i:=hideS (L.out j (by omega))
    generalize F (j+1)=x at *
    generalize F j=y at *
    obtain⟨H,h⟩:∃ H,H=63 - x.log2:=⟨_,rfl⟩;obtain⟨a,b,u,m,r,z,C,d⟩:=xS s o E h;have D:=hideS (xT (more:=more) (neg:=neg) d s o h N J E);have B:=hideS (Bm x H w s o h);have h1:=d.f1;have h2:=d.f2;have W:=d.f3;have u0:=d.u0;have Z:=d.u1;have m0:=d.m0;have X:=d.m2;have fm:=d.fm;have fr:=d.fr;have fz:=d.fz;have fo:=d.fo;have wm:wrap64 m=m:=by unfold wrap64;omega
    have wn:wrap64 (-m)= -m:=by unfold wrap64;omega
    have m3:0<=C/\C<4611686018427387905:=by rw [d.oo];split<;>omega
    have wo:wrap64 (-C)= -C:=by unfold wrap64;omega
    have Q:=d.lds;have Y:¬ ((x:Int)=0):=by omega
    clear d s h N J E;have A:=l;generalize ps F (j+1+1)=M at *
    generalize ps F j=R at *
    cases more
    ·by_cases I:R=0
     ·subst I;rw [show decide ((0:Nat)≠0)=false from rfl] at i
      go_wp2_with (first | (go_at_call 135;refine i.out.mono ?_;rintro e f ⟨rfl,rfl⟩) | (go_at_call 136;refine B.out.mono ?_;rintro e f ⟨rfl,rfl⟩))
      go_region
      by_cases v:r=0
      ·subst v
       by_cases K:z=0
       ·subst K;cases neg
        all_goals
         go_wp2_with fail
         refine (ce _ _ _ (by omega) (by omega)).mono ?_
         rintro e f ⟨rfl,q,rfl⟩
         go_wp2_with fail
         go_ret
         refine⟨dX ?_,_,rfl⟩
         rw [<- A.out,D.out];simp
         try (congr 1;omega)
       ·cases neg
        all_goals
         go_wp2_with fail
         refine (ce _ _ _ (by omega) (by omega)).mono ?_
         rintro e f ⟨rfl,q,rfl⟩
         go_wp2_with fail
         go_ret
         refine⟨dX ?_,_,rfl⟩
         rw [<- A.out,D.out];simp [K]
         try (congr 1;omega)
      ·cases neg
       all_goals
        go_wp2_with fail
        refine (ce _ _ _ (by omega) (by omega)).mono ?_
        rintro e f ⟨rfl,q,rfl⟩
        go_wp2_with fail
        go_ret
        refine⟨dX ?_,_,rfl⟩
        rw [<- A.out,D.out];simp [v]
        try (congr 1;omega)
     ·rw [show decide (R≠0)=true by simpa using I] at i
      go_wp2_with (first | (go_at_call 135;refine i.out.mono ?_;rintro e f ⟨rfl,rfl⟩) | (go_at_call 136;refine B.out.mono ?_;rintro e f ⟨rfl,rfl⟩))
      go_region
      cases neg
      all_goals
       go_wp2_with fail
       refine (ce _ _ _ (by omega) (by omega)).mono ?_
       rintro e f ⟨rfl,q,rfl⟩
       go_wp2_with fail
       go_ret
       refine⟨dX ?_,_,rfl⟩
       rw [<- A.out,D.out];simp [I]
       try (congr 1;omega)
    ·clear i
     go_wp2_with (go_at_call 136;refine B.out.mono ?_;rintro e f ⟨rfl,rfl⟩)
     go_region
     cases neg
     all_goals
      go_wp2_with fail
      refine (ce _ _ _ (by omega) (by omega)).mono ?_
      rintro e f ⟨rfl,q,rfl⟩
      go_wp2_with fail
      go_ret
      refine⟨dX ?_,_,rfl⟩
      rw [<- A.out,D.out];simp
      try (congr 1;omega)
structure St where
 s:Nat
 N:Int
def mt (s t:Nat):Nat:=if s=t\/t=0 then s else if s=0 then t else 3
def St.merge (a b:St):St:=⟨mt a.s b.s,if mt a.s b.s=0 then a.N+b.N else 0⟩
def endN (u:Int):Nat:=if ah u then 3 else if sgB u then 2 else 1
def nN (u:Int):Int:=az u*2^(aP u+2148).toNat
def dI (u:Int):St:=if ay u then ⟨0,nN u⟩ else ⟨endN u,0⟩
def fR (u v:Int):St:=⟨0,az u*az v*2^(aP u+aP v+2148).toNat⟩
structure St.Ok (a:St):Prop where
 s3:a.s<=3
 n0:a.s≠0->a.N=0
structure AccAt (w:World) (B b:Nat) (v:Value) (L:Nat) (a:St):Prop where
 blk:w.heap[b]? =some (.cells #[.int .u8 (a.s:Int),v] 135 (0,0))
 lo:B<=b
 own:∃ xs,OwnW w B v xs/\xs.length<=L/\Sg xs a.N
 ne:v.ownBlock≠some b
 ok:a.Ok
def Ft (b:Nat) (v:Value) (k:Nat):Prop:=k=b\/At v k
theorem AccAt.lt {w:World} {B b:Nat} {v:Value} {L:Nat} {a:St} (h:AccAt w B b v L a):b<w.heap.size:=(Array.getElem?_eq_some_iff.1 h.blk).1
theorem AccAt.base {w:World} {B b:Nat} {v:Value} {L:Nat} {a:St} (h:AccAt w B b v L a):∀ k,Ft b v k->B<=k/\k<w.heap.size:=by
 rintro k (rfl | d)
 ·exact⟨h.lo,h.lt⟩
 ·obtain⟨e,c,_⟩:=h.own;exact c.lt k d
theorem AccAt.wrote {w c:World} {B b:Nat} {v:Value} {L:Nat} {a:St} {F:Nat->Prop} (h:AccAt w B b v L a) (d:Wrote w c F) (hF:∀ k,Ft b v k->¬ F k):AccAt c B b v L a:=by
 obtain⟨e,f,i,g⟩:=h.own;exact⟨(d.block b h.lt (hF b (Or.inl rfl))).trans h.blk,h.lo,⟨e,f.wrote d (fun k j=>hF k (Or.inr j)),i,g⟩,h.ne,h.ok⟩
theorem AccAt.below {w c:World} {B b:Nat} {v:Value} {L:Nat} {a:St} (h:AccAt w B b v L a) (e:Below w.heap.size w c):AccAt c B b v L a:=
 h.wrote (F:=fun _=>False) (xN e) (fun _ _ d=>d)
theorem AccAt.drewN {w:World} {B b:Nat} {v:Value} {L:Nat} {a:St} (h:AccAt w B b v L a) (n:Nat):AccAt (w.drewN n) B b v L a:=by
 obtain⟨c,d,f,e⟩:=h.own;exact⟨h.blk,h.lo,⟨c,d.drewN n,f,e⟩,h.ne,h.ok⟩
theorem AccAt.mono {w:World} {B b:Nat} {v:Value} {L L':Nat} {a:St} (h:AccAt w B b v L a) (g:L<=L'):AccAt w B b v L' a:=by
 obtain⟨c,d,f,e⟩:=h.own;exact⟨h.blk,h.lo,⟨c,d,by omega,e⟩,h.ne,h.ok⟩
theorem AccAt.cell0 {w:World} {B b:Nat} {v:Value} {L:Nat} {a:St} (h:AccAt w B b v L a):w.cell? ⟨b,0,none⟩=some (.int .u8 (a.s:Int)):=by simp [World.cell?,h.blk]
theorem AccAt.cell1 {w:World} {B b:Nat} {v:Value} {L:Nat} {a:St} (h:AccAt w B b v L a):w.cell? ⟨b,1,none⟩=some v:=by simp [World.cell?,h.blk]
theorem AccAt.frozen {w:World} {B b:Nat} {v:Value} {L:Nat} {a:St} (h:AccAt w B b v L a) (i:Nat):w.frozen? ⟨b,i,none⟩=false:=by simp [World.frozen?,h.blk]
theorem AccAt.stored {w w1:World} {B b:Nat} {v c:Value} {L L':Nat} {a:St} {i:List Nat} {M:Int} (h:AccAt w B b v L a) (m:Wrote w w1 (At v)) (q:OwnW w1 B c i) (p:i.length<=L') (n:Sg i M) (hn:New w v c) (j:a.s≠0->M=0) :
  AccAt (w1.setCell ⟨b,1,none⟩ c) B b c L' ⟨a.s,M⟩ /\Wrote w (w1.setCell ⟨b,1,none⟩ c) (Ft b v):=by
 have g:c.ownBlock≠some b:=fun e=>by
  rcases hn b e with l | l
  ·exact h.ne l
  ·have:=h.lt;omega
 have o:w1.heap[b]? =some (.cells #[.int .u8 (a.s:Int),v] 135 (0,0)):=(m.block b h.lt (fun e=>h.ne e)).trans h.blk
 have d:Wrote w1 (w1.setCell ⟨b,1,none⟩ c) (fun k=>k=b):=⟨rfl,rfl,rfl,by simp,fun k _ f=>Below.heap_setCell w1 ⟨b,1,none⟩ c k f⟩
 refine⟨⟨?_,h.lo,⟨i,q.wrote d (fun k f e=>g (by rw [<- e];exact f)),p,n⟩,g,⟨h.ok.s3,j⟩⟩,?_⟩
 ·rw [heap_setCell_same w1 b 1 _ _ c o];rfl
 ·exact (m.mono (fun k f=>Or.inr f)).trans d (fun k _ f=>Or.inl f)
theorem AccAt.wroteAt {w w1:World} {B b:Nat} {v:Value} {L:Nat} {a:St} (h:AccAt w B b v L a) (d:Wrote w w1 (At v)):w1.cell? ⟨b,1,none⟩=some v/\w1.frozen? ⟨b,1,none⟩=false:=by
 have c:w1.heap[b]? =some (.cells #[.int .u8 (a.s:Int),v] 135 (0,0)):=(d.block b h.lt (fun e=>h.ne e)).trans h.blk
 exact⟨by simp [World.cell?,c],by simp [World.frozen?,c]⟩
theorem IR (u:Int):ah u=true↔9218868437227405312<szI u:=by simp [ah]
theorem IS (u:Int):ah u=false↔szI u<=9218868437227405312:=by simp [ah]
theorem OD {s t:Nat} (b:s<=3) (a:t<=3):mt s t<=3:=by unfold mt;split<;>(try split)<;>omega
theorem Bn (s t:Nat) (w:World) (b:s<=3) (c:t<=3) :
  Calls Tryz.prog 180 #[.int .u8 (s:Int),.int .u8 (t:Int)] w fun e a=>e=.returned (.int .u8 (mt s t:Nat))/\a=w:=by
 rcases (show s=0\/s=1\/s=2\/s=3 by omega) with rfl | rfl | rfl | rfl
 all_goals rcases (show t=0\/t=1\/t=2\/t=3 by omega) with rfl | rfl | rfl | rfl
 all_goals
  go_enter Tryz.func180,Tryz.ntmps180
  go_wp2
  go_ret
  exact⟨rfl,rfl⟩
theorem EU (b:Nat) (u:Int) (w:World) (k:Hid (u=b)) (h:U64 u) (f:ay u=false) :
  Calls Tryz.prog 163 #[.float .f64 b] w fun e l=>e=.returned (.int .u8 (endN u:Nat))/\l=w:=by
 have n:=hideS (fun w=>Hc b u w k h)
 have i:=hideS (fun w=>uL b w (by rw [<- k.out];exact h))
 rw [<- k.out] at i
 have j:9218868437227405312<=szI u:=by simp only [ay,decide_eq_false_iff_not] at f;omega
 have d:=hideS (show endN u=if ah u then 3 else if sgB u then 2 else 1 from rfl)
 cases c:ah u
 ·have m:uJ u=4:=by
   have:=(IS u).1 c;rcases cls_cases u with⟨a,_⟩| ⟨a,_⟩| ⟨a,_⟩| ⟨_,a⟩| ⟨a,_⟩
   ·omega
   ·omega
   ·omega
   ·exact a
   ·omega
  rw [m] at n
  rw [c] at i d
  cases g:sgB u
  ·rw [g] at i d
   rw [d.out];clear k h f j m c g d
   go_enter Tryz.func163,Tryz.ntmps163
   go_wp2_with (first | (go_at_call 181;refine (n.out _).mono ?_;rintro e l ⟨rfl,rfl⟩) | (go_at_call 182;refine (i.out _).mono ?_;rintro e l ⟨rfl,rfl⟩))
   go_ret
   exact⟨rfl,rfl⟩
  ·rw [g] at i d
   rw [d.out];clear k h f j m c g d
   go_enter Tryz.func163,Tryz.ntmps163
   go_wp2_with (first | (go_at_call 181;refine (n.out _).mono ?_;rintro e l ⟨rfl,rfl⟩) | (go_at_call 182;refine (i.out _).mono ?_;rintro e l ⟨rfl,rfl⟩))
   go_ret
   exact⟨rfl,rfl⟩
 ·have m:uJ u=5:=by
   have:=(IR u).1 c;rcases cls_cases u with⟨a,_⟩| ⟨a,_⟩| ⟨a,_⟩| ⟨a,_⟩| ⟨_,a⟩
   ·omega
   ·omega
   ·omega
   ·omega
   ·exact a
  rw [m] at n
  rw [c] at d
  rw [d.out];clear k h f j m c d i
  go_enter Tryz.func163,Tryz.ntmps163
  go_wp2_with (go_at_call 181;refine (n.out _).mono ?_;rintro e l ⟨rfl,rfl⟩)
  go_ret
  exact⟨rfl,rfl⟩
theorem kN (m:Int) (w:World) (d: -9007199254740992<=m) (f:m<=9007199254740992) :
  Calls Tryz.prog 130 #[.int .i64 m] w fun e c=>e=.returned (.int .u64 (m.natAbs:Nat))/\c=w:=by
 obtain⟨k,b⟩:∃ k:Nat,m.natAbs=k:=⟨_,rfl⟩;rw [b];have a:max m (-m)=(k:Int):=by omega
 have g:IntKind.u64.wrap (k:Int)=(k:Int):=by rw [IntKind.wrap_u64];omega
 clear b
 go_enter Tryz.func130,Tryz.ntmps130
 go_wp2
 go_ret
 exact⟨rfl,rfl⟩
structure Did (w w':World) (B b:Nat) (v:Value) (L:Nat) (a:St) (v':Value):Prop where
 acc:AccAt w' B b v' L a
 wrote:Wrote w w' (Ft b v)
 new:New w v v'
theorem or_zero {hi lo:Nat}:hi||| lo=0↔hi=0/\lo=0:=Nat.or_eq_zero_iff
theorem QI {w:World} {B b:Nat} {v:Value} {L:Nat} {a:St} (h:AccAt w B b v L a) (c:a.s=0):AccAt w B b v L ⟨0,a.N⟩:=by
 obtain⟨s,N⟩:=a;dsimp only at c
 subst c;exact h
theorem Dq (B b:Nat) (v:Value) (L:Nat) (a:St) (hi lo j:Nat) (e:Int) (c:Bool) (w:World) (h:AccAt w B b v L a) (K:B<=w.heap.size) (r:hi<4398046511104) (i:lo<18446744073709551616) (Y:e+2148=(j:Int)) (O:j<=4300) (W:L<=40000) :
  Calls Tryz.prog 131 #[.pointer (some ⟨b,0,none⟩),.int .u64 (hi:Int),.int .u64 (lo:Int),.int .i64 e,.bool c] w fun x P=>x=.returned (.tuple #[])/\∃ F,Did w P B b v (max L 70+1) ⟨a.s,if a.s=0 then a.N+sI c*(((hi*18446744073709551616+lo)*2^j:Nat):Int) else a.N⟩ F:=by
 have g:=hideS h;have c0:=h.cell0;have c1:=h.cell1;have f:=bits_or_u64_nat hi lo (by omega) i
 obtain⟨H,m,z,n⟩:=h.own;have k:=hideS (IQ B v H a.N hi lo j c w m n r i (by omega) (by omega) K)
 have S:=hideS (And.intro m (And.intro z n));clear h m z n
 by_cases d:a.s=0
 ·rw [if_pos d,d];rw [d] at c0
  by_cases u:hi||| lo=0
  ·obtain⟨rfl,rfl⟩:=or_zero.1 u;have D:bits .or .u64 0 0=0:=rfl;clear f
   go_enter Tryz.func131,Tryz.ntmps131
   go_wp2
   go_end0
   refine⟨rfl,v,?_,Wrote.refl _ _,New.refl _ _⟩
   have:=g.out.mono (L':=max L 70+1) (by omega)
   simpa [d] using QI this d
  ·obtain⟨q,y⟩:∃ q:Int,((hi||| lo:Nat):Int)=q:=⟨_,rfl⟩
   rw [y] at f
   have I:(q !=0)=true:=by simp;omega
   clear u y
   go_enter Tryz.func131,Tryz.ntmps131
   go_wp2_with fail
   refine k.out.mono ?_
   rintro x X ⟨V,T,rfl,l,M,A,p,o⟩;obtain⟨U,g1,J,rfl,_⟩:=l.shape;obtain⟨Z,fz⟩:=g.out.wroteAt p;have R:=hideS (g.out.stored p l (L':=max L 70+1) (by have:=S.out.2.1;omega) A o (fun h=>absurd d h))
   have G:=hideS o;clear l M A p o k
   go_wp2_with fail
   go_end0
   refine⟨rfl,_,?_,R.out.2,G.out⟩
   rw [d] at R
   exact R.out.1
 ·rw [if_neg d];have Q:=g.out.ok.s3;obtain⟨t,C⟩:∃ t:Int,((a.s:Nat):Int)=t:=⟨_,rfl⟩;rw [C] at c0
  have E:(t==0)=false:=by simp;omega
  clear C f k
  go_enter Tryz.func131,Tryz.ntmps131
  go_wp2_with fail
  go_end0
  exact⟨rfl,v,g.out.mono (by omega),Wrote.refl _ _,New.refl _ _⟩
theorem AccAt.setState {w:World} {B b:Nat} {v:Value} {L:Nat} {a:St} (h:AccAt w B b v L a) (t:Nat) (m:t<=3) (i:t≠0->a.N=0) :
  AccAt (w.setCell ⟨b,0,none⟩ (.int .u8 (t:Int))) B b v L ⟨t,a.N⟩ /\Wrote w (w.setCell ⟨b,0,none⟩ (.int .u8 (t:Int))) (fun k=>k=b):=by
 have c:Wrote w (w.setCell ⟨b,0,none⟩ (.int .u8 (t:Int))) (fun k=>k=b):=⟨rfl,rfl,rfl,by simp,fun k _ d=>Below.heap_setCell w ⟨b,0,none⟩ _ k d⟩
 obtain⟨f,g,l,j⟩:=h.own;refine⟨⟨?_,h.lo,⟨f,g.wrote c (fun k d e=>h.ne (by rw [<- e];exact d)),l,j⟩,h.ne,⟨m,i⟩⟩,c⟩
 rw [heap_setCell_same w b 0 _ _ _ h.blk];rfl
theorem AccAt.setNil {w:World} {B b:Nat} {v:Value} {L:Nat} {a:St} {t:Nat} (h:AccAt w B b v L a) (j:t<=3) (d:∀ g,g=w.setCell ⟨b,0,none⟩ (.int .u8 (t:Int))->True) :
  AccAt ((w.setCell ⟨b,0,none⟩ (.int .u8 (t:Int))).setCell ⟨b,1,none⟩ (.slice none 0 0)) B b (.slice none 0 0) L ⟨t,0⟩ /\Wrote w ((w.setCell ⟨b,0,none⟩ (.int .u8 (t:Int))).setCell ⟨b,1,none⟩ (.slice none 0 0)) (fun k=>k=b):=by
 have:=d _ rfl;have l:=heap_setCell_same w b 0 _ _ (.int .u8 (t:Int)) h.blk;have c:Wrote w ((w.setCell ⟨b,0,none⟩ (.int .u8 (t:Int))).setCell ⟨b,1,none⟩ (.slice none 0 0)) (fun k=>k=b):=
  ⟨rfl,rfl,rfl,by simp,fun k _ f=>(Below.heap_setCell _ ⟨b,1,none⟩ _ k f).trans (Below.heap_setCell w ⟨b,0,none⟩ _ k f)⟩
 refine⟨⟨?_,h.lo,⟨[],⟨World.ownsRow_nil _ _ _ _,fun i=>by simp⟩,Nat.zero_le _,Io⟩,fun e=>(by cases e),⟨j,fun _=>rfl⟩⟩,c⟩
 rw [heap_setCell_same _ b 1 _ _ _ l];rfl
theorem IT (B b:Nat) (v:Value) (L:Nat) (a:St) (t:Nat) (w:World) (h:AccAt w B b v L a) (A:t<=3) :
  Calls Tryz.prog 162 #[.pointer (some ⟨b,0,none⟩),.int .u8 (t:Int)] w fun x o=>x=.returned (.tuple #[])/\∃ p,Did w o B b v L ⟨mt a.s t,if mt a.s t=0 then a.N else 0⟩ p/\(mt a.s t=0->p=v):=by
 have G:=hideS h;have c0:=h.cell0;have c1:=h.cell1;have I:=h.frozen 0;have H:=h.frozen 1;have c:=h.ok.s3;have i:=hideS (fun w=>Bn a.s t w c A)
 have d:=OD c A;have u:=hideS h.blk
 by_cases g:mt a.s t=0
 ·rw [if_pos g,g];have f:=hideS (h.setState 0 (by omega) (fun h=>absurd rfl h))
  rw [g] at i
  have y:(w.setCell ⟨b,0,none⟩ (.int .u8 0)).cell? ⟨b,0,none⟩=some (.int .u8 0):=f.out.1.cell0;clear h c d u;generalize (a.s:Int)=q at c0 i
  go_enter Tryz.func162,Tryz.ntmps162
  go_wp2_with (go_at_call 180;refine (turned (i.out _)).mono ?_;rintro e o ⟨rfl,rfl⟩)
  go_end0
  exact⟨rfl,v,⟨f.out.1,f.out.2.mono (fun k m=>Or.inl m),New.refl _ _⟩,fun _=>rfl⟩
 ·rw [if_neg g];have f:=hideS (h.setNil d (fun _ _=>trivial))
  have l:Hid ((w.setCell ⟨b,0,none⟩ (.int .u8 (mt a.s t:Nat))).cell? ⟨b,0,none⟩=some (.int .u8 (mt a.s t:Nat))/\(w.setCell ⟨b,0,none⟩ (.int .u8 (mt a.s t:Nat))).cell? ⟨b,1,none⟩=some v/\(w.setCell ⟨b,0,none⟩ (.int .u8 (mt a.s t:Nat))).frozen? ⟨b,1,none⟩=false):=by
   have n:=heap_setCell_same w b 0 _ _ (.int .u8 (mt a.s t:Nat)) h.blk;exact⟨by simp [World.cell?,n],by simp [World.cell?,n],by simp [World.frozen?,n]⟩
  obtain⟨y,F,E⟩:=l.out;have j:¬ ((mt a.s t:Nat):Int)=0:=by omega
  clear h c d u l;have D:=hideS g;clear g;generalize (a.s:Int)=q at c0 i
  obtain⟨r,z⟩:∃ r:Int,((mt a.s t:Nat):Int)=r:=⟨_,rfl⟩;have C:(r !=0)=true:=by rw [<- z];simpa using j
  rw [z] at i f y F E
  clear j
  go_enter Tryz.func162,Tryz.ntmps162
  go_wp2_with (go_at_call 180;refine (turned (i.out _)).mono ?_;rintro e o ⟨rfl,rfl⟩)
  go_end0
  exact⟨rfl,.slice none 0 0,⟨f.out.1,f.out.2.mono (fun k m=>Or.inl m),fun k m=>by cases m⟩,fun e=>absurd e D.out⟩
end Go.Proofs.YtfdddijdjpijbaaGreat.A
