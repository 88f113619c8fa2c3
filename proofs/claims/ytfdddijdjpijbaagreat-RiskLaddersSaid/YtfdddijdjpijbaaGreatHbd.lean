/-  -/
import Derived.Test.YtfdddijdjpijbaaGreatHav
import Derived.Deep.RegionLaw
import Derived.Deep.RegionHeld3
import Derived.OwnWalk
import Derived.Laws.MakeOwn
set_option maxHeartbeats 3200000
set_option maxRecDepth 20000
namespace Go.Proofs.YtfdddijdjpijbaaGreat
open Go.RowKit
theorem fI {i:Array Oper} {o:Oper} {a:Act} {w:World} {K:Act->World->Prop} {Q:Exit->Act->World->Prop} {E:Prop} (q:o.guard=none) (s x:Operand)
  (J:o.op=.call { callee:=.builtin .append,args:=#[s,x],argTypes:=#[23,23] })
  (base:Nat) (v:Value) (n:Nat) (xs:List Int) (G:a.eval s=v) (e:w.ownsRow base 3 1 v n (xs.map kV))
  (b off c m:Nat) (ys:List Int) (C:a.eval x=.slice (some ⟨b,off,none⟩) m c) (L:ys.length=m) (g:∀ j<m,w.cell? ⟨b,off+j,none⟩=some (xV ys j)) (hn:n<=100000) (H:m<=100000) (d:base<=w.heap.size)
  (h:∀ l k,k.ownsRow base 3 1 l (n+m) ((xs++ys).map kV)->w.grownBy k v.ownBlock->K (a.put o.dst l) k) :
  if Region.wanted o (yielded i a.tmps)=true then Oper.wp Tryz.prog o a w K Q else E:=by
 have D:Region.wanted o (yielded i a.tmps)=true:=by simp [Region.wanted,q]
 rw [if_pos D];obtain⟨I,hi,y,t,A⟩:=info_parts iI;refine wp_append_own w s x 23 J base 3 I (.int .i64 0) 1 8 Tryz.underlying23 hi y t A rfl (by decide) v n (xs.map kV) G e ⟨b,off,none⟩ m c (ys.map kV) C (by rw [List.length_map,L,Nat.mul_one]) ?_ (fun u r=>by obtain⟨z,_,rfl⟩:=List.mem_map.1 r;rfl) (by unfold maxLen;omega) (by omega) d ?_
 ·intro j u p;have f:j<ys.length:=by
   have:=(List.getElem?_eq_some_iff.1 p).1
   simpa using this
  rw [Addr.add_lit,g j (by omega)]
  rw [List.getElem?_map,List.getElem?_eq_getElem f] at p
  have r:kV ys[j]=u:=Option.some.inj p;rw [<- r]
  show some (Value.int .i64 (ys.getD j 0))=_
  rw [List.getD_eq_getElem?_getD,List.getElem?_eq_getElem f];rfl
 ·intro l k F B _;refine h l k ?_ B
  rw [List.map_append];exact F
theorem qP {i:Array Oper} {o:Oper} {a:Act} {w:World} {K:Act->World->Prop} {Q:Exit->Act->World->Prop} {E:Prop} (q:o.guard=none) (s x:Operand)
  (J:o.op=.call { callee:=.builtin .append,args:=#[s,x],argTypes:=#[24,24] })
  (base:Nat) (v:Value) (n:Nat) (xs:List Nat) (G:a.eval s=v) (e:w.ownsRow base 27 1 v n (xs.map fV))
  (b off c m:Nat) (ys:List Nat) (C:a.eval x=.slice (some ⟨b,off,none⟩) m c) (L:ys.length=m) (g:∀ j<m,w.cell? ⟨b,off+j,none⟩=some (flV ys j)) (hn:n<=100000) (H:m<=100000) (d:base<=w.heap.size)
  (h:∀ l k,k.ownsRow base 27 1 l (n+m) ((xs++ys).map fV)->w.grownBy k v.ownBlock->K (a.put o.dst l) k) :
  if Region.wanted o (yielded i a.tmps)=true then Oper.wp Tryz.prog o a w K Q else E:=by
 have D:Region.wanted o (yielded i a.tmps)=true:=by simp [Region.wanted,q]
 rw [if_pos D];obtain⟨I,hi,y,t,A⟩:=info_parts jo;refine wp_append_own w s x 24 J base 27 I (.float .f64 0) 1 8 Tryz.underlying24 hi y t A rfl (by decide) v n (xs.map fV) G e ⟨b,off,none⟩ m c (ys.map fV) C (by rw [List.length_map,L,Nat.mul_one]) ?_ (fun u r=>by obtain⟨z,_,rfl⟩:=List.mem_map.1 r;rfl) (by unfold maxLen;omega) (by omega) d ?_
 ·intro j u p;have f:j<ys.length:=by
   have:=(List.getElem?_eq_some_iff.1 p).1
   simpa using this
  rw [Addr.add_lit,g j (by omega)]
  rw [List.getElem?_map,List.getElem?_eq_getElem f] at p
  have r:fV ys[j]=u:=Option.some.inj p;rw [<- r]
  show some (Value.float .f64 (ys.getD j 0))=_
  rw [List.getD_eq_getElem?_getD,List.getElem?_eq_getElem f];rfl
 ·intro l k F B _;refine h l k ?_ B
  rw [List.map_append];exact F
theorem qQ {t:TypeId} (w:World) (z:Array Value) (N base:Nat) (a:base<=w.heap.size) (b:N<=1000):(w.alloc (.cells (madeCells z N) t)).ownsRow base t 1 (.slice (some ⟨w.heap.size,0,none⟩) 0 N) 0 []:=
 ⟨rfl,.inr ⟨w.heap.size,N,madeCells z N,rfl,a,heap_alloc_new w _,Nat.zero_le _,by unfold maxLen;omega,by rw [size_madeCells,Nat.mul_one],by simp⟩⟩
theorem vJ {t p:TypeId} {w:World} {b b' n m g o c c':Nat} {xs ys:List Value} (h:w.ownsRow b t 1 (.slice (some ⟨g,0,none⟩) n c) n xs) (y:w.ownsRow b' p 1 (.slice (some ⟨o,0,none⟩) m c') m ys) (x:t≠p):g≠o:=by
 rcases h.2 with⟨e,_⟩| ⟨k,r,u,e,A,f,_⟩
 ·cases e
 ·rcases y.2 with⟨j,_⟩| ⟨z,l,q,j,s,a,_⟩
  ·cases j
  ·injection e with i _ _;injection i with i;injection i with i;injection j with d _ _;injection d with d;injection d with d;intro c;rw [<- i] at f
   rw [<- d,<- c,f] at a
   injection a with a;injection a with _ v;exact x v
theorem yT {t:TypeId} {w l:World} {base n g c k:Nat} {xs:List Value} (h:w.ownsRow base t 1 (.slice (some ⟨g,0,none⟩) n c) n xs) (o:w.grownBy l (some k)) (i:g≠k):l.ownsRow base t 1 (.slice (some ⟨g,0,none⟩) n c) n xs:=by
 refine⟨h.1,?_⟩
 rcases h.2 with⟨e,_⟩| ⟨j,d,f,e,m,a,rest⟩
 ·cases e
 ·have p:=e;injection e with b _ _;injection b with b;injection b with b;subst b;exact .inr ⟨g,d,f,p,m,by rw [o.block g (Array.getElem?_eq_some_iff.1 a).1 (by intro c;injection c with c;exact i c)];exact a,rest⟩
theorem FB (N:Nat) (e:N<=1000):∃ z,∀ w:World,(Instr.makeSlice 23 (.int .i64 0) (.int .i64 (N:Int))).run Tryz.prog w=.ok (.slice (some ⟨w.heap.size,0,none⟩) 0 N) (w.alloc (.cells (madeCells z N) 3)):=by
 obtain⟨d,hi,b,a,c⟩:=info_parts iI;refine⟨(Value.int .i64 0).cells,fun w=>?_⟩
 have:=run_make (P:=Tryz.prog) w 23 3 d _ Tryz.underlying23 hi b .i64 .i64 0 (N:Int) (by omega) (by omega) (by rw [c];omega) (by omega)
 rw [a,Nat.mul_one,Int.toNat_natCast] at this
 exact this
theorem FC (N:Nat) (e:N<=1000):∃ z,∀ w:World,(Instr.makeSlice 24 (.int .i64 0) (.int .i64 (N:Int))).run Tryz.prog w=.ok (.slice (some ⟨w.heap.size,0,none⟩) 0 N) (w.alloc (.cells (madeCells z N) 27)):=by
 obtain⟨d,hi,b,a,c⟩:=info_parts jo;refine⟨(Value.float .f64 0).cells,fun w=>?_⟩
 have:=run_make (P:=Tryz.prog) w 24 27 d _ Tryz.underlying24 hi b .i64 .i64 0 (N:Int) (by omega) (by omega) (by rw [c];omega) (by omega)
 rw [a,Nat.mul_one,Int.toNat_natCast] at this
 exact this
structure TbP (w:World) (base kind:Int) (vd vf:Value) (wr:World):Prop where
 t0:wr.cell? ⟨w.heap.size,0,none⟩=some (.int .i64 base)
 t1:wr.cell? ⟨w.heap.size,1,none⟩=some (.int .i64 kind)
 t2:wr.cell? ⟨w.heap.size,2,none⟩=some vd
 t3:wr.cell? ⟨w.heap.size,3,none⟩=some vf
 d0:wr.cell? ⟨w.heap.size+1,0,none⟩=some (.int .i64 0)
 d1:wr.cell? ⟨w.heap.size+1,1,none⟩=some (.slice none 0 0)
 d2:wr.cell? ⟨w.heap.size+1,2,none⟩=some (.slice none 0 0)
 e0:wr.frozen? ⟨w.heap.size+1,0,none⟩=false
 e1:wr.frozen? ⟨w.heap.size+1,1,none⟩=false
 e2:wr.frozen? ⟨w.heap.size+1,2,none⟩=false
 bl:Below w.heap.size w wr
 sz:w.heap.size+2<=wr.heap.size
theorem TbP.stay {w wr a:World} {base kind:Int} {e d:Value} (h:TbP w base kind e d wr) (b:Below (w.heap.size+2) wr a):TbP w base kind e d a:=by
 have c:∀ k<2,∀ j,a.cell? ⟨w.heap.size+k,j,none⟩=wr.cell? ⟨w.heap.size+k,j,none⟩:=fun k f j=>b.cell (p:=⟨w.heap.size+k,j,none⟩) (by show w.heap.size+k<_;omega)
 have g:∀ k<2,∀ j,a.frozen? ⟨w.heap.size+k,j,none⟩=wr.frozen? ⟨w.heap.size+k,j,none⟩:=fun k f j=>b.frozen (p:=⟨w.heap.size+k,j,none⟩) (by show w.heap.size+k<_;omega)
 exact⟨(c 0 (by omega) 0).trans h.t0,(c 0 (by omega) 1).trans h.t1,(c 0 (by omega) 2).trans h.t2,(c 0 (by omega) 3).trans h.t3,(c 1 (by omega) 0).trans h.d0,(c 1 (by omega) 1).trans h.d1,(c 1 (by omega) 2).trans h.d2,(g 1 (by omega) 0).trans h.e0,(g 1 (by omega) 1).trans h.e1,(g 1 (by omega) 2).trans h.e2,h.bl.trans (b.mono (by omega)),Nat.le_trans h.sz b.size⟩
theorem Pv (w:World) (base kind:Int) (e d:Value):TbP w base kind e d ((w.alloc (.cells #[.int .i64 base,.int .i64 kind,e,d] 26)).alloc (.cells #[.int .i64 0,.slice none 0 0,.slice none 0 0] 195)):=by
 have g:∀ (w:World) o,Below w.heap.size w (w.alloc o):=fun w o=>(Below.refl _ _).alloc (Nat.le_refl _) _
 generalize b:w.alloc (.cells #[.int .i64 base,.int .i64 kind,e,d] 26)=a;have h:a.heap.size=w.heap.size+1:=by rw [<- b];simp
 have c1:∀ j,a.cell? ⟨w.heap.size,j,none⟩=(#[.int .i64 base,.int .i64 kind,e,d]:Array Value)[j]? :=fun j=>by rw [<- b];exact cP w _ _ j
 have c2:∀ j,(a.alloc (.cells #[.int .i64 0,.slice none 0 0,.slice none 0 0] 195)).cell? ⟨w.heap.size+1,j,none⟩=(#[.int .i64 0,.slice none 0 0,.slice none 0 0]:Array Value)[j]? :=fun j=>by rw [<- h];exact cP a _ _ j
 have c:∀ j o,(a.alloc o).cell? ⟨w.heap.size,j,none⟩=a.cell? ⟨w.heap.size,j,none⟩:=fun j o=>(g a _).cell (p:=⟨w.heap.size,j,none⟩) (by show w.heap.size<a.heap.size;omega)
 have f:∀ j o t,(a.alloc (.cells o t)).frozen? ⟨w.heap.size+1,j,none⟩=false:=fun j o t=>by rw [<- h];exact World.frozen?_alloc_new _ _ _ _
 have i:Below w.heap.size w a:=by rw [<- b];exact g w _
 exact⟨(c 0 _).trans (c1 0),(c 1 _).trans (c1 1),(c 2 _).trans (c1 2),(c 3 _).trans (c1 3),c2 0,c2 1,c2 2,f 0 _ _,f 1 _ _,f 2 _ _,i.alloc i.size _,by simp;omega⟩
theorem yU (base kind:Int) (bd u T P D cf n:Nat) (W:List Int) (Y:List Nat) (w:World) (hd:VSrc w (some ⟨bd,u,none⟩) bd u n (xV W)) (hf:VSrc w (some ⟨P,D,none⟩) P D n (flV Y)) (hl:W.length=n) (ak:Y.length=n) (hn:1<=n) (ct:n<=255) :
  Calls Tryz.prog 161 #[.agg #[.int .i64 base,.int .i64 kind,.slice (some ⟨bd,u,none⟩) n T,.slice (some ⟨P,D,none⟩) n cf]] w fun e q=>∃ gx cx gy cy,e=.returned (.agg #[.int .i64 kind,.slice (some ⟨gx,0,none⟩) (1+n) cx,.slice (some ⟨gy,0,none⟩) (1+n) cy])/\q.ownsRow w.heap.size 3 1 (.slice (some ⟨gx,0,none⟩) (1+n) cx) (1+n) ((base::W).map kV)/\q.ownsRow w.heap.size 27 1 (.slice (some ⟨gy,0,none⟩) (1+n) cy) (1+n) ((4607182418800017408::Y).map fV)/\Below w.heap.size w q:=by
 obtain⟨a,br⟩:∃ a,(w.alloc (.cells #[.int .i64 base,.int .i64 kind,.slice (some ⟨bd,u,none⟩) n T,.slice (some ⟨P,D,none⟩) n cf] 26)).alloc (.cells #[.int .i64 0,.slice none 0 0,.slice none 0 0] 195)=a:=⟨_,rfl⟩;have U:Hid (TbP w base kind (.slice (some ⟨bd,u,none⟩) n T) (.slice (some ⟨P,D,none⟩) n cf) a):=by show TbP _ _ _ _ _ _;rw [<- br];exact Pv w base kind _ _
 obtain⟨g,H⟩:=FB (n+1) (by omega)
 obtain⟨x,bi⟩:=FC (n+1) (by omega)
 rw [show ((n+1:Nat):Int)=(n:Int)+1 by omega] at H bi
 have bc:IntKind.i64.wrap ((n:Int)+1)=(n:Int)+1:=by rw [IntKind.wrap_i64];omega
 rw [<- bc] at H
 have HD:=hideS hd;have HF:=hideS hf;have HL:=hideS hl;have ab:=hideS ak;clear hd hf hl ak bc;have d:=hideS U.out.sz;have O:Hid (((a.drew.alloc (.cells (madeCells g (n+1)) 3)).alloc (.cells #[.int .i64 base] 3)).ownsRow a.heap.size 3 1 (.slice (some ⟨a.heap.size,0,none⟩) 0 (n+1)) 0 (([]:List Int).map kV)):=cX (qQ a.drew g (n+1) a.heap.size (Nat.le_refl _) (by omega)) ((Below.refl _ _).alloc (Nat.le_refl _) _)
 have S:Hid (((a.drew.alloc (.cells #[.int .i64 base] 3)).alloc (.cells (madeCells g (n+1)) 3)).ownsRow a.heap.size 3 1 (.slice (some ⟨a.heap.size+1,0,none⟩) 0 (n+1)) 0 (([]:List Int).map kV)):=by
  have:=qQ (t:=3) (a.drew.alloc (.cells #[.int .i64 base] 3)) g (n+1) a.heap.size (by simp) (by omega)
  rw [show (a.drew.alloc (.cells #[.int .i64 base] 3)).heap.size=a.heap.size+1 by simp] at this
  exact this
 have X:Hid (∀ j<1,((a.drew.alloc (.cells (madeCells g (n+1)) 3)).alloc (.cells #[.int .i64 base] 3)).cell? ⟨a.heap.size+1,0+j,none⟩=some (xV [base] j)):=by
  have:=vH (a.drew.alloc (.cells (madeCells g (n+1)) 3)) base 3;rw [show (a.drew.alloc (.cells (madeCells g (n+1)) 3)).heap.size=a.heap.size+1 by simp] at this
  exact this
 have bh:Hid (∀ j<1,((a.drew.alloc (.cells #[.int .i64 base] 3)).alloc (.cells (madeCells g (n+1)) 3)).cell? ⟨a.heap.size,0+j,none⟩=some (xV [base] j)):=fun j hj=>by
  have:=((Below.refl _ (a.drew.alloc (.cells #[.int .i64 base] 3))).alloc (Nat.le_refl _) (.cells (madeCells g (n+1)) 3)).cell (p:=⟨a.heap.size,0+j,none⟩) (by simp)
  exact this.trans (vH a.drew base 3 j hj)
 have N:Hid (a.heap.size<=((a.drew.alloc (.cells (madeCells g (n+1)) 3)).alloc (.cells #[.int .i64 base] 3)).heap.size):=by show _<=_;simp;omega
 have F:Hid (a.heap.size<=((a.drew.alloc (.cells #[.int .i64 base] 3)).alloc (.cells (madeCells g (n+1)) 3)).heap.size):=by show _<=_;simp;omega
 have bv:Hid (Below a.heap.size a ((a.drew.alloc (.cells (madeCells g (n+1)) 3)).alloc (.cells #[.int .i64 base] 3))):=(((Below.refl _ a).drew.alloc (Nat.le_refl _) _).alloc (by simp) _)
 have am:Hid (Below a.heap.size a ((a.drew.alloc (.cells #[.int .i64 base] 3)).alloc (.cells (madeCells g (n+1)) 3))):=(((Below.refl _ a).drew.alloc (Nat.le_refl _) _).alloc (by simp) _)
 have t0:=U.out.t0;have t2:=U.out.t2
 go_enter Tryz.func161,Tryz.ntmps161
 go_wp2_with fail
 clear br
 go_region_held3 (fun q=>q.cell? ⟨w.heap.size,0,none⟩=some (.int .i64 base)/\q.cell? ⟨w.heap.size,2,none⟩=some (.slice (some ⟨bd,u,none⟩) n T)) (first | go_keep | exact⟨(U.out.stay (h.out.mono d.out)).t0,(U.out.stay (h.out.mono d.out)).t2⟩) (first | ((refine fI rfl (.tmp 9) (.tmp 12) rfl a.heap.size (.slice (some ⟨a.heap.size,0,none⟩) 0 (n+1)) 0 [] rfl O.out (a.heap.size+1) 0 1 1 [base] rfl rfl X.out (by omega) (by omega) N.out ?_;intro v3 c f m;obtain⟨g3,c3,rfl,i,J,_,_⟩:=dz (xs:=[base]) f rfl (by omega);have h:=hideS (bv.out.trans (bA O.out m N.out));have E:=hideS f;have cm:=hideS (i.lt (by omega));clear f m i J)) | ((refine fI rfl (.tmp 9) (.tmp 12) rfl a.heap.size (.slice (some ⟨a.heap.size+1,0,none⟩) 0 (n+1)) 0 [] rfl S.out (a.heap.size) 0 1 1 [base] rfl rfl bh.out (by omega) (by omega) F.out ?_;intro v3 c f m;obtain⟨g3,c3,rfl,i,J,_,_⟩:=dz (xs:=[base]) f rfl (by omega);have h:=hideS (am.out.trans (bA S.out m F.out));have E:=hideS f;have cm:=hideS (i.lt (by omega));clear f m i J)))
 all_goals
  clear t0 t2 O S X bh N F bv am H;have B:=hideS (U.out.stay (h.out.mono d.out));have s:=hideS h.out.size;have C:Hid (((c.alloc (.cells (madeCells x (n+1)) 27)).alloc (.cells #[.float .f64 4607182418800017408] 27)).ownsRow c.heap.size 27 1 (.slice (some ⟨c.heap.size,0,none⟩) 0 (n+1)) 0 (([]:List Nat).map fV)):=cX (qQ c x (n+1) c.heap.size (Nat.le_refl _) (by omega)) ((Below.refl _ _).alloc (Nat.le_refl _) _)
  have bk:Hid (∀ j<1,((c.alloc (.cells (madeCells x (n+1)) 27)).alloc (.cells #[.float .f64 4607182418800017408] 27)).cell? ⟨c.heap.size+1,0+j,none⟩=some (flV [4607182418800017408] j)):=by
   have:=MV (c.alloc (.cells (madeCells x (n+1)) 27)) 4607182418800017408 27;rw [show (c.alloc (.cells (madeCells x (n+1)) 27)).heap.size=c.heap.size+1 by simp] at this
   exact this
  have A:Hid (c.heap.size<=((c.alloc (.cells (madeCells x (n+1)) 27)).alloc (.cells #[.float .f64 4607182418800017408] 27)).heap.size):=by show _<=_;simp;omega
  have Z:Hid (Below c.heap.size c ((c.alloc (.cells (madeCells x (n+1)) 27)).alloc (.cells #[.float .f64 4607182418800017408] 27))):=(((Below.refl _ c).alloc (Nat.le_refl _) _).alloc (by simp) _)
  have t3:=B.out.t3
  go_wp2_with (at_builtin;refine mV _ rfl (.tmp 18) (.tmp 19) rfl c.heap.size (.slice (some ⟨c.heap.size,0,none⟩) 0 (n+1)) 0 [] rfl C.out (c.heap.size+1) 0 1 1 [4607182418800017408] rfl rfl bk.out (by omega) (by omega) A.out ?_;intro v4 w4 L bo;obtain⟨g4,c4,rfl,bs,ba,_,_⟩:=dO (xs:=[4607182418800017408]) L rfl (by omega);have r:=hideS (Z.out.trans (bA C.out bo A.out));have bb:=hideS L;have cu:=hideS (And.intro ba (bs.lt (by omega)));clear L bo bs ba)
  clear t3 C bk A Z bi;have o:=hideS (B.out.stay (r.out.mono (Nat.le_trans d.out s.out)));have y:=hideS (cX E.out r.out);have cl:=hideS (vJ bb.out y.out (by decide))
  have al:Hid (a.heap.size<=w4.heap.size):=Nat.le_trans s.out r.out.size;have cq:=hideS (HD.out.below o.out.bl);have t1:=o.out.t1;have t2:=o.out.t2;have t3:=o.out.t3;clear B E
  go_region_held3 (fun q=>q.cell? ⟨w.heap.size,1,none⟩=some (.int .i64 kind)/\q.cell? ⟨w.heap.size,2,none⟩=some (.slice (some ⟨bd,u,none⟩) n T)/\q.cell? ⟨w.heap.size,3,none⟩=some (.slice (some ⟨P,D,none⟩) n cf)) (first | go_keep | exact⟨b.out.t1,b.out.t2,b.out.t3⟩| exact⟨l.out.t1,l.out.t2,l.out.t3⟩| (refine⟨?_,?_,?_⟩ <;>simp [go_sem,b.out.t1,b.out.t2,b.out.t3]))
   (first
    | ((refine fI rfl (.tmp 23) (.tmp 25) rfl a.heap.size (.slice (some ⟨g3,0,none⟩) 1 c3) 1 [base] rfl y.out bd u T n W rfl HL.out cq.out.cell (by omega) (by omega) al.out ?_;intro v5 w5 Q z;obtain⟨g5,c5,rfl,cp,bx,_,_⟩:=dz (xs:=base::W) Q (by rw [List.length_cons,HL.out];omega) (by omega);have I:=hideS (yT (w:=w4.drew) (k:=g3) bb.out z cl.out);have V:=hideS (((Below.refl a.heap.size w4).drew).trans (bA (w:=w4.drew) y.out z al.out));have l:=hideS (o.out.stay (V.out.mono d.out));have ad:=hideS Q;have cr:=hideS (HF.out.below l.out.bl);have ai:Hid (c.heap.size<=w5.heap.size):=Nat.le_trans r.out.size V.out.size;clear Q z cp bx))
    | ((refine qP rfl (.tmp 27) (.tmp 29) rfl c.heap.size (.slice (some ⟨g4,0,none⟩) 1 c4) 1 [4607182418800017408] rfl I.out P D cf n Y rfl ab.out cr.out.cell (by omega) (by omega) ai.out ?_;intro v6 w6 M G;obtain⟨g6,c6,rfl,cs,cc,_,_⟩:=dO (xs:=4607182418800017408::Y) M (by rw [List.length_cons,ab.out];omega) (by omega);have bz:=hideS (yT (k:=g4) ad.out G (vJ ad.out I.out (by decide)));have b:=hideS (l.out.stay ((bA I.out G ai.out).mono (Nat.le_trans d.out s.out)));have ci:=hideS M;have d0:=b.out.d0;have d1:=b.out.d1;have d2:=b.out.d2;have e0:=b.out.e0;have e1:=b.out.e1;have e2:=b.out.e2;clear M G cs cc)))
  all_goals
   go_wp2_with fail
   have hs:∀ j,w.heap.size<=(⟨w.heap.size+1,j,none⟩:Addr).block:=fun j=>by show w.heap.size<=w.heap.size+1;omega
   refine bodyPost_ret (v:=.agg #[.int .i64 kind,.slice (some ⟨g5,0,none⟩) (1+n) c5,.slice (some ⟨g6,0,none⟩) (1+n) c6]) (by simp [results,Tryz.results161,go_sem,d0,d1,d2]) rfl ?_
   have ca:Below w.heap.size w (((w6.setCell ⟨w.heap.size+1,0,none⟩ (.int .i64 kind)).setCell ⟨w.heap.size+1,1,none⟩ (.slice (some ⟨g5,0,none⟩) (1+n) c5)).setCell ⟨w.heap.size+1,2,none⟩ (.slice (some ⟨g6,0,none⟩) (1+n) c6)):=((b.out.bl.setCell (hs 0) _).setCell (hs 1) _).setCell (hs 2) _;have R:w.heap.size+1<a.heap.size:=by have:=d.out;omega
   have K:w.heap.size+1<c.heap.size:=by have:=s.out;omega
   exact⟨g5,c5,g6,c6,rfl,bO (ax (ax (ax bz.out R _) R _) R _) (by omega),bO (ax (ax (ax ci.out K _) K _) K _) (by omega),ca⟩
end Go.Proofs.YtfdddijdjpijbaaGreat
