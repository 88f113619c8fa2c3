/-  -/
import Derived.Test.YtfdddijdjpijbaaGreatHav
import Derived.Deep.RegionLaw
import Derived.Deep.RegionHeld3
import Derived.OwnWalk
import Derived.Laws.MakeOwn
set_option maxHeartbeats 3200000
set_option maxRecDepth 20000
namespace Go.Proofs.YtfdddijdjpijbaaGreat
open Go.RowKit
theorem fW {f:Array Oper} {o:Oper} {a:Act} {w:World} {K:Act->World->Prop} {Q:Exit->Act->World->Prop} {E:Prop} (q:o.guard=none) (s x:Operand)
  (F:o.op=.call { callee:=.builtin .append,args:=#[s,x],argTypes:=#[23,23] })
  (base:Nat) (v:Value) (n:Nat) (xs:List Int) (I:a.eval s=v) (e:w.ownsRow base 3 1 v n (xs.map kV))
  (b off c m:Nat) (ys:List Int) (J:a.eval x=.slice (some ⟨b,off,none⟩) m c) (B:ys.length=m) (k:∀ j<m,w.cell? ⟨b,off+j,none⟩=some (xV ys j)) (hn:n<=100000) (G:m<=100000) (d:base<=w.heap.size)
  (h:∀ l g,g.ownsRow base 3 1 l (n+m) ((xs++ys).map kV)->w.grownBy g v.ownBlock->K (a.put o.dst l) g) :
  if Region.wanted o (yielded f a.tmps)=true then Oper.wp Tryz.prog o a w K Q else E:=by
 have L:Region.wanted o (yielded f a.tmps)=true:=by simp [Region.wanted,q]
 rw [if_pos L];obtain⟨H,hi,r,t,A⟩:=info_parts iP;refine wp_append_own w s x 23 F base 3 H (.int .i64 0) 1 8 Tryz.underlying23 hi r t A rfl (by decide) v n (xs.map kV) I e ⟨b,off,none⟩ m c (ys.map kV) J (by rw [List.length_map,B,Nat.mul_one]) ?_ (fun u y=>by obtain⟨z,_,rfl⟩:=List.mem_map.1 y;rfl) (by unfold maxLen;omega) (by omega) d ?_
 ·intro j u p;have i:j<ys.length:=by
   have:=(List.getElem?_eq_some_iff.1 p).1
   simpa using this
  rw [Addr.add_lit,k j (by omega)]
  rw [List.getElem?_map,List.getElem?_eq_getElem i] at p
  have y:kV ys[j]=u:=Option.some.inj p;rw [<- y]
  show some (Value.int .i64 (ys.getD j 0))=_
  rw [List.getD_eq_getElem?_getD,List.getElem?_eq_getElem i];rfl
 ·intro l g D C _;refine h l g ?_ C
  rw [List.map_append];exact D
theorem rf {f:Array Oper} {o:Oper} {a:Act} {w:World} {K:Act->World->Prop} {Q:Exit->Act->World->Prop} {E:Prop} (q:o.guard=none) (s x:Operand)
  (F:o.op=.call { callee:=.builtin .append,args:=#[s,x],argTypes:=#[24,24] })
  (base:Nat) (v:Value) (n:Nat) (xs:List Nat) (I:a.eval s=v) (e:w.ownsRow base 27 1 v n (xs.map fV))
  (b off c m:Nat) (ys:List Nat) (J:a.eval x=.slice (some ⟨b,off,none⟩) m c) (B:ys.length=m) (k:∀ j<m,w.cell? ⟨b,off+j,none⟩=some (flV ys j)) (hn:n<=100000) (G:m<=100000) (d:base<=w.heap.size)
  (h:∀ l g,g.ownsRow base 27 1 l (n+m) ((xs++ys).map fV)->w.grownBy g v.ownBlock->K (a.put o.dst l) g) :
  if Region.wanted o (yielded f a.tmps)=true then Oper.wp Tryz.prog o a w K Q else E:=by
 have L:Region.wanted o (yielded f a.tmps)=true:=by simp [Region.wanted,q]
 rw [if_pos L];obtain⟨H,hi,r,t,A⟩:=info_parts jx;refine wp_append_own w s x 24 F base 27 H (.float .f64 0) 1 8 Tryz.underlying24 hi r t A rfl (by decide) v n (xs.map fV) I e ⟨b,off,none⟩ m c (ys.map fV) J (by rw [List.length_map,B,Nat.mul_one]) ?_ (fun u y=>by obtain⟨z,_,rfl⟩:=List.mem_map.1 y;rfl) (by unfold maxLen;omega) (by omega) d ?_
 ·intro j u p;have i:j<ys.length:=by
   have:=(List.getElem?_eq_some_iff.1 p).1
   simpa using this
  rw [Addr.add_lit,k j (by omega)]
  rw [List.getElem?_map,List.getElem?_eq_getElem i] at p
  have y:fV ys[j]=u:=Option.some.inj p;rw [<- y]
  show some (Value.float .f64 (ys.getD j 0))=_
  rw [List.getD_eq_getElem?_getD,List.getElem?_eq_getElem i];rfl
 ·intro l g D C _;refine h l g ?_ C
  rw [List.map_append];exact D
theorem rg {t:TypeId} (w:World) (z:Array Value) (N base:Nat) (a:base<=w.heap.size) (b:N<=1000):(w.alloc (.cells (madeCells z N) t)).ownsRow base t 1 (.slice (some ⟨w.heap.size,0,none⟩) 0 N) 0 []:=
 ⟨rfl,.inr ⟨w.heap.size,N,madeCells z N,rfl,a,heap_alloc_new w _,Nat.zero_le _,by unfold maxLen;omega,by rw [size_madeCells,Nat.mul_one],by simp⟩⟩
theorem wH {t l:TypeId} {w:World} {b b' n m g o c c':Nat} {xs ys:List Value} (h:w.ownsRow b t 1 (.slice (some ⟨g,0,none⟩) n c) n xs) (x:w.ownsRow b' l 1 (.slice (some ⟨o,0,none⟩) m c') m ys) (v:t≠l):g≠o:=by
 rcases h.2 with⟨e,_⟩| ⟨k,r,y,e,A,f,_⟩
 ·cases e
 ·rcases x.2 with⟨j,_⟩| ⟨z,q,p,j,s,a,_⟩
  ·cases j
  ·injection e with i _ _;injection i with i;injection i with i;injection j with d _ _;injection d with d;injection d with d;intro c;rw [<- i] at f
   rw [<- d,<- c,f] at a
   injection a with a;injection a with _ u;exact v u
theorem zw {t:TypeId} {w l:World} {base n g c k:Nat} {xs:List Value} (h:w.ownsRow base t 1 (.slice (some ⟨g,0,none⟩) n c) n xs) (p:w.grownBy l (some k)) (f:g≠k):l.ownsRow base t 1 (.slice (some ⟨g,0,none⟩) n c) n xs:=by
 refine⟨h.1,?_⟩
 rcases h.2 with⟨e,_⟩| ⟨j,d,i,e,o,a,rest⟩
 ·cases e
 ·have m:=e;injection e with b _ _;injection b with b;injection b with b;subst b;exact .inr ⟨g,d,i,m,o,by rw [p.block g (Array.getElem?_eq_some_iff.1 a).1 (by intro c;injection c with c;exact f c)];exact a,rest⟩
theorem Gh (N:Nat) (e:N<=1000):∃ z,∀ w:World,(Instr.makeSlice 23 (.int .i64 0) (.int .i64 (N:Int))).run Tryz.prog w=.ok (.slice (some ⟨w.heap.size,0,none⟩) 0 N) (w.alloc (.cells (madeCells z N) 3)):=by
 obtain⟨d,hi,a,c,b⟩:=info_parts iP;refine⟨(Value.int .i64 0).cells,fun w=>?_⟩
 have:=run_make (P:=Tryz.prog) w 23 3 d _ Tryz.underlying23 hi a .i64 .i64 0 (N:Int) (by omega) (by omega) (by rw [b];omega) (by omega)
 rw [c,Nat.mul_one,Int.toNat_natCast] at this
 exact this
theorem Gi (N:Nat) (e:N<=1000):∃ z,∀ w:World,(Instr.makeSlice 24 (.int .i64 0) (.int .i64 (N:Int))).run Tryz.prog w=.ok (.slice (some ⟨w.heap.size,0,none⟩) 0 N) (w.alloc (.cells (madeCells z N) 27)):=by
 obtain⟨d,hi,a,c,b⟩:=info_parts jx;refine⟨(Value.float .f64 0).cells,fun w=>?_⟩
 have:=run_make (P:=Tryz.prog) w 24 27 d _ Tryz.underlying24 hi a .i64 .i64 0 (N:Int) (by omega) (by omega) (by rw [b];omega) (by omega)
 rw [c,Nat.mul_one,Int.toNat_natCast] at this
 exact this
structure TbP (w:World) (base kind:Int) (vd vf:Value) (wr:World):Prop where
 t0:wr.cell? ⟨w.heap.size,0,none⟩=some (.int .i64 base)
 t1:wr.cell? ⟨w.heap.size,1,none⟩=some (.int .i64 kind)
 t2:wr.cell? ⟨w.heap.size,2,none⟩=some vd
 t3:wr.cell? ⟨w.heap.size,3,none⟩=some vf
 d0:wr.cell? ⟨w.heap.size+1,0,none⟩=some (.int .i64 0)
 d1:wr.cell? ⟨w.heap.size+1,1,none⟩=some (.slice none 0 0)
 d2:wr.cell? ⟨w.heap.size+1,2,none⟩=some (.slice none 0 0)
 e0:wr.frozen? ⟨w.heap.size+1,0,none⟩=false
 e1:wr.frozen? ⟨w.heap.size+1,1,none⟩=false
 e2:wr.frozen? ⟨w.heap.size+1,2,none⟩=false
 bl:Below w.heap.size w wr
 sz:w.heap.size+2<=wr.heap.size
theorem TbP.stay {w wr b:World} {base kind:Int} {d e:Value} (h:TbP w base kind d e wr) (a:Below (w.heap.size+2) wr b):TbP w base kind d e b:=by
 have c:∀ k<2,∀ j,b.cell? ⟨w.heap.size+k,j,none⟩=wr.cell? ⟨w.heap.size+k,j,none⟩:=fun k f j=>a.cell (p:=⟨w.heap.size+k,j,none⟩) (by show w.heap.size+k<_;omega)
 have g:∀ k<2,∀ j,b.frozen? ⟨w.heap.size+k,j,none⟩=wr.frozen? ⟨w.heap.size+k,j,none⟩:=fun k f j=>a.frozen (p:=⟨w.heap.size+k,j,none⟩) (by show w.heap.size+k<_;omega)
 exact⟨(c 0 (by omega) 0).trans h.t0,(c 0 (by omega) 1).trans h.t1,(c 0 (by omega) 2).trans h.t2,(c 0 (by omega) 3).trans h.t3,(c 1 (by omega) 0).trans h.d0,(c 1 (by omega) 1).trans h.d1,(c 1 (by omega) 2).trans h.d2,(g 1 (by omega) 0).trans h.e0,(g 1 (by omega) 1).trans h.e1,(g 1 (by omega) 2).trans h.e2,h.bl.trans (a.mono (by omega)),Nat.le_trans h.sz a.size⟩
theorem PZ (w:World) (base kind:Int) (c e:Value):TbP w base kind c e ((w.alloc (.cells #[.int .i64 base,.int .i64 kind,c,e] 26)).alloc (.cells #[.int .i64 0,.slice none 0 0,.slice none 0 0] 195)):=by
 have g:∀ (w:World) o,Below w.heap.size w (w.alloc o):=fun w o=>(Below.refl _ _).alloc (Nat.le_refl _) _
 generalize b:w.alloc (.cells #[.int .i64 base,.int .i64 kind,c,e] 26)=a;have h:a.heap.size=w.heap.size+1:=by rw [<- b];simp
 have c1:∀ j,a.cell? ⟨w.heap.size,j,none⟩=(#[.int .i64 base,.int .i64 kind,c,e]:Array Value)[j]? :=fun j=>by rw [<- b];exact cT w _ _ j
 have c2:∀ j,(a.alloc (.cells #[.int .i64 0,.slice none 0 0,.slice none 0 0] 195)).cell? ⟨w.heap.size+1,j,none⟩=(#[.int .i64 0,.slice none 0 0,.slice none 0 0]:Array Value)[j]? :=fun j=>by rw [<- h];exact cT a _ _ j
 have d:∀ j o,(a.alloc o).cell? ⟨w.heap.size,j,none⟩=a.cell? ⟨w.heap.size,j,none⟩:=fun j o=>(g a _).cell (p:=⟨w.heap.size,j,none⟩) (by show w.heap.size<a.heap.size;omega)
 have f:∀ j o t,(a.alloc (.cells o t)).frozen? ⟨w.heap.size+1,j,none⟩=false:=fun j o t=>by rw [<- h];exact World.frozen?_alloc_new _ _ _ _
 have i:Below w.heap.size w a:=by rw [<- b];exact g w _
 exact⟨(d 0 _).trans (c1 0),(d 1 _).trans (c1 1),(d 2 _).trans (c1 2),(d 3 _).trans (c1 3),c2 0,c2 1,c2 2,f 0 _ _,f 1 _ _,f 2 _ _,i.alloc i.size _,by simp;omega⟩
theorem zA (base kind:Int) (bd u U P F cf n:Nat) (W:List Int) (fs:List Nat) (w:World) (hd:VSrc w (some ⟨bd,u,none⟩) bd u n (xV W)) (hf:VSrc w (some ⟨P,F,none⟩) P F n (flV fs)) (hl:W.length=n) (ai:fs.length=n) (hn:1<=n) (cs:n<=255) :
  Calls Tryz.prog 161 #[.agg #[.int .i64 base,.int .i64 kind,.slice (some ⟨bd,u,none⟩) n U,.slice (some ⟨P,F,none⟩) n cf]] w fun e q=>∃ gx cx gy cy,e=.returned (.agg #[.int .i64 kind,.slice (some ⟨gx,0,none⟩) (1+n) cx,.slice (some ⟨gy,0,none⟩) (1+n) cy])/\q.ownsRow w.heap.size 3 1 (.slice (some ⟨gx,0,none⟩) (1+n) cx) (1+n) ((base::W).map kV)/\q.ownsRow w.heap.size 27 1 (.slice (some ⟨gy,0,none⟩) (1+n) cy) (1+n) ((4607182418800017408::fs).map fV)/\Below w.heap.size w q:=by
 obtain⟨a,Y⟩:∃ a,(w.alloc (.cells #[.int .i64 base,.int .i64 kind,.slice (some ⟨bd,u,none⟩) n U,.slice (some ⟨P,F,none⟩) n cf] 26)).alloc (.cells #[.int .i64 0,.slice none 0 0,.slice none 0 0] 195)=a:=⟨_,rfl⟩;have T:Hid (TbP w base kind (.slice (some ⟨bd,u,none⟩) n U) (.slice (some ⟨P,F,none⟩) n cf) a):=by show TbP _ _ _ _ _ _;rw [<- Y];exact PZ w base kind _ _
 obtain⟨g,H⟩:=Gh (n+1) (by omega)
 obtain⟨J,am⟩:=Gi (n+1) (by omega)
 rw [show ((n+1:Nat):Int)=(n:Int)+1 by omega] at H am
 have bk:IntKind.i64.wrap ((n:Int)+1)=(n:Int)+1:=by rw [IntKind.wrap_i64];omega
 rw [<- bk] at H
 have HD:=hideS hd;have HF:=hideS hf;have HL:=hideS hl;have Z:=hideS ai;clear hd hf hl ai bk;have f:=hideS T.out.sz;have E:Hid (((a.drew.alloc (.cells (madeCells g (n+1)) 3)).alloc (.cells #[.int .i64 base] 3)).ownsRow a.heap.size 3 1 (.slice (some ⟨a.heap.size,0,none⟩) 0 (n+1)) 0 (([]:List Int).map kV)):=de (rg a.drew g (n+1) a.heap.size (Nat.le_refl _) (by omega)) ((Below.refl _ _).alloc (Nat.le_refl _) _)
 have L:Hid (((a.drew.alloc (.cells #[.int .i64 base] 3)).alloc (.cells (madeCells g (n+1)) 3)).ownsRow a.heap.size 3 1 (.slice (some ⟨a.heap.size+1,0,none⟩) 0 (n+1)) 0 (([]:List Int).map kV)):=by
  have:=rg (t:=3) (a.drew.alloc (.cells #[.int .i64 base] 3)) g (n+1) a.heap.size (by simp) (by omega)
  rw [show (a.drew.alloc (.cells #[.int .i64 base] 3)).heap.size=a.heap.size+1 by simp] at this
  exact this
 have bb:Hid (∀ j<1,((a.drew.alloc (.cells (madeCells g (n+1)) 3)).alloc (.cells #[.int .i64 base] 3)).cell? ⟨a.heap.size+1,0+j,none⟩=some (xV [base] j)):=by
  have:=wG (a.drew.alloc (.cells (madeCells g (n+1)) 3)) base 3;rw [show (a.drew.alloc (.cells (madeCells g (n+1)) 3)).heap.size=a.heap.size+1 by simp] at this
  exact this
 have bc:Hid (∀ j<1,((a.drew.alloc (.cells #[.int .i64 base] 3)).alloc (.cells (madeCells g (n+1)) 3)).cell? ⟨a.heap.size,0+j,none⟩=some (xV [base] j)):=fun j hj=>by
  have:=((Below.refl _ (a.drew.alloc (.cells #[.int .i64 base] 3))).alloc (Nat.le_refl _) (.cells (madeCells g (n+1)) 3)).cell (p:=⟨a.heap.size,0+j,none⟩) (by simp)
  exact this.trans (wG a.drew base 3 j hj)
 have I:Hid (a.heap.size<=((a.drew.alloc (.cells (madeCells g (n+1)) 3)).alloc (.cells #[.int .i64 base] 3)).heap.size):=by show _<=_;simp;omega
 have O:Hid (a.heap.size<=((a.drew.alloc (.cells #[.int .i64 base] 3)).alloc (.cells (madeCells g (n+1)) 3)).heap.size):=by show _<=_;simp;omega
 have ab:Hid (Below a.heap.size a ((a.drew.alloc (.cells (madeCells g (n+1)) 3)).alloc (.cells #[.int .i64 base] 3))):=(((Below.refl _ a).drew.alloc (Nat.le_refl _) _).alloc (by simp) _)
 have al:Hid (Below a.heap.size a ((a.drew.alloc (.cells #[.int .i64 base] 3)).alloc (.cells (madeCells g (n+1)) 3))):=(((Below.refl _ a).drew.alloc (Nat.le_refl _) _).alloc (by simp) _)
 have t0:=T.out.t0;have t2:=T.out.t2
 go_enter Tryz.func161,Tryz.ntmps161
 go_wp2_with fail
 clear Y
 go_region_held3 (fun q=>q.cell? ⟨w.heap.size,0,none⟩=some (.int .i64 base)/\q.cell? ⟨w.heap.size,2,none⟩=some (.slice (some ⟨bd,u,none⟩) n U)) (first | go_keep | exact⟨(T.out.stay (l.out.mono f.out)).t0,(T.out.stay (l.out.mono f.out)).t2⟩) (first | ((refine fW rfl (.tmp 9) (.tmp 12) rfl a.heap.size (.slice (some ⟨a.heap.size,0,none⟩) 0 (n+1)) 0 [] rfl E.out (a.heap.size+1) 0 1 1 [base] rfl rfl bb.out (by omega) (by omega) I.out ?_;intro v3 c d m;obtain⟨g3,c3,rfl,i,C,_,_⟩:=dD (xs:=[base]) d rfl (by omega);have l:=hideS (ab.out.trans (bC E.out m I.out));have G:=hideS d;have cp:=hideS (i.lt (by omega));clear d m i C)) | ((refine fW rfl (.tmp 9) (.tmp 12) rfl a.heap.size (.slice (some ⟨a.heap.size+1,0,none⟩) 0 (n+1)) 0 [] rfl L.out (a.heap.size) 0 1 1 [base] rfl rfl bc.out (by omega) (by omega) O.out ?_;intro v3 c d m;obtain⟨g3,c3,rfl,i,C,_,_⟩:=dD (xs:=[base]) d rfl (by omega);have l:=hideS (al.out.trans (bC L.out m O.out));have G:=hideS d;have cp:=hideS (i.lt (by omega));clear d m i C)))
 all_goals
  clear t0 t2 E L bb bc I O ab al H;have x:=hideS (T.out.stay (l.out.mono f.out));have r:=hideS l.out.size;have y:Hid (((c.alloc (.cells (madeCells J (n+1)) 27)).alloc (.cells #[.float .f64 4607182418800017408] 27)).ownsRow c.heap.size 27 1 (.slice (some ⟨c.heap.size,0,none⟩) 0 (n+1)) 0 (([]:List Nat).map fV)):=de (rg c J (n+1) c.heap.size (Nat.le_refl _) (by omega)) ((Below.refl _ _).alloc (Nat.le_refl _) _)
  have br:Hid (∀ j<1,((c.alloc (.cells (madeCells J (n+1)) 27)).alloc (.cells #[.float .f64 4607182418800017408] 27)).cell? ⟨c.heap.size+1,0+j,none⟩=some (flV [4607182418800017408] j)):=by
   have:=NA (c.alloc (.cells (madeCells J (n+1)) 27)) 4607182418800017408 27;rw [show (c.alloc (.cells (madeCells J (n+1)) 27)).heap.size=c.heap.size+1 by simp] at this
   exact this
  have B:Hid (c.heap.size<=((c.alloc (.cells (madeCells J (n+1)) 27)).alloc (.cells #[.float .f64 4607182418800017408] 27)).heap.size):=by show _<=_;simp;omega
  have ba:Hid (Below c.heap.size c ((c.alloc (.cells (madeCells J (n+1)) 27)).alloc (.cells #[.float .f64 4607182418800017408] 27))):=(((Below.refl _ c).alloc (Nat.le_refl _) _).alloc (by simp) _)
  have t3:=x.out.t3
  go_wp2_with (at_builtin;refine nl _ rfl (.tmp 18) (.tmp 19) rfl c.heap.size (.slice (some ⟨c.heap.size,0,none⟩) 0 (n+1)) 0 [] rfl y.out (c.heap.size+1) 0 1 1 [4607182418800017408] rfl rfl br.out (by omega) (by omega) B.out ?_;intro v4 w4 K X;obtain⟨g4,c4,rfl,bh,ac,_,_⟩:=fx (xs:=[4607182418800017408]) K rfl (by omega);have s:=hideS (ba.out.trans (bC y.out X B.out));have ad:=hideS K;have cr:=hideS (And.intro ac (bh.lt (by omega)));clear K X bh ac)
  clear t3 y br B ba am;have h:=hideS (x.out.stay (s.out.mono (Nat.le_trans f.out r.out)));have N:=hideS (de G.out s.out);have bs:=hideS (wH ad.out N.out (by decide))
  have bo:Hid (a.heap.size<=w4.heap.size):=Nat.le_trans r.out s.out.size;have bx:=hideS (HD.out.below h.out.bl);have t1:=h.out.t1;have t2:=h.out.t2;have t3:=h.out.t3;clear x G
  go_region_held3 (fun q=>q.cell? ⟨w.heap.size,1,none⟩=some (.int .i64 kind)/\q.cell? ⟨w.heap.size,2,none⟩=some (.slice (some ⟨bd,u,none⟩) n U)/\q.cell? ⟨w.heap.size,3,none⟩=some (.slice (some ⟨P,F,none⟩) n cf)) (first | go_keep | exact⟨b.out.t1,b.out.t2,b.out.t3⟩| exact⟨o.out.t1,o.out.t2,o.out.t3⟩| (refine⟨?_,?_,?_⟩ <;>simp [go_sem,b.out.t1,b.out.t2,b.out.t3]))
   (first
    | ((refine fW rfl (.tmp 23) (.tmp 25) rfl a.heap.size (.slice (some ⟨g3,0,none⟩) 1 c3) 1 [base] rfl N.out bd u U n W rfl HL.out bx.out.cell (by omega) (by omega) bo.out ?_;intro v5 w5 M S;obtain⟨g5,c5,rfl,cl,bv,_,_⟩:=dD (xs:=base::W) M (by rw [List.length_cons,HL.out];omega) (by omega);have R:=hideS (zw (w:=w4.drew) (k:=g3) ad.out S bs.out);have bi:=hideS (((Below.refl a.heap.size w4).drew).trans (bC (w:=w4.drew) N.out S bo.out));have o:=hideS (h.out.stay (bi.out.mono f.out));have V:=hideS M;have bz:=hideS (HF.out.below o.out.bl);have as:Hid (c.heap.size<=w5.heap.size):=Nat.le_trans s.out.size bi.out.size;clear M S cl bv))
    | ((refine rf rfl (.tmp 27) (.tmp 29) rfl c.heap.size (.slice (some ⟨g4,0,none⟩) 1 c4) 1 [4607182418800017408] rfl R.out P F cf n fs rfl Z.out bz.out.cell (by omega) (by omega) as.out ?_;intro v6 w6 z Q;obtain⟨g6,c6,rfl,cc,cm,_,_⟩:=fx (xs:=4607182418800017408::fs) z (by rw [List.length_cons,Z.out];omega) (by omega);have ci:=hideS (zw (k:=g4) V.out Q (wH V.out R.out (by decide)));have b:=hideS (o.out.stay ((bC R.out Q as.out).mono (Nat.le_trans f.out r.out)));have ca:=hideS z;have d0:=b.out.d0;have d1:=b.out.d1;have d2:=b.out.d2;have e0:=b.out.e0;have e1:=b.out.e1;have e2:=b.out.e2;clear z Q cc cm)))
  all_goals
   go_wp2_with fail
   have hs:∀ j,w.heap.size<=(⟨w.heap.size+1,j,none⟩:Addr).block:=fun j=>by show w.heap.size<=w.heap.size+1;omega
   refine bodyPost_ret (v:=.agg #[.int .i64 kind,.slice (some ⟨g5,0,none⟩) (1+n) c5,.slice (some ⟨g6,0,none⟩) (1+n) c6]) (by simp [results,Tryz.results161,go_sem,d0,d1,d2]) rfl ?_
   have cq:Below w.heap.size w (((w6.setCell ⟨w.heap.size+1,0,none⟩ (.int .i64 kind)).setCell ⟨w.heap.size+1,1,none⟩ (.slice (some ⟨g5,0,none⟩) (1+n) c5)).setCell ⟨w.heap.size+1,2,none⟩ (.slice (some ⟨g6,0,none⟩) (1+n) c6)):=((b.out.bl.setCell (hs 0) _).setCell (hs 1) _).setCell (hs 2) _;have A:w.heap.size+1<a.heap.size:=by have:=f.out;omega
   have D:w.heap.size+1<c.heap.size:=by have:=r.out;omega
   exact⟨g5,c5,g6,c6,rfl,bS (aw (aw (aw ci.out A _) A _) A _) (by omega),bS (aw (aw (aw ca.out D _) D _) D _) (by omega),cq⟩
end Go.Proofs.YtfdddijdjpijbaaGreat
