/-  -/
import Derived.Test.YtfdddijdjpijbaaGreatHav
import Derived.Deep.RegionLaw
import Derived.Deep.RegionHeld3
import Derived.OwnWalk
import Derived.Laws.MakeOwn
set_option maxHeartbeats 3200000
set_option maxRecDepth 20000
namespace Go.Proofs.YtfdddijdjpijbaaGreat
open Go.RowKit
theorem fW {g:Array Oper} {o:Oper} {a:Act} {w:World} {K:Act->World->Prop} {Q:Exit->Act->World->Prop} {E:Prop} (y:o.guard=none) (s x:Operand)
  (L:o.op=.call { callee:=.builtin .append,args:=#[s,x],argTypes:=#[23,23] })
  (base:Nat) (v:Value) (n:Nat) (xs:List Int) (I:a.eval s=v) (i:w.ownsRow base 3 1 v n (xs.map kV))
  (b off c m:Nat) (ys:List Int) (F:a.eval x=.slice (some ⟨b,off,none⟩) m c) (H:ys.length=m) (e:∀ j<m,w.cell? ⟨b,off+j,none⟩=some (xV ys j)) (hn:n<=100000) (B:m<=100000) (d:base<=w.heap.size)
  (h:∀ l f,f.ownsRow base 3 1 l (n+m) ((xs++ys).map kV)->w.grownBy f v.ownBlock->K (a.put o.dst l) f) :
  if Region.wanted o (yielded g a.tmps)=true then Oper.wp Tryz.prog o a w K Q else E:=by
 have J:Region.wanted o (yielded g a.tmps)=true:=by simp [Region.wanted,y]
 rw [if_pos J];obtain⟨C,hi,r,t,A⟩:=info_parts iP;refine wp_append_own w s x 23 L base 3 C (.int .i64 0) 1 8 Tryz.underlying23 hi r t A rfl (by decide) v n (xs.map kV) I i ⟨b,off,none⟩ m c (ys.map kV) F (by rw [List.length_map,H,Nat.mul_one]) ?_ (fun u q=>by obtain⟨z,_,rfl⟩:=List.mem_map.1 q;rfl) (by unfold maxLen;omega) (by omega) d ?_
 ·intro j u p;have k:j<ys.length:=by
   have:=(List.getElem?_eq_some_iff.1 p).1
   simpa using this
  rw [Addr.add_lit,e j (by omega)]
  rw [List.getElem?_map,List.getElem?_eq_getElem k] at p
  have q:kV ys[j]=u:=Option.some.inj p;rw [<- q]
  show some (Value.int .i64 (ys.getD j 0))=_
  rw [List.getD_eq_getElem?_getD,List.getElem?_eq_getElem k];rfl
 ·intro l f G D _;refine h l f ?_ D
  rw [List.map_append];exact G
theorem rf {g:Array Oper} {o:Oper} {a:Act} {w:World} {K:Act->World->Prop} {Q:Exit->Act->World->Prop} {E:Prop} (y:o.guard=none) (s x:Operand)
  (L:o.op=.call { callee:=.builtin .append,args:=#[s,x],argTypes:=#[24,24] })
  (base:Nat) (v:Value) (n:Nat) (xs:List Nat) (I:a.eval s=v) (i:w.ownsRow base 27 1 v n (xs.map fV))
  (b off c m:Nat) (ys:List Nat) (F:a.eval x=.slice (some ⟨b,off,none⟩) m c) (H:ys.length=m) (e:∀ j<m,w.cell? ⟨b,off+j,none⟩=some (flV ys j)) (hn:n<=100000) (B:m<=100000) (d:base<=w.heap.size)
  (h:∀ l f,f.ownsRow base 27 1 l (n+m) ((xs++ys).map fV)->w.grownBy f v.ownBlock->K (a.put o.dst l) f) :
  if Region.wanted o (yielded g a.tmps)=true then Oper.wp Tryz.prog o a w K Q else E:=by
 have J:Region.wanted o (yielded g a.tmps)=true:=by simp [Region.wanted,y]
 rw [if_pos J];obtain⟨C,hi,r,t,A⟩:=info_parts jx;refine wp_append_own w s x 24 L base 27 C (.float .f64 0) 1 8 Tryz.underlying24 hi r t A rfl (by decide) v n (xs.map fV) I i ⟨b,off,none⟩ m c (ys.map fV) F (by rw [List.length_map,H,Nat.mul_one]) ?_ (fun u q=>by obtain⟨z,_,rfl⟩:=List.mem_map.1 q;rfl) (by unfold maxLen;omega) (by omega) d ?_
 ·intro j u p;have k:j<ys.length:=by
   have:=(List.getElem?_eq_some_iff.1 p).1
   simpa using this
  rw [Addr.add_lit,e j (by omega)]
  rw [List.getElem?_map,List.getElem?_eq_getElem k] at p
  have q:fV ys[j]=u:=Option.some.inj p;rw [<- q]
  show some (Value.float .f64 (ys.getD j 0))=_
  rw [List.getD_eq_getElem?_getD,List.getElem?_eq_getElem k];rfl
 ·intro l f G D _;refine h l f ?_ D
  rw [List.map_append];exact G
theorem rg {t:TypeId} (w:World) (z:Array Value) (N base:Nat) (a:base<=w.heap.size) (b:N<=1000):(w.alloc (.cells (madeCells z N) t)).ownsRow base t 1 (.slice (some ⟨w.heap.size,0,none⟩) 0 N) 0 []:=
 ⟨rfl,.inr ⟨w.heap.size,N,madeCells z N,rfl,a,heap_alloc_new w _,Nat.zero_le _,by unfold maxLen;omega,by rw [size_madeCells,Nat.mul_one],by simp⟩⟩
theorem wH {t p:TypeId} {w:World} {b b' n m g q c c':Nat} {xs ys:List Value} (h:w.ownsRow b t 1 (.slice (some ⟨g,0,none⟩) n c) n xs) (s:w.ownsRow b' p 1 (.slice (some ⟨q,0,none⟩) m c') m ys) (y:t≠p):g≠q:=by
 rcases h.2 with⟨e,_⟩| ⟨k,v,u,e,A,d,_⟩
 ·cases e
 ·rcases s.2 with⟨j,_⟩| ⟨z,o,l,j,r,a,_⟩
  ·cases j
  ·injection e with f _ _;injection f with f;injection f with f;injection j with i _ _;injection i with i;injection i with i;intro c;rw [<- f] at d
   rw [<- i,<- c,d] at a
   injection a with a;injection a with _ x;exact y x
theorem zw {t:TypeId} {w l:World} {base n g c k:Nat} {xs:List Value} (h:w.ownsRow base t 1 (.slice (some ⟨g,0,none⟩) n c) n xs) (o:w.grownBy l (some k)) (d:g≠k):l.ownsRow base t 1 (.slice (some ⟨g,0,none⟩) n c) n xs:=by
 refine⟨h.1,?_⟩
 rcases h.2 with⟨e,_⟩| ⟨j,i,f,e,p,a,rest⟩
 ·cases e
 ·have m:=e;injection e with b _ _;injection b with b;injection b with b;subst b;exact .inr ⟨g,i,f,m,p,by rw [o.block g (Array.getElem?_eq_some_iff.1 a).1 (by intro c;injection c with c;exact d c)];exact a,rest⟩
theorem Gh (N:Nat) (e:N<=1000):∃ z,∀ w:World,(Instr.makeSlice 23 (.int .i64 0) (.int .i64 (N:Int))).run Tryz.prog w=.ok (.slice (some ⟨w.heap.size,0,none⟩) 0 N) (w.alloc (.cells (madeCells z N) 3)):=by
 obtain⟨d,hi,b,a,c⟩:=info_parts iP;refine⟨(Value.int .i64 0).cells,fun w=>?_⟩
 have:=run_make (P:=Tryz.prog) w 23 3 d _ Tryz.underlying23 hi b .i64 .i64 0 (N:Int) (by omega) (by omega) (by rw [c];omega) (by omega)
 rw [a,Nat.mul_one,Int.toNat_natCast] at this
 exact this
theorem Gi (N:Nat) (e:N<=1000):∃ z,∀ w:World,(Instr.makeSlice 24 (.int .i64 0) (.int .i64 (N:Int))).run Tryz.prog w=.ok (.slice (some ⟨w.heap.size,0,none⟩) 0 N) (w.alloc (.cells (madeCells z N) 27)):=by
 obtain⟨d,hi,b,a,c⟩:=info_parts jx;refine⟨(Value.float .f64 0).cells,fun w=>?_⟩
 have:=run_make (P:=Tryz.prog) w 24 27 d _ Tryz.underlying24 hi b .i64 .i64 0 (N:Int) (by omega) (by omega) (by rw [c];omega) (by omega)
 rw [a,Nat.mul_one,Int.toNat_natCast] at this
 exact this
structure TbP (w:World) (base kind:Int) (vd vf:Value) (wr:World):Prop where
 t0:wr.cell? ⟨w.heap.size,0,none⟩=some (.int .i64 base)
 t1:wr.cell? ⟨w.heap.size,1,none⟩=some (.int .i64 kind)
 t2:wr.cell? ⟨w.heap.size,2,none⟩=some vd
 t3:wr.cell? ⟨w.heap.size,3,none⟩=some vf
 d0:wr.cell? ⟨w.heap.size+1,0,none⟩=some (.int .i64 0)
 d1:wr.cell? ⟨w.heap.size+1,1,none⟩=some (.slice none 0 0)
 d2:wr.cell? ⟨w.heap.size+1,2,none⟩=some (.slice none 0 0)
 e0:wr.frozen? ⟨w.heap.size+1,0,none⟩=false
 e1:wr.frozen? ⟨w.heap.size+1,1,none⟩=false
 e2:wr.frozen? ⟨w.heap.size+1,2,none⟩=false
 bl:Below w.heap.size w wr
 sz:w.heap.size+2<=wr.heap.size
theorem TbP.stay {w wr a:World} {base kind:Int} {d e:Value} (h:TbP w base kind d e wr) (b:Below (w.heap.size+2) wr a):TbP w base kind d e a:=by
 have c:∀ k<2,∀ j,a.cell? ⟨w.heap.size+k,j,none⟩=wr.cell? ⟨w.heap.size+k,j,none⟩:=fun k f j=>b.cell (p:=⟨w.heap.size+k,j,none⟩) (by show w.heap.size+k<_;omega)
 have g:∀ k<2,∀ j,a.frozen? ⟨w.heap.size+k,j,none⟩=wr.frozen? ⟨w.heap.size+k,j,none⟩:=fun k f j=>b.frozen (p:=⟨w.heap.size+k,j,none⟩) (by show w.heap.size+k<_;omega)
 exact⟨(c 0 (by omega) 0).trans h.t0,(c 0 (by omega) 1).trans h.t1,(c 0 (by omega) 2).trans h.t2,(c 0 (by omega) 3).trans h.t3,(c 1 (by omega) 0).trans h.d0,(c 1 (by omega) 1).trans h.d1,(c 1 (by omega) 2).trans h.d2,(g 1 (by omega) 0).trans h.e0,(g 1 (by omega) 1).trans h.e1,(g 1 (by omega) 2).trans h.e2,h.bl.trans (b.mono (by omega)),Nat.le_trans h.sz b.size⟩
theorem PZ (w:World) (base kind:Int) (c d:Value):TbP w base kind c d ((w.alloc (.cells #[.int .i64 base,.int .i64 kind,c,d] 26)).alloc (.cells #[.int .i64 0,.slice none 0 0,.slice none 0 0] 195)):=by
 have i:∀ (w:World) o,Below w.heap.size w (w.alloc o):=fun w o=>(Below.refl _ _).alloc (Nat.le_refl _) _
 generalize b:w.alloc (.cells #[.int .i64 base,.int .i64 kind,c,d] 26)=a;have g:a.heap.size=w.heap.size+1:=by rw [<- b];simp
 have c1:∀ j,a.cell? ⟨w.heap.size,j,none⟩=(#[.int .i64 base,.int .i64 kind,c,d]:Array Value)[j]? :=fun j=>by rw [<- b];exact cT w _ _ j
 have c2:∀ j,(a.alloc (.cells #[.int .i64 0,.slice none 0 0,.slice none 0 0] 195)).cell? ⟨w.heap.size+1,j,none⟩=(#[.int .i64 0,.slice none 0 0,.slice none 0 0]:Array Value)[j]? :=fun j=>by rw [<- g];exact cT a _ _ j
 have e:∀ j o,(a.alloc o).cell? ⟨w.heap.size,j,none⟩=a.cell? ⟨w.heap.size,j,none⟩:=fun j o=>(i a _).cell (p:=⟨w.heap.size,j,none⟩) (by show w.heap.size<a.heap.size;omega)
 have f:∀ j o t,(a.alloc (.cells o t)).frozen? ⟨w.heap.size+1,j,none⟩=false:=fun j o t=>by rw [<- g];exact World.frozen?_alloc_new _ _ _ _
 have h:Below w.heap.size w a:=by rw [<- b];exact i w _
 exact⟨(e 0 _).trans (c1 0),(e 1 _).trans (c1 1),(e 2 _).trans (c1 2),(e 3 _).trans (c1 3),c2 0,c2 1,c2 2,f 0 _ _,f 1 _ _,f 2 _ _,h.alloc h.size _,by simp;omega⟩
theorem zA (base kind:Int) (bd u T O J cf n:Nat) (ds:List Int) (fs:List Nat) (w:World) (hd:VSrc w (some ⟨bd,u,none⟩) bd u n (xV ds)) (hf:VSrc w (some ⟨O,J,none⟩) O J n (flV fs)) (hl:ds.length=n) (ba:fs.length=n) (hn:1<=n) (cs:n<=255) :
  Calls Tryz.prog 161 #[.agg #[.int .i64 base,.int .i64 kind,.slice (some ⟨bd,u,none⟩) n T,.slice (some ⟨O,J,none⟩) n cf]] w fun e q=>∃ gx cx gy cy,e=.returned (.agg #[.int .i64 kind,.slice (some ⟨gx,0,none⟩) (1+n) cx,.slice (some ⟨gy,0,none⟩) (1+n) cy])/\q.ownsRow w.heap.size 3 1 (.slice (some ⟨gx,0,none⟩) (1+n) cx) (1+n) ((base::ds).map kV)/\q.ownsRow w.heap.size 27 1 (.slice (some ⟨gy,0,none⟩) (1+n) cy) (1+n) ((4607182418800017408::fs).map fV)/\Below w.heap.size w q:=by
 obtain⟨a,al⟩:∃ a,(w.alloc (.cells #[.int .i64 base,.int .i64 kind,.slice (some ⟨bd,u,none⟩) n T,.slice (some ⟨O,J,none⟩) n cf] 26)).alloc (.cells #[.int .i64 0,.slice none 0 0,.slice none 0 0] 195)=a:=⟨_,rfl⟩;have U:Hid (TbP w base kind (.slice (some ⟨bd,u,none⟩) n T) (.slice (some ⟨O,J,none⟩) n cf) a):=by show TbP _ _ _ _ _ _;rw [<- al];exact PZ w base kind _ _
 obtain⟨g,B⟩:=Gh (n+1) (by omega)
 obtain⟨z,ab⟩:=Gi (n+1) (by omega)
 rw [show ((n+1:Nat):Int)=(n:Int)+1 by omega] at B ab
 have bc:IntKind.i64.wrap ((n:Int)+1)=(n:Int)+1:=by rw [IntKind.wrap_i64];omega
 rw [<- bc] at B
 have HD:=hideS hd;have HF:=hideS hf;have HL:=hideS hl;have X:=hideS ba;clear hd hf hl ba bc;have d:=hideS U.out.sz;have A:Hid (((a.drew.alloc (.cells (madeCells g (n+1)) 3)).alloc (.cells #[.int .i64 base] 3)).ownsRow a.heap.size 3 1 (.slice (some ⟨a.heap.size,0,none⟩) 0 (n+1)) 0 (([]:List Int).map kV)):=de (rg a.drew g (n+1) a.heap.size (Nat.le_refl _) (by omega)) ((Below.refl _ _).alloc (Nat.le_refl _) _)
 have K:Hid (((a.drew.alloc (.cells #[.int .i64 base] 3)).alloc (.cells (madeCells g (n+1)) 3)).ownsRow a.heap.size 3 1 (.slice (some ⟨a.heap.size+1,0,none⟩) 0 (n+1)) 0 (([]:List Int).map kV)):=by
  have:=rg (t:=3) (a.drew.alloc (.cells #[.int .i64 base] 3)) g (n+1) a.heap.size (by simp) (by omega)
  rw [show (a.drew.alloc (.cells #[.int .i64 base] 3)).heap.size=a.heap.size+1 by simp] at this
  exact this
 have bb:Hid (∀ j<1,((a.drew.alloc (.cells (madeCells g (n+1)) 3)).alloc (.cells #[.int .i64 base] 3)).cell? ⟨a.heap.size+1,0+j,none⟩=some (xV [base] j)):=by
  have:=wG (a.drew.alloc (.cells (madeCells g (n+1)) 3)) base 3;rw [show (a.drew.alloc (.cells (madeCells g (n+1)) 3)).heap.size=a.heap.size+1 by simp] at this
  exact this
 have ad:Hid (∀ j<1,((a.drew.alloc (.cells #[.int .i64 base] 3)).alloc (.cells (madeCells g (n+1)) 3)).cell? ⟨a.heap.size,0+j,none⟩=some (xV [base] j)):=fun j hj=>by
  have:=((Below.refl _ (a.drew.alloc (.cells #[.int .i64 base] 3))).alloc (Nat.le_refl _) (.cells (madeCells g (n+1)) 3)).cell (p:=⟨a.heap.size,0+j,none⟩) (by simp)
  exact this.trans (wG a.drew base 3 j hj)
 have D:Hid (a.heap.size<=((a.drew.alloc (.cells (madeCells g (n+1)) 3)).alloc (.cells #[.int .i64 base] 3)).heap.size):=by show _<=_;simp;omega
 have L:Hid (a.heap.size<=((a.drew.alloc (.cells #[.int .i64 base] 3)).alloc (.cells (madeCells g (n+1)) 3)).heap.size):=by show _<=_;simp;omega
 have Y:Hid (Below a.heap.size a ((a.drew.alloc (.cells (madeCells g (n+1)) 3)).alloc (.cells #[.int .i64 base] 3))):=(((Below.refl _ a).drew.alloc (Nat.le_refl _) _).alloc (by simp) _)
 have bo:Hid (Below a.heap.size a ((a.drew.alloc (.cells #[.int .i64 base] 3)).alloc (.cells (madeCells g (n+1)) 3))):=(((Below.refl _ a).drew.alloc (Nat.le_refl _) _).alloc (by simp) _)
 have t0:=U.out.t0;have t2:=U.out.t2
 go_enter Tryz.func161,Tryz.ntmps161
 go_wp2_with fail
 clear al
 go_region_held3 (fun q=>q.cell? ⟨w.heap.size,0,none⟩=some (.int .i64 base)/\q.cell? ⟨w.heap.size,2,none⟩=some (.slice (some ⟨bd,u,none⟩) n T)) (first | go_keep | exact⟨(U.out.stay (i.out.mono d.out)).t0,(U.out.stay (i.out.mono d.out)).t2⟩) (first | ((refine fW rfl (.tmp 9) (.tmp 12) rfl a.heap.size (.slice (some ⟨a.heap.size,0,none⟩) 0 (n+1)) 0 [] rfl A.out (a.heap.size+1) 0 1 1 [base] rfl rfl bb.out (by omega) (by omega) D.out ?_;intro v3 c f h;obtain⟨g3,c3,rfl,m,I,_,_⟩:=dD (xs:=[base]) f rfl (by omega);have i:=hideS (Y.out.trans (bC A.out h D.out));have y:=hideS f;have cp:=hideS (m.lt (by omega));clear f h m I)) | ((refine fW rfl (.tmp 9) (.tmp 12) rfl a.heap.size (.slice (some ⟨a.heap.size+1,0,none⟩) 0 (n+1)) 0 [] rfl K.out (a.heap.size) 0 1 1 [base] rfl rfl ad.out (by omega) (by omega) L.out ?_;intro v3 c f h;obtain⟨g3,c3,rfl,m,I,_,_⟩:=dD (xs:=[base]) f rfl (by omega);have i:=hideS (bo.out.trans (bC K.out h L.out));have y:=hideS f;have cp:=hideS (m.lt (by omega));clear f h m I)))
 all_goals
  clear t0 t2 A K bb ad D L Y bo B;have C:=hideS (U.out.stay (i.out.mono d.out));have s:=hideS i.out.size;have G:Hid (((c.alloc (.cells (madeCells z (n+1)) 27)).alloc (.cells #[.float .f64 4607182418800017408] 27)).ownsRow c.heap.size 27 1 (.slice (some ⟨c.heap.size,0,none⟩) 0 (n+1)) 0 (([]:List Nat).map fV)):=de (rg c z (n+1) c.heap.size (Nat.le_refl _) (by omega)) ((Below.refl _ _).alloc (Nat.le_refl _) _)
  have ai:Hid (∀ j<1,((c.alloc (.cells (madeCells z (n+1)) 27)).alloc (.cells #[.float .f64 4607182418800017408] 27)).cell? ⟨c.heap.size+1,0+j,none⟩=some (flV [4607182418800017408] j)):=by
   have:=NA (c.alloc (.cells (madeCells z (n+1)) 27)) 4607182418800017408 27;rw [show (c.alloc (.cells (madeCells z (n+1)) 27)).heap.size=c.heap.size+1 by simp] at this
   exact this
  have P:Hid (c.heap.size<=((c.alloc (.cells (madeCells z (n+1)) 27)).alloc (.cells #[.float .f64 4607182418800017408] 27)).heap.size):=by show _<=_;simp;omega
  have bk:Hid (Below c.heap.size c ((c.alloc (.cells (madeCells z (n+1)) 27)).alloc (.cells #[.float .f64 4607182418800017408] 27))):=(((Below.refl _ c).alloc (Nat.le_refl _) _).alloc (by simp) _)
  have t3:=C.out.t3
  go_wp2_with (at_builtin;refine nl _ rfl (.tmp 18) (.tmp 19) rfl c.heap.size (.slice (some ⟨c.heap.size,0,none⟩) 0 (n+1)) 0 [] rfl G.out (c.heap.size+1) 0 1 1 [4607182418800017408] rfl rfl ai.out (by omega) (by omega) P.out ?_;intro v4 w4 R W;obtain⟨g4,c4,rfl,V,Z,_,_⟩:=fx (xs:=[4607182418800017408]) R rfl (by omega);have r:=hideS (bk.out.trans (bC G.out W P.out));have am:=hideS R;have ct:=hideS (And.intro Z (V.lt (by omega)));clear R W V Z)
  clear t3 G ai P bk ab;have l:=hideS (C.out.stay (r.out.mono (Nat.le_trans d.out s.out)));have M:=hideS (de y.out r.out);have cl:=hideS (wH am.out M.out (by decide))
  have bh:Hid (a.heap.size<=w4.heap.size):=Nat.le_trans s.out r.out.size;have cc:=hideS (HD.out.below l.out.bl);have t1:=l.out.t1;have t2:=l.out.t2;have t3:=l.out.t3;clear C y
  go_region_held3 (fun q=>q.cell? ⟨w.heap.size,1,none⟩=some (.int .i64 kind)/\q.cell? ⟨w.heap.size,2,none⟩=some (.slice (some ⟨bd,u,none⟩) n T)/\q.cell? ⟨w.heap.size,3,none⟩=some (.slice (some ⟨O,J,none⟩) n cf)) (first | go_keep | exact⟨b.out.t1,b.out.t2,b.out.t3⟩| exact⟨o.out.t1,o.out.t2,o.out.t3⟩| (refine⟨?_,?_,?_⟩ <;>simp [go_sem,b.out.t1,b.out.t2,b.out.t3]))
   (first
    | ((refine fW rfl (.tmp 23) (.tmp 25) rfl a.heap.size (.slice (some ⟨g3,0,none⟩) 1 c3) 1 [base] rfl M.out bd u T n ds rfl HL.out cc.out.cell (by omega) (by omega) bh.out ?_;intro v5 w5 E F;obtain⟨g5,c5,rfl,bx,ca,_,_⟩:=dD (xs:=base::ds) E (by rw [List.length_cons,HL.out];omega) (by omega);have x:=hideS (zw (w:=w4.drew) (k:=g3) am.out F cl.out);have bs:=hideS (((Below.refl a.heap.size w4).drew).trans (bC (w:=w4.drew) M.out F bh.out));have o:=hideS (l.out.stay (bs.out.mono d.out));have bi:=hideS E;have bz:=hideS (HF.out.below o.out.bl);have br:Hid (c.heap.size<=w5.heap.size):=Nat.le_trans r.out.size bs.out.size;clear E F bx ca))
    | ((refine rf rfl (.tmp 27) (.tmp 29) rfl c.heap.size (.slice (some ⟨g4,0,none⟩) 1 c4) 1 [4607182418800017408] rfl x.out O J cf n fs rfl X.out bz.out.cell (by omega) (by omega) br.out ?_;intro v6 w6 S N;obtain⟨g6,c6,rfl,cm,cr,_,_⟩:=fx (xs:=4607182418800017408::fs) S (by rw [List.length_cons,X.out];omega) (by omega);have cq:=hideS (zw (k:=g4) bi.out N (wH bi.out x.out (by decide)));have b:=hideS (o.out.stay ((bC x.out N br.out).mono (Nat.le_trans d.out s.out)));have ci:=hideS S;have d0:=b.out.d0;have d1:=b.out.d1;have d2:=b.out.d2;have e0:=b.out.e0;have e1:=b.out.e1;have e2:=b.out.e2;clear S N cm cr)))
  all_goals
   go_wp2_with fail
   have hs:∀ j,w.heap.size<=(⟨w.heap.size+1,j,none⟩:Addr).block:=fun j=>by show w.heap.size<=w.heap.size+1;omega
   refine bodyPost_ret (v:=.agg #[.int .i64 kind,.slice (some ⟨g5,0,none⟩) (1+n) c5,.slice (some ⟨g6,0,none⟩) (1+n) c6]) (by simp [results,Tryz.results161,go_sem,d0,d1,d2]) rfl ?_
   have bv:Below w.heap.size w (((w6.setCell ⟨w.heap.size+1,0,none⟩ (.int .i64 kind)).setCell ⟨w.heap.size+1,1,none⟩ (.slice (some ⟨g5,0,none⟩) (1+n) c5)).setCell ⟨w.heap.size+1,2,none⟩ (.slice (some ⟨g6,0,none⟩) (1+n) c6)):=((b.out.bl.setCell (hs 0) _).setCell (hs 1) _).setCell (hs 2) _;have Q:w.heap.size+1<a.heap.size:=by have:=d.out;omega
   have H:w.heap.size+1<c.heap.size:=by have:=s.out;omega
   exact⟨g5,c5,g6,c6,rfl,bS (aw (aw (aw cq.out Q _) Q _) Q _) (by omega),bS (aw (aw (aw ci.out H _) H _) H _) (by omega),bv⟩
end Go.Proofs.YtfdddijdjpijbaaGreat
