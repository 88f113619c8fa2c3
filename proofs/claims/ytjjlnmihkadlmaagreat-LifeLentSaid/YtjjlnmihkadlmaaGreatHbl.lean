/-  -/
import Derived.Test.YtjjlnmihkadlmaaGreatHbk
import Derived.Test.YtjjlnmihkadlmaaGreatHao
import Derived.Laws.MakeOwn
import Derived.Sort.Row
import Derived.Test.YtjjlnmihkadlmaaGreatHbj
import Derived.Test.YtjjlnmihkadlmaaGreatHbi
import Derived.Test.YtjjlnmihkadlmaaGreatHbh
import Derived.Test.YtjjlnmihkadlmaaGreatHan
namespace Go.Proofs.YtjjlnmihkadlmaaGreat
open Go.RowKit

def mP (a b c d:Nat):Obj:=.cells #[.float .f64 a,.float .f64 b,.float .f64 c,.float .f64 d] 236
structure PBox (w:World) (kind:Int) (vx vy:Value) (wr:World):Prop where
 t0:wr.cell? ⟨w.heap.size,0,none⟩=some (.int .i64 kind)
 t1:wr.cell? ⟨w.heap.size,1,none⟩=some vx
 t2:wr.cell? ⟨w.heap.size,2,none⟩=some vy
 arr:wr.heap[w.heap.size+1]? =some (mP 0 0 0 0)
 bl:Below w.heap.size w wr
 lt:w.heap.size+1<wr.heap.size
theorem EZ (w:World) (kind:Int) (vx vy:Value):PBox w kind vx vy ((w.alloc (.cells #[.int .i64 kind,vx,vy] 148)).alloc (mP 0 0 0 0)):=by
 have hs:(w.alloc (.cells #[.int .i64 kind,vx,vy] 148)).heap.size=w.heap.size+1:=by simp
 have hc:∀ i,((w.alloc (.cells #[.int .i64 kind,vx,vy] 148)).alloc (mP 0 0 0 0)).cell? ⟨w.heap.size,i,none⟩=(w.alloc (.cells #[.int .i64 kind,vx,vy] 148)).cell? ⟨w.heap.size,i,none⟩:=fun i=>((Below.refl (w.heap.size+1) _).alloc (by omega) (mP 0 0 0 0)).cell (p:=⟨w.heap.size,i,none⟩) (by simp)
 refine⟨by rw [hc];simp,by rw [hc];simp,by rw [hc];simp,by rw [← hs];exact heap_alloc_new _ _,((Below.refl _ _).alloc (Nat.le_refl _) _).alloc (by omega) _,by simp⟩
theorem PBox.step {w wr w':World} {kind:Int} {vx vy:Value} (h:PBox w kind vx vy wr) (hb:Below wr.heap.size wr w'):PBox w kind vx vy w':=by
 have l0:w.heap.size<wr.heap.size:=by have:=h.lt;omega
 exact⟨(hb.cell (p:=⟨w.heap.size,0,none⟩) l0).trans h.t0,(hb.cell (p:=⟨w.heap.size,1,none⟩) l0).trans h.t1,(hb.cell (p:=⟨w.heap.size,2,none⟩) l0).trans h.t2,by rw [hb.block _ h.lt];exact h.arr,h.bl.trans (hb.mono h.bl.size),Nat.lt_of_lt_of_le h.lt hb.size⟩
theorem PBox.drewN {w wr:World} {kind:Int} {vx vy:Value} (h:PBox w kind vx vy wr) (m:Nat):PBox w kind vx vy (wr.drewN m):=⟨h.t0,h.t1,h.t2,h.arr,⟨h.bl.os,h.bl.tape,h.bl.output,h.bl.size,h.bl.block⟩,h.lt⟩
theorem mQ {w:World} {g a b c d:Nat} (h:w.heap[g]? =some (mP a b c d)):(w.cell? ⟨g,0,none⟩=some (.float .f64 a)∧w.cell? ⟨g,1,none⟩=some (.float .f64 b)∧w.cell? ⟨g,2,none⟩=some (.float .f64 c)∧w.cell? ⟨g,3,none⟩=some (.float .f64 d))∧∀ i,w.frozen? ⟨g,i,none⟩=false:=by
 unfold mP at h
 refine⟨⟨?_,?_,?_,?_⟩,fun i=>frozen_of_row w g i _ _ h⟩
 all_goals
  simp only [World.cell?,h,Option.isSome_none,Bool.false_eq_true,if_false]
  rfl
def Fa (w:World) (g a b c d:Nat):World:=(((w.setCell ⟨g,0,none⟩ (.float .f64 a)).setCell ⟨g,1,none⟩ (.float .f64 b)).setCell ⟨g,2,none⟩ (.float .f64 c)).setCell ⟨g,3,none⟩ (.float .f64 d)
theorem bU {w:World} {g o:Nat} {cs:Array Value} {t:TypeId} (v:Value) (h:w.heap[g]? =some (.cells cs t (0,0))):(w.setCell ⟨g,o,none⟩ v).heap[g]? =some (.cells (cs.setIfInBounds o v) t (0,0)):=by
 rw [Go.Sort.setCell_eq]
 simp [Go.Sort.mapBlock,Array.getElem?_modify,h,Go.Sort.onCells]
theorem CS {w:World} {g a b c d a' b' c' d':Nat} (h:w.heap[g]? =some (mP a b c d)):(Fa w g a' b' c' d').heap[g]? =some (mP a' b' c' d'):=by
 unfold mP at h
 exact bU _ (bU _ (bU _ (bU _ h)))
theorem wh (w:World) (g a b c d B:Nat) (hB:B≤g):Below B w (Fa w g a b c d):=
 ((((Below.refl B w).setCell (p:=⟨g,0,none⟩) hB _).setCell (p:=⟨g,1,none⟩) hB _).setCell (p:=⟨g,2,none⟩) hB _).setCell (p:=⟨g,3,none⟩) hB _

theorem zC (a:Addr) (x:Nat) (m:Mode) (w:World):(store a (.float .f64 x) m).run Tryz.prog w=stored Tryz.prog w a (.float .f64 x) m:=run_store Tryz.prog w a _ m rfl

set_option maxRecDepth 20000 in
set_option maxHeartbeats 3200000 in
theorem tA (kind:Int) (bx ox cx b2 oy cy n k:Nat) (x0 x1:Int) (y0 y1 h d0 d1 m0 q0 a0 p m1 q1 s1 q:Nat) (w w0:World) (hw0:(w.alloc (.cells #[.int .i64 kind,.slice (some ⟨bx,ox,none⟩) n cx,.slice (some ⟨b2,oy,none⟩) n cy] 148)).alloc (mP 0 0 0 0)=w0)
  (HB:Hid (PBox w kind (.slice (some ⟨bx,ox,none⟩) n cx) (.slice (some ⟨b2,oy,none⟩) n cy) w0)) (c0:w0.cell? ⟨bx,ox+k,none⟩=some (.int .i64 x0)) (c1:w0.cell? ⟨bx,ox+(k+1),none⟩=some (.int .i64 x1)) (c2:w0.cell? ⟨b2,oy+k,none⟩=some (.float .f64 y0)) (c3:w0.cell? ⟨b2,oy+(k+1),none⟩=some (.float .f64 y1))
  (hjn:k+1<n) (hn:n≤1000) (h0:0≤x0) (h1:x0≤109572) (h2:0≤x1) (h3:x1≤109572) (qf:floatOfInt .f64 (x1 - x0)=h)
  (e1:floatBits .mul .f64 d0 h=some m0) (e2:floatBits .quo .f64 m0 4613937818241073152=some q0) (e3:floatBits .add .f64 y0 q0=some a0) (e4:floatBits .mul .f64 d1 h=some m1) (e5:floatBits .quo .f64 m1 4613937818241073152=some q1) (e6:floatBits .sub .f64 y1 q1=some s1)
  (HS0:Hid (∀ wx,Below w.heap.size w wx→Calls Tryz.prog 198 #[.agg #[.int .i64 kind,.slice (some ⟨bx,ox,none⟩) n cx,.slice (some ⟨b2,oy,none⟩) n cy],.int .i64 (k:Int)] wx fun e w'=>e=.returned (.float .f64 d0)∧Below wx.heap.size wx w'))
  (HS1:Hid (∀ wx,Below w.heap.size w wx→Calls Tryz.prog 198 #[.agg #[.int .i64 kind,.slice (some ⟨bx,ox,none⟩) n cx,.slice (some ⟨b2,oy,none⟩) n cy],.int .i64 ((k:Int)+1)] wx fun e w'=>e=.returned (.float .f64 d1)∧Below wx.heap.size wx w'))
  (HH0:Hid (∀ wx,Calls Tryz.prog 196 #[.float .f64 a0,.float .f64 y0,.float .f64 y1] wx fun e w'=>e=.returned (.float .f64 p)∧w'=wx))
  (HH1:Hid (∀ wx,Calls Tryz.prog 196 #[.float .f64 s1,.float .f64 p,.float .f64 y1] wx fun e w'=>e=.returned (.float .f64 q)∧w'=wx)) :
  Calls Tryz.prog 192 #[.agg #[.int .i64 kind,.slice (some ⟨bx,ox,none⟩) n cx,.slice (some ⟨b2,oy,none⟩) n cy],.int .i64 (k:Int)] w fun e w'=>e=.returned (.agg #[.float .f64 y0,.float .f64 p,.float .f64 q,.float .f64 y1])∧Below w.heap.size w w':=by
 have f1:IntKind.i64.wrap ((k:Int)+1)=(k:Int)+1:=by rw [IntKind.wrap_i64];omega
 have f2:IntKind.i64.wrap (x1 - x0)=x1 - x0:=by rw [IntKind.wrap_i64];omega
 have g1:(0:Int)≤(k:Int)+1:=by omega
 have g2:(k:Int)+1<(n:Int):=by omega
 have g3:(0:Int)≤(k:Int):=by omega
 have g4:(k:Int)<(n:Int):=by omega
 have r1:=fun w=>run_float_arith (P:=Tryz.prog) w .mul 54 .f64 _ _ _ e1
 have r2:=fun w=>run_float_arith (P:=Tryz.prog) w .quo 54 .f64 _ _ _ e2
 have r3:=fun w=>run_float_arith (P:=Tryz.prog) w .add 54 .f64 _ _ _ e3
 have r4:=fun w=>run_float_arith (P:=Tryz.prog) w .mul 54 .f64 _ _ _ e4
 have r5:=fun w=>run_float_arith (P:=Tryz.prog) w .quo 54 .f64 _ _ _ e5
 have r6:=fun w=>run_float_arith (P:=Tryz.prog) w .sub 54 .f64 _ _ _ e6
 have u0:=HB.out.t0
 have u1:=HB.out.t1
 have u2:=HB.out.t2
 clear e1 e2 e3 e4 e5 e6
 unfold mP at hw0
 go_enter Tryz.func192,Tryz.ntmps192
 go_wp2_with fail
 clear hw0
 go_quiet (fail)
 go_wp2_with fail
 go_quiet (fail)
 go_wp2_with fail
 refine (HS0.out _ (HB.out.drewN _).bl).mono ?_
 rintro e w1 ⟨rfl,hb1⟩
 have HB1:=hideS ((HB.out.drewN _).step hb1)
 clear hb1 u0 u1 u2 c0 c1 c2 c3 HB
 have u0:=HB1.out.t0
 have u1:=HB1.out.t1
 have u2:=HB1.out.t2
 go_wp2_with fail
 refine (HH0.out _).mono ?_
 rintro e w' ⟨rfl,rfl⟩
 go_wp2_with fail
 refine (HS1.out _ HB1.out.bl).mono ?_
 rintro e w2 ⟨rfl,hb2⟩
 have HB2:=hideS (HB1.out.step hb2)
 clear hb2 u0 u1 u2 HB1
 go_wp2_with fail
 refine (HH1.out _).mono ?_
 rintro e w' ⟨rfl,rfl⟩
 obtain⟨⟨c0,c1,c2,c3⟩,fz⟩:=mQ HB2.out.arr
 have hst:=zC
 have z0:=fz 0
 have z1:=fz 1
 have z2:=fz 2
 have z3:=fz 3
 clear fz
 go_wp2_with fail
 obtain⟨wz,hwz⟩:∃ wz,Fa w' (w.heap.size+1) y0 p q y1=wz:=⟨_,rfl⟩
 have HA:=hideS (mQ (CS (a':=y0) (b':=p) (c':=q) (d':=y1) HB2.out.arr)).1
 have HL:=hideS (HB2.out.bl.trans (wh w' (w.heap.size+1) y0 p q y1 w.heap.size (by omega)))
 rw [hwz] at HA HL
 unfold Fa at hwz
 rw [hwz]
 obtain⟨v0,v1,v2,v3⟩:=HA.out
 refine bodyPost_ret (v:=.agg #[.float .f64 y0,.float .f64 p,.float .f64 q,.float .f64 y1]) (by simp [results,Tryz.results192,go_sem,v0,v1,v2,v3]) rfl ⟨rfl,HL.out⟩
theorem fi3:fi 3=4613937818241073152:=by decide+kernel
theorem wi (kind:Int) (px py:Option Addr) (bx ox cx b2 oy cy k:Nat) (xs:List Int) (ys:List Nat) (w:World) (h:OkT kind xs ys) (hs:TFl w px py bx ox b2 oy xs ys) (hk:k+1<xs.length) :
  Calls Tryz.prog 192 #[.agg #[.int .i64 kind,.slice px xs.length cx,.slice py ys.length cy],.int .i64 (k:Int)] w fun e w'=>e=.returned (.agg #[.float .f64 ((ptL xs ys k).getD 0 0),.float .f64 ((ptL xs ys k).getD 1 0),.float .f64 ((ptL xs ys k).getD 2 0),.float .f64 ((ptL xs ys k).getD 3 0)])∧Below w.heap.size w w':=by
 have hl:=h.len
 have HB:=EZ w kind (.slice px xs.length cx) (.slice py ys.length cy)
 have hs':=hs.below HB.bl
 have H0:Hid (∀ wx,Below w.heap.size w wx→∀ j,j<xs.length→Calls Tryz.prog 198 #[.agg #[.int .i64 kind,.slice px xs.length cx,.slice py ys.length cy],.int .i64 (j:Int)] wx fun e w'=>e=.returned (.float .f64 ((dB xs ys xs.length).getD j 0))∧Below wx.heap.size wx w'):=fun wx hb j hj=>zA kind px py bx ox cx b2 oy cy j xs ys wx h (hs.below hb) hj
 obtain rfl:=hs.x.at_ (by omega)
 obtain rfl:=hs.y.at_ (by omega)
 have st:=h.step hk
 have n0:=az (h.node k (by omega))
 have n1:=az (h.node (k+1) hk)
 obtain⟨hh,hh0⟩:=fP (m:=xs.getD (k+1) 0 - xs.getD k 0) (by omega) (by omega)
 obtain⟨t3,t30⟩:=fP (m:=3) (by decide) (by decide)
 have a:=aE h hs.u (i:=k) (by omega)
 have b:=aE h hs.u hk
 have d0:=eZ h hs.u k
 have d1:=eZ h hs.u (k+1)
 have m0:=gU d0 hh hh0
 have q0:=fM m0 t3 t30
 have a0:=kY a q0
 have m1:=gU d1 hh hh0
 have q1:=fM m1 t3 t30
 have s1:=qz b q1
 have pn:NumW (ptP (fi (xs.getD (k+1) 0 - xs.getD k 0)) ((dB xs ys xs.length).getD k 0) (ys.getD k 0) (ys.getD (k+1) 0)):=by
  rcases Int.le_total (ae (ys.getD k 0:Nat)) (ae (ys.getD (k+1) 0:Nat)) with hr | hr
  ·exact (jX a0 a b hr).1
  ·exact (jY a0 a b hr).1
 have e2:=fc q0
 have e5:=fc q1
 rw [fi3] at e2 e5
 have hS1:∀ wx,Below w.heap.size w wx→_:=fun wx hb=>H0.out wx hb (k+1) hk
 rw [Int.natCast_add,Int.natCast_one] at hS1
 have c0:=hs'.x.cell k (by omega)
 have c1:=hs'.x.cell (k+1) hk
 have c2:=hs'.y.cell k (by omega)
 have c3:=hs'.y.cell (k+1) (by omega)
 rw [hl] at HB H0 hS1 c0 c1 c2 c3 ⊢
 exact tA kind bx ox cx b2 oy cy xs.length k _ _ _ _ _ _ _ _ _ _ _ _ _ _ _ w _ rfl HB c0 c1 c2 c3 hk (by have:=h.hi;omega) n0.1 n0.2.1 n1.1 n1.2.1 (be _)
  (tu m0) e2 (fi3▸tv a0) (tu m1) e5 (fi3▸tt s1) (fun wx hb=>H0.out wx hb k (by omega)) hS1 (fun wx=>fi3▸ki _ _ _ wx a0.lt a b) (fun wx=>fi3▸ki _ _ _ wx s1.lt pn b)

def RowF (w:World) (g N:Nat) (ds:List Nat):Prop:=∃ cs:Array Value,w.heap[g]? =some (.cells cs 54 (0,0))∧cs.size=N∧cs.toList.take ds.length=ds.map fV
theorem RowF.lt {w:World} {g N:Nat} {ds:List Nat} (h:RowF w g N ds):g<w.heap.size:=by
 obtain⟨cs,h1,_⟩:=h
 exact (Array.getElem?_eq_some_iff.1 h1).1
theorem RowF.cell {w:World} {g N:Nat} {ds:List Nat} (h:RowF w g N ds) {k:Nat} (hk:k<N):∃ u,w.cell? ⟨g,k,none⟩=some u:=by
 obtain⟨cs,h1,h2,_⟩:=h
 refine⟨cs[k]'(by omega),?_⟩
 simp only [World.cell?,h1,Option.isSome_none,Bool.false_eq_true,if_false]
 exact Array.getElem?_eq_getElem (by omega)
theorem RowF.own {w:World} {g N base:Nat} {ds:List Nat} (h:RowF w g N ds) (hl:ds.length=N) (hb:base≤g) (hN:N≤100000):w.ownsRow base 54 1 (.slice (some ⟨g,0,none⟩) N N) N (ds.map fV):=by
 obtain⟨cs,h1,h2,h3⟩:=h
 refine⟨by rw [List.length_map,hl,Nat.mul_one],.inr ⟨g,N,cs,rfl,hb,h1,Nat.le_refl _,by unfold maxLen;omega,by omega,?_⟩⟩
 rw [Nat.mul_one,← hl];exact h3
end Go.Proofs.YtjjlnmihkadlmaaGreat
namespace Go.Proofs.YtjjlnmihkadlmaaGreat
open Go.RowKit

set_option maxHeartbeats 1600000 in
theorem kH (l r D a b R:Nat) (w:World) (hl:l≤109572) (hr:r≤109572) (hD:l+r=D) (hD0:0<D) (ha:NumW a) (hb:NumW b) (hR:cP (wAt [(l:Int),(r:Int)] [a,b] 2) D=R) :
  Calls Tryz.prog 191 #[.int .i64 (l:Int),.int .i64 (r:Int),.float .f64 a,.float .f64 b] w fun e w'=>e=.returned (.float .f64 R)∧Below w.heap.size w w':=by
 have h2:=qu (K:=1074) rfl (a:=(l:Int)) (b:=(r:Int)) ⟨by omega,by omega⟩ ⟨by omega,by omega⟩ ha.lt ha.nb hb.lt hb.nb
 have hs:(wAt [(l:Int),(r:Int)] [a,b] 2).s=0:=by rw [h2]
 have hO:A.kB (wAt [(l:Int),(r:Int)] [a,b] 2).N D=R:=by rw [← hR];unfold cP;rw [if_pos hs]
 have hW:wAt [(l:Int),(r:Int)] [a,b] 2=((⟨0,0⟩:A.St).merge (A.cI (fi (l:Int)) a)).merge (A.cI (fi (r:Int)) b):=rfl
 have ux:=bB (oA (n:=(l:Int)) (by omega) (by omega))
 have uy:=bB (oA (n:=(r:Int)) (by omega) (by omega))
 have ua:=bB ha.lt
 have ub:=bB hb.lt
 have f1:=be (l:Int)
 have f2:=be (r:Int)
 have f3:IntKind.i64.wrap ((l:Int)+(r:Int))=(D:Int):=by rw [IntKind.wrap_i64];omega
 clear h2 hR
 generalize fi (l:Int)=X at *
 generalize fi (r:Int)=Y at *
 generalize wAt [(l:Int),(r:Int)] [a,b] 2=T at *
 have HNw:=hideS (A.kX w w.heap.size (Nat.le_refl _))
 have HT:=hideS (And.intro hW (And.intro hs hO))
 have HU:=hideS (And.intro ux (And.intro uy (And.intro ua ub)))
 have HD:=hideS (And.intro hD0 (show D<9223372036854775808 by omega))
 clear hW hs hO ux uy ua ub ha hb hD hD0 hl hr
 go_enter Tryz.func191,Tryz.ntmps191
 go_wp2_with fail
 refine HNw.out.mono ?_
 rintro e w0 ⟨rfl,a0,b0⟩
 have R0:Hid (A.Run w w0 w.heap.size (.slice none 0 0) 0 ⟨0,0⟩):=⟨a0,b0⟩
 clear a0 b0 HNw
 have HP0:=hideS (A.eV w.heap.size w.heap.size _ 0 _ X a w0 R0.out.acc R0.out.bl.size HU.out.1 HU.out.2.2.1 (by omega))
 go_wp2_with fail
 refine HP0.out.mono ?_
 rintro e w1 ⟨rfl,q1,v1,hd1⟩
 have R1:=hideS ((R0.out.drewN q1).did hd1)
 clear hd1 R0 HP0
 have HP1:=hideS (A.eV w.heap.size w.heap.size v1 _ _ Y b w1 R1.out.acc R1.out.bl.size HU.out.2.1 HU.out.2.2.2 (by omega))
 go_wp2_with fail
 refine HP1.out.mono ?_
 rintro e w2 ⟨rfl,q2,v2,hd2⟩
 have R2:=hideS ((R1.out.drewN q2).did hd2)
 clear hd2 R1 HP1
 rw [← HT.out.1] at R2
 have HOv:=hideS (A.sG w.heap.size w.heap.size v2 _ T D w2 R2.out.acc R2.out.bl.size (by omega) HD.out.1 HD.out.2 HT.out.2.1 (A.pc HD.out.1 (by have:=HD.out.2;omega)))
 rw [HT.out.2.2] at HOv
 go_wp2_with fail
 refine HOv.out.mono ?_
 rintro e w3 ⟨rfl,hb3⟩
 have HL:=hideS (R2.out.bl.trans (hb3.mono R2.out.bl.size))
 clear hb3 R2 HOv
 go_wp2_with fail
 go_ret
 exact⟨rfl,HL.out⟩

set_option maxHeartbeats 800000 in
theorem CY (kind x:Int) (px py:Option Addr) (bx ox cx b2 oy cy k:Nat) (xs:List Int) (ys:List Nat) (w:World) (hn:ys.length≤256) (hs:TFl w px py bx ox b2 oy xs ys) (hk:k<ys.length) :
  Calls Tryz.prog 183 #[.agg #[.int .i64 kind,.slice px xs.length cx,.slice py ys.length cy],.int .i64 (k:Int),.int .i64 x] w fun e w'=>e=.returned (.float .f64 (ys.getD k 0))∧Below w.heap.size w w':=by
 have HB:=hideS (bY w kind (.slice px xs.length cx) (.slice py ys.length cy))
 obtain rfl:=hs.y.at_ (by omega)
 have c0:(w.alloc (.cells #[.int .i64 kind,.slice px xs.length cx,.slice (some ⟨b2,oy,none⟩) ys.length cy] 148)).cell? ⟨b2,oy+k,none⟩=some (.float .f64 (ys.getD k 0)):=(hs.below HB.out.bl).y.cell k hk
 have t2:=HB.out.t2
 clear hs
 generalize ys.getD k 0=y at *
 generalize ys.length=n at *
 generalize xs.length=m at *
 obtain⟨w0,hw0⟩:∃ w0,w.alloc (.cells #[.int .i64 kind,.slice px m cx,.slice (some ⟨b2,oy,none⟩) n cy] 148)=w0:=⟨_,rfl⟩
 rw [hw0] at c0 t2 HB
 go_enter Tryz.func183,Tryz.ntmps183
 go_wp2_with fail
 go_ret
 exact⟨rfl,HB.out.bl⟩
structure PieR (w:World) (kind:Int) (vx vy:Value) (bx ox b2 oy k:Nat) (x0 x1:Int) (y0 y1:Nat) (wr:World):Prop where
 box:TBox w kind vx vy wr
 a0:wr.cell? ⟨bx,ox+k,none⟩=some (.int .i64 x0)
 a1:wr.cell? ⟨bx,ox+(k+1),none⟩=some (.int .i64 x1)
 b0:wr.cell? ⟨b2,oy+k,none⟩=some (.float .f64 y0)
 b1:wr.cell? ⟨b2,oy+(k+1),none⟩=some (.float .f64 y1)
 lx:bx<wr.heap.size
 ly:b2<wr.heap.size
theorem PieR.step {w wr w':World} {kind:Int} {vx vy:Value} {bx ox b2 oy k:Nat} {x0 x1:Int} {y0 y1:Nat} (h:PieR w kind vx vy bx ox b2 oy k x0 x1 y0 y1 wr) (hb:Below wr.heap.size wr w'):PieR w kind vx vy bx ox b2 oy k x0 x1 y0 y1 w':=
 ⟨h.box.step hb,(hb.cell (p:=⟨bx,ox+k,none⟩) h.lx).trans h.a0,(hb.cell (p:=⟨bx,ox+(k+1),none⟩) h.lx).trans h.a1,(hb.cell (p:=⟨b2,oy+k,none⟩) h.ly).trans h.b0,(hb.cell (p:=⟨b2,oy+(k+1),none⟩) h.ly).trans h.b1,Nat.lt_of_lt_of_le h.lx hb.size,Nat.lt_of_lt_of_le h.ly hb.size⟩
theorem PieR.drewN {w wr:World} {kind:Int} {vx vy:Value} {bx ox b2 oy k:Nat} {x0 x1:Int} {y0 y1:Nat} (h:PieR w kind vx vy bx ox b2 oy k x0 x1 y0 y1 wr) (m:Nat):PieR w kind vx vy bx ox b2 oy k x0 x1 y0 y1 (wr.drewN m):=⟨h.box.drewN m,h.a0,h.a1,h.b0,h.b1,h.lx,h.ly⟩
theorem PieR.drew {w wr:World} {kind:Int} {vx vy:Value} {bx ox b2 oy k:Nat} {x0 x1:Int} {y0 y1:Nat} (h:PieR w kind vx vy bx ox b2 oy k x0 x1 y0 y1 wr):PieR w kind vx vy bx ox b2 oy k x0 x1 y0 y1 wr.drew:=h.drewN 1
theorem GA {w:World} {kind:Int} {px py:Option Addr} {bx ox cx b2 oy cy k:Nat} {xs:List Int} {ys:List Nat} (hs:TFl w px py bx ox b2 oy xs ys) (hl:ys.length=xs.length) (hk:k+1<xs.length) :
  PieR w kind (.slice px xs.length cx) (.slice py ys.length cy) bx ox b2 oy k (xs.getD k 0) (xs.getD (k+1) 0) (ys.getD k 0) (ys.getD (k+1) 0) (w.alloc (.cells #[.int .i64 kind,.slice px xs.length cx,.slice py ys.length cy] 148)):=by
 have hB:=bY w kind (.slice px xs.length cx) (.slice py ys.length cy)
 have hs':=hs.below hB.bl
 exact⟨hB,hs'.x.cell k (by omega),hs'.x.cell (k+1) hk,hs'.y.cell k (by omega),hs'.y.cell (k+1) (by omega),hs'.x.lt (by omega),hs'.y.lt (by omega)⟩

set_option maxRecDepth 20000 in
set_option maxHeartbeats 3200000 in
theorem tH (kind x:Int) (bx ox cx b2 oy cy n k l r:Nat) (x0 x1:Int) (y0 y1 R:Nat) (w w0:World) (hw0:w.alloc (.cells #[.int .i64 kind,.slice (some ⟨bx,ox,none⟩) n cx,.slice (some ⟨b2,oy,none⟩) n cy] 148)=w0)
  (HB:Hid (PieR w kind (.slice (some ⟨bx,ox,none⟩) n cx) (.slice (some ⟨b2,oy,none⟩) n cy) bx ox b2 oy k x0 x1 y0 y1 w0)) (hjn:k+1<n) (hn:n≤1000) (hl:x1 - x=(l:Int)) (hr:x - x0=(r:Int)) (bl:l≤109572) (br:r≤109572)
  (HW:Hid (∀ wx,Calls Tryz.prog 191 #[.int .i64 (l:Int),.int .i64 (r:Int),.float .f64 y0,.float .f64 y1] wx fun e w'=>e=.returned (.float .f64 R)∧Below wx.heap.size wx w')) :
  Calls Tryz.prog 184 #[.agg #[.int .i64 kind,.slice (some ⟨bx,ox,none⟩) n cx,.slice (some ⟨b2,oy,none⟩) n cy],.int .i64 (k:Int),.int .i64 x] w fun e w'=>e=.returned (.float .f64 R)∧Below w.heap.size w w':=by
 have f1:IntKind.i64.wrap ((k:Int)+1)=(k:Int)+1:=by rw [IntKind.wrap_i64];omega
 have f2:IntKind.i64.wrap (x1 - x)=(l:Int):=by rw [IntKind.wrap_i64];omega
 have f3:IntKind.i64.wrap (x - x0)=(r:Int):=by rw [IntKind.wrap_i64];omega
 have g1:(0:Int)≤(k:Int)+1:=by omega
 have g2:(k:Int)+1<(n:Int):=by omega
 have g3:(0:Int)≤(k:Int):=by omega
 have g4:(k:Int)<(n:Int):=by omega
 have t1:=HB.out.box.t1
 have t2:=HB.out.box.t2
 have a0:=HB.out.a0
 have a1:=HB.out.a1
 have b0:=HB.out.b0
 have b1:=HB.out.b1
 clear hl hr
 go_enter Tryz.func184,Tryz.ntmps184
 go_wp2_with fail
 clear hw0
 go_quiet (fail)
 go_wp2_with fail
 go_region_with ((go_at_call 191;refine (HW.out _).mono ?_;rintro e w2 ⟨rfl,hb2⟩;have HL:=hideS ((HB.out.drewN _).box.step hb2).bl;clear hb2))
 all_goals
  go_wp2_with fail
  go_ret
  exact⟨rfl,HL.out⟩

theorem PieR.all {w wr:World} {kind:Int} {vx vy:Value} {bx ox b2 oy k:Nat} {x0 x1:Int} {y0 y1:Nat} (h:PieR w kind vx vy bx ox b2 oy k x0 x1 y0 y1 wr):wr.cell? ⟨w.heap.size,2,none⟩=some vy∧wr.cell? ⟨b2,oy+k,none⟩=some (.float .f64 y0)∧wr.cell? ⟨b2,oy+(k+1),none⟩=some (.float .f64 y1):=⟨h.box.t2,h.b0,h.b1⟩
end Go.Proofs.YtjjlnmihkadlmaaGreat
namespace Go.Proofs.YtjjlnmihkadlmaaGreat
open Go.RowKit

set_option maxRecDepth 20000 in
set_option maxHeartbeats 6400000 in
theorem wj (kind x:Int) (bx ox cx b2 oy cy n k l r:Nat) (x0 x1:Int) (y0 y1 l0 l1 R E H:Nat) (w w0:World) (hw0:w.alloc (.cells #[.int .i64 kind,.slice (some ⟨bx,ox,none⟩) n cx,.slice (some ⟨b2,oy,none⟩) n cy] 148)=w0)
  (HB:Hid (PieR w kind (.slice (some ⟨bx,ox,none⟩) n cx) (.slice (some ⟨b2,oy,none⟩) n cy) bx ox b2 oy k x0 x1 y0 y1 w0)) (hjn:k+1<n) (hn:n≤1000) (hl:x1 - x=(l:Int)) (hr:x - x0=(r:Int)) (bl:l≤109572) (br:r≤109572)
  (HL0:Hid (∀ wx,Calls Tryz.prog 195 #[.float .f64 y0] wx fun e w'=>e=.returned (.float .f64 l0)∧Below wx.heap.size wx w'))
  (HL1:Hid (∀ wx,Calls Tryz.prog 195 #[.float .f64 y1] wx fun e w'=>e=.returned (.float .f64 l1)∧Below wx.heap.size wx w'))
  (HW:Hid (∀ wx,Calls Tryz.prog 191 #[.int .i64 (l:Int),.int .i64 (r:Int),.float .f64 l0,.float .f64 l1] wx fun e w'=>e=.returned (.float .f64 R)∧Below wx.heap.size wx w'))
  (HE:Hid (∀ wx,Calls Tryz.prog 194 #[.float .f64 R] wx fun e w'=>e=.returned (.float .f64 E)∧Below wx.heap.size wx w'))
  (HH:Hid (∀ wx,Calls Tryz.prog 196 #[.float .f64 E,.float .f64 y0,.float .f64 y1] wx fun e w'=>e=.returned (.float .f64 H)∧w'=wx)) :
  Calls Tryz.prog 186 #[.agg #[.int .i64 kind,.slice (some ⟨bx,ox,none⟩) n cx,.slice (some ⟨b2,oy,none⟩) n cy],.int .i64 (k:Int),.int .i64 x] w fun e w'=>e=.returned (.float .f64 H)∧Below w.heap.size w w':=by
 have f1:IntKind.i64.wrap ((k:Int)+1)=(k:Int)+1:=by rw [IntKind.wrap_i64];omega
 have f2:IntKind.i64.wrap (x1 - x)=(l:Int):=by rw [IntKind.wrap_i64];omega
 have f3:IntKind.i64.wrap (x - x0)=(r:Int):=by rw [IntKind.wrap_i64];omega
 have g1:(0:Int)≤(k:Int)+1:=by omega
 have g2:(k:Int)+1<(n:Int):=by omega
 have g3:(0:Int)≤(k:Int):=by omega
 have g4:(k:Int)<(n:Int):=by omega
 have K00:Hid (∀ m,PieR w kind (.slice (some ⟨bx,ox,none⟩) n cx) (.slice (some ⟨b2,oy,none⟩) n cy) bx ox b2 oy k x0 x1 y0 y1 (w0.drewN m)):=fun m=>HB.out.drewN m
 have t1:=HB.out.box.t1
 have a0:=HB.out.a0
 have a1:=HB.out.a1
 clear hl hr
 go_enter Tryz.func186,Tryz.ntmps186
 go_wp2_with fail
 clear hw0
 go_quiet (fail)
 go_wp2_with fail
 clear t1 a0 a1 HB
 generalize hw1:w0.drewN _=w1 at *
 have K0:Hid (PieR w kind (.slice (some ⟨bx,ox,none⟩) n cx) (.slice (some ⟨b2,oy,none⟩) n cy) bx ox b2 oy k x0 x1 y0 y1 w1):=by show PieR _ _ _ _ _ _ _ _ _ _ _ _ _ _;rw [← hw1];exact K00.out _
 clear hw1 K00
 have t2:=K0.out.box.t2
 have b0:=K0.out.b0
 have b1:=K0.out.b1
 go_region_held3 (fun x=>x.cell? ⟨w.heap.size,2,none⟩=some (.slice (some ⟨b2,oy,none⟩) n cy)∧x.cell? ⟨b2,oy+k,none⟩=some (.float .f64 y0)∧x.cell? ⟨b2,oy+(k+1),none⟩=some (.float .f64 y1)) (first | exact K0.out.all | exact K1.out.all | exact K2.out.all | exact K3.out.all | exact K4.out.all | go_keep) (first | ((go_at_call_of 195 (Value.float FloatKind.f64 y0);refine (HL0.out _).mono ?_;rintro e w2 ⟨rfl,hb2⟩;have K1:=hideS (K0.out.drew.step hb2);clear hb2)) | ((go_at_call_of 195 (Value.float FloatKind.f64 y1);refine (HL1.out _).mono ?_;rintro e w3 ⟨rfl,hb3⟩;have K2:=hideS (K1.out.step hb3);clear hb3)) | ((go_at_call 191;refine (HW.out _).mono ?_;rintro e w4 ⟨rfl,hb4⟩;have K3:=hideS (K2.out.step hb4);clear hb4)) | ((go_at_call 194;refine (HE.out _).mono ?_;rintro e w5 ⟨rfl,hb5⟩;have K4:=hideS (K3.out.step hb5);clear hb5)))
 all_goals
  clear t2 b0 b1
  have t2:=K4.out.box.t2
  have b0:=K4.out.b0
  have b1:=K4.out.b1
  have HL:=hideS K4.out.box.bl
  clear K0 K1 K2 K3 K4
  go_wp2_with fail
  go_region_with ((go_at_call 196;refine (HH.out _).mono ?_;rintro e w6 ⟨rfl,rfl⟩))
  all_goals
   go_wp2_with fail
   go_ret
   exact⟨rfl,HL.out.os,HL.out.tape,HL.out.output,HL.out.size,HL.out.block⟩
end Go.Proofs.YtjjlnmihkadlmaaGreat
namespace Go.Proofs.YtjjlnmihkadlmaaGreat
open Go.RowKit

def gA (a b c d:Int):Obj:=.cells #[.int .i64 a,.int .i64 b,.int .i64 c,.int .i64 d] 235
theorem kI {w:World} {g:Nat} {a b c d:Int} (h:w.heap[g]? =some (gA a b c d)):(w.cell? ⟨g,0,none⟩=some (.int .i64 a)∧w.cell? ⟨g,1,none⟩=some (.int .i64 b)∧w.cell? ⟨g,2,none⟩=some (.int .i64 c)∧w.cell? ⟨g,3,none⟩=some (.int .i64 d))∧∀ i,w.frozen? ⟨g,i,none⟩=false:=by
 unfold gA at h
 refine⟨⟨?_,?_,?_,?_⟩,fun i=>frozen_of_row w g i _ _ h⟩
 all_goals
  simp only [World.cell?,h,Option.isSome_none,Bool.false_eq_true,if_false]
  rfl
def tI (w:World) (g:Nat) (a b c d:Int):World:=(((w.setCell ⟨g,0,none⟩ (.int .i64 a)).setCell ⟨g,1,none⟩ (.int .i64 b)).setCell ⟨g,2,none⟩ (.int .i64 c)).setCell ⟨g,3,none⟩ (.int .i64 d)
theorem pe {w:World} {g:Nat} {a b c d a' b' c' d':Int} (h:w.heap[g]? =some (gA a b c d)):(tI w g a' b' c' d').heap[g]? =some (gA a' b' c' d'):=by
 unfold gA at h
 exact bU _ (bU _ (bU _ (bU _ h)))
theorem tJ (w:World) (g:Nat) (a b c d:Int) (B:Nat) (hB:B≤g):Below B w (tI w g a b c d):=
 ((((Below.refl B w).setCell (p:=⟨g,0,none⟩) hB _).setCell (p:=⟨g,1,none⟩) hB _).setCell (p:=⟨g,2,none⟩) hB _).setCell (p:=⟨g,3,none⟩) hB _
theorem zG {w wr w':World} {b:Nat} {v:Value} {L:Nat} {a:A.St} (h:A.Run w wr b v L a) (hb:Below wr.heap.size wr w'):A.Run w w' b v L a:=⟨h.acc.below hb,h.bl.trans (hb.mono h.bl.size)⟩
theorem qJ (a b c d:Nat) (w:World):(Instr.index 236 (.agg #[.float .f64 a,.float .f64 b,.float .f64 c,.float .f64 d]) (.int .i64 0)).run Tryz.prog w=.ok (.float .f64 a) w∧(Instr.index 236 (.agg #[.float .f64 a,.float .f64 b,.float .f64 c,.float .f64 d]) (.int .i64 1)).run Tryz.prog w=.ok (.float .f64 b) w∧(Instr.index 236 (.agg #[.float .f64 a,.float .f64 b,.float .f64 c,.float .f64 d]) (.int .i64 2)).run Tryz.prog w=.ok (.float .f64 c) w∧(Instr.index 236 (.agg #[.float .f64 a,.float .f64 b,.float .f64 c,.float .f64 d]) (.int .i64 3)).run Tryz.prog w=.ok (.float .f64 d) w:=by
 refine⟨?_,?_,?_,?_⟩ <;>kernel_rfl
structure CubR (g:Nat) (ws:List Int) (ps:List Nat) (k:Nat) (q:Int) (c:Nat):Prop where
 f:floatOfInt .f64 q=fi q
 nx:wAt ws ps (k+1)=(wAt ws ps k).merge (A.cI (fi q) c)
 u:U64 (fi q:Nat)
 v:U64 (c:Nat)

set_option maxRecDepth 20000 in
set_option maxHeartbeats 12800000 in
theorem wk (kind x:Int) (bx ox cx b2 oy cy n k D D3:Nat) (x0 x1 i e q1 q2 r1 r2 r3 s2 s3 t1 t2 n1:Int) (y0 y1 a b c d R:Nat) (w w0:World) (hw0:w.alloc (.cells #[.int .i64 kind,.slice (some ⟨bx,ox,none⟩) n cx,.slice (some ⟨b2,oy,none⟩) n cy] 148)=w0)
  (HB:Hid (PieR w kind (.slice (some ⟨bx,ox,none⟩) n cx) (.slice (some ⟨b2,oy,none⟩) n cy) bx ox b2 oy k x0 x1 y0 y1 w0)) (hjn:k+1<n) (hn:n≤1000) (he:x1 - x=e) (hi:x - x0=i) (hD:e+i=(D:Int)) (_e0:0≤e) (_e1:e≤109572) (i0:0≤i) (i1:i≤109572) (hDl:(D:Int)≤109572) (hC:CubW (D:Int) i e q1 q2 r1 r2 r3 s2 s3 t1 t2 n1 (D3:Int)) (hD3:1≤D3) (na:NumW a) (nb:NumW b) (nc:NumW c) (nd:NumW d) (hR:cP (wAt [q2,r3,s3,t2] [a,b,c,d] 4) D3=R)
  (HP:Hid (∀ wx,Below w.heap.size w wx→Calls Tryz.prog 192 #[.agg #[.int .i64 kind,.slice (some ⟨bx,ox,none⟩) n cx,.slice (some ⟨b2,oy,none⟩) n cy],.int .i64 (k:Int)] wx fun e w'=>e=.returned (.agg #[.float .f64 a,.float .f64 b,.float .f64 c,.float .f64 d])∧Below wx.heap.size wx w')) :
  Calls Tryz.prog 185 #[.agg #[.int .i64 kind,.slice (some ⟨bx,ox,none⟩) n cx,.slice (some ⟨b2,oy,none⟩) n cy],.int .i64 (k:Int),.int .i64 x] w fun e w'=>e=.returned (.float .f64 R)∧Below w.heap.size w w':=by
 obtain⟨hq1,hq2,hr1,hr2,hr3,hs2,hs3,ht1,ht2,hn1,hn2,⟨p1,p1'⟩,⟨p2,p2'⟩,⟨p3,p3'⟩,⟨p4,p4'⟩,⟨p5,p5'⟩,⟨p6,p6'⟩,⟨p7,p7'⟩,⟨p8,p8'⟩,⟨p9,p9'⟩,⟨p10,p10'⟩,⟨p11,p11'⟩⟩:=hC
 have h4:=sN (K:=1074) rfl (a:=q2) (b:=r3) (c:=s3) (d:=t2) ⟨by omega,by omega⟩ ⟨by omega,by omega⟩ ⟨by omega,by omega⟩ ⟨by omega,by omega⟩ na.lt na.nb nb.lt nb.nb nc.lt nc.nb nd.lt nd.nb
 have hs:(wAt [q2,r3,s3,t2] [a,b,c,d] 4).s=0:=by rw [h4]
 have hO:A.kB (wAt [q2,r3,s3,t2] [a,b,c,d] 4).N D3=R:=by rw [← hR];unfold cP;rw [if_pos hs]
 have C0:Hid (CubR 0 [q2,r3,s3,t2] [a,b,c,d] 0 q2 a):=⟨be _,rfl,bB (oA (by omega) (by omega)),bB na.lt⟩
 have C1:Hid (CubR 0 [q2,r3,s3,t2] [a,b,c,d] 1 r3 b):=⟨be _,rfl,bB (oA (by omega) (by omega)),bB nb.lt⟩
 have C2:Hid (CubR 0 [q2,r3,s3,t2] [a,b,c,d] 2 s3 c):=⟨be _,rfl,bB (oA (by omega) (by omega)),bB nc.lt⟩
 have C3:Hid (CubR 0 [q2,r3,s3,t2] [a,b,c,d] 3 t2 d):=⟨be _,rfl,bB (oA (by omega) (by omega)),bB nd.lt⟩
 have hz:wAt [q2,r3,s3,t2] [a,b,c,d] 0=⟨0,0⟩:=rfl
 obtain⟨F,hF⟩:∃ F,wAt [q2,r3,s3,t2] [a,b,c,d]=F:=⟨_,rfl⟩
 have HT:=hideS (And.intro hs (And.intro hO (And.intro hD3 (show D3<9223372036854775808 by omega))))
 rw [hF] at HT
 have HZ:=hideS hz
 rw [hF] at HZ
 have f1:IntKind.i64.wrap ((k:Int)+1)=(k:Int)+1:=by rw [IntKind.wrap_i64];omega
 have f2:IntKind.i64.wrap (x1 - x)=e:=by rw [IntKind.wrap_i64];omega
 have f3:IntKind.i64.wrap (x - x0)=i:=by rw [IntKind.wrap_i64];omega
 have g1:(0:Int)≤(k:Int)+1:=by omega
 have g2:(k:Int)+1<(n:Int):=by omega
 have g3:(0:Int)≤(k:Int):=by omega
 have g4:(k:Int)<(n:Int):=by omega
 have K00:Hid (∀ m,PieR w kind (.slice (some ⟨bx,ox,none⟩) n cx) (.slice (some ⟨b2,oy,none⟩) n cy) bx ox b2 oy k x0 x1 y0 y1 (w0.drewN m)):=fun m=>HB.out.drewN m
 have u1:=HB.out.box.t1
 have a0:=HB.out.a0
 have a1:=HB.out.a1
 have HQ:=hideS (And.intro hn1 (And.intro hn2 (And.intro p10 (And.intro p10' (And.intro p11 p11')))))
 clear he hi hs hO hR h4 na nb nc nd hz hn1 hn2 p10 p10' p11 p11' hD3
 go_enter Tryz.func185,Tryz.ntmps185
 go_wp2_with fail
 clear hw0
 go_quiet (fail)
 clear u1 a0 a1 HB f1 f2 f3
 generalize hw1:w0.drewN _=w1 at *
 have K0:Hid (PieR w kind (.slice (some ⟨bx,ox,none⟩) n cx) (.slice (some ⟨b2,oy,none⟩) n cy) bx ox b2 oy k x0 x1 y0 y1 w1):=by show PieR _ _ _ _ _ _ _ _ _ _ _ _ _ _;rw [← hw1];exact K00.out _
 clear hw1 K00
 have HA:=hideS (show (w1.alloc (gA 0 0 0 0)).heap[w1.heap.size]? =some (gA 0 0 0 0) from heap_alloc_new w1 _)
 obtain⟨⟨c0,c1,c2,c3⟩,fz⟩:=kI HA.out
 have z0:=fz 0
 have z1:=fz 1
 have z2:=fz 2
 have z3:=fz 3
 have HL:=hideS (((Below.refl w1.heap.size w1).alloc (Nat.le_refl _) (gA 0 0 0 0)).trans (tJ _ w1.heap.size q2 r3 s3 t2 w1.heap.size (Nat.le_refl _)))
 have HY:=hideS (kI (pe (a':=q2) (b':=r3) (c':=s3) (d':=t2) HA.out)).1
 have HG:Hid (w1.heap.size<(tI (w1.alloc (gA 0 0 0 0)) w1.heap.size q2 r3 s3 t2).heap.size):=(Array.getElem?_eq_some_iff.1 (pe (a':=q2) (b':=r3) (c':=s3) (d':=t2) HA.out)).1
 clear fz HA
 obtain⟨w2,hw2⟩:∃ w2,w1.alloc (gA 0 0 0 0)=w2:=⟨_,rfl⟩
 rw [hw2] at c0 c1 c2 c3 z0 z1 z2 z3 HL HY HG
 unfold gA at hw2
 obtain⟨w3,hw3⟩:∃ w3,tI w2 w1.heap.size q2 r3 s3 t2=w3:=⟨_,rfl⟩
 rw [hw3] at HL HY HG
 unfold tI at hw3
 have HNw:=hideS (A.kX w3 w3.heap.size (Nat.le_refl _))
 have K3:=hideS (K0.out.step HL.out)
 have HW3:Hid (w.heap.size≤w3.heap.size∧Below w.heap.size w w3):=⟨K3.out.box.bl.size,K3.out.box.bl⟩
 clear HL K0
 go_wp2_with fail
 clear hw2 hw3 c0 c1 c2 c3 z0 z1 z2 z3 hq1 hq2 hr1 hr2 hr3 hs2 hs3 ht1 ht2
 refine HNw.out.mono ?_
 rintro er w4 ⟨rfl,ac,bc⟩
 have R0:Hid (A.Run w3 w4 w3.heap.size (.slice none 0 0) (72*0) (F 0)):=by show A.Run _ _ _ _ _ _;rw [HZ.out];exact⟨ac,bc⟩
 have K4:=hideS (K3.out.step bc)
 clear ac bc HNw K3
 have u0:=K4.out.box.t0
 have u1:=K4.out.box.t1
 have u2:=K4.out.box.t2
 go_wp2_with fail
 refine (HP.out _ K4.out.box.bl).mono ?_
 rintro er w5 ⟨rfl,hb5⟩
 have R1:=hideS (zG R0.out hb5)
 clear hb5 u0 u1 u2 K4 R0 HP
 have HF:=hideS hF
 have HX:Hid (w.heap.size≤w3.heap.size∧Below w.heap.size w w3):=HW3
 clear hF HZ HW3
 go_wp2_with fail
 go_loopw [12,13,61] (fun _ _ i wr=>∃ k:Nat,k≤4∧i=.int .i64 k∧Hid (∃ v,A.Run w3 wr w3.heap.size v (72*k) (F k))) (fun _ _ i _=>4 - (intOf i).toNat)
 case atStart=>exact⟨0,Nat.zero_le _,rfl,⟨_,R1.out⟩⟩
 case round=>
  clear R1
  obtain⟨k,hk,rfl,HR⟩:=hrel
  obtain⟨v,hr⟩:=HR.out
  by_cases hlt:k<4
  ·rcases (show k=0∨k=1∨k=2∨k=3 by omega) with rfl | rfl | rfl | rfl
   ·have hc:wr.cell? ⟨w1.heap.size,0,none⟩=some (.int .i64 q2):=(hr.bl.cell (p:=⟨w1.heap.size,0,none⟩) HG.out).trans HY.out.1
    have hf:=C0.out.f
    have hx4:=(qJ a b c d wr).1
    have HN:=hideS C0.out.nx
    rw [HF.out] at HN
    have HAd:=hideS (A.eV w3.heap.size w3.heap.size v (72*0) _ (fi q2) a wr hr.acc hr.bl.size C0.out.u C0.out.v (by omega))
    have H1:=hideS hr
    generalize fi q2=X at *
    clear hr HR
    go_wp2_with fail
    refine HAd.out.mono ?_
    rintro er w6 ⟨rfl,q6,v6,hd6⟩
    have H2:Hid (∃ v,A.Run w3 w6 w3.heap.size v (72*1) (F 1)):=⟨v6,by rw [HN.out];exact ((H1.out.drewN q6).did hd6).mono (by omega)⟩
    clear hd6 HAd H1
    go_wp2_with fail
    go_roundw
    case rel=>exact⟨1,by omega,by simp,H2⟩
    case measure=>simp [intOf]
   ·have hc:wr.cell? ⟨w1.heap.size,1,none⟩=some (.int .i64 r3):=(hr.bl.cell (p:=⟨w1.heap.size,1,none⟩) HG.out).trans HY.out.2.1
    have hf:=C1.out.f
    have hx4:=(qJ a b c d wr).2.1
    have HN:=hideS C1.out.nx
    rw [HF.out] at HN
    have HAd:=hideS (A.eV w3.heap.size w3.heap.size v (72*1) _ (fi r3) b wr hr.acc hr.bl.size C1.out.u C1.out.v (by omega))
    have H1:=hideS hr
    generalize fi r3=X at *
    clear hr HR
    go_wp2_with fail
    refine HAd.out.mono ?_
    rintro er w6 ⟨rfl,q6,v6,hd6⟩
    have H2:Hid (∃ v,A.Run w3 w6 w3.heap.size v (72*2) (F 2)):=⟨v6,by rw [HN.out];exact ((H1.out.drewN q6).did hd6).mono (by omega)⟩
    clear hd6 HAd H1
    go_wp2_with fail
    go_roundw
    case rel=>exact⟨2,by omega,by simp,H2⟩
    case measure=>simp [intOf]
   ·have hc:wr.cell? ⟨w1.heap.size,2,none⟩=some (.int .i64 s3):=(hr.bl.cell (p:=⟨w1.heap.size,2,none⟩) HG.out).trans HY.out.2.2.1
    have hf:=C2.out.f
    have hx4:=(qJ a b c d wr).2.2.1
    have HN:=hideS C2.out.nx
    rw [HF.out] at HN
    have HAd:=hideS (A.eV w3.heap.size w3.heap.size v (72*2) _ (fi s3) c wr hr.acc hr.bl.size C2.out.u C2.out.v (by omega))
    have H1:=hideS hr
    generalize fi s3=X at *
    clear hr HR
    go_wp2_with fail
    refine HAd.out.mono ?_
    rintro er w6 ⟨rfl,q6,v6,hd6⟩
    have H2:Hid (∃ v,A.Run w3 w6 w3.heap.size v (72*3) (F 3)):=⟨v6,by rw [HN.out];exact ((H1.out.drewN q6).did hd6).mono (by omega)⟩
    clear hd6 HAd H1
    go_wp2_with fail
    go_roundw
    case rel=>exact⟨3,by omega,by simp,H2⟩
    case measure=>simp [intOf]
   ·have hc:wr.cell? ⟨w1.heap.size,3,none⟩=some (.int .i64 t2):=(hr.bl.cell (p:=⟨w1.heap.size,3,none⟩) HG.out).trans HY.out.2.2.2
    have hf:=C3.out.f
    have hx4:=(qJ a b c d wr).2.2.2
    have HN:=hideS C3.out.nx
    rw [HF.out] at HN
    have HAd:=hideS (A.eV w3.heap.size w3.heap.size v (72*3) _ (fi t2) d wr hr.acc hr.bl.size C3.out.u C3.out.v (by omega))
    have H1:=hideS hr
    generalize fi t2=X at *
    clear hr HR
    go_wp2_with fail
    refine HAd.out.mono ?_
    rintro er w6 ⟨rfl,q6,v6,hd6⟩
    have H2:Hid (∃ v,A.Run w3 w6 w3.heap.size v (72*4) (F 4)):=⟨v6,by rw [HN.out];exact ((H1.out.drewN q6).did hd6).mono (by omega)⟩
    clear hd6 HAd H1
    go_wp2_with fail
    go_roundw
    case rel=>exact⟨4,by omega,by simp,H2⟩
    case measure=>simp [intOf]
  ·obtain rfl:k=4:=by omega
   have HOv:=hideS (A.sG w3.heap.size w3.heap.size v (72*4) (F 4) D3 wr hr.acc hr.bl.size (by omega) HT.out.2.2.1 HT.out.2.2.2 HT.out.1 (A.pc HT.out.2.2.1 (by have:=HT.out.2.2.2;omega)))
   rw [HT.out.2.1] at HOv
   have HLr:=hideS (HX.out.2.trans (hr.bl.mono HX.out.1))
   have HSz:=hideS (Nat.le_trans HX.out.1 hr.bl.size)
   obtain⟨m1,m2,p10,p10',p11,p11'⟩:=HQ.out
   clear hr HR
   go_wp2_with fail
   refine HOv.out.mono ?_
   rintro er w6 ⟨rfl,hb6⟩
   have HLz:=hideS (HLr.out.trans (hb6.mono HSz.out))
   clear hb6 HOv
   go_wp2_with fail
   go_ret
   exact⟨rfl,HLz.out⟩
end Go.Proofs.YtjjlnmihkadlmaaGreat
namespace Go.Proofs.YtjjlnmihkadlmaaGreat
open Go.RowKit

noncomputable def Fc (kind:Int) (xs:List Int) (ys:List Nat) (k D:Nat) (i:Int):Nat:=if kind=1 then ys.getD k 0 else if kind=2 then Cf ys k D i else if kind=3 then Cg (ptL xs ys k) D i else logV lnW exW ys k D i
theorem Fd {kind:Int} {xs:List Int} {ys:List Nat} {k:Nat} (h:OkT kind xs ys) (hf:∀ i<ys.length,U64 (ys.getD i 0:Nat)) (hk:k+1<xs.length):∃ a b c d,ptL xs ys k=[a,b,c,d]∧NumW a∧NumW b∧NumW c∧NumW d:=by
 rcases Int.le_total (ae (ys.getD k 0:Nat)) (ae (ys.getD (k+1) 0:Nat)) with hr | hr
 ·obtain⟨p,q,e,u⟩:=CT h hf hk hr
  exact⟨_,_,_,_,e,u.n0,u.n1,u.n2,u.n3⟩
 ·obtain⟨p,q,e,u⟩:=tB h hf hk hr
  exact⟨_,_,_,_,e,u.n0,u.n1,u.n2,u.n3⟩
theorem tK {y:Nat} (h:NumW y) (hp:ltB 0 (y:Nat)=true) (w:World):Calls Tryz.prog 195 #[.float .f64 y] w fun e w'=>e=.returned (.float .f64 (lnW y))∧Below w.heap.size w w':=by
 obtain⟨h1,h2⟩:=fO h.lt hp
 obtain⟨z,e,hz⟩:=(mL h.lt).fin h.nb h2 h1
 refine ((mL h.lt).prog w).mono fun er w' ⟨r,hr,g,hb⟩=>⟨?_,hb⟩
 rw [hr]
 have e2:lnW y=z:=by unfold lnW;rw [if_pos h.lt,e,ar]
 rw [e] at g
 rw [e2,dh g.1]
theorem CZ {y:Nat} (hl:y<18446744073709551616) (hn:ag (y:Int)=false) (w:World):Calls Tryz.prog 194 #[.float .f64 y] w fun e w'=>e=.returned (.float .f64 (exW y))∧Below w.heap.size w w':=by
 obtain⟨z,e,hz⟩:=(fb hl).num hn
 refine ((fb hl).prog w).mono fun er w' ⟨r,hr,g,hb⟩=>⟨?_,hb⟩
 rw [hr]
 have e2:exW y=z:=by unfold exW;rw [if_pos hl,e,ar]
 rw [e] at g
 rw [e2,dh g.1]
theorem zH (kind x:Int) (px py:Option Addr) (bx ox cx b2 oy cy k D:Nat) (i:Int) (xs:List Int) (ys:List Nat) (w:World) (h:OkT kind xs ys) (hs:TFl w px py bx ox b2 oy xs ys) (hI:Inside xs x k D i) :
  Calls Tryz.prog (fT kind) #[.agg #[.int .i64 kind,.slice px xs.length cx,.slice py ys.length cy],.int .i64 (k:Int),.int .i64 x] w fun e w'=>e=.returned (.float .f64 (Fc kind xs ys k D i))∧Below w.heap.size w w':=by
 have hk:=hI.lt
 have hl:=h.len
 have hh:=h.hi
 have hD:=dZ h hI
 have i0:=hI.lo
 have i1:=hI.hi'
 have e1:=hI.hD
 have e2:=hI.hi
 have n0:=aE h hs.u (show k<xs.length by omega)
 have n1:=aE h hs.u hk
 have P:=GA (kind:=kind) (cx:=cx) (cy:=cy) hs hl hk
 have hpx:=hs.x.at_ (by omega)
 have hpy:=hs.y.at_ (by omega)
 obtain⟨l,hl'⟩:∃ l:Nat,(D:Int) - i=(l:Int):=⟨((D:Int) - i).toNat,by omega⟩
 obtain⟨r,hr'⟩:∃ r:Nat,i=(r:Int):=⟨i.toNat,by omega⟩
 unfold fT Fc
 have k1:=h.k1
 have k4:=h.k4
 by_cases q1:kind=1
 ·rw [if_pos q1,if_pos q1]
  exact CY kind x px py bx ox cx b2 oy cy k xs ys w (by omega) hs (by omega)
 ·rw [if_neg q1,if_neg q1]
  by_cases q2:kind=2
  ·rw [if_pos q2,if_pos q2]
   subst hpx hpy
   rw [hl] at P ⊢
   refine tH kind x bx ox cx b2 oy cy xs.length k l r _ _ _ _ _ w _ rfl P hk (by omega) (by omega) (by omega) (by omega) (by omega) (fun wx=>kH l r D _ _ _ wx (by omega) (by omega) (by omega) (by omega) n0 n1 ?_)
   unfold Cf
   rw [hl',hr']
  ·rw [if_neg q2,if_neg q2]
   by_cases q3:kind=3
   ·rw [if_pos q3,if_pos q3]
    obtain⟨a,b,c,d,ep,na,nb,nc,nd⟩:=Fd h hs.u hk
    obtain⟨w1,w2,r1,r2,r3,s2,s3,t1,t2,m1,m2,hC⟩:=xg (D:=(D:Int)) (i:=i) (e:=(D:Int) - i) (by omega) (by omega) (by omega) (by omega) (by omega) hD.2
    have hm2:m2=((D*D*D:Nat):Int):=by rw [← hC.hn2,← hC.hn1];simp
    rw [hm2] at hC
    have HP:Hid (∀ wx,Below w.heap.size w wx→Calls Tryz.prog 192 #[.agg #[.int .i64 kind,.slice px xs.length cx,.slice py ys.length cy],.int .i64 (k:Int)] wx fun e w'=>e=.returned (.agg #[.float .f64 a,.float .f64 b,.float .f64 c,.float .f64 d])∧Below wx.heap.size wx w'):=fun wx hb=>by
     have:=wi kind px py bx ox cx b2 oy cy k xs ys wx h (hs.below hb) hk
     rw [ep] at this
     exact this
    subst hpx hpy
    rw [hl] at P HP ⊢
    refine wk kind x bx ox cx b2 oy cy xs.length k D (D*D*D) _ _ i ((D:Int) - i) w1 w2 r1 r2 r3 s2 s3 t1 t2 m1 _ _ a b c d _ w _ rfl P hk (by omega) (by omega) (by omega) (by omega) (by omega) (by omega) (by omega) (by omega) hD.2 hC (Nat.mul_pos (Nat.mul_pos hD.1 hD.1) hD.1) na nb nc nd ?_ HP
    unfold Cg
    rw [ep,← hC.hq2,← hC.hq1,← hC.hr3,← hC.hr2,← hC.hr1,← hC.hs3,← hC.hs2,← hC.hr1,← hC.ht2,← hC.ht1]
   ·rw [if_neg q3,if_neg q3]
    obtain rfl:kind=4:=by omega
    have p0:=(az (h.node k (by omega))).2.2.2.2 rfl
    have p1:=(az (h.node (k+1) hk)).2.2.2.2 rfl
    have l0:=lf n0 p0
    have l1:=lf n1 p1
    have hv:Cf [lnW (ys.getD k 0),lnW (ys.getD (k+1) 0)] 0 D i=cP (wAt [(D:Int) - i,i] [lnW (ys.getD k 0),lnW (ys.getD (k+1) 0)] 2) D:=rfl
    have hlt:cP (wAt [(D:Int) - i,i] [lnW (ys.getD k 0),lnW (ys.getD (k+1) 0)] 2) D<18446744073709551616∧ag (cP (wAt [(D:Int) - i,i] [lnW (ys.getD k 0),lnW (ys.getD (k+1) 0)] 2) D:Nat)=false:=by
     rw [qu (K:=1074) rfl ⟨by omega,by omega⟩ ⟨by omega,by omega⟩ l0.lt l0.nb l1.lt l1.nb,iJ]
     exact⟨by have:=(cA (((D:Int) - i)*uI 1074 (lnW (ys.getD k 0))+i*uI 1074 (lnW (ys.getD (k+1) 0))) D).1.2;omega,(cA _ D).2.1⟩
    subst hpx hpy
    rw [hl] at P ⊢
    refine wj 4 x bx ox cx b2 oy cy xs.length k l r _ _ _ _ (lnW (ys.getD k 0)) (lnW (ys.getD (k+1) 0)) _ (exW (cP (wAt [(l:Int),(r:Int)] [lnW (ys.getD k 0),lnW (ys.getD (k+1) 0)] 2) D)) _ w _ rfl P hk (by omega) (by omega) (by omega) (by omega) (by omega) (fun wx=>tK n0 p0 wx) (fun wx=>tK n1 p1 wx) (fun wx=>kH l r D _ _ _ wx (by omega) (by omega) (by omega) (by omega) l0 l1 rfl) ?_ ?_
    ·rw [← hl',← hr']
     exact fun wx=>CZ hlt.1 hlt.2 wx
    ·rw [← hl',← hr']
     exact fun wx=>ki _ _ _ wx (Gx _) n0 n1

set_option maxHeartbeats 1600000 in
theorem zI (kind x E:Int) (F v1 v2:Value) (w:World) (hE:E≠0) (HC:Hid (∀ wx,Below w.heap.size w wx→Calls Tryz.prog 118 #[.agg #[.int .i64 kind,v1,v2]] wx fun e w'=>e=.returned (.tuple #[F,.int .i64 E])∧Below wx.heap.size wx w')) :
  Calls Tryz.prog 78 #[.agg #[.int .i64 kind,v1,v2],.int .i64 x] w fun e w'=>e=.returned (.tuple #[.float .f64 0,.int .i64 E])∧Below w.heap.size w w':=by
 have HB:=hideS (bY w kind v1 v2)
 have hE':(E !=0)=true:=bne_iff_ne.2 hE
 clear hE
 go_enter Tryz.func78,Tryz.ntmps78
 go_wp2_with fail
 refine (HC.out _ HB.out.bl).mono ?_
 rintro e w1 ⟨rfl,hb1⟩
 have HB1:=hideS (HB.out.step hb1)
 clear hb1
 go_wp2_with fail
 go_ret2
 exact⟨rfl,HB1.out.bl⟩

set_option maxRecDepth 20000 in
set_option maxHeartbeats 1600000 in
theorem zJ (kind x k E:Int) (F v1 v2:Value) (w:World) (hE:E≠0) (HC:Hid (∀ wx,Below w.heap.size w wx→Calls Tryz.prog 118 #[.agg #[.int .i64 kind,v1,v2]] wx fun e w'=>e=.returned (.tuple #[F,.int .i64 0])∧Below wx.heap.size wx w'))
  (HN:Hid (∀ wx,Below w.heap.size w wx→Calls Tryz.prog 119 #[v1,.int .i64 x] wx fun e w'=>e=.returned (.tuple #[.int .i64 k,.int .i64 E])∧Below wx.heap.size wx w')) :
  Calls Tryz.prog 78 #[.agg #[.int .i64 kind,v1,v2],.int .i64 x] w fun e w'=>e=.returned (.tuple #[.float .f64 0,.int .i64 E])∧Below w.heap.size w w':=by
 have HB:=hideS (bY w kind v1 v2)
 have hE':(E !=0)=true:=bne_iff_ne.2 hE
 clear hE
 go_enter Tryz.func78,Tryz.ntmps78
 go_wp2_with fail
 refine (HC.out _ HB.out.bl).mono ?_
 rintro e w1 ⟨rfl,hb1⟩
 have HB1:=hideS (HB.out.step hb1)
 clear hb1
 have t1:=HB1.out.t1
 go_wp2_with fail
 refine (HN.out _ HB1.out.bl).mono ?_
 rintro e w2 ⟨rfl,hb2⟩
 have HB2:=hideS (HB1.out.step hb2)
 clear hb2 t1
 go_wp2_with fail
 go_ret2
 exact⟨rfl,HB2.out.bl⟩

set_option maxRecDepth 20000 in
set_option maxHeartbeats 3200000 in
theorem Da (kind x x0:Int) (F:Nat) (bx ox cx b2 oy cy n k y V:Nat) (w:World) (hF:F=183∨F=184∨F=185∨F=186) (hkn:k<n) (_hn:n≤256) (hV:x0=x→V=y)
  (HC:Hid (∀ wx,Below w.heap.size w wx→Calls Tryz.prog 118 #[.agg #[.int .i64 kind,.slice (some ⟨bx,ox,none⟩) n cx,.slice (some ⟨b2,oy,none⟩) n cy]] wx fun e w'=>e=.returned (.tuple #[.func (.func F) #[] #[],.int .i64 0])∧Below wx.heap.size wx w'))
  (HN:Hid (∀ wx,Below w.heap.size w wx→Calls Tryz.prog 119 #[.slice (some ⟨bx,ox,none⟩) n cx,.int .i64 x] wx fun e w'=>e=.returned (.tuple #[.int .i64 (k:Int),.int .i64 0])∧Below wx.heap.size wx w'))
  (HX:Hid (∀ wx,Below w.heap.size w wx→wx.cell? ⟨bx,ox+k,none⟩=some (.int .i64 x0)∧wx.cell? ⟨b2,oy+k,none⟩=some (.float .f64 y)))
  (HP:Hid (x0≠x→∀ wx,Below w.heap.size w wx→Calls Tryz.prog F #[.agg #[.int .i64 kind,.slice (some ⟨bx,ox,none⟩) n cx,.slice (some ⟨b2,oy,none⟩) n cy],.int .i64 (k:Int),.int .i64 x] wx fun e w'=>e=.returned (.float .f64 V)∧Below wx.heap.size wx w')) :
  Calls Tryz.prog 78 #[.agg #[.int .i64 kind,.slice (some ⟨bx,ox,none⟩) n cx,.slice (some ⟨b2,oy,none⟩) n cy],.int .i64 x] w fun e w'=>e=.returned (.tuple #[.float .f64 V,.int .i64 0])∧Below w.heap.size w w':=by
 have HB:=hideS (bY w kind (.slice (some ⟨bx,ox,none⟩) n cx) (.slice (some ⟨b2,oy,none⟩) n cy))
 have HV:=hideS hV
 clear hV
 rcases hF with rfl | rfl | rfl | rfl
 all_goals
  go_enter Tryz.func78,Tryz.ntmps78
  go_wp2_with fail
  refine (HC.out _ HB.out.bl).mono ?_
  rintro e w1 ⟨rfl,hb1⟩
  have HB1:=hideS (HB.out.step hb1)
  clear hb1
  have t1:=HB1.out.t1
  go_wp2_with fail
  refine (HN.out _ HB1.out.bl).mono ?_
  rintro e w2 ⟨rfl,hb2⟩
  have HB2:=hideS (HB1.out.step hb2)
  clear hb2 t1
  have t0:=HB2.out.t0
  have t1:=HB2.out.t1
  have t2:=HB2.out.t2
  obtain⟨c0,c1⟩:=HX.out _ HB2.out.bl
  by_cases hx:x0=x
  ·have hq:(x0==x)=true:=beq_iff_eq.2 hx
   obtain rfl:=HV.out hx
   clear hx
   go_wp2_with fail
   go_ret2
   exact⟨rfl,HB2.out.bl⟩
  ·have hq:(x0==x)=false:=beq_eq_false_iff_ne.2 hx
   have HP':=hideS (HP.out hx)
   clear hx
   go_wp2_with fail
   refine (HP'.out _ HB2.out.bl).mono ?_
   rintro e w3 ⟨rfl,hb3⟩
   have HB3:=hideS (HB2.out.step hb3)
   clear hb3
   go_wp2_with fail
   go_ret2
   exact⟨rfl,HB3.out.bl⟩
inductive AtO (kind:Int) (xs:List Int) (ys:List Nat) (x:Int):Nat→Int→Prop
 | err (k E:Int) (h:FindO kind xs ys x k E) (hE:E≠0):AtO kind xs ys x 0 E
 | node (k:Nat) (ok:OkT kind xs ys) (h:FindO kind xs ys x (k:Int) 0) (hk:FindR xs x k) (he:xs.getD k 0=x):AtO kind xs ys x (ys.getD k 0) 0
 | piece (k D:Nat) (i:Int) (ok:OkT kind xs ys) (h:FindO kind xs ys x (k:Int) 0) (hk:FindR xs x k) (he:xs.getD k 0≠x) (hI:Inside xs x k D i):AtO kind xs ys x (Fc kind xs ys k D i) 0
theorem GB (kind:Int) (xs:List Int) (ys:List Nat) (x:Int):∃ V E,AtO kind xs ys x V E:=by
 obtain⟨k,E,h⟩:=AF kind xs ys x
 by_cases hE:E=0
 ·subst hE
  generalize hz:(0:Int)=z at h
  have h':=h
  cases h with
  | bad E h hE=>exact absurd hz.symm hE
  | out h hx=>cases hz
  | at_ ok hlo hhi k hk hj=>
   by_cases he:xs.getD k 0=x
   ·exact⟨_,_,.node k ok h' hk he⟩
   ·obtain⟨D,i,hI⟩:=yW hhi hk he
    exact⟨_,_,.piece k D i ok h' hk he hI⟩
 ·exact⟨_,_,.err k E h hE⟩
theorem tL (kind:Int):fT kind=183∨fT kind=184∨fT kind=185∨fT kind=186:=by
 unfold fT
 split
 ·exact .inl rfl
 ·split
  ·exact .inr (.inl rfl)
  ·split
   ·exact .inr (.inr (.inl rfl))
   ·exact .inr (.inr (.inr rfl))
theorem zK (kind x E:Int) (V:Nat) (px py:Option Addr) (bx ox cx b2 oy cy:Nat) (xs:List Int) (ys:List Nat) (w:World) (h:AtO kind xs ys x V E) (hs:TFl w px py bx ox b2 oy xs ys) :
  Calls Tryz.prog 78 #[.agg #[.int .i64 kind,.slice px xs.length cx,.slice py ys.length cy],.int .i64 x] w fun e w'=>e=.returned (.tuple #[.float .f64 V,.int .i64 E])∧Below w.heap.size w w':=by
 have hC:∀ E,TabR kind xs ys E→∀ wx,Below w.heap.size w wx→Calls Tryz.prog 118 #[.agg #[.int .i64 kind,.slice px xs.length cx,.slice py ys.length cy]] wx fun e w'=>e=.returned (.tuple #[chF kind E,.int .i64 E])∧Below wx.heap.size wx w':=fun E hT wx hb=>vZ kind E px py bx ox cx b2 oy cy xs ys wx hT (hs.below hb)
 have inn:∀ k V,OkT kind xs ys→FindO kind xs ys x ((k:Nat):Int) 0→k<xs.length→(xs.getD k 0=x→V=ys.getD k 0)→(xs.getD k 0≠x→∀ wx,Below w.heap.size w wx→Calls Tryz.prog (fT kind) #[.agg #[.int .i64 kind,.slice px xs.length cx,.slice py ys.length cy],.int .i64 (k:Int),.int .i64 x] wx fun e w'=>e=.returned (.float .f64 V)∧Below wx.heap.size wx w')→Calls Tryz.prog 78 #[.agg #[.int .i64 kind,.slice px xs.length cx,.slice py ys.length cy],.int .i64 x] w fun e w'=>e=.returned (.tuple #[.float .f64 V,.int .i64 0])∧Below w.heap.size w w':=fun k V ok hf hk hV hP=>by
  have hC0:=hC 0 (.ok ok)
  have hN:=fun wx (hb:Below w.heap.size w wx)=>kG kind x k 0 px py bx ox cx b2 oy xs ys wx ok hf (hs.below hb)
  have hX:=fun wx (hb:Below w.heap.size w wx)=>And.intro ((hs.below hb).x.cell k hk) ((hs.below hb).y.cell k (by rw [ok.len];exact hk))
  have hl:=ok.len
  obtain rfl:=hs.x.at_ (by omega)
  obtain rfl:=hs.y.at_ (by omega)
  rw [hl] at hC0 hP ⊢
  exact Da kind x _ (fT kind) bx ox cx b2 oy cy xs.length k _ V w (tL kind) hk ok.hi hV hC0 hN hX hP
 cases h with
 | err k E h hE=>
  have h':=h
  cases h with
  | bad E h hE=>exact zI kind x E _ _ _ w hE (hC E h)
  | out ok hx=>exact zJ kind x 0 51 _ _ _ w (by decide) (hC 0 (.ok ok)) (fun wx hb=>kG kind x 0 51 px py bx ox cx b2 oy xs ys wx ok h' (hs.below hb))
  | at_ ok hlo hhi k hk hj=>exact absurd rfl hE
 | node k ok h hk he=>exact inn k _ ok h hk.lt (fun _=>rfl) (fun c=>absurd he c)
 | piece k D i ok h hk he hI=>exact inn k _ ok h hk.lt (fun c=>absurd c he) (fun _ wx hb=>zH kind x px py bx ox cx b2 oy cy k D i xs ys wx ok (hs.below hb) hI)
end Go.Proofs.YtjjlnmihkadlmaaGreat
namespace Go.Proofs.YtjjlnmihkadlmaaGreat
open Go.RowKit

theorem GC {kind x:Int} {V:Nat} {xs:List Int} {ys:List Nat} (h:AtO kind xs ys x V 0) (h4:kind≠4):∃ k:Nat,OkT kind xs ys∧FindO kind xs ys x (k:Int) 0∧FindR xs x k∧AtR xs ys kind x k V:=by
 generalize hz:(0:Int)=z at h
 cases h with
 | err k E h hE=>exact absurd hz.symm hE
 | node k ok h hk he=>exact⟨k,ok,h,hk,.node kind x k he⟩
 | piece k D i ok h hk he hI=>
  refine⟨k,ok,h,hk,?_⟩
  have k1:=ok.k1
  have k4:=ok.k4
  unfold Fc
  by_cases q1:kind=1
  ·rw [if_pos q1];subst q1;exact .flat x k he
  ·rw [if_neg q1]
   by_cases q2:kind=2
   ·rw [if_pos q2];subst q2;exact .lin x k D i hI
   ·rw [if_neg q2,if_pos (show kind=3 by omega)]
    obtain rfl:kind=3:=by omega
    exact .cub x k D i hI
theorem mT {kind x:Int} {V:Nat} {xs:List Int} {ys:List Nat} (h:AtO kind xs ys x V 0) (hf:∀ i<ys.length,U64 (ys.getD i 0:Nat)):∃ k:Nat,OkT kind xs ys∧FindO kind xs ys x (k:Int) 0∧k<xs.length∧V<18446744073709551616∧ag (V:Nat)=false∧(k+1<xs.length→min (ae (ys.getD k 0:Nat)) (ae (ys.getD (k+1) 0:Nat))≤ae (V:Nat)∧ae (V:Nat)≤max (ae (ys.getD k 0:Nat)) (ae (ys.getD (k+1) 0:Nat)))∧(¬ k+1<xs.length→ae (V:Nat)=ae (ys.getD k 0:Nat)):=by
 by_cases h4:kind=4
 ·subst h4
  generalize hz:(0:Int)=z at h
  cases h with
  | err k E h hE=>exact absurd hz.symm hE
  | node k ok h hk he=>
   have hn:=aE ok hf hk.lt
   exact⟨k,ok,h,hk.lt,hn.lt,hn.nn.nan,fun _=>⟨by omega,by omega⟩,fun _=>rfl⟩
  | piece k D i ok h hk he hI=>
   obtain⟨a,b,c,d⟩:=CU ok hf hI
   exact⟨k,ok,h,hk.lt,b,a,fun _=>⟨c,d⟩,fun c=>absurd hI.lt c⟩
 ·obtain⟨k,ok,h',hk,hA⟩:=GC h h4
  by_cases hl:k+1<xs.length
  ·rcases Int.le_total (ae (ys.getD k 0:Nat)) (ae (ys.getD (k+1) 0:Nat)) with hr | hr
   ·obtain⟨a,b,c,d⟩:=mR ok hf hk.lt hA (fun _=>hr)
    have:=d hl
    exact⟨k,ok,h',hk.lt,by have:=a.2;omega,b,fun _=>⟨by omega,by omega⟩,fun c=>absurd hl c⟩
   ·obtain⟨a,b,c,d⟩:=jA ok hf hk.lt hA (fun _=>hr)
    have:=d hl
    exact⟨k,ok,h',hk.lt,by have:=a.2;omega,b,fun _=>⟨by omega,by omega⟩,fun c=>absurd hl c⟩
  ·obtain⟨a,b,c,d⟩:=mR ok hf hk.lt hA (fun e=>absurd e hl)
   obtain⟨a',b',c',d'⟩:=jA ok hf hk.lt hA (fun e=>absurd e hl)
   exact⟨k,ok,h',hk.lt,by have:=a.2;omega,b,fun e=>absurd e hl,fun _=>by omega⟩
end Go.Proofs.YtjjlnmihkadlmaaGreat
namespace Go.Proofs.YtjjlnmihkadlmaaGreat
open Go.RowKit

inductive FacO (base kind:Int) (ds:List Int) (fs:List Nat) (n:Int):Nat→Int→Prop
 | bad (E:Int) (h:CurR base kind ds fs E) (hE:E≠0):FacO base kind ds fs n 0 E
 | ok (h:OkV base kind ds fs) (V:Nat) (E:Int) (hA:AtO kind (ctX base ds) (ctY fs) n V E):FacO base kind ds fs n V E
theorem qO (base kind:Int) (ds:List Int) (fs:List Nat) (n:Int):∃ V E,FacO base kind ds fs n V E:=by
 obtain⟨E,h⟩:=qM base kind ds fs
 by_cases hE:E=0
 ·subst hE
  obtain⟨V,E,hA⟩:=GB kind (ctX base ds) (ctY fs) n
  exact⟨V,E,.ok (jB h) V E hA⟩
 ·exact⟨0,E,.bad E h hE⟩
theorem gW (base:Int) (ds:List Int):(ctX base ds).length=ds.length+1:=rfl
theorem xE (fs:List Nat):(ctY fs).length=fs.length+1:=rfl
theorem iK (fs:List Nat) (i:Nat):(ctY fs).getD i 0=prvF fs i:=by cases i<;>rfl
theorem Dc {fs:List Nat} (hf:∀ i<fs.length,fs.getD i 0<18446744073709551616):∀ i<(ctY fs).length,(ctY fs).getD i 0<18446744073709551616:=fun i hi=>by
 cases i with
 | zero=>exact (by decide:(4607182418800017408:Nat)<18446744073709551616)
 | succ i=>exact hf i (by rw [xE] at hi;omega)
theorem Dd {fs:List Nat} (hf:∀ i<fs.length,fs.getD i 0<18446744073709551616):∀ i<(ctY fs).length,U64 ((ctY fs).getD i 0:Nat):=fun i hi=>bB (Dc hf i hi)
theorem De {base kind:Int} {ds:List Int} {fs:List Nat} (ok:OkV base kind ds fs) {i:Nat} (hi:i≤ds.length):AtO kind (ctX base ds) (ctY fs) (eG base ds i) (prvF fs i) 0:=by
 have okT:=ok.table
 have hl:=gW base ds
 have hx:∀ j,(ctX base ds).getD j 0=eG base ds j:=qN base ds
 have le:∀ j k,j≤k→k≤ds.length→eG base ds j≤eG base ds k:=fun j k hjk hk=>by
  rcases Nat.lt_or_eq_of_le hjk with h | h
  ·have:=okT.rise h (by omega)
   rw [hx,hx] at this;omega
  ·rw [h];exact Int.le_refl _
 have hk:FindR (ctX base ds) (eG base ds i) i:=⟨by omega,by rw [hx];exact Int.le_refl _,fun h=>by
  have:=okT.step h
  rw [hx] at this;exact this⟩
 have:=AtO.node (kind:=kind) (ys:=ctY fs) i okT (.at_ okT (by rw [hx];exact le 0 i (Nat.zero_le _) hi) (by rw [hx,hl,Nat.add_sub_cancel];exact le i _ hi (Nat.le_refl _)) i hk (fun j hj=>⟨by omega,by rw [hx];exact le (j+1) i hj hi⟩)) hk (hx i)
 rw [iK] at this
 exact this
theorem jC {base kind:Int} {ds:List Int} {fs:List Nat} (ok:OkV base kind ds fs):∀ i≤ds.length,0<ae (prvF fs i:Nat)∧ag (prvF fs i:Nat)=false
 | 0,_=>by
  show 0<ae (4607182418800017408:Nat)∧ag (4607182418800017408:Nat)=false
  exact⟨by decide,by decide⟩
 | i+1,hi=>by
  have h:=(fd (ok.node i (by omega))).2.2.2
  show 0<ae (fs.getD i 0:Nat)∧ag (fs.getD i 0:Nat)=false
  unfold ltB at h
  simp only [Bool.and_eq_true,Bool.not_eq_true',decide_eq_true_eq] at h
  have r0:ae 0=0:=by decide
  exact⟨by rw [← r0];exact h.2,h.1.2⟩
theorem zL {base kind:Int} {ds:List Int} {fs:List Nat} (ok:OkV base kind ds fs) (h:kJ fs=true):∀ i<ds.length,ae (prvF fs (i+1):Nat)≤ae (prvF fs i:Nat):=fun i hi=>by
 have hR:=Db fs
 rw [h] at hR
 cases hR with
 | yes hy=>
  have:=hy i (by rw [ok.len];exact hi)
  have p:=jC ok i (by omega)
  have q:=jC ok (i+1) (by omega)
  have e:ltB (prvF fs i:Nat) (prvF fs (i+1):Nat)=false:=this
  rw [ax p.2 q.2,decide_eq_false_iff_not] at e
  omega
theorem mU {base kind:Int} {ds:List Int} {fs:List Nat} (ok:OkV base kind ds fs) (h:kJ fs=true):∀ i≤ds.length,ae (prvF fs i:Nat)≤ae (4607182418800017408:Nat)
 | 0,_=>Int.le_refl _
 | i+1,hi=>Int.le_trans (zL ok h i (by omega)) (mU ok h i (by omega))
theorem xF {base kind a:Int} {ds:List Int} {fs:List Nat} {W:Nat} (ok:OkV base kind ds fs) (hf:∀ i<fs.length,fs.getD i 0<18446744073709551616) (h:AtO kind (ctX base ds) (ctY fs) a W 0):W<18446744073709551616∧ag (W:Nat)=false∧0<ae (W:Nat)∧(kJ fs=true→ae (W:Nat)≤ae (4607182418800017408:Nat)):=by
 obtain⟨k,_,_,hk,h1,h2,h3,h4⟩:=mT h (Dd hf)
 rw [gW] at hk h3 h4
 rw [iK,iK] at h3
 rw [iK] at h4
 have p:=jC ok k (by omega)
 refine⟨h1,h2,?_,fun hF=>?_⟩
 ·by_cases hl:k+1<ds.length+1
  ·have:=(h3 hl).1
   have q:=jC ok (k+1) (by omega)
   omega
  ·have:=h4 hl;omega
 ·have p1:=mU ok hF k (by omega)
  by_cases hl:k+1<ds.length+1
  ·have:=(h3 hl).2
   have q:=mU ok hF (k+1) (by omega)
   omega
  ·have:=h4 hl;omega
end Go.Proofs.YtjjlnmihkadlmaaGreat
