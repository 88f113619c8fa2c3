/-  -/
import Derived.Test.YtjjlnmihkadlmaaGreatHaq
import Derived.Deep.RegionLaw
import Derived.Deep.RegionHeld3
import Derived.OwnWalk
import Derived.Laws.MakeOwn
namespace Go.Proofs.YtjjlnmihkadlmaaGreat
open Go.RowKit

theorem bG {ops:Array Oper} {o:Oper} {a:Act} {w:World} {K:Act→World→Prop} {Q:Exit→Act→World→Prop} {E:Prop} (hgd:o.guard=none) (s x:Operand)
  (ho:o.op=.call { callee:=.builtin .append,args:=#[s,x],argTypes:=#[40,40] })
  (base:Nat) (v:Value) (n:Nat) (xs:List Int) (hs:a.eval s=v) (hown:w.ownsRow base 3 1 v n (xs.map kV))
  (b off c m:Nat) (ys:List Int) (hx:a.eval x=.slice (some ⟨b,off,none⟩) m c) (hm:ys.length=m) (hsrc:∀ j<m,w.cell? ⟨b,off+j,none⟩=some (xV ys j)) (hn:n≤100000) (hm2:m≤100000) (hbase:base≤w.heap.size)
  (h:∀ v' w',w'.ownsRow base 3 1 v' (n+m) ((xs++ys).map kV)→w.grownBy w' v.ownBlock→K (a.put o.dst v') w') :
  if Region.wanted o (yielded ops a.tmps)=true then Oper.wp Tryz.prog o a w K Q else E:=by
 have hw:Region.wanted o (yielded ops a.tmps)=true:=by simp [Region.wanted,hgd]
 rw [if_pos hw]
 obtain⟨i0,hi,hz0,hz1,hz2⟩:=info_parts mW
 refine wp_append_own w s x 40 ho base 3 i0 (.int .i64 0) 1 8 Tryz.underlying40 hi hz0 hz1 hz2 rfl (by decide) v n (xs.map kV) hs hown ⟨b,off,none⟩ m c (ys.map kV) hx (by rw [List.length_map,hm,Nat.mul_one]) ?_ (fun u hu=>by obtain⟨z,_,rfl⟩:=List.mem_map.1 hu;rfl) (by unfold maxLen;omega) (by omega) hbase ?_
 ·intro j u hj
  have hj1:j<ys.length:=by
   have:=(List.getElem?_eq_some_iff.1 hj).1
   simpa using this
  rw [Addr.add_lit,hsrc j (by omega)]
  rw [List.getElem?_map,List.getElem?_eq_getElem hj1] at hj
  have hu:kV ys[j]=u:=Option.some.inj hj
  rw [← hu]
  show some (Value.int .i64 (ys.getD j 0))=_
  rw [List.getD_eq_getElem?_getD,List.getElem?_eq_getElem hj1];rfl
 ·intro v' w' h1 h2 _
  refine h v' w' ?_ h2
  rw [List.map_append];exact h1
theorem cQ {ops:Array Oper} {o:Oper} {a:Act} {w:World} {K:Act→World→Prop} {Q:Exit→Act→World→Prop} {E:Prop} (hgd:o.guard=none) (s x:Operand)
  (ho:o.op=.call { callee:=.builtin .append,args:=#[s,x],argTypes:=#[41,41] })
  (base:Nat) (v:Value) (n:Nat) (xs:List Nat) (hs:a.eval s=v) (hown:w.ownsRow base 54 1 v n (xs.map fV))
  (b off c m:Nat) (ys:List Nat) (hx:a.eval x=.slice (some ⟨b,off,none⟩) m c) (hm:ys.length=m) (hsrc:∀ j<m,w.cell? ⟨b,off+j,none⟩=some (flV ys j)) (hn:n≤100000) (hm2:m≤100000) (hbase:base≤w.heap.size)
  (h:∀ v' w',w'.ownsRow base 54 1 v' (n+m) ((xs++ys).map fV)→w.grownBy w' v.ownBlock→K (a.put o.dst v') w') :
  if Region.wanted o (yielded ops a.tmps)=true then Oper.wp Tryz.prog o a w K Q else E:=by
 have hw:Region.wanted o (yielded ops a.tmps)=true:=by simp [Region.wanted,hgd]
 rw [if_pos hw]
 obtain⟨i0,hi,hz0,hz1,hz2⟩:=info_parts mO
 refine wp_append_own w s x 41 ho base 54 i0 (.float .f64 0) 1 8 Tryz.underlying41 hi hz0 hz1 hz2 rfl (by decide) v n (xs.map fV) hs hown ⟨b,off,none⟩ m c (ys.map fV) hx (by rw [List.length_map,hm,Nat.mul_one]) ?_ (fun u hu=>by obtain⟨z,_,rfl⟩:=List.mem_map.1 hu;rfl) (by unfold maxLen;omega) (by omega) hbase ?_
 ·intro j u hj
  have hj1:j<ys.length:=by
   have:=(List.getElem?_eq_some_iff.1 hj).1
   simpa using this
  rw [Addr.add_lit,hsrc j (by omega)]
  rw [List.getElem?_map,List.getElem?_eq_getElem hj1] at hj
  have hu:fV ys[j]=u:=Option.some.inj hj
  rw [← hu]
  show some (Value.float .f64 (ys.getD j 0))=_
  rw [List.getD_eq_getElem?_getD,List.getElem?_eq_getElem hj1];rfl
 ·intro v' w' h1 h2 _
  refine h v' w' ?_ h2
  rw [List.map_append];exact h1
theorem mX {t:TypeId} (w:World) (z:Array Value) (N base:Nat) (hb:base≤w.heap.size) (hN:N≤1000):(w.alloc (.cells (madeCells z N) t)).ownsRow base t 1 (.slice (some ⟨w.heap.size,0,none⟩) 0 N) 0 []:=
 ⟨rfl,.inr ⟨w.heap.size,N,madeCells z N,rfl,hb,heap_alloc_new w _,Nat.zero_le _,by unfold maxLen;omega,by rw [size_madeCells,Nat.mul_one],by simp⟩⟩
theorem xG {t t':TypeId} {w:World} {b b' n m g g' c c':Nat} {xs ys:List Value} (h:w.ownsRow b t 1 (.slice (some ⟨g,0,none⟩) n c) n xs) (h':w.ownsRow b' t' 1 (.slice (some ⟨g',0,none⟩) m c') m ys) (ht:t≠t'):g≠g':=by
 rcases h.2 with⟨e,_⟩| ⟨k,cap,cur,e,hk,hgg,_⟩
 ·cases e
 ·rcases h'.2 with⟨e',_⟩| ⟨k',cap',cur',e',hk',hgg',_⟩
  ·cases e'
  ·injection e with e1 _ _
   injection e1 with e1
   injection e1 with e1
   injection e' with e2 _ _
   injection e2 with e2
   injection e2 with e2
   intro c
   rw [← e1] at hgg
   rw [← e2,← c,hgg] at hgg'
   injection hgg' with hgg'
   injection hgg' with _ hh
   exact ht hh
theorem tR {t:TypeId} {w w':World} {base n g c k:Nat} {xs:List Value} (h:w.ownsRow base t 1 (.slice (some ⟨g,0,none⟩) n c) n xs) (hw:w.grownBy w' (some k)) (hne:g≠k):w'.ownsRow base t 1 (.slice (some ⟨g,0,none⟩) n c) n xs:=by
 refine⟨h.1,?_⟩
 rcases h.2 with⟨e,_⟩| ⟨j,cap,cur,e,hk,hgg,rest⟩
 ·cases e
 ·have e':=e
  injection e with e1 _ _
  injection e1 with e1
  injection e1 with e1
  subst e1
  exact .inr ⟨g,cap,cur,e',hk,by rw [hw.block g (Array.getElem?_eq_some_iff.1 hgg).1 (by intro c;injection c with c;exact hne c)];exact hgg,rest⟩
theorem zP (N:Nat) (hN:N≤1000):∃ z,∀ w:World,(Instr.makeSlice 40 (.int .i64 0) (.int .i64 (N:Int))).run Tryz.prog w=.ok (.slice (some ⟨w.heap.size,0,none⟩) 0 N) (w.alloc (.cells (madeCells z N) 3)):=by
 obtain⟨i0,hi,hz0,hz1,hz2⟩:=info_parts mW
 refine⟨(Value.int .i64 0).cells,fun w=>?_⟩
 have:=run_make (P:=Tryz.prog) w 40 3 i0 _ Tryz.underlying40 hi hz0 .i64 .i64 0 (N:Int) (by omega) (by omega) (by rw [hz2];omega) (by omega)
 rw [hz1,Nat.mul_one,Int.toNat_natCast] at this
 exact this
theorem zQ (N:Nat) (hN:N≤1000):∃ z,∀ w:World,(Instr.makeSlice 41 (.int .i64 0) (.int .i64 (N:Int))).run Tryz.prog w=.ok (.slice (some ⟨w.heap.size,0,none⟩) 0 N) (w.alloc (.cells (madeCells z N) 54)):=by
 obtain⟨i0,hi,hz0,hz1,hz2⟩:=info_parts mO
 refine⟨(Value.float .f64 0).cells,fun w=>?_⟩
 have:=run_make (P:=Tryz.prog) w 41 54 i0 _ Tryz.underlying41 hi hz0 .i64 .i64 0 (N:Int) (by omega) (by omega) (by rw [hz2];omega) (by omega)
 rw [hz1,Nat.mul_one,Int.toNat_natCast] at this
 exact this
structure TbP (w:World) (base kind:Int) (vd vf:Value) (wr:World):Prop where
 t0:wr.cell? ⟨w.heap.size,0,none⟩=some (.int .i64 base)
 t1:wr.cell? ⟨w.heap.size,1,none⟩=some (.int .i64 kind)
 t2:wr.cell? ⟨w.heap.size,2,none⟩=some vd
 t3:wr.cell? ⟨w.heap.size,3,none⟩=some vf
 d0:wr.cell? ⟨w.heap.size+1,0,none⟩=some (.int .i64 0)
 d1:wr.cell? ⟨w.heap.size+1,1,none⟩=some (.slice none 0 0)
 d2:wr.cell? ⟨w.heap.size+1,2,none⟩=some (.slice none 0 0)
 e0:wr.frozen? ⟨w.heap.size+1,0,none⟩=false
 e1:wr.frozen? ⟨w.heap.size+1,1,none⟩=false
 e2:wr.frozen? ⟨w.heap.size+1,2,none⟩=false
 bl:Below w.heap.size w wr
 sz:w.heap.size+2≤wr.heap.size
theorem TbP.stay {w wr w':World} {base kind:Int} {vd vf:Value} (h:TbP w base kind vd vf wr) (hb:Below (w.heap.size+2) wr w'):TbP w base kind vd vf w':=by
 have c:∀ k<2,∀ j,w'.cell? ⟨w.heap.size+k,j,none⟩=wr.cell? ⟨w.heap.size+k,j,none⟩:=fun k hk j=>hb.cell (p:=⟨w.heap.size+k,j,none⟩) (by show w.heap.size+k<_;omega)
 have g:∀ k<2,∀ j,w'.frozen? ⟨w.heap.size+k,j,none⟩=wr.frozen? ⟨w.heap.size+k,j,none⟩:=fun k hk j=>hb.frozen (p:=⟨w.heap.size+k,j,none⟩) (by show w.heap.size+k<_;omega)
 exact⟨(c 0 (by omega) 0).trans h.t0,(c 0 (by omega) 1).trans h.t1,(c 0 (by omega) 2).trans h.t2,(c 0 (by omega) 3).trans h.t3,(c 1 (by omega) 0).trans h.d0,(c 1 (by omega) 1).trans h.d1,(c 1 (by omega) 2).trans h.d2,(g 1 (by omega) 0).trans h.e0,(g 1 (by omega) 1).trans h.e1,(g 1 (by omega) 2).trans h.e2,h.bl.trans (hb.mono (by omega)),Nat.le_trans h.sz hb.size⟩
theorem GF (w:World) (base kind:Int) (vd vf:Value):TbP w base kind vd vf ((w.alloc (.cells #[.int .i64 base,.int .i64 kind,vd,vf] 43)).alloc (.cells #[.int .i64 0,.slice none 0 0,.slice none 0 0] 148)):=by
 have hA:∀ (w:World) o,Below w.heap.size w (w.alloc o):=fun w o=>(Below.refl _ _).alloc (Nat.le_refl _) _
 generalize hw1:w.alloc (.cells #[.int .i64 base,.int .i64 kind,vd,vf] 43)=w1
 have z1:w1.heap.size=w.heap.size+1:=by rw [← hw1];simp
 have c1:∀ j,w1.cell? ⟨w.heap.size,j,none⟩=(#[.int .i64 base,.int .i64 kind,vd,vf]:Array Value)[j]? :=fun j=>by rw [← hw1];exact fg w _ _ j
 have c2:∀ j,(w1.alloc (.cells #[.int .i64 0,.slice none 0 0,.slice none 0 0] 148)).cell? ⟨w.heap.size+1,j,none⟩=(#[.int .i64 0,.slice none 0 0,.slice none 0 0]:Array Value)[j]? :=fun j=>by rw [← z1];exact fg w1 _ _ j
 have k2:∀ j o,(w1.alloc o).cell? ⟨w.heap.size,j,none⟩=w1.cell? ⟨w.heap.size,j,none⟩:=fun j o=>(hA w1 _).cell (p:=⟨w.heap.size,j,none⟩) (by show w.heap.size<w1.heap.size;omega)
 have g2:∀ j o t,(w1.alloc (.cells o t)).frozen? ⟨w.heap.size+1,j,none⟩=false:=fun j o t=>by rw [← z1];exact World.frozen?_alloc_new _ _ _ _
 have b1:Below w.heap.size w w1:=by rw [← hw1];exact hA w _
 exact⟨(k2 0 _).trans (c1 0),(k2 1 _).trans (c1 1),(k2 2 _).trans (c1 2),(k2 3 _).trans (c1 3),c2 0,c2 1,c2 2,g2 0 _ _,g2 1 _ _,g2 2 _ _,b1.alloc b1.size _,by simp;omega⟩
end Go.Proofs.YtjjlnmihkadlmaaGreat
namespace Go.Proofs.YtjjlnmihkadlmaaGreat
open Go.RowKit

set_option maxRecDepth 20000 in
set_option maxHeartbeats 3200000 in
theorem tS (base kind:Int) (bd od cd b2 o2 cf n:Nat) (ds:List Int) (fs:List Nat) (w:World) (hd:VSrc w (some ⟨bd,od,none⟩) bd od n (xV ds)) (hf:VSrc w (some ⟨b2,o2,none⟩) b2 o2 n (flV fs)) (hl:ds.length=n) (hl2:fs.length=n) (hn:1≤n) (hn':n≤255) :
  Calls Tryz.prog 79 #[.agg #[.int .i64 base,.int .i64 kind,.slice (some ⟨bd,od,none⟩) n cd,.slice (some ⟨b2,o2,none⟩) n cf]] w fun e w'=>∃ gx cx gy cy,e=.returned (.agg #[.int .i64 kind,.slice (some ⟨gx,0,none⟩) (1+n) cx,.slice (some ⟨gy,0,none⟩) (1+n) cy])∧w'.ownsRow w.heap.size 3 1 (.slice (some ⟨gx,0,none⟩) (1+n) cx) (1+n) ((base::ds).map kV)∧w'.ownsRow w.heap.size 54 1 (.slice (some ⟨gy,0,none⟩) (1+n) cy) (1+n) ((4607182418800017408::fs).map fV)∧Below w.heap.size w w':=by
 obtain⟨w2,hw2⟩:∃ w2,(w.alloc (.cells #[.int .i64 base,.int .i64 kind,.slice (some ⟨bd,od,none⟩) n cd,.slice (some ⟨b2,o2,none⟩) n cf] 43)).alloc (.cells #[.int .i64 0,.slice none 0 0,.slice none 0 0] 148)=w2:=⟨_,rfl⟩
 have HT:Hid (TbP w base kind (.slice (some ⟨bd,od,none⟩) n cd) (.slice (some ⟨b2,o2,none⟩) n cf) w2):=by show TbP _ _ _ _ _ _;rw [← hw2];exact GF w base kind _ _
 obtain⟨z1,hm1⟩:=zP (n+1) (by omega)
 obtain⟨z2,hm2⟩:=zQ (n+1) (by omega)
 rw [show ((n+1:Nat):Int)=(n:Int)+1 by omega] at hm1 hm2
 have hwr:IntKind.i64.wrap ((n:Int)+1)=(n:Int)+1:=by rw [IntKind.wrap_i64];omega
 rw [← hwr] at hm1
 have HD:=hideS hd
 have HF:=hideS hf
 have HL:=hideS hl
 have HL2:=hideS hl2
 clear hd hf hl hl2 hwr
 have HSZ:=hideS HT.out.sz
 have HO1:Hid (((w2.drew.alloc (.cells (madeCells z1 (n+1)) 3)).alloc (.cells #[.int .i64 base] 3)).ownsRow w2.heap.size 3 1 (.slice (some ⟨w2.heap.size,0,none⟩) 0 (n+1)) 0 (([]:List Int).map kV)):=cB (mX w2.drew z1 (n+1) w2.heap.size (Nat.le_refl _) (by omega)) ((Below.refl _ _).alloc (Nat.le_refl _) _)
 have HO2:Hid (((w2.drew.alloc (.cells #[.int .i64 base] 3)).alloc (.cells (madeCells z1 (n+1)) 3)).ownsRow w2.heap.size 3 1 (.slice (some ⟨w2.heap.size+1,0,none⟩) 0 (n+1)) 0 (([]:List Int).map kV)):=by
  have:=mX (t:=3) (w2.drew.alloc (.cells #[.int .i64 base] 3)) z1 (n+1) w2.heap.size (by simp) (by omega)
  rw [show (w2.drew.alloc (.cells #[.int .i64 base] 3)).heap.size=w2.heap.size+1 by simp] at this
  exact this
 have HC1:Hid (∀ j<1,((w2.drew.alloc (.cells (madeCells z1 (n+1)) 3)).alloc (.cells #[.int .i64 base] 3)).cell? ⟨w2.heap.size+1,0+j,none⟩=some (xV [base] j)):=by
  have:=gZ (w2.drew.alloc (.cells (madeCells z1 (n+1)) 3)) base 3
  rw [show (w2.drew.alloc (.cells (madeCells z1 (n+1)) 3)).heap.size=w2.heap.size+1 by simp] at this
  exact this
 have HC2:Hid (∀ j<1,((w2.drew.alloc (.cells #[.int .i64 base] 3)).alloc (.cells (madeCells z1 (n+1)) 3)).cell? ⟨w2.heap.size,0+j,none⟩=some (xV [base] j)):=fun j hj=>by
  have:=((Below.refl _ (w2.drew.alloc (.cells #[.int .i64 base] 3))).alloc (Nat.le_refl _) (.cells (madeCells z1 (n+1)) 3)).cell (p:=⟨w2.heap.size,0+j,none⟩) (by simp)
  exact this.trans (gZ w2.drew base 3 j hj)
 have HN1:Hid (w2.heap.size≤((w2.drew.alloc (.cells (madeCells z1 (n+1)) 3)).alloc (.cells #[.int .i64 base] 3)).heap.size):=by show _≤_;simp;omega
 have HN2:Hid (w2.heap.size≤((w2.drew.alloc (.cells #[.int .i64 base] 3)).alloc (.cells (madeCells z1 (n+1)) 3)).heap.size):=by show _≤_;simp;omega
 have HW1:Hid (Below w2.heap.size w2 ((w2.drew.alloc (.cells (madeCells z1 (n+1)) 3)).alloc (.cells #[.int .i64 base] 3))):=(((Below.refl _ w2).drew.alloc (Nat.le_refl _) _).alloc (by simp) _)
 have HW2:Hid (Below w2.heap.size w2 ((w2.drew.alloc (.cells #[.int .i64 base] 3)).alloc (.cells (madeCells z1 (n+1)) 3))):=(((Below.refl _ w2).drew.alloc (Nat.le_refl _) _).alloc (by simp) _)
 have t0:=HT.out.t0
 have t2:=HT.out.t2
 go_enter Tryz.func79,Tryz.ntmps79
 go_wp2_with fail
 clear hw2
 go_region_held3 (fun w'=>w'.cell? ⟨w.heap.size,0,none⟩=some (.int .i64 base)∧w'.cell? ⟨w.heap.size,2,none⟩=some (.slice (some ⟨bd,od,none⟩) n cd)) (first | go_keep | exact⟨(HT.out.stay (HW3.out.mono HSZ.out)).t0,(HT.out.stay (HW3.out.mono HSZ.out)).t2⟩) (first | ((refine bG rfl (.tmp 9) (.tmp 12) rfl w2.heap.size (.slice (some ⟨w2.heap.size,0,none⟩) 0 (n+1)) 0 [] rfl HO1.out (w2.heap.size+1) 0 1 1 [base] rfl rfl HC1.out (by omega) (by omega) HN1.out ?_;intro v3 w3 ho3 hg3;obtain⟨g3,c3,rfl,hs3,hb3,_,_⟩:=gC (xs:=[base]) ho3 rfl (by omega);have HW3:=hideS (HW1.out.trans (bI HO1.out hg3 HN1.out));have HO3:=hideS ho3;have HG3:=hideS (hs3.lt (by omega));clear ho3 hg3 hs3 hb3)) | ((refine bG rfl (.tmp 9) (.tmp 12) rfl w2.heap.size (.slice (some ⟨w2.heap.size+1,0,none⟩) 0 (n+1)) 0 [] rfl HO2.out (w2.heap.size) 0 1 1 [base] rfl rfl HC2.out (by omega) (by omega) HN2.out ?_;intro v3 w3 ho3 hg3;obtain⟨g3,c3,rfl,hs3,hb3,_,_⟩:=gC (xs:=[base]) ho3 rfl (by omega);have HW3:=hideS (HW2.out.trans (bI HO2.out hg3 HN2.out));have HO3:=hideS ho3;have HG3:=hideS (hs3.lt (by omega));clear ho3 hg3 hs3 hb3)))
 all_goals
  clear t0 t2 HO1 HO2 HC1 HC2 HN1 HN2 HW1 HW2 hm1
  have HT3:=hideS (HT.out.stay (HW3.out.mono HSZ.out))
  have HK3:=hideS HW3.out.size
  have HO4:Hid (((w3.alloc (.cells (madeCells z2 (n+1)) 54)).alloc (.cells #[.float .f64 4607182418800017408] 54)).ownsRow w3.heap.size 54 1 (.slice (some ⟨w3.heap.size,0,none⟩) 0 (n+1)) 0 (([]:List Nat).map fV)):=cB (mX w3 z2 (n+1) w3.heap.size (Nat.le_refl _) (by omega)) ((Below.refl _ _).alloc (Nat.le_refl _) _)
  have HC4:Hid (∀ j<1,((w3.alloc (.cells (madeCells z2 (n+1)) 54)).alloc (.cells #[.float .f64 4607182418800017408] 54)).cell? ⟨w3.heap.size+1,0+j,none⟩=some (flV [4607182418800017408] j)):=by
   have:=jD (w3.alloc (.cells (madeCells z2 (n+1)) 54)) 4607182418800017408 54
   rw [show (w3.alloc (.cells (madeCells z2 (n+1)) 54)).heap.size=w3.heap.size+1 by simp] at this
   exact this
  have HN4:Hid (w3.heap.size≤((w3.alloc (.cells (madeCells z2 (n+1)) 54)).alloc (.cells #[.float .f64 4607182418800017408] 54)).heap.size):=by show _≤_;simp;omega
  have HW4:Hid (Below w3.heap.size w3 ((w3.alloc (.cells (madeCells z2 (n+1)) 54)).alloc (.cells #[.float .f64 4607182418800017408] 54))):=(((Below.refl _ w3).alloc (Nat.le_refl _) _).alloc (by simp) _)
  have t3:=HT3.out.t3
  go_wp2_with (at_builtin;refine km _ rfl (.tmp 18) (.tmp 19) rfl w3.heap.size (.slice (some ⟨w3.heap.size,0,none⟩) 0 (n+1)) 0 [] rfl HO4.out (w3.heap.size+1) 0 1 1 [4607182418800017408] rfl rfl HC4.out (by omega) (by omega) HN4.out ?_;intro v4 w4 ho4 hg4;obtain⟨g4,c4,rfl,hs4,hb4,_,_⟩:=fh (xs:=[4607182418800017408]) ho4 rfl (by omega);have HW5:=hideS (HW4.out.trans (bI HO4.out hg4 HN4.out));have HO5:=hideS ho4;have HG4:=hideS (And.intro hb4 (hs4.lt (by omega)));clear ho4 hg4 hs4 hb4)
  clear t3 HO4 HC4 HN4 HW4 hm2
  have HT4:=hideS (HT3.out.stay (HW5.out.mono (Nat.le_trans HSZ.out HK3.out)))
  have HX4:=hideS (cB HO3.out HW5.out)
  have HNE:=hideS (xG HO5.out HX4.out (by decide))
  have HN5:Hid (w2.heap.size≤w4.heap.size):=Nat.le_trans HK3.out HW5.out.size
  have HD4:=hideS (HD.out.below HT4.out.bl)
  have t1:=HT4.out.t1
  have t2:=HT4.out.t2
  have t3:=HT4.out.t3
  clear HT3 HO3
  go_region_held3 (fun w'=>w'.cell? ⟨w.heap.size,1,none⟩=some (.int .i64 kind)∧w'.cell? ⟨w.heap.size,2,none⟩=some (.slice (some ⟨bd,od,none⟩) n cd)∧w'.cell? ⟨w.heap.size,3,none⟩=some (.slice (some ⟨b2,o2,none⟩) n cf)) (first | go_keep | exact⟨HT6.out.t1,HT6.out.t2,HT6.out.t3⟩| exact⟨HT5.out.t1,HT5.out.t2,HT5.out.t3⟩| (refine⟨?_,?_,?_⟩ <;>simp [go_sem,HT6.out.t1,HT6.out.t2,HT6.out.t3]))
   (first
    | ((refine bG rfl (.tmp 23) (.tmp 25) rfl w2.heap.size (.slice (some ⟨g3,0,none⟩) 1 c3) 1 [base] rfl HX4.out bd od cd n ds rfl HL.out HD4.out.cell (by omega) (by omega) HN5.out ?_;intro v5 w5 ho5 hg5;obtain⟨g5,c5,rfl,hs5,hb5,_,_⟩:=gC (xs:=base::ds) ho5 (by rw [List.length_cons,HL.out];omega) (by omega);have HY5:=hideS (tR (w:=w4.drew) (k:=g3) HO5.out hg5 HNE.out);have HW6:=hideS (((Below.refl w2.heap.size w4).drew).trans (bI (w:=w4.drew) HX4.out hg5 HN5.out));have HT5:=hideS (HT4.out.stay (HW6.out.mono HSZ.out));have HX5:=hideS ho5;have HF5:=hideS (HF.out.below HT5.out.bl);have HN6:Hid (w3.heap.size≤w5.heap.size):=Nat.le_trans HW5.out.size HW6.out.size;clear ho5 hg5 hs5 hb5))
    | ((refine cQ rfl (.tmp 27) (.tmp 29) rfl w3.heap.size (.slice (some ⟨g4,0,none⟩) 1 c4) 1 [4607182418800017408] rfl HY5.out b2 o2 cf n fs rfl HL2.out HF5.out.cell (by omega) (by omega) HN6.out ?_;intro v6 w6 ho6 hg6;obtain⟨g6,c6,rfl,hs6,hb6,_,_⟩:=fh (xs:=4607182418800017408::fs) ho6 (by rw [List.length_cons,HL2.out];omega) (by omega);have HX6:=hideS (tR (k:=g4) HX5.out hg6 (xG HX5.out HY5.out (by decide)));have HT6:=hideS (HT5.out.stay ((bI HY5.out hg6 HN6.out).mono (Nat.le_trans HSZ.out HK3.out)));have HY6:=hideS ho6;have d0:=HT6.out.d0;have d1:=HT6.out.d1;have d2:=HT6.out.d2;have e0:=HT6.out.e0;have e1:=HT6.out.e1;have e2:=HT6.out.e2;clear ho6 hg6 hs6 hb6)))
  all_goals
   go_wp2_with fail
   have hs:∀ j,w.heap.size≤(⟨w.heap.size+1,j,none⟩:Addr).block:=fun j=>by show w.heap.size≤w.heap.size+1;omega
   refine bodyPost_ret (v:=.agg #[.int .i64 kind,.slice (some ⟨g5,0,none⟩) (1+n) c5,.slice (some ⟨g6,0,none⟩) (1+n) c6]) (by simp [results,Tryz.results79,go_sem,d0,d1,d2]) rfl ?_
   have hbl:Below w.heap.size w (((w6.setCell ⟨w.heap.size+1,0,none⟩ (.int .i64 kind)).setCell ⟨w.heap.size+1,1,none⟩ (.slice (some ⟨g5,0,none⟩) (1+n) c5)).setCell ⟨w.heap.size+1,2,none⟩ (.slice (some ⟨g6,0,none⟩) (1+n) c6)):=((HT6.out.bl.setCell (hs 0) _).setCell (hs 1) _).setCell (hs 2) _
   have hz1:w.heap.size+1<w2.heap.size:=by have:=HSZ.out;omega
   have hz2:w.heap.size+1<w3.heap.size:=by have:=HK3.out;omega
   exact⟨g5,c5,g6,c6,rfl,gY (aO (aO (aO HX6.out hz1 _) hz1 _) hz1 _) (by omega),gY (aO (aO (aO HY6.out hz2 _) hz2 _) hz2 _) (by omega),hbl⟩
end Go.Proofs.YtjjlnmihkadlmaaGreat
namespace Go.Proofs.YtjjlnmihkadlmaaGreat
open Go.RowKit

structure SgB (w:World) (base kind:Int) (vd vf:Value) (wr:World):Prop where
 t0:wr.cell? ⟨w.heap.size,0,none⟩=some (.int .i64 base)
 t1:wr.cell? ⟨w.heap.size,1,none⟩=some (.int .i64 kind)
 t2:wr.cell? ⟨w.heap.size,2,none⟩=some vd
 t3:wr.cell? ⟨w.heap.size,3,none⟩=some vf
 d0:wr.cell? ⟨w.heap.size+1,0,none⟩=some (.int .i64 0)
 d1:wr.cell? ⟨w.heap.size+1,1,none⟩=some (.int .i64 0)
 d2:wr.cell? ⟨w.heap.size+1,2,none⟩=some (.slice none 0 0)
 d3:wr.cell? ⟨w.heap.size+1,3,none⟩=some (.slice none 0 0)
 fz:∀ i,wr.frozen? ⟨w.heap.size+1,i,none⟩=false
 bl:Below w.heap.size w wr
 sz:w.heap.size+2≤wr.heap.size
theorem SgB.stay {w wr w':World} {base kind:Int} {vd vf:Value} (h:SgB w base kind vd vf wr) (hb:Below (w.heap.size+2) wr w'):SgB w base kind vd vf w':=by
 have c:∀ k<2,∀ j,w'.cell? ⟨w.heap.size+k,j,none⟩=wr.cell? ⟨w.heap.size+k,j,none⟩:=fun k hk j=>hb.cell (p:=⟨w.heap.size+k,j,none⟩) (by show w.heap.size+k<_;omega)
 have g:∀ k<2,∀ j,w'.frozen? ⟨w.heap.size+k,j,none⟩=wr.frozen? ⟨w.heap.size+k,j,none⟩:=fun k hk j=>hb.frozen (p:=⟨w.heap.size+k,j,none⟩) (by show w.heap.size+k<_;omega)
 exact⟨(c 0 (by omega) 0).trans h.t0,(c 0 (by omega) 1).trans h.t1,(c 0 (by omega) 2).trans h.t2,(c 0 (by omega) 3).trans h.t3,(c 1 (by omega) 0).trans h.d0,(c 1 (by omega) 1).trans h.d1,(c 1 (by omega) 2).trans h.d2,(c 1 (by omega) 3).trans h.d3,fun i=>(g 1 (by omega) i).trans (h.fz i),h.bl.trans (hb.mono (by omega)),Nat.le_trans h.sz hb.size⟩
theorem rc (w:World) (base kind:Int) (vd vf:Value):SgB w base kind vd vf ((w.alloc (.cells #[.int .i64 base,.int .i64 kind,vd,vf] 43)).alloc (.cells #[.int .i64 0,.int .i64 0,.slice none 0 0,.slice none 0 0] 43)):=by
 have hA:∀ (w:World) o,Below w.heap.size w (w.alloc o):=fun w o=>(Below.refl _ _).alloc (Nat.le_refl _) _
 generalize hw1:w.alloc (.cells #[.int .i64 base,.int .i64 kind,vd,vf] 43)=w1
 have z1:w1.heap.size=w.heap.size+1:=by rw [← hw1];simp
 have c1:∀ j,w1.cell? ⟨w.heap.size,j,none⟩=(#[.int .i64 base,.int .i64 kind,vd,vf]:Array Value)[j]? :=fun j=>by rw [← hw1];exact fg w _ _ j
 have c2:∀ j,(w1.alloc (.cells #[.int .i64 0,.int .i64 0,.slice none 0 0,.slice none 0 0] 43)).cell? ⟨w.heap.size+1,j,none⟩=(#[.int .i64 0,.int .i64 0,.slice none 0 0,.slice none 0 0]:Array Value)[j]? :=fun j=>by rw [← z1];exact fg w1 _ _ j
 have k2:∀ j o,(w1.alloc o).cell? ⟨w.heap.size,j,none⟩=w1.cell? ⟨w.heap.size,j,none⟩:=fun j o=>(hA w1 _).cell (p:=⟨w.heap.size,j,none⟩) (by show w.heap.size<w1.heap.size;omega)
 have g2:∀ j o t,(w1.alloc (.cells o t)).frozen? ⟨w.heap.size+1,j,none⟩=false:=fun j o t=>by rw [← z1];exact World.frozen?_alloc_new _ _ _ _
 have b1:Below w.heap.size w w1:=by rw [← hw1];exact hA w _
 exact⟨(k2 0 _).trans (c1 0),(k2 1 _).trans (c1 1),(k2 2 _).trans (c1 2),(k2 3 _).trans (c1 3),c2 0,c2 1,c2 2,c2 3,fun i=>g2 i _ _,b1.alloc b1.size _,by simp;omega⟩
end Go.Proofs.YtjjlnmihkadlmaaGreat
