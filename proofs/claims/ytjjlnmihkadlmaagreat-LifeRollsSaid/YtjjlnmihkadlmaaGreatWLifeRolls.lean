/-  -/
import Derived.Test.YtjjlnmihkadlmaaGreatHbx
import Derived.Test.YtjjlnmihkadlmaaGreatHbv
import Derived.Test.YtjjlnmihkadlmaaGreatHbr
import Derived.Test.YtjjlnmihkadlmaaGreatHau
namespace Go.Proofs.YtjjlnmihkadlmaaGreat
open Go.RowKit

inductive OutR (base kind n:Int) (ds:List Int) (fs:List Nat):Int→Int→List Int→List Nat→Int→Prop
 | bad (E:Int) (hE:CurR base kind ds fs E) (h0:E≠0):OutR base kind n ds fs 0 0 [] [] E
 | out (ok:OkV base kind ds fs) (h:n<base∨ds.getD (ds.length - 1) 0≤n):OutR base kind n ds fs 0 0 [] [] 51
 | zero (ok:OkV base kind ds fs) (h0:base≤n) (h1:n<ds.getD (ds.length - 1) 0) (s:Nat) (hs:SkN ds n s) (j:Nat) (j0:s≤j) (j1:j<ds.length) (hj:¬ gdQ (qW (fs.getD j 0) (facV base kind ds fs n))):OutR base kind n ds fs 0 0 [] [] 91
 | ok (ok:OkV base kind ds fs) (h0:base≤n) (h1:n<ds.getD (ds.length - 1) 0) (s:Nat) (hs:SkN ds n s) (hg:∀ j,s≤j→j<ds.length→gdQ (qW (fs.getD j 0) (facV base kind ds fs n))):OutR base kind n ds fs n kind (ds.drop s) (qL fs (facV base kind ds fs n) s) 0
theorem IC (base kind n:Int) (ds:List Int) (fs:List Nat):∃ b k X Y E,OutR base kind n ds fs b k X Y E:=by
 obtain⟨E,hE⟩:=kj base kind ds fs
 by_cases h0:E=0
 ·subst h0
  have ok:=eU hE
  by_cases h:n<base∨ds.getD (ds.length - 1) 0≤n
  ·exact⟨_,_,_,_,_,.out ok h⟩
  ·obtain⟨s,hs⟩:=yB ok (n:=n) (by omega)
   by_cases hz:∃ j,s≤j∧j<ds.length∧¬ gdQ (qW (fs.getD j 0) (facV base kind ds fs n))
   ·obtain⟨j,a,b,c⟩:=hz
    exact⟨_,_,_,_,_,.zero ok (by omega) (by omega) s hs j a b c⟩
   ·exact⟨_,_,_,_,_,.ok ok (by omega) (by omega) s hs fun j a b=>Classical.byContradiction fun c=>hz ⟨j,a,b,c⟩⟩
 ·exact⟨_,_,_,_,_,.bad E hE h0⟩
theorem me {ds:List Int} {n:Int} {s s':Nat} (h:SkN ds n s) (h':SkN ds n s'):s=s':=by
 rcases Nat.lt_trichotomy s s' with c | c | c
 ·have:=h'.le s c
  have:=h.gt s (Nat.le_refl _) h.lt
  omega
 ·exact c
 ·have:=h.le s' c
  have:=h'.gt s' (Nat.le_refl _) h'.lt
  omega
theorem ks (w:World) (f:Nat→Value):VSrc w none 0 0 0 f:=⟨fun h=>absurd h (Nat.lt_irrefl 0),fun h=>absurd h (Nat.lt_irrefl 0),fun j hj=>absurd hj (Nat.not_lt_zero j)⟩
theorem Gd {w:World} {p:Option Addr} {b off n:Nat} {xs:List Nat} (h:USrc w p b off xs) (hn:xs.length=n):VSrc w p b off n (yV xs):=⟨fun hx=>h.at_ (by omega),fun hx=>h.lt (by omega),fun j hj=>h.cell j (by omega)⟩
theorem ID (w:World):TFl w none none 0 0 0 0 [] []:=⟨ks w _,ks w _,fun i hi=>absurd hi (Nat.not_lt_zero i)⟩
theorem IE (w:World):CSrcD w none none 0 0 0 0 [] []:=⟨ks w _,ks w _,fun i hi=>absurd hi (Nat.not_lt_zero i)⟩
def CvA (b k:Int) (X:List Int) (Y:List Nat) (E:Int) (e:Ending) (w':World):Prop:=
 ∃ pa ga ca qa gb da,e=.returned (.tuple #[.agg #[.int .i64 b,.int .i64 k,.slice pa X.length ca,.slice qa Y.length da],.int .i64 E])∧TFl w' pa qa ga 0 gb 0 X Y
def CvD (b k:Int) (X:List Int) (Y:List Nat) (E:Int) (e:Ending) (w':World):Prop:=
 ∃ pa ga ca qa gb da,e=.returned (.tuple #[.agg #[.int .i64 b,.int .i64 k,.slice pa X.length ca,.slice qa Y.length da],.int .i64 E])∧CSrcD w' pa qa ga 0 gb 0 X Y
theorem IF {w w':World} {base kind n b k E:Int} {ds X:List Int} {fs Y:List Nat} {e:Ending} (h:RlR w base kind n ds fs e w') (ho:OutR base kind n ds fs b k X Y E):CvA b k X Y E e w':=by
 have er:∀ E',e=.returned (.tuple #[.agg #[.int .i64 0,.int .i64 0,.slice none 0 0,.slice none 0 0],.int .i64 E'])→CvA 0 0 [] [] E' e w':=fun E' he=>⟨none,0,0,none,0,0,he,ID _⟩
 cases h with
 | bad E' hE h0 he=>
  cases ho with
  | bad E hE' _=>rw [oa hE' hE];exact er _ he
  | out ok _=>exact absurd (aW ok hE) h0
  | zero ok _ _ _ _ _ _ _ _=>exact absurd (aW ok hE) h0
  | ok ok _ _ _ _ _=>exact absurd (aW ok hE) h0
 | out ok h he=>
  cases ho with
  | bad E hE' h0=>exact absurd (aW ok hE') h0
  | out _ _=>exact er _ he
  | zero _ a b _ _ _ _ _ _=>omega
  | ok _ a b _ _ _=>omega
 | in_ ok h0 h1 s hs h=>
  cases ho with
  | bad E hE' h0=>exact absurd (aW ok hE') h0
  | out _ h=>omega
  | zero _ _ _ s' hs' j j0 j1 hj=>
   obtain rfl:=me hs hs'
   rcases h with⟨he,_⟩| ⟨_,_,_,_,hg,_⟩
   ·exact er _ he
   ·exact absurd (hg j j0 j1) hj
  | ok _ _ _ s' hs' hg=>
   obtain rfl:=me hs hs'
   rcases h with⟨_,j,j0,j1,hj⟩| ⟨gx,cx,gy,cy,_,he,hx,hy⟩
   ·exact absurd (hg j j0 j1) hj
   ·have l1:(ds.drop s).length=ds.length - s:=List.length_drop
    have l2:(qL fs (facV base kind ds fs n) s).length=ds.length - s:=by rw [fe,ok.len]
    have hlt:=hs.lt
    obtain⟨g1,c1,e1,s1,_⟩:=cj hx l1 (by omega)
    obtain⟨g2,c2,e2,s2,_⟩:=dS hy l2 (by omega)
    injection e1 with e1 _ e3
    injection e1 with e1
    injection e1 with e1
    injection e2 with e2 _ e4
    injection e2 with e2
    injection e2 with e2
    subst e1 e2
    refine⟨_,gx,cx,_,gy,cy,by rw [l1,l2];exact he,by rw [l1];exact s1,by rw [l2];exact s2,fun i hi=>?_⟩
    rw [l2] at hi
    rw [wg fs _ (by rw [ok.len];omega)]
    have:=(hg (s+i) (by omega) (by omega)).2
    omega
theorem IG {w w':World} {base kind n b k E:Int} {ds X:List Int} {fs Y:List Nat} {e:Ending} (h:RdR w base kind n ds fs e w') (ho:OutR base kind n ds fs b k X Y E):CvD b k X Y E e w':=by
 have er:∀ E',e=.returned (.tuple #[.agg #[.int .i64 0,.int .i64 0,.slice none 0 0,.slice none 0 0],.int .i64 E'])→CvD 0 0 [] [] E' e w':=fun E' he=>⟨none,0,0,none,0,0,he,IE _⟩
 cases h with
 | bad E' hE h0 he=>
  cases ho with
  | bad E hE' _=>rw [oa hE' hE];exact er _ he
  | out ok _=>exact absurd (aW ok hE) h0
  | zero ok _ _ _ _ _ _ _ _=>exact absurd (aW ok hE) h0
  | ok ok _ _ _ _ _=>exact absurd (aW ok hE) h0
 | out ok h he=>
  cases ho with
  | bad E hE' h0=>exact absurd (aW ok hE') h0
  | out _ _=>exact er _ he
  | zero _ a b _ _ _ _ _ _=>omega
  | ok _ a b _ _ _=>omega
 | in_ ok h0 h1 s hs h=>
  cases ho with
  | bad E hE' h0=>exact absurd (aW ok hE') h0
  | out _ h=>omega
  | zero _ _ _ s' hs' j j0 j1 hj=>
   obtain rfl:=me hs hs'
   rcases h with⟨he,_⟩| ⟨_,_,_,_,hg,_⟩
   ·exact er _ he
   ·exact absurd (hg j j0 j1) hj
  | ok _ _ _ s' hs' hg=>
   obtain rfl:=me hs hs'
   rcases h with⟨_,j,j0,j1,hj⟩| ⟨gx,cx,gy,cy,_,he,hx,hy⟩
   ·exact absurd (hg j j0 j1) hj
   ·have l1:(ds.drop s).length=ds.length - s:=List.length_drop
    have l2:(qL fs (facV base kind ds fs n) s).length=ds.length - s:=by rw [fe,ok.len]
    have hlt:=hs.lt
    obtain⟨g1,c1,e1,s1,_⟩:=cj hx l1 (by omega)
    obtain⟨p2,g2,c2,e2,s2,_,_,_⟩:=bY hy l2
    have e5:=s2.at_ (by omega)
    subst e5
    injection e1 with e1 _ e3
    injection e1 with e1
    injection e1 with e1
    injection e2 with e2 _ e4
    injection e2 with e2
    injection e2 with e2
    subst e1 e2
    refine⟨_,gx,cx,_,gy,cy,by rw [l1,l2];exact he,by rw [l1];exact s1,by rw [l2];exact Gd s2 l2,fun i hi=>?_⟩
    rw [l2] at hi
    rw [wg fs _ (by rw [ok.len];omega)]
    have:=(hg (s+i) (by omega) (by omega)).2
    exact ah (by omega)
theorem Ge {base kind n b k E:Int} {ds X:List Int} {fs Y:List Nat} (ho:OutR base kind n ds fs b k X Y E):X.length≤ds.length∧Y.length≤fs.length:=by
 cases ho with
 | bad=>exact⟨Nat.zero_le _,Nat.zero_le _⟩
 | out=>exact⟨Nat.zero_le _,Nat.zero_le _⟩
 | zero=>exact⟨Nat.zero_le _,Nat.zero_le _⟩
 | ok _ _ _ s=>exact⟨by rw [List.length_drop];omega,by rw [fe];omega⟩

set_option maxRecDepth 20000 in
set_option maxHeartbeats 1600000 in
theorem ov (base kind n:Int) (px py:Option Addr) (lx cx ly cy:Nat) (w:World) (h:30<lx∨30<ly) :
  Calls Tryz.prog 4 #[.agg #[.int .i64 base,.int .i64 kind,.slice px lx cx,.slice py ly cy],.int .i64 n] w fun e w'=>e=.returned (.bool true)∧Below w.heap.size w w':=by
 have HB0:=hideS (cF w base kind (.slice px lx cx) (.slice py ly cy))
 have HW:=hideS fun wx=>zU wx
 by_cases h1:30<lx
 ·have d1:decide ((30:Int)<(lx:Int))=true:=decide_eq_true (by omega)
  clear h h1
  go_enter Tryz.func4,Tryz.ntmps4
  go_wp2_with fail
  refine (HW.out _).mono ?_
  rintro e w2 ⟨rfl,hb2⟩
  have HB2:=hideS (HB0.out.step hb2)
  clear hb2
  go_wp2_with fail
  go_ret
  exact⟨rfl,HB2.out.bl⟩
 ·have d1:decide ((30:Int)<(lx:Int))=false:=decide_eq_false (by omega)
  have d2:decide ((30:Int)<(ly:Int))=true:=decide_eq_true (by omega)
  clear h h1
  go_enter Tryz.func4,Tryz.ntmps4
  go_wp2_with fail
  refine (HW.out _).mono ?_
  rintro e w2 ⟨rfl,hb2⟩
  have HB2:=hideS (HB0.out.step hb2)
  clear hb2
  go_wp2_with fail
  go_ret
  exact⟨rfl,HB2.out.bl⟩
set_option maxRecDepth 20000 in
set_option maxHeartbeats 3200000 in
theorem sP (base kind n b k E:Int) (px py:Option Addr) (bx ox cx b2 oy cy lx ly:Nat) (xs X:List Int) (ys Y:List Nat) (w:World) (hx:lx≤30) (hy:ly≤30) (hlx:xs.length=lx) (hly:ys.length=ly) (hs:TFl w px py bx ox b2 oy xs ys) (ho:OutR base kind n xs ys b k X Y E) :
  Calls Tryz.prog 4 #[.agg #[.int .i64 base,.int .i64 kind,.slice px lx cx,.slice py ly cy],.int .i64 n] w fun e w'=>e=.returned (.bool true)∧Below w.heap.size w w':=by
 have HB0:=hideS (cF w base kind (.slice px lx cx) (.slice py ly cy))
 have d1:decide ((30:Int)<(lx:Int))=false:=decide_eq_false (by omega)
 have d2:decide ((30:Int)<(ly:Int))=false:=decide_eq_false (by omega)
 have hbd:=Ge ho
 have HR:Hid (∀ wx,Below w.heap.size w wx→Calls Tryz.prog 27 #[.agg #[.int .i64 base,.int .i64 kind,.slice px lx cx,.slice py ly cy],.int .i64 n] wx fun e w'=>CvA b k X Y E e w'∧Below wx.heap.size wx w'):=fun wx hb=>by
  have:=qI base kind n px py bx ox cx b2 oy cy xs ys wx (hs.below hb)
  rw [hlx,hly] at this
  exact this.mono fun e w' h=>⟨IF h.1 ho,h.2⟩
 have HOf:Hid (∀ wx,Below w.heap.size w wx→Calls Tryz.prog 23 #[.agg #[.int .i64 base,.int .i64 kind,.slice px lx cx,.slice py ly cy]] wx fun e w'=>∃ v,e=.returned (.agg #[.int .i64 base,.int .i64 kind,.slice px lx cx,v])∧w'.ownsRow wx.heap.size 57 1 v ly (ys.map uV)∧Below wx.heap.size wx w'):=fun wx hb=>vP base kind b2 oy cx cy lx ly px py ys wx (by have:=(hs.below hb).y;rw [hly] at this;exact this) hly (by omega)
 have HD:Hid (∀ wx q g c,Below w.heap.size w wx→VSrc wx q g 0 ly (yV ys)→Calls Tryz.prog 28 #[.agg #[.int .i64 base,.int .i64 kind,.slice px lx cx,.slice q ly c],.int .i64 n] wx fun e w'=>CvD b k X Y E e w'∧Below wx.heap.size wx w'):=fun wx q g c hb hv=>by
  have hd:CSrcD wx px q bx ox g 0 xs ys:=⟨(hs.below hb).x,by rw [hly];exact hv,fun i hi=>aQ (hs.f i hi)⟩
  have:=Cz base kind n px q bx ox cx g 0 c xs ys wx hd
  rw [hlx,hly] at this
  exact this.mono fun e w' h=>⟨IG h.1 ho,h.2⟩
 have HLn:=hideS (And.intro hlx (And.intro hly hbd))
 have HW:=hideS fun wx=>zU wx
 clear hs ho hlx hly hbd
 go_enter Tryz.func4,Tryz.ntmps4
 go_wp2_with fail
 refine (HR.out _ HB0.out.bl).mono ?_
 rintro e w1 ⟨⟨pa,ga,ca,qa,gb,da,rfl,ht⟩,hb1⟩
 have HB1:=hideS (HB0.out.step hb1)
 have HT1:=hideS ht
 clear hb1 HB0 HR ht d1 d2
 obtain⟨w2,hw2⟩:∃ w2,w1.alloc (.cells #[.int .i64 b,.int .i64 k,.slice pa X.length ca,.slice qa Y.length da] 43)=w2:=⟨_,rfl⟩
 have hb2:Below w1.heap.size w1 w2:=by rw [← hw2];exact (Below.refl _ _).alloc (Nat.le_refl _) _
 have HB2:=hideS (HB1.out.step hb2)
 have HT2:=hideS (HT1.out.below hb2)
 have hk2:w2.heap[w1.heap.size]? =some (.cells #[.int .i64 b,.int .i64 k,.slice pa X.length ca,.slice qa Y.length da] 43):=by rw [← hw2];exact heap_alloc_new _ _
 have HKb:=hideS hk2
 have t0:=HB2.out.t0
 have t1:=HB2.out.t1
 have t2:=HB2.out.t2
 have t3:=HB2.out.t3
 clear hb2 hk2 HB1 HT1
 go_wp2_with fail
 refine (HOf.out _ HB2.out.bl).mono ?_
 rintro e w3 ⟨v,rfl,ho3,hb3⟩
 have HB3:=hideS (HB2.out.step hb3)
 have HT3:=hideS (HT2.out.below hb3)
 have hk3:=(hb3.block _ (Array.getElem?_eq_some_iff.1 HKb.out).1).trans HKb.out
 have HK3:=hideS hk3
 obtain⟨q3,g3,c3,rfl,s3,_,_,_⟩:=bY ho3 HLn.out.2.1
 have HD3:=hideS (HD.out w3 q3 g3 c3 HB3.out.bl (Gd s3 HLn.out.2.1))
 clear hb3 hk3 ho3 s3 HB2 HT2 HKb HOf HD t0 t1 t2 t3 hw2
 go_wp2_with fail
 refine (HD3.out).mono ?_
 rintro e w4 ⟨⟨pd,gd,cd,qd,ge,de,rfl,hd4⟩,hb4⟩
 have HB4:=hideS (HB3.out.step hb4)
 have HT4:=hideS (HT3.out.below hb4)
 have HK4:Hid (w4.heap[w1.heap.size]? =some (.cells #[.int .i64 b,.int .i64 k,.slice pa X.length ca,.slice qa Y.length da] 43)):=(hb4.block _ (Array.getElem?_eq_some_iff.1 HK3.out).1).trans HK3.out
 have HC4:=hideS hd4
 clear hb4 hd4 HB3 HT3 HK3 HD3
 obtain⟨w5,hw5⟩:∃ w5,w4.alloc (.cells #[.int .i64 b,.int .i64 k,.slice pd X.length cd,.slice qd Y.length de] 64)=w5:=⟨_,rfl⟩
 have hb5:Below w4.heap.size w4 w5:=by rw [← hw5];exact (Below.refl _ _).alloc (Nat.le_refl _) _
 have HB5:=hideS (HB4.out.step hb5)
 have hk5:w5.heap[w1.heap.size]? =some (.cells #[.int .i64 b,.int .i64 k,.slice pa X.length ca,.slice qa Y.length da] 43):=(hb5.block _ (Array.getElem?_eq_some_iff.1 HK4.out).1).trans HK4.out
 have HS5:=hideS (sN b k pa qa pd qd ga 0 ca gb 0 da gd 0 cd ge 0 de X.length Y.length X Y w5 rfl rfl (by have:=HLn.out;omega) (by have:=HLn.out;omega) (HT4.out.below hb5) (HC4.out.below hb5))
 have k0:w5.cell? ⟨w1.heap.size,0,none⟩=some (.int .i64 b):=by simp [World.cell?,hk5]
 have k1:w5.cell? ⟨w1.heap.size,1,none⟩=some (.int .i64 k):=by simp [World.cell?,hk5]
 have k2:w5.cell? ⟨w1.heap.size,2,none⟩=some (.slice pa X.length ca):=by simp [World.cell?,hk5]
 have k3:w5.cell? ⟨w1.heap.size,3,none⟩=some (.slice qa Y.length da):=by simp [World.cell?,hk5]
 have hk6:w5.heap[w4.heap.size]? =some (.cells #[.int .i64 b,.int .i64 k,.slice pd X.length cd,.slice qd Y.length de] 64):=by rw [← hw5];exact heap_alloc_new _ _
 have m0:w5.cell? ⟨w4.heap.size,0,none⟩=some (.int .i64 b):=by simp [World.cell?,hk6]
 have m1:w5.cell? ⟨w4.heap.size,1,none⟩=some (.int .i64 k):=by simp [World.cell?,hk6]
 have m2:w5.cell? ⟨w4.heap.size,2,none⟩=some (.slice pd X.length cd):=by simp [World.cell?,hk6]
 have m3:w5.cell? ⟨w4.heap.size,3,none⟩=some (.slice qd Y.length de):=by simp [World.cell?,hk6]
 have d3:(E==E)=true:=beq_self_eq_true E
 clear hb5 hk5 hk6 HB4 HT4 HK4 HC4
 go_wp2_with fail
 refine (HS5.out).mono ?_
 rintro e w6 ⟨rfl,hb6⟩
 have HB6:=hideS (HB5.out.step hb6)
 clear hb6 HB5 HS5 k0 k1 k2 k3 m0 m1 m2 m3 hw5
 go_wp2_with fail
 refine (HW.out _).mono ?_
 rintro e w7 ⟨rfl,hb7⟩
 have HB7:=hideS (HB6.out.step hb7)
 clear hb7
 go_wp2_with fail
 go_ret
 exact⟨rfl,HB7.out.bl⟩
theorem ow (base kind n:Int) (px py:Option Addr) (bx ox cx b2 oy cy:Nat) (xs:List Int) (ys:List Nat) (w:World) (hs:TFl w px py bx ox b2 oy xs ys) (_hxI:∀ i<xs.length,sE (xs.getD i 0)) (_hx:xs.length≤17592186043904) (_hy:ys.length≤17592186043904) (_hlx:xs.length≤cx) (_hly:ys.length≤cy) (_hn:sE n) :
  Calls Tryz.prog 4 #[.agg #[.int .i64 base,.int .i64 kind,.slice px xs.length cx,.slice py ys.length cy],.int .i64 n] w fun e w'=>e=.returned (.bool true)∧Below w.heap.size w w':=by
 by_cases h:30<xs.length∨30<ys.length
 ·exact ov base kind n px py _ cx _ cy w h
 ·obtain⟨b,k,X,Y,E,ho⟩:=IC base kind n xs ys
  exact sP base kind n b k E px py bx ox cx b2 oy cy _ _ xs X ys Y w (by omega) (by omega) rfl rfl hs ho
end Go.Proofs.YtjjlnmihkadlmaaGreat
