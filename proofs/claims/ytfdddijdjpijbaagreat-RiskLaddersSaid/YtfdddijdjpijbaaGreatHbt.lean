/-  -/
import Derived.Test.YtfdddijdjpijbaaGreatHbs
import Derived.Test.YtfdddijdjpijbaaGreatHbr
import Derived.Test.YtfdddijdjpijbaaGreatFnv
set_option maxHeartbeats 6400000
set_option maxRecDepth 20000
namespace Go.Proofs.YtfdddijdjpijbaaGreat
open Go.RowKit
structure DpB (w:World) (base kind:Int) (vd vf:Value) (wr:World):Prop where
 k:DxK wr w.heap.size base kind vd vf
 z:wr.heap[w.heap.size+1]? =some cY
 bl:Below w.heap.size w wr
 sz:w.heap.size+2<=wr.heap.size
theorem Ce (w:World) (base kind:Int) (c a:Value):DpB w base kind c a ((w.alloc (.cells #[.int .i64 base,.int .i64 kind,c,a] 39)).alloc cY):=by
 have d:(w.alloc (.cells #[.int .i64 base,.int .i64 kind,c,a] 39)).heap.size=w.heap.size+1:=by simp
 have b:=(Below.refl (w.heap.size+1) (w.alloc (.cells #[.int .i64 base,.int .i64 kind,c,a] 39))).alloc (by omega) cY
 refine⟨⟨?_⟩,?_,((Below.refl _ _).alloc (Nat.le_refl _) _).alloc (by omega) _,by simp⟩
 ·rw [b.block _ (by omega)];exact heap_alloc_new _ _
 ·rw [<- d];exact heap_alloc_new _ _
theorem DpB.step {w wr c:World} {base kind:Int} {d b:Value} (h:DpB w base kind d b wr) (a:Below wr.heap.size wr c):DpB w base kind d b c:=
 ⟨h.k.step a,(a.block _ (by have:=h.sz;omega)).trans h.z,h.bl.trans (a.mono h.bl.size),Nat.le_trans h.sz a.size⟩
structure DvE (w:World) (E:Int) (e:Ending) (w':World):Prop where
 e:e=.returned (.tuple #[.agg #[.int .i64 0,.int .i64 0,.slice none 0 0,.slice none 0 0],.int .i64 E])
 bl:Below w.heap.size w w'
theorem Cf {c u1 u2 u3 d:World} {B b n:Nat} {v:Value} {xs:List Nat} {e j g l:Value} (h:c.ownsRow B 41 1 v n (xs.map uV)) (a:b<B) (i:c.setCell ⟨b,0,none⟩ e=u1) (f:u1.setCell ⟨b,1,none⟩ j=u2) (m:u2.setCell ⟨b,2,none⟩ g=u3) (k:u3.setCell ⟨b,3,none⟩ l=d):d.ownsRow B 41 1 v n (xs.map uV):=by
 rw [<- k,<- m,<- f,<- i];exact bt (bt (bt (bt h a _) a _) a _) a _
def NH (w:World) (base kind E:Int) (d b:Value):Prop:=∀ a,Below w.heap.size w a->Calls Tryz.prog 42 #[.agg #[.int .i64 base,.int .i64 kind,d,b]] a fun e c=>e=.returned (.int .i64 E)/\Below a.heap.size a c
theorem zJ (base kind E:Int) (i:Int) (h:Int) (f g:Value) (w:World) (o:E≠0) (p:Hid (NH w base kind E f g)) :
  Calls Tryz.prog 25 #[.agg #[.int .i64 base,.int .i64 kind,f,g],.int .i64 i,.int .u64 h] w fun e y=>DvE w E e y:=by
 have Q:(E !=0)=true:=bne_iff_ne.2 o;clear o;have d:=hideS (Ce w base kind (f) (g));obtain⟨l,a⟩:∃ l,(w.alloc (.cells #[.int .i64 base,.int .i64 kind,f,g] 39)).alloc cY=l:=⟨_,rfl⟩;rw [a] at d
 unfold cY at a
 obtain⟨C,q,u,A⟩:=d.out.k.t
 go_enter Tryz.func25,Tryz.ntmps25
 go_wp2_with fail
 clear a C q u A;refine (p.out _ d.out.bl).mono ?_
 rintro e D ⟨rfl,c⟩;have b:=hideS (d.out.step c);clear c p d;obtain⟨M,P,U,I,⟨K,F,G⟩,⟨J,L,O⟩,⟨R,V,S⟩,⟨N,T,H⟩,m,n⟩:=jX (w.heap.size+1) 0 0 (.slice none 0 0) (.slice none 0 0) D b.out.z;have j:=hideS (b.out.bl.trans (n.mono (by omega)))
 obtain⟨s,B,r,x⟩:=m.t;clear m n
 go_wp2_with fail
 refine bodyPost_ret (v:=.tuple #[.agg #[.int .i64 0,.int .i64 0,.slice none 0 0,.slice none 0 0],.int .i64 E]) (by simp [results,Tryz.results25,go_sem,s,B,r,x]) rfl ?_
 exact⟨rfl,j.out⟩
theorem zK (base kind:Int) (i:Int) (h:Int) (j:Value) (l:Option Addr) (n g:Nat) (w:World) (hi:¬ (0<=i/\i<(n:Int))) (C:Hid (NH w base kind 0 j (.slice l n g))) :
  Calls Tryz.prog 25 #[.agg #[.int .i64 base,.int .i64 kind,j,.slice l n g],.int .i64 i,.int .u64 h] w fun e D=>DvE w 1 e D:=by
 have d:=hideS (Ce w base kind (j) (.slice l n g));obtain⟨p,b⟩:∃ p,(w.alloc (.cells #[.int .i64 base,.int .i64 kind,j,.slice l n g] 39)).alloc cY=p:=⟨_,rfl⟩;rw [b] at d
 unfold cY at b
 obtain⟨B,m,u,y⟩:=d.out.k.t
 go_enter Tryz.func25,Tryz.ntmps25
 go_wp2_with fail
 clear b B m u y;refine (C.out _ d.out.bl).mono ?_
 rintro e E ⟨rfl,c⟩;have a:=hideS (d.out.step c);clear c C d;obtain⟨B,m,u,y⟩:=a.out.k.t;obtain⟨N,Q,V,I,⟨L,F,G⟩,⟨J,M,P⟩,⟨S,W,T⟩,⟨O,U,K⟩,q,r⟩:=jX (w.heap.size+1) 0 0 (.slice none 0 0) (.slice none 0 0) E a.out.z;have f:=hideS (a.out.bl.trans (r.mono (by omega)))
 obtain⟨s,A,o,x⟩:=q.t;clear q r
 by_cases R:i<0
 ·clear hi
  go_wp2_with fail
  refine bodyPost_ret (v:=.tuple #[.agg #[.int .i64 0,.int .i64 0,.slice none 0 0,.slice none 0 0],.int .i64 1]) (by simp [results,Tryz.results25,go_sem,s,A,o,x]) rfl ?_
  exact⟨rfl,f.out⟩
 ·have H:(n:Int)<=i:=by omega
  clear hi
  go_wp2_with fail
  refine bodyPost_ret (v:=.tuple #[.agg #[.int .i64 0,.int .i64 0,.slice none 0 0,.slice none 0 0],.int .i64 1]) (by simp [results,Tryz.results25,go_sem,s,A,o,x]) rfl ?_
  exact⟨rfl,f.out⟩
def QS (w:World) (base kind:Int) (c f:Option Addr) (n cx cy:Nat) (i j h:Nat) (L:List Nat) (a:Bool):Prop:=∀ b,Below w.heap.size w b->Calls Tryz.prog 43 #[.agg #[.int .i64 base,.int .i64 kind,.slice c n cx,.slice f n cy],.int .i64 i,.int .i64 j,.int .u64 (h:Int)] b fun e d=>BqO b base kind c n cx L a e d
structure BgO (w:World) (base kind:Int) (px:Option Addr) (n cx:Nat) (L:List Nat) (bad:Bool) (e:Ending) (w':World):Prop where
 no:bad=true->DvE w 91 e w'
 yes:bad=false->BqO w base kind px n cx L false e w'
theorem rC (base kind:Int) (i x:Option Addr) (n cx cy k h:Nat) (L:List Nat) (j:Bool) (w:World) (hk:k<n) (hn:n<=255) (hh:h<18446744073709551616) (W:L.length=n) (HC:Hid (NH w base kind 0 (.slice i n cx) (.slice x n cy))) (HD:Hid (aM (h:Int)=true->QS w base kind i x n cx cy k (k+1) h L j)) :
  Calls Tryz.prog 25 #[.agg #[.int .i64 base,.int .i64 kind,.slice i n cx,.slice x n cy],.int .i64 k,.int .u64 (h:Int)] w fun e w'=>BgO w base kind i n cx L (!aM (h:Int)||j) e w':=by
 have I:=hideS fun wx=>co (h:Int) wx (ag hh)
 have y:=hideS (Ce w base kind (.slice i n cx) (.slice x n cy));obtain⟨T,l⟩:∃ T,(w.alloc (.cells #[.int .i64 base,.int .i64 kind,.slice i n cx,.slice x n cy] 39)).alloc cY=T:=⟨_,rfl⟩;rw [l] at y
 unfold cY at l
 obtain⟨D,A,B,C⟩:=y.out.k.t;have l1:(0:Int)<=(k:Int):=Int.natCast_nonneg _;have l2:(k:Int)<(n:Int):=by omega
 have N:=hideS W;have ab:IntKind.i64.wrap ((k:Int)+1)=((k+1:Nat):Int):=by rw [IntKind.wrap_i64];omega
 clear hh W;generalize aM (h:Int)=b1 at *
 go_enter Tryz.func25,Tryz.ntmps25
 go_wp2_with fail
 clear l D A B C;refine (HC.out _ y.out.bl).mono ?_
 rintro e w3 ⟨rfl,s⟩;have a:=hideS (y.out.step s);clear s HC y;obtain⟨D,A,B,C⟩:=a.out.k.t
 go_wp2_with fail
 refine (turned (I.out _)).mono ?_
 rintro e w4 ⟨rfl,rfl⟩;cases b1
 ·obtain⟨V,Y,u3,S,⟨J,P,Q⟩,⟨G,U,X⟩,⟨M,z2,y2⟩,⟨K,z3,R⟩,d,f⟩:=jX (w.heap.size+1) 0 0 (.slice none 0 0) (.slice none 0 0) w3 a.out.z;have b:=hideS (a.out.bl.trans (f.mono (by omega)))
  obtain⟨p,u,m,r⟩:=d.t;clear d f
  go_wp2_with fail
  refine bodyPost_ret (v:=.tuple #[.agg #[.int .i64 0,.int .i64 0,.slice none 0 0,.slice none 0 0],.int .i64 91]) (by simp [results,Tryz.results25,go_sem,p,u,m,r]) rfl ?_
  exact⟨fun _=>⟨rfl,b.out⟩,fun e=>(by cases e)⟩
 ·go_wp2_with fail
  refine (HD.out (by first | trivial | rfl) _ a.out.bl).mono ?_
  rintro e O o;have c:=hideS (a.out.step o.bl);have F:=a.out.sz;have HZ:=hideS F;cases j
  ·obtain⟨v,rfl,E⟩:=o.yes rfl;obtain⟨q,g,Z,rfl,_,_,_,_⟩:=bq E N.out;obtain⟨V,Y,u3,S,⟨J,P,Q⟩,⟨G,U,X⟩,⟨M,z2,y2⟩,⟨K,z3,R⟩,d,f⟩:=jX (w.heap.size+1) base kind (.slice i n cx) (.slice q n Z) O c.out.z;have b:=hideS (c.out.bl.trans (f.mono (by omega)))
   have H:=hideS (fX (Cf E (by omega) J G M K) (by omega:w.heap.size<=w3.heap.size))
   obtain⟨p,u,m,r⟩:=d.t;clear d f E o D A B C
   go_wp2_with fail
   refine bodyPost_ret (v:=.tuple #[.agg #[.int .i64 base,.int .i64 kind,.slice i n cx,.slice q n Z],.int .i64 0]) (by simp [results,Tryz.results25,go_sem,p,u,m,r]) rfl ?_
   exact⟨fun e=>(by cases e),fun _=>⟨fun e=>(by cases e),fun _=>⟨_,rfl,H.out⟩,b.out⟩⟩
  ·obtain rfl:=o.no rfl;obtain⟨V,Y,u3,S,⟨J,P,Q⟩,⟨G,U,X⟩,⟨M,z2,y2⟩,⟨K,z3,R⟩,d,f⟩:=jX (w.heap.size+1) 0 0 (.slice none 0 0) (.slice none 0 0) O c.out.z;have b:=hideS (c.out.bl.trans (f.mono (by omega)))
   obtain⟨p,u,m,r⟩:=d.t;clear d f o D A B C
   go_wp2_with fail
   refine bodyPost_ret (v:=.tuple #[.agg #[.int .i64 0,.int .i64 0,.slice none 0 0,.slice none 0 0],.int .i64 91]) (by simp [results,Tryz.results25,go_sem,p,u,m,r]) rfl ?_
   exact⟨fun _=>⟨rfl,b.out⟩,fun e=>(by cases e)⟩
theorem NI {xs ys:List Nat} (b:xs.length=ys.length) (h:∀ t<xs.length,xs.getD t 0=ys.getD t 0):xs=ys:=
 List.ext_getElem b fun t a c=>by
  have:=h t a;rw [List.getD_eq_getElem?_getD,List.getD_eq_getElem?_getD,List.getElem?_eq_getElem a,List.getElem?_eq_getElem c] at this
  exact this
theorem PP (c:Cv) (i j h n t:Nat) (a:t<n):(bqL c i j h n).getD t 0=bqV c i j h t:=by
 unfold bqL;rw [List.getD_eq_getElem?_getD,List.getElem?_map,List.getElem?_range a];rfl
theorem zL {c:Cv} {k h:Nat} (b:c.Ok) (d:k<c.ds.length):bqL c k (k+1) h c.ds.length=(c.bump k h).fs:=
 NI (by rw [eL];show _=(c.fs.set k _).length;rw [List.length_set,b.len]) fun t a=>by
  rw [eL] at a
  rw [PP _ _ _ _ _ _ a,mn (by rw [b.len];exact d)]
  unfold bqV
  by_cases e:t=k
  ·subst e;rw [if_pos ⟨Nat.le_refl _,Nat.lt_succ_self _⟩,if_pos rfl]
  ·rw [if_neg (by omega),if_neg e]
structure DvO (w:World) (d:Cv) (E:Int) (px:Option Addr) (bx ox cx:Nat) (e:Ending) (w':World):Prop where
 bad:E≠0->e=.returned (.tuple #[.agg #[.int .i64 0,.int .i64 0,.slice none 0 0,.slice none 0 0],.int .i64 E])
 ok:E=0->∃ q g cc,e=.returned (.tuple #[.agg #[.int .i64 d.base,.int .i64 d.kind,.slice px d.ds.length cx,.slice q d.fs.length cc],.int .i64 0])/\CSrcD w' px q bx ox g 0 d.ds d.fs/\w.heap.size<=g
 bl:Below w.heap.size w w'
theorem DvE.dv {w b:World} {d:Cv} {E:Int} {f:Option Addr} {i c cx:Nat} {e:Ending} (h:DvE w E e b) (g:E≠0):DvO w d E f i c cx e b:=⟨fun _=>h.e,fun a=>absurd a g,h.bl⟩
theorem BqO.dv {w m:World} {c:Cv} {L:List Nat} {f t:Option Addr} {j k x o cx:Nat} {e:Ending} (h:BqO w c.base c.kind f c.ds.length cx L false e m) (u:CSrcD w f t j k x o c.ds c.fs) (l:L.length=c.ds.length) (p:∀ i<L.length,L.getD i 0<18446744073709551616):DvO w ⟨c.base,c.kind,c.ds,L⟩ 0 f j k cx e m:=by
 obtain⟨v,y,r⟩:=h.yes rfl;obtain⟨q,g,n,rfl,b,s,_,_⟩:=bq r l;refine⟨fun a=>absurd rfl a,fun _=>⟨q,g,n,?_,⟨(u.below h.bl).d,⟨b.at_,b.lt,b.cell⟩,fun i hi=>ag (p i hi)⟩,s⟩,h.bl⟩
 show e=.returned (.tuple #[.agg #[.int .i64 c.base,.int .i64 c.kind,.slice f c.ds.length cx,.slice q L.length n],.int .i64 0])
 rw [l];exact y
theorem NJ {c:Cv} {E:Int} {w:World} {a b:Option Addr} {g d e f cx cy:Nat} (h:CSrcD w a b g d e f c.ds c.fs) (i:c.Chk E):NH w c.base c.kind E (.slice a c.ds.length cx) (.slice b c.fs.length cy):=
 fun k j=>dw c.base c.kind a b g d cx e f cy c.ds c.fs k (h.below j) i
theorem zM (c d:Cv) (i E:Int) (h:Nat) (m j:Option Addr) (r s cx A x cy:Nat) (w:World) (u:h<18446744073709551616) (l:CSrcD w m j r s A x c.ds c.fs) (v:c.Fit) (G:BmpR c i h d E) :
  Calls Tryz.prog 25 #[.agg #[.int .i64 c.base,.int .i64 c.kind,.slice m c.ds.length cx,.slice j c.fs.length cy],.int .i64 i,.int .u64 (h:Int)] w fun e o=>DvO w d E m r s cx e o:=by
 cases G with
 | chk E D C=>exact (zJ c.base c.kind E i h _ _ w C (NJ l D)).mono fun e o a=>a.dv C
 | arg ok hi=>exact (zK c.base c.kind i h _ j c.fs.length cy w (by rw [ok.len];exact hi) (NJ l (.ok ok))).mono fun e o a=>a.dv (by decide)
 | val ok k g e q=>
  subst e;have z:=ok.len;have p:=NJ (cx:=cx) (cy:=cy) l (.ok ok);rw [z] at p ⊢
  refine (rC c.base c.kind m j c.ds.length cx cy k h (bqL c k (k+1) h c.ds.length) true w g ok.hi u (eL _ _ _ _ _) p (fun y B f=>?_)).mono fun e o a=>(a.no (by simp)).dv (by decide)
  have:=ks c k (k+1) h c.ds.length k m j r s cx A x cy B ok (l.below f) v rfl u y (by omega) (fun t F a _=>absurd a (by omega)) (fun _=>⟨Nat.le_refl _,Nat.lt_succ_self _,q⟩)
  rw [decide_eq_true g] at this
  exact this
 | ok ok k g e q=>
  subst e;have z:=ok.len;have p:=NJ (cx:=cx) (cy:=cy) l (.ok ok);have n:=(zG q).2;rw [z] at p ⊢
  refine (rC c.base c.kind m j c.ds.length cx cy k h (bqL c k (k+1) h c.ds.length) false w g ok.hi u (eL _ _ _ _ _) p (fun y B f=>?_)).mono fun e o a=>?_
  ·have:=ks c k (k+1) h c.ds.length c.ds.length m j r s cx A x cy B ok (l.below f) v rfl u y (Nat.le_refl _) (fun t F a b=>by rw [show t=k by omega];exact q) (fun a=>absurd a (by omega))
   rw [decide_eq_false (by omega)] at this
   exact this
  ·have:=(a.yes (by rw [n];rfl)).dv l (eL _ _ _ _ _) (fun i hi=>by rw [zL ok g] at hi ⊢;exact zH ok v g q i hi)
   rw [zL ok g] at this
   exact this
structure HoB (w:World) (base kind:Int) (vd vf:Value) (wr:World):Prop where
 k:BxK wr w.heap.size base kind vd vf
 z:wr.heap[w.heap.size+1]? =some bC
 bl:Below w.heap.size w wr
theorem HoB.step {w wr c:World} {base kind:Int} {d b:Value} (h:HoB w base kind d b wr) (a:Below wr.heap.size wr c):HoB w base kind d b c:=
 ⟨h.k.step a,(a.block _ (Array.getElem?_eq_some_iff.1 h.z).1).trans h.z,h.bl.trans (a.mono h.bl.size)⟩
theorem Lb (w:World) (base kind:Int) (b a:Value):HoB w base kind b a ((w.alloc (.cells #[.int .i64 base,.int .i64 kind,b,a] 26)).alloc bC):=by
 have c:(w.alloc (.cells #[.int .i64 base,.int .i64 kind,b,a] 26)).heap.size=w.heap.size+1:=by simp
 refine⟨(qU w base kind b a).step ((Below.refl _ _).alloc (Nat.le_refl _) _),?_,((Below.refl _ _).alloc (Nat.le_refl _) _).alloc (by rw [c];omega) _⟩
 rw [<- c];exact heap_alloc_new _ _
theorem zN (l:List Flw) (cur:Int) (c:Cv) (pl:Option Addr) (bl x m N:Nat) (a b:Option Addr) (bd J d A O f:Nat) (w:World) (V:Nat) (h:PreR l cur c V 0) (M:JSrc aF w pl bl x l) (G:l.length=N) (q:N<=30000) (B:eu l) (y:TFl w a b bd J A O c.ds c.fs) :
  Calls Tryz.prog 20 #[.slice pl N m,.int .i64 cur,.agg #[.int .i64 c.base,.int .i64 c.kind,.slice a c.ds.length d,.slice b c.fs.length f]] w fun e R=>e=.returned (.tuple #[.agg #[.slice pl N m,.int .i64 cur,.int .i64 c.base,.int .i64 c.kind,.slice a c.ds.length d,.slice b c.fs.length f,.float .f64 V],.int .i64 0])/\Below w.heap.size w R:=by
 have H:=hideS fun I (D:Below w.heap.size w I)=>qV l cur c pl bl x m N a b bd J d A O f I V 0 h (M.below D) G q B (y.below D)
 have j:=hideS (Lb w c.base c.kind (.slice a c.ds.length d) (.slice b c.fs.length f));clear h M G B y;generalize c.ds.length=r at *
 generalize c.fs.length=p at *
 generalize c.base=base at *
 generalize c.kind=kind at *
 obtain⟨C,g⟩:∃ C,(w.alloc (.cells #[.int .i64 base,.int .i64 kind,.slice a r d,.slice b p f] 26)).alloc bC=C:=⟨_,rfl⟩;rw [g] at j
 unfold bC at g
 obtain⟨F,K,u,E⟩:=j.out.k.t
 go_enter Tryz.func20,Tryz.ntmps20
 go_wp2_with fail
 clear g F K u E;refine (H.out _ j.out.bl).mono ?_
 rintro e X ⟨rfl,i⟩;have n:=hideS (j.out.step i);clear i j H;obtain⟨F,K,u,E⟩:=n.out.k.t;obtain⟨u1,u2,u3,u4,u5,u6,u7,⟨e0,z0,y0⟩,⟨e1,z1,y1⟩,⟨e2,z2,y2⟩,⟨e3,z3,y3⟩,⟨e4,z4,y4⟩,⟨e5,z5,y5⟩,⟨e6,z6,y6⟩,s,L⟩:=jY (w.heap.size+1) (.slice pl N m) cur base kind (.slice a r d) (.slice b p f) V X n.out.z;have W:=hideS s;have o:=hideS (n.out.bl.trans (L.mono (by omega)))
 have T:=cg;clear s L
 go_wp2_with fail
 obtain⟨P,S,Q,Y,Z,s5,U⟩:=W.out.t;refine bodyPost_ret (v:=.tuple #[.agg #[.slice pl N m,.int .i64 cur,.int .i64 base,.int .i64 kind,.slice a r d,.slice b p f,.float .f64 V],.int .i64 0]) (by simp [results,Tryz.results20,go_sem,P,S,Q,Y,Z,s5,U]) rfl ?_
 exact⟨rfl,o.out⟩
theorem tX (l:List Flw) (cur:Int) (c:Cv) (pl:Option Addr) (bl q A N:Nat) (b g:Option Addr) (bd F i s I j:Nat) (w:World) (V:Nat) (E:Int) (h:PreR l cur c V E) (J:E≠0) (H:JSrc aF w pl bl q l) (B:l.length=N) (n:N<=30000) (u:eu l) (r:TFl w b g bd F s I c.ds c.fs) :
  Calls Tryz.prog 20 #[.slice pl N A,.int .i64 cur,.agg #[.int .i64 c.base,.int .i64 c.kind,.slice b c.ds.length i,.slice g c.fs.length j]] w fun e O=>e=.returned (.tuple #[.agg #[.slice none 0 0,.int .i64 0,.int .i64 0,.int .i64 0,.slice none 0 0,.slice none 0 0,.float .f64 0],.int .i64 E])/\Below w.heap.size w O:=by
 have C:=hideS fun D (y:Below w.heap.size w D)=>qV l cur c pl bl q A N b g bd F i s I j D V E h (H.below y) B n u (r.below y)
 have f:=hideS (Lb w c.base c.kind (.slice b c.ds.length i) (.slice g c.fs.length j));have dE:(E !=0)=true:=bne_iff_ne.2 J;clear h H B u r J;generalize c.ds.length=n1 at *
 generalize c.fs.length=U at *
 generalize c.base=base at *
 generalize c.kind=kind at *
 obtain⟨x,a⟩:∃ x,(w.alloc (.cells #[.int .i64 base,.int .i64 kind,.slice b n1 i,.slice g U j] 26)).alloc bC=x:=⟨_,rfl⟩;rw [a] at f
 unfold bC at a
 obtain⟨T,W,L,S⟩:=f.out.k.t
 go_enter Tryz.func20,Tryz.ntmps20
 go_wp2_with fail
 clear a T W L S;refine (C.out _ f.out.bl).mono ?_
 rintro e Y ⟨rfl,d⟩;have o:=hideS (f.out.step d);clear d f C;obtain⟨u1,u2,u3,u4,u5,u6,u7,⟨e0,z0,y0⟩,⟨e1,z1,y1⟩,⟨e2,z2,y2⟩,⟨e3,z3,y3⟩,⟨e4,z4,y4⟩,⟨e5,z5,y5⟩,⟨e6,z6,y6⟩,p,G⟩:=jY (w.heap.size+1) (.slice none 0 0) 0 0 0 (.slice none 0 0) (.slice none 0 0) 0 Y o.out.z;have X:=hideS p;have m:=hideS (o.out.bl.trans (G.mono (by omega)))
 have Q:=cg;clear p G
 go_wp2_with fail
 obtain⟨K,P,M,Z,s4,s5,R⟩:=X.out.t;refine bodyPost_ret (v:=.tuple #[.agg #[.slice none 0 0,.int .i64 0,.int .i64 0,.int .i64 0,.slice none 0 0,.slice none 0 0,.float .f64 0],.int .i64 E]) (by simp [results,Tryz.results20,go_sem,K,P,M,Z,s4,s5,R]) rfl ?_
 exact⟨rfl,m.out⟩
def BmC (h:Nat) (a:Array Value) (base kind:Int) (g c:Value) (w:World) (d:Cv) (E:Int):Prop:=∀ b,Below w.heap.size w b->Calls Tryz.prog h (#[.agg #[.int .i64 base,.int .i64 kind,g,c]]++a) b fun e f=>CvO b d E e f
theorem zO (i:Nat) (a:Array Value) (d:Cv) (E cur base kind:Int) (v0 b c:Value) (V0:Nat) (w:World) (l:E≠0) (B:∀ args w,(callFunc i args).run Tryz.prog w=.ok (.enter i args) w) (o:Hid (BmC i a base kind b c w d E)) :
  Calls Tryz.prog 32 #[.agg #[v0,.int .i64 cur,.int .i64 base,.int .i64 kind,b,c,.float .f64 V0],.func (.func i) #[] a] w fun e I=>e=.returned (.tuple #[.float .f64 0,.int .i64 E])/\Below w.heap.size w I:=by
 have T:(E !=0)=true:=bne_iff_ne.2 l;have x:=hideS l;have p:=hideS (rx w v0 b c cur base kind V0);have h:=hideS ((Below.refl w.heap.size w).alloc (Nat.le_refl _) (.cells #[v0,.int .i64 cur,.int .i64 base,.int .i64 kind,b,c,.float .f64 V0] 56));obtain⟨r,f⟩:∃ r,w.alloc (.cells #[v0,.int .i64 cur,.int .i64 base,.int .i64 kind,b,c,.float .f64 V0] 56)=r:=⟨_,rfl⟩;rw [f] at p h
 obtain⟨K,v,G,J,D,F,H⟩:=p.out.t;unfold BmC at o
 clear l
 go_enter Tryz.func32,Tryz.ntmps32
 go_wp2_with fail
 clear f K v G J D F H;refine (o.out _ h.out).mono ?_
 intro e j k;have L:=k.bad x.out;subst L;have m:=hideS (h.out.trans (k.bl.mono h.out.size));clear k o;obtain⟨P,S,X,z,⟨C,u,y⟩,⟨N,O,R⟩,⟨U,Y,V⟩,⟨Q,W,M⟩,A,q⟩:=bB j.heap.size 0 0 (.slice none 0 0) (.slice none 0 0) (j.alloc au) (heap_alloc_new _ _);have n:Hid (Below w.heap.size w z):=(m.out.alloc m.out.size au).trans (q.mono m.out.size);obtain⟨s,g⟩:∃ s,j.alloc au=s:=⟨_,rfl⟩;rw [g] at C u y
 unfold au at g
 clear A q
 go_wp2_with fail
 go_ret2
 exact⟨rfl,n.out⟩
theorem Cg (x:Nat) (k:Array Value) (l:List Flw) (d:Cv) (E cur base kind:Int) (pl:Option Addr) (bl J q N:Nat) (i v:Value) (V0 V:Nat) (w:World) (ab:∀ args w,(callFunc x args).run Tryz.prog w=.ok (.enter x args) w) (D:Hid (BmC x k base kind i v w d 0)) (U:PreR l cur d V E) (W:JSrc aF w pl bl J l) (R:l.length=N) (G:N<=30000) (L:eu l) :
  Calls Tryz.prog 32 #[.agg #[.slice pl N q,.int .i64 cur,.int .i64 base,.int .i64 kind,i,v,.float .f64 V0],.func (.func x) #[] k] w fun e w'=>e=.returned (.tuple #[.float .f64 V,.int .i64 E])/\Below w.heap.size w w':=by
 have p:=hideS fun F B g r f s (hb:Below w.heap.size w F) (c:OwnC F B d g r f s)=>qV l cur d pl bl J q N (some ⟨g,0,none⟩) (some ⟨f,0,none⟩) g 0 r f 0 s F V E U (W.below hb) R G L c.src
 have y:=hideS (rx w (.slice pl N q) i v cur base kind V0);have o:=hideS ((Below.refl w.heap.size w).alloc (Nat.le_refl _) (.cells #[.slice pl N q,.int .i64 cur,.int .i64 base,.int .i64 kind,i,v,.float .f64 V0] 56));obtain⟨M,u⟩:∃ M,w.alloc (.cells #[.slice pl N q,.int .i64 cur,.int .i64 base,.int .i64 kind,i,v,.float .f64 V0] 56)=M:=⟨_,rfl⟩;rw [u] at y o
 obtain⟨P,S,Y,t3,t4,t5,Z⟩:=y.out.t;unfold BmC at D
 clear U W R L
 go_enter Tryz.func32,Tryz.ntmps32
 go_wp2_with fail
 clear u P S Y t3 t4 t5 Z;refine (D.out _ o.out).mono ?_
 intro e h c;obtain⟨g,r,f,s,he,O⟩:=c.ok rfl;subst he;have K:=hideS (o.out.trans (c.bl.mono o.out.size));have HK:=hideS (y.out.step c.bl);clear c D y o;obtain⟨u1,u2,u3,A,⟨e0,z0,X⟩,⟨e1,z1,y1⟩,⟨e2,z2,y2⟩,⟨e3,z3,y3⟩,I,T⟩:=bB h.heap.size d.base d.kind (.slice (some ⟨g,0,none⟩) d.ds.length r) (.slice (some ⟨f,0,none⟩) d.fs.length s) (h.alloc au) (heap_alloc_new _ _);have a:Below h.heap.size h A:=((Below.refl _ h).alloc (Nat.le_refl _) au).trans T;have b:Hid (Below w.heap.size w A):=K.out.trans (a.mono K.out.size);have z:=hideS (O.below a);have C:=hideS (HK.out.step a);have j:=hideS (p.out A _ g r f s b.out z.out);obtain⟨Q,m⟩:∃ Q,h.alloc au=Q:=⟨_,rfl⟩;rw [m] at e0 z0 X
 unfold au at m
 obtain⟨s0,s1,s2,s3⟩:=I.t;obtain⟨P,S,_,_,_,_,_⟩:=C.out.t;clear I T a O p HK;generalize d.ds.length=n1 at *
 generalize d.fs.length=n2 at *
 generalize d.base=db at *
 generalize d.kind=dk at *
 go_wp2_with fail
 refine j.out.mono ?_
 rintro e w5 ⟨rfl,n⟩;have H:=hideS (b.out.trans (n.mono b.out.size));clear n j
 go_wp2_with fail
 go_ret2
 exact⟨rfl,H.out⟩
theorem nY (m v0 b c:Value) (E cur base kind:Int) (V0 V:Nat) (w:World) (k:E≠0)
  (l:Hid (∀ g,Below w.heap.size w g->Calls Tryz.prog 32 #[.agg #[v0,.int .i64 cur,.int .i64 base,.int .i64 kind,b,c,.float .f64 V0],m] g fun e h=>e=.returned (.tuple #[.float .f64 V,.int .i64 E])/\Below g.heap.size g h)) :
  Calls Tryz.prog 29 #[.agg #[v0,.int .i64 cur,.int .i64 base,.int .i64 kind,b,c,.float .f64 V0],m] w fun e h=>e=.returned (.tuple #[.float .f64 0,.int .i64 E])/\Below w.heap.size w h:=by
 have y:(E !=0)=true:=bne_iff_ne.2 k;have i:=hideS (rx w v0 b c cur base kind V0);have f:=hideS ((Below.refl w.heap.size w).alloc (Nat.le_refl _) (.cells #[v0,.int .i64 cur,.int .i64 base,.int .i64 kind,b,c,.float .f64 V0] 56));obtain⟨j,d⟩:∃ j,w.alloc (.cells #[v0,.int .i64 cur,.int .i64 base,.int .i64 kind,b,c,.float .f64 V0] 56)=j:=⟨_,rfl⟩;rw [d] at i f
 obtain⟨u,n,q,s,o,p,r⟩:=i.out.t;clear k
 go_enter Tryz.func29,Tryz.ntmps29
 go_wp2_with fail
 clear d u n q s o p r;refine (l.out _ f.out).mono ?_
 rintro e x ⟨rfl,a⟩;have v:=hideS (f.out.trans (a.mono f.out.size));clear a l
 go_wp2_with fail
 go_ret2
 exact⟨rfl,v.out⟩
theorem Ch (p v0 c d:Value) (cur base kind:Int) (V0 V x:Nat) (w:World) (n:floatBits .sub .f64 V V0=some x) (l:x<18446744073709551616)
  (o:Hid (∀ b,Below w.heap.size w b->Calls Tryz.prog 32 #[.agg #[v0,.int .i64 cur,.int .i64 base,.int .i64 kind,c,d,.float .f64 V0],p] b fun e h=>e=.returned (.tuple #[.float .f64 V,.int .i64 0])/\Below b.heap.size b h)) :
  Calls Tryz.prog 29 #[.agg #[v0,.int .i64 cur,.int .i64 base,.int .i64 kind,c,d,.float .f64 V0],p] w fun e h=>e=.returned (.tuple #[.float .f64 (tldV x),.int .i64 (gM x)])/\Below w.heap.size w h:=by
 have i:=hideS fun b=>nX x b (ag l)
 have D:=fun w=>run_float_arith (P:=Tryz.prog) w .sub 27 .f64 _ _ _ n
 have j:=hideS (rx w v0 c d cur base kind V0);have g:=hideS ((Below.refl w.heap.size w).alloc (Nat.le_refl _) (.cells #[v0,.int .i64 cur,.int .i64 base,.int .i64 kind,c,d,.float .f64 V0] 56));obtain⟨m,f⟩:∃ m,w.alloc (.cells #[v0,.int .i64 cur,.int .i64 base,.int .i64 kind,c,d,.float .f64 V0] 56)=m:=⟨_,rfl⟩;rw [f] at j g
 obtain⟨y,q,u,v,r,s,k⟩:=j.out.t;clear n l;generalize tldV x=C at *
 generalize gM x=B at *
 go_enter Tryz.func29,Tryz.ntmps29
 go_wp2_with fail
 clear f y q u v r s k;refine (o.out _ g.out).mono ?_
 rintro e A ⟨rfl,a⟩;have z:=hideS (g.out.trans (a.mono g.out.size));have HK:=hideS (j.out.step a);obtain⟨_,_,_,_,_,_,k⟩:=HK.out.t;clear a o
 go_wp2_with (go_at_call 33;refine (turned (i.out _)).mono ?_;rintro e h ⟨rfl,rfl⟩)
 go_ret2
 exact⟨rfl,z.out⟩
noncomputable def prV (l:List Flw) (cur:Int) (c:Cv):Nat:=(vO l cur c).choose
noncomputable def prE (l:List Flw) (cur:Int) (c:Cv):Int:=(vO l cur c).choose_spec.choose
theorem prR (l:List Flw) (cur:Int) (c:Cv):PreR l cur c (prV l cur c) (prE l cur c):=(vO l cur c).choose_spec.choose_spec
theorem Lc {l:List Flw} {cur:Int} {c:Cv} {V d:Nat} {E b:Int} (h:PreR l cur c V E) (a:PreR l cur c d b):V=d/\E=b:=by
 cases h with
 | bad E h f=>cases a with
  | bad b a e=>exact⟨rfl,bN h a⟩
  | ok a=>exact absurd ((jU h).2 a) f
 | ok h=>exact⟨(mX a h).1.symm,(mX a h).2.symm⟩
theorem QG {l:List Flw} {cur:Int} {c:Cv} {V:Nat} {E:Int} (h:PreR l cur c V E):prV l cur c=V/\prE l cur c=E:=Lc (prR l cur c) h
theorem gh {l:List Flw} {cur:Int} {c:Cv} (h:prE l cur c=0):FineP l cur c/\prV l cur c=valF (wsI cur c l)/\aM (prV l cur c:Nat)=true/\prV l cur c<18446744073709551616:=by
 have e:=prR l cur c;rw [h] at e
 obtain⟨a,b,d⟩:=FK e;exact⟨a,b,d,by rw [b];exact vN _⟩
noncomputable def chO (l:List Flw) (cur:Int) (d:Cv) (V0:Nat):Nat:=(floatBits .sub .f64 (prV l cur d) V0).getD 0
noncomputable def chV (l:List Flw) (cur:Int) (d:Cv) (V0:Nat):Nat:=if prE l cur d=0 then tldV (chO l cur d V0) else 0
noncomputable def chE (l:List Flw) (cur:Int) (d:Cv) (V0:Nat):Int:=if prE l cur d=0 then gM (chO l cur d V0) else prE l cur d
theorem Ci {l:List Flw} {cur:Int} {d:Cv} {V0:Nat} (h:prE l cur d=0) (a:aM (V0:Int)=true):floatBits .sub .f64 (prV l cur d) V0=some (chO l cur d V0)/\RkW (chO l cur d V0) (gI (vI (prV l cur d) - vI V0) (-1074)):=by
 obtain⟨r,e,k⟩:=pW (cC (gh h).2.2.1) (cC a);unfold chO;rw [e];exact⟨rfl,k⟩
noncomputable def rD (l:List Flw) (cur:Int) (d:Cv) (V0:Nat) (E:Int):Nat:=if E=0 then chV l cur d V0 else 0
noncomputable def rE (l:List Flw) (cur:Int) (d:Cv) (V0:Nat) (E:Int):Int:=if E=0 then chE l cur d V0 else E
noncomputable def PQ (l:List Flw) (cur:Int) (d:Cv) (E:Int):Nat:=if E=0 then prV l cur d else 0
noncomputable def PR (l:List Flw) (cur:Int) (d:Cv) (E:Int):Int:=if E=0 then prE l cur d else E
theorem BmC.later {g:Nat} {a:Array Value} {base kind E:Int} {e b:Value} {w f:World} {d:Cv} (h:BmC g a base kind e b w d E) (c:Below w.heap.size w f):BmC g a base kind e b f d E:=fun j i=>h j (c.trans (i.mono c.size))
theorem zP (b:Nat) (a:Array Value) (l:List Flw) (d:Cv) (E cur base kind:Int) (pl:Option Addr) (bl k j N:Nat) (f g:Value) (V0:Nat) (w:World) (c:∀ args w,(callFunc b args).run Tryz.prog w=.ok (.enter b args) w) (m:BmC b a base kind f g w d E) (p:JSrc aF w pl bl k l) (q:l.length=N) (i:N<=30000) (n:eu l) :
  Calls Tryz.prog 32 #[.agg #[.slice pl N j,.int .i64 cur,.int .i64 base,.int .i64 kind,f,g,.float .f64 V0],.func (.func b) #[] a] w fun e o=>e=.returned (.tuple #[.float .f64 (PQ l cur d E),.int .i64 (PR l cur d E)])/\Below w.heap.size w o:=by
 unfold PQ PR
 by_cases h:E=0
 ·subst h;rw [if_pos rfl,if_pos rfl];exact Cg b a l d (prE l cur d) cur base kind pl bl k j N f g V0 (prV l cur d) w c m (prR l cur d) p q i n
 ·rw [if_neg h,if_neg h];exact zO b a d E cur base kind _ f g V0 w h c m
theorem nZ (i:Nat) (a:Array Value) (l:List Flw) (d:Cv) (E cur base kind:Int) (pl:Option Addr) (bl o n N:Nat) (f g:Value) (V0:Nat) (w:World) (q:aM (V0:Int)=true) (j:∀ args w,(callFunc i args).run Tryz.prog w=.ok (.enter i args) w) (y:BmC i a base kind f g w d E) (t:JSrc aF w pl bl o l) (v:l.length=N) (k:N<=30000) (r:eu l) :
  Calls Tryz.prog 29 #[.agg #[.slice pl N n,.int .i64 cur,.int .i64 base,.int .i64 kind,f,g,.float .f64 V0],.func (.func i) #[] a] w fun e s=>e=.returned (.tuple #[.float .f64 (rD l cur d V0 E),.int .i64 (rE l cur d V0 E)])/\Below w.heap.size w s:=by
 have c:=fun m (p:Below w.heap.size w m)=>zP i a l d E cur base kind pl bl o n N f g V0 m j (y.later p) (t.below p) v k r
 unfold rD rE;unfold PQ PR at c
 by_cases h:E=0
 ·subst h;rw [if_pos rfl,if_pos rfl];simp only [if_true] at c
  unfold chV chE
  by_cases b:prE l cur d=0
  ·rw [if_pos b,if_pos b];rw [b] at c
   obtain⟨x,u⟩:=Ci b q;exact Ch _ _ f g cur base kind V0 _ _ w x u.2.1 c
  ·rw [if_neg b,if_neg b];exact nY _ _ f g _ cur base kind V0 _ w b c
 ·rw [if_neg h,if_neg h];simp only [h,if_false] at c
  exact nY _ _ f g _ cur base kind V0 _ w h c
def LsO (w:World) (n:Nat) (X:Nat->Nat) (a:Nat->Int) (e:Ending) (b:World):Prop:=
 (∃ k<n,a k≠0/\(∀ j<k,a j=0)/\e=.returned (.tuple #[.slice none 0 0,.int .i64 (a k)]))\/
 ((∀ k<n,a k=0)/\∃ g,e=.returned (.tuple #[.slice (some ⟨g,0,none⟩) n n,.int .i64 0])/\b.ownsRow w.heap.size 27 1 (.slice (some ⟨g,0,none⟩) n n) n (((List.range n).map X).map fV))
theorem Ld (X:Nat->Nat) {n k:Nat} (h:k<n):((List.range n).map X).getD k 0=X k:=by
 rw [List.getD_eq_getElem?_getD,List.getElem?_map,List.getElem?_range h];rfl
theorem Gi (N:Nat) (e:N<=1000):∃ z,∀ w:World,(Instr.makeSlice 24 (.int .i64 (N:Int)) (.int .i64 (N:Int))).run Tryz.prog w=.ok (.slice (some ⟨w.heap.size,0,none⟩) N N) (w.alloc (.cells (madeCells z N) 27)):=by
 obtain⟨d,hi,c,a,b⟩:=info_parts jo;refine⟨(Value.float .f64 0).cells,fun w=>?_⟩
 have:=run_make (P:=Tryz.prog) w 24 27 d _ Tryz.underlying24 hi c .i64 .i64 (N:Int) (N:Int) (by omega) (by omega) (by rw [b];omega) (by omega)
 rw [a,Nat.mul_one,Int.toNat_natCast] at this
 exact this
def BoC (i:Nat) (b:Array Value) (n:Nat) (X:Nat->Nat) (j:Nat->Int) (pos:Array Value) (w:World):Prop:=
 ∀ k<n,∀ d,Below w.heap.size w d->Calls Tryz.prog i (#[.int .i64 (k:Nat)]++b) d fun e g=>(∃ h a,e=.returned (.func (.func h) #[] a)/\∀ c,Below g.heap.size g c->Calls Tryz.prog 29 #[.agg pos,.func (.func h) #[] a] c fun e f=>e=.returned (.tuple #[.float .f64 (X k),.int .i64 (j k)])/\Below c.heap.size c f)/\Below d.heap.size d g
theorem vV (I:Nat) (m:Array Value) (n:Nat) (X:Nat->Nat) (y:Nat->Int) (v0 h l:Value) (cur base kind:Int) (V0:Nat) (w:World) (hn:n<=255) (ab:∀ args w,(callFunc I args).run Tryz.prog w=.ok (.enter I args) w) (U:Hid (BoC I m n X y #[v0,.int .i64 cur,.int .i64 base,.int .i64 kind,h,l,.float .f64 V0] w)) :
  Calls Tryz.prog 21 #[.agg #[v0,.int .i64 cur,.int .i64 base,.int .i64 kind,h,l,.float .f64 V0],.int .i64 (n:Nat),.func (.func I) #[] m] w fun e T=>LsO w n X y e T/\Below w.heap.size w T:=by
 obtain⟨z,N⟩:=Gi n (by omega)
 have O:=hideS (rx w v0 h l cur base kind V0);have J:=hideS ((Below.refl w.heap.size w).alloc (Nat.le_refl _) (.cells #[v0,.int .i64 cur,.int .i64 base,.int .i64 kind,h,l,.float .f64 V0] 56));obtain⟨f,r⟩:∃ f,w.alloc (.cells #[v0,.int .i64 cur,.int .i64 base,.int .i64 kind,h,l,.float .f64 V0] 56)=f:=⟨_,rfl⟩;have P:f.heap.size=w.heap.size+1:=by rw [<- r];simp
 rw [r] at O J
 have b:Hid (PsB (f.alloc (.cells (madeCells z n) 27)) w.heap.size v0 cur base kind h l V0/\RowF (f.alloc (.cells (madeCells z n) 27)) f.heap.size n (((List.range n).map X).take 0)/\Below w.heap.size w (f.alloc (.cells (madeCells z n) 27))):=⟨O.out.step ((Below.refl _ _).alloc (Nat.le_refl _) _),Fk f n z,J.out.alloc J.out.size _⟩;have q:Hid (w.heap.size+1<=f.heap.size):=by show _<=_;omega
 clear P
 go_enter Tryz.func21,Tryz.ntmps21
 go_wp2_with fail
 clear r O J N;generalize f.heap.size=g at *
 go_loopw [9,10,11,15] (fun _ _ _ i D=>∃ k:Nat,k<=n/\i=.int .i64 k/\Hid (∀ j<k,y j=0)/\Hid (PsB D w.heap.size v0 cur base kind h l V0/\RowF D g n (((List.range n).map X).take k)/\Below w.heap.size w D)) (fun _ _ _ i _=>n - (intOf i).toNat)
 case atStart=>exact⟨0,Nat.zero_le _,rfl,fun j S=>by omega,b⟩
 case round=>
  clear b;obtain⟨k,hk,rfl,L,b⟩:=hrel
  by_cases c:k<n
  ·have R:=hideS (Ld X c);have F:=hideS (U.out k c);unfold BoC at U
   obtain⟨t0,V,t2,t3,t4,t5,t6⟩:=b.out.1.t
   go_wp2_with fail
   go_region_held3 (fun x=>x.cell? ⟨w.heap.size,0,none⟩=some v0/\x.cell? ⟨w.heap.size,1,none⟩=some (.int .i64 cur)/\x.cell? ⟨w.heap.size,2,none⟩=some (.int .i64 base)/\x.cell? ⟨w.heap.size,3,none⟩=some (.int .i64 kind)/\x.cell? ⟨w.heap.size,4,none⟩=some h/\x.cell? ⟨w.heap.size,5,none⟩=some l/\x.cell? ⟨w.heap.size,6,none⟩=some (.float .f64 V0)) (first | go_keep | exact C.out.t | exact HK2.out.t) (first | (go_at_call 29;refine (B.out _ (Below.refl _ _)).mono ?_;rintro e K ⟨rfl,E⟩;have o:=hideS (v.out.trans (E.mono v.out.size));have C:=hideS (b.out.1.step o.out);clear E) | (refine (F.out _ b.out.2.2.drew).mono ?_;rintro e Z ⟨⟨fN,Y,rfl,G⟩,a⟩;have v:Hid (Below D.heap.size D Z):=⟨a.os,a.tape,a.output,a.size,a.block⟩;have HK2:=hideS (b.out.1.step v.out);have B:=hideS G;clear a G))
   all_goals
    clear t0 V t2 t3 t4 t5 t6 F B HK2;have s:=hideS (b.out.2.1.stay o.out b.out.2.1.lt);have H:=hideS (b.out.2.2.trans (o.out.mono b.out.2.2.size))
    by_cases A:y k=0
    ·have W:Hid (PsB (K.setCell ⟨g,k,none⟩ (.float .f64 (X k))) w.heap.size v0 cur base kind h l V0/\RowF (K.setCell ⟨g,k,none⟩ (.float .f64 (X k))) g n (((List.range n).map X).take (k+1))/\Below w.heap.size w (K.setCell ⟨g,k,none⟩ (.float .f64 (X k)))):=by
      have hb:=(Below.refl g K).setCell (p:=⟨g,k,none⟩) (Nat.le_refl _) (.float .f64 (X k));exact⟨C.out.stay hb (by have:=q.out;omega),JA (X k) s.out c (by simp;exact c) R.out,H.out.setCell (p:=⟨g,k,none⟩) (by show w.heap.size<=g;have:=q.out;omega) _⟩
     have M:Hid (∀ j<k+1,y j=0):=fun j S=>by
      rcases Nat.lt_or_eq_of_le (Nat.le_of_lt_succ S) with d | d
      ·exact L.out j d
      ·rw [d];exact A
     obtain⟨u,hu⟩:=s.out.cell c;have hz:=s.out.frozen k;have ac:=cg;rw [A];clear A
     go_wp2_with fail
     go_roundw
     case rel=>exact⟨k+1,by omega,by simp,M,W⟩
     case measure=>simp [intOf];omega
    ·have dE:(y k !=0)=true:=bne_iff_ne.2 A;have Q:=hideS A;clear A
     go_wp2_with fail
     go_ret2
     exact⟨Or.inl ⟨k,c,Q.out,L.out,rfl⟩,H.out⟩
  ·obtain rfl:k=n:=by omega
   go_wp2_with fail
   go_ret2
   refine⟨Or.inr ⟨L.out,g,rfl,?_⟩,b.out.2.2⟩
   have:=b.out.2.1.own (base:=w.heap.size) (by rw [List.length_take,List.length_map,List.length_range];omega) (by have:=q.out;omega) (by omega)
   rw [List.take_of_length_le (by simp)] at this
   exact this
theorem Cj (args:Array Value) (w:World):(callFunc 22 args).run Tryz.prog w=.ok (.enter 22 args) w:=lV Tryz.func22 (by kernel_rfl) rfl args w
theorem zQ (args:Array Value) (w:World):(callFunc 23 args).run Tryz.prog w=.ok (.enter 23 args) w:=lV Tryz.func23 (by kernel_rfl) rfl args w
theorem Ck (args:Array Value) (w:World):(callFunc 46 args).run Tryz.prog w=.ok (.enter 46 args) w:=lV Tryz.func46 (by kernel_rfl) rfl args w
theorem Gj (k a:Nat) (w:World) :
  Calls Tryz.prog 22 #[.int .i64 (k:Nat),.pointer (some ⟨a,0,none⟩)] w fun e b=>e=.returned (.func (.func 23) #[] #[.pointer (some ⟨w.heap.size,0,none⟩),.pointer (some ⟨a,0,none⟩)])/\b=w.alloc (.cells #[.int .i64 (k:Nat)] 3):=by
 have c:=lW
 go_enter Tryz.func22,Tryz.ntmps22
 go_wp2_with fail
 go_ret
 exact⟨rfl,rfl⟩
theorem Cl (h:Nat) (w:World) :
  Calls Tryz.prog 30 #[.float .f64 h] w fun e a=>e=.returned (.func (.func 46) #[] #[.pointer (some ⟨w.heap.size,0,none⟩)])/\a=w.alloc (.cells #[.float .f64 h] 27):=by
 have b:=lW
 go_enter Tryz.func30,Tryz.ntmps30
 go_wp2_with fail
 go_ret
 exact⟨rfl,rfl⟩
theorem zR {c u1 u2 u3 e:World} {B b:Nat} {d:Cv} {g cx f cy:Nat} {i m k o:Value} (h:OwnC c B d g cx f cy) (a:b<B) (l:c.setCell ⟨b,0,none⟩ i=u1) (j:u1.setCell ⟨b,1,none⟩ m=u2) (p:u2.setCell ⟨b,2,none⟩ k=u3) (n:u3.setCell ⟨b,3,none⟩ o=e):OwnC e B d g cx f cy:=by
 rw [<- n,<- p,<- j,<- l];exact (((h.put a _).put a _).put a _).put a _
theorem Cm (c d:Cv) (k h u B:Nat) (E:Int) (q r:Value) (w:World) (hi:w.cell? ⟨u,0,none⟩=some (.int .i64 (k:Nat))) (i:u<w.heap.size) (W:w.cell? ⟨B,0,none⟩=some (.float .f64 h)) (n:B<w.heap.size)
  (L:Hid (∀ M,Below w.heap.size w M->Calls Tryz.prog 18 #[.agg #[.int .i64 c.base,.int .i64 c.kind,q,r],.int .i64 (k:Nat),.float .f64 h] M fun e J=>CvO M d E e J)) :
  Calls Tryz.prog 23 #[.agg #[.int .i64 c.base,.int .i64 c.kind,q,r],.pointer (some ⟨u,0,none⟩),.pointer (some ⟨B,0,none⟩)] w fun e J=>CvO w d E e J:=by
 have b:=hideS (iN w c.base c.kind q r);generalize c.base=base at *
 generalize c.kind=kind at *
 obtain⟨Q,f⟩:∃ Q,(w.alloc (.cells #[.int .i64 base,.int .i64 kind,q,r] 26)).alloc au=Q:=⟨_,rfl⟩;rw [f] at b
 unfold au at f
 obtain⟨t0,Z,t2,t3⟩:=b.out.k.t;have G:=(b.out.bl.cell (p:=⟨u,0,none⟩) i).trans hi;have C:=(b.out.bl.cell (p:=⟨B,0,none⟩) n).trans W;clear hi W i n
 go_enter Tryz.func23,Tryz.ntmps23
 go_wp2_with fail
 clear f G C t0 Z t2 t3;refine (L.out _ b.out.bl).mono ?_
 intro e V j;have a:=hideS (b.out.step j.bl);have N:=hideS b.out.sz
 by_cases A:E=0
 ·subst A;obtain⟨y,x,s,o,rfl,S⟩:=j.ok rfl;obtain⟨u1,u2,u3,O,⟨R,X,y0⟩,⟨P,z1,y1⟩,⟨U,z2,y2⟩,⟨T,z3,y3⟩,l,m⟩:=bB (w.heap.size+1) d.base d.kind (.slice (some ⟨y,0,none⟩) d.ds.length x) (.slice (some ⟨s,0,none⟩) d.fs.length o) V a.out.z;have HO:=hideS (zR S (by have:=N.out;omega) R P U T)
  have g:=hideS (a.out.bl.trans (m.mono (by omega)))
  obtain⟨H,K,F,I⟩:=l.t;have D:Hid (∀ v,v=Value.tuple #[.agg #[.int .i64 d.base,.int .i64 d.kind,.slice (some ⟨y,0,none⟩) d.ds.length x,.slice (some ⟨s,0,none⟩) d.fs.length o],.int .i64 0]->CvO w d 0 (.returned v) O):=fun v Y=>by
   subst Y;exact⟨fun h=>absurd rfl h,fun _=>⟨y,x,s,o,rfl,HO.out.mono (by have:=N.out;omega)⟩,g.out⟩
  clear S l m j b L;generalize d.ds.length=n1 at *
  generalize d.fs.length=n2 at *
  generalize d.base=db at *
  generalize d.kind=dk at *
  go_wp2_with fail
  refine bodyPost_ret (v:=.tuple #[.agg #[.int .i64 db,.int .i64 dk,.slice (some ⟨y,0,none⟩) n1 x,.slice (some ⟨s,0,none⟩) n2 o],.int .i64 0]) (by simp [results,Tryz.results23,go_sem,H,K,F,I]) rfl ?_
  exact D.out _ rfl
 ·have he:=j.bad A;subst he;obtain⟨u1,u2,u3,O,⟨R,X,y0⟩,⟨P,z1,y1⟩,⟨U,z2,y2⟩,⟨T,z3,y3⟩,l,m⟩:=bB (w.heap.size+1) 0 0 (.slice none 0 0) (.slice none 0 0) V a.out.z;have g:=hideS (a.out.bl.trans (m.mono (by omega)))
  obtain⟨H,K,F,I⟩:=l.t;have D:=hideS A;clear l m j A b L
  go_wp2_with fail
  refine bodyPost_ret (v:=.tuple #[.agg #[.int .i64 0,.int .i64 0,.slice none 0 0,.slice none 0 0],.int .i64 E]) (by simp [results,Tryz.results23,go_sem,H,K,F,I]) rfl ?_
  exact⟨fun _=>rfl,fun h=>absurd h D.out,g.out⟩
theorem Gk (c d:Cv) (h y:Nat) (E:Int) (o q:Value) (w:World) (T:w.cell? ⟨y,0,none⟩=some (.float .f64 h)) (m:y<w.heap.size)
  (I:Hid (∀ J,Below w.heap.size w J->Calls Tryz.prog 19 #[.agg #[.int .i64 c.base,.int .i64 c.kind,o,q],.float .f64 h] J fun e G=>CvO J d E e G)) :
  Calls Tryz.prog 46 #[.agg #[.int .i64 c.base,.int .i64 c.kind,o,q],.pointer (some ⟨y,0,none⟩)] w fun e G=>CvO w d E e G:=by
 have b:=hideS (iN w c.base c.kind o q);generalize c.base=base at *
 generalize c.kind=kind at *
 obtain⟨N,f⟩:∃ N,(w.alloc (.cells #[.int .i64 base,.int .i64 kind,o,q] 26)).alloc au=N:=⟨_,rfl⟩;rw [f] at b
 unfold au at f
 obtain⟨t0,W,t2,t3⟩:=b.out.k.t;have A:=(b.out.bl.cell (p:=⟨y,0,none⟩) m).trans T;clear T m
 go_enter Tryz.func46,Tryz.ntmps46
 go_wp2_with fail
 clear f A t0 W t2 t3;refine (I.out _ b.out.bl).mono ?_
 intro e S i;have a:=hideS (b.out.step i.bl);have K:=hideS b.out.sz
 by_cases x:E=0
 ·subst x;obtain⟨u,s,r,n,rfl,P⟩:=i.ok rfl;obtain⟨u1,u2,u3,L,⟨O,U,X⟩,⟨M,z1,y1⟩,⟨R,z2,y2⟩,⟨Q,z3,Z⟩,j,l⟩:=bB (w.heap.size+1) d.base d.kind (.slice (some ⟨u,0,none⟩) d.ds.length s) (.slice (some ⟨r,0,none⟩) d.fs.length n) S a.out.z;have HO:=hideS (zR P (by have:=K.out;omega) O M R Q)
  have g:=hideS (a.out.bl.trans (l.mono (by omega)))
  obtain⟨D,H,C,F⟩:=j.t;have B:Hid (∀ v,v=Value.tuple #[.agg #[.int .i64 d.base,.int .i64 d.kind,.slice (some ⟨u,0,none⟩) d.ds.length s,.slice (some ⟨r,0,none⟩) d.fs.length n],.int .i64 0]->CvO w d 0 (.returned v) L):=fun v V=>by
   subst V;exact⟨fun h=>absurd rfl h,fun _=>⟨u,s,r,n,rfl,HO.out.mono (by have:=K.out;omega)⟩,g.out⟩
  clear P j l i b I;generalize d.ds.length=n1 at *
  generalize d.fs.length=n2 at *
  generalize d.base=Y at *
  generalize d.kind=dk at *
  go_wp2_with fail
  refine bodyPost_ret (v:=.tuple #[.agg #[.int .i64 Y,.int .i64 dk,.slice (some ⟨u,0,none⟩) n1 s,.slice (some ⟨r,0,none⟩) n2 n],.int .i64 0]) (by simp [results,Tryz.results46,go_sem,D,H,C,F]) rfl ?_
  exact B.out _ rfl
 ·have he:=i.bad x;subst he;obtain⟨u1,u2,u3,L,⟨O,U,X⟩,⟨M,z1,y1⟩,⟨R,z2,y2⟩,⟨Q,z3,Z⟩,j,l⟩:=bB (w.heap.size+1) 0 0 (.slice none 0 0) (.slice none 0 0) S a.out.z;have g:=hideS (a.out.bl.trans (l.mono (by omega)))
  obtain⟨D,H,C,F⟩:=j.t;have B:=hideS x;clear j l i x b I
  go_wp2_with fail
  refine bodyPost_ret (v:=.tuple #[.agg #[.int .i64 0,.int .i64 0,.slice none 0 0,.slice none 0 0],.int .i64 E]) (by simp [results,Tryz.results46,go_sem,D,H,C,F]) rfl ?_
  exact⟨fun _=>rfl,fun h=>absurd h B.out,g.out⟩
noncomputable def lnV (l:List Flw) (cur:Int) (c:Cv) (h k:Nat):Nat:=rD l cur (c.bump k h) (prV l cur c) (bmE c k h)
noncomputable def lnE (l:List Flw) (cur:Int) (c:Cv) (h k:Nat):Int:=rE l cur (c.bump k h) (prV l cur c) (bmE c k h)
theorem zS {c:Cv} {k h:Nat} (f:c.Ok) (b:k<c.ds.length):∃ d,BmpR c (k:Nat) h d (bmE c k h)/\(bmE c k h=0->d=c.bump k h):=by
 rcases bmE_cases c k h with⟨a,e⟩| ⟨a,e⟩
 ·rw [e];exact⟨_,.ok f k b rfl a,fun _=>rfl⟩
 ·rw [e];exact⟨_,.val f k b rfl a,fun h=>absurd h (by decide)⟩
theorem Le {l:List Flw} {cur:Int} {d d':Cv} {V0:Nat} {E:Int} (h:E=0->d=d'):rD l cur d V0 E=rD l cur d' V0 E/\rE l cur d V0 E=rE l cur d' V0 E:=by
 unfold rD rE
 by_cases e:E=0
 ·rw [h e];exact⟨rfl,rfl⟩
 ·rw [if_neg e,if_neg e,if_neg e,if_neg e];exact⟨rfl,rfl⟩
theorem NK (l:List Flw) (cur:Int) (c:Cv) (h i:Nat) (pl:Option Addr) (bl B A N:Nat) (q o:Option Addr) (bd y s D C r:Nat) (w:World) (T:c.Ok) (G:prE l cur c=0) (L:h<18446744073709551616) (hc:w.cell? ⟨i,0,none⟩=some (.float .f64 h)) (n:i<w.heap.size) (I:JSrc aF w pl bl B l) (Q:l.length=N) (u:N<=30000) (H:eu l) (P:TFl w q o bd y D C c.ds c.fs) :
  BoC 22 #[.pointer (some ⟨i,0,none⟩)] c.ds.length (lnV l cur c h) (lnE l cur c h) #[.slice pl N A,.int .i64 cur,.int .i64 c.base,.int .i64 c.kind,.slice q c.ds.length s,.slice o c.fs.length r,.float .f64 (prV l cur c)] w:=fun k K a f=>by
 refine (Gj k i a).mono ?_
 rintro e V ⟨rfl,rfl⟩;have v:Below a.heap.size a (a.alloc (.cells #[.int .i64 (k:Nat)] 3)):=(Below.refl _ _).alloc (Nat.le_refl _) _;refine⟨⟨_,_,rfl,fun x t=>?_⟩,v⟩
 obtain⟨d,O,M⟩:=zS (h:=h) T K;have g:Below w.heap.size w x:=(f.trans (v.mono f.size)).trans (t.mono (Nat.le_trans f.size v.size));have hi:(a.alloc (.cells #[.int .i64 (k:Nat)] 3)).cell? ⟨a.heap.size,0,none⟩=some (.int .i64 (k:Nat)):=cP a _ _ 0;have j:a.heap.size<(a.alloc (.cells #[.int .i64 (k:Nat)] 3)).heap.size:=by simp
 have S:BmC 23 #[.pointer (some ⟨a.heap.size,0,none⟩),.pointer (some ⟨i,0,none⟩)] c.base c.kind (.slice q c.ds.length s) (.slice o c.fs.length r) x d (bmE c k h):=fun U z=>by
  have b:=g.trans (z.mono g.size);have m:=t.trans (z.mono t.size);exact Cm c d k h a.heap.size i (bmE c k h) _ _ U ((m.cell (p:=⟨a.heap.size,0,none⟩) j).trans hi) (Nat.lt_of_lt_of_le j m.size) ((b.cell (p:=⟨i,0,none⟩) n).trans hc) (Nat.lt_of_lt_of_le n b.size) (fun R F=>tV c d k h (bmE c k h) q o bd y s D C r R O L (P.below (b.trans (F.mono b.size))))
 have:=nZ 23 _ l d (bmE c k h) cur c.base c.kind pl bl B A N (.slice q c.ds.length s) (.slice o c.fs.length r) (prV l cur c) x (gh G).2.2.1 zQ S (I.below g) Q u H;obtain⟨E,J⟩:=Le (l:=l) (cur:=cur) (V0:=prV l cur c) M;rw [E,J] at this
 exact this
structure LaB (w:World) (base kind:Int) (vd vf:Value) (h:Nat) (wr:World):Prop where
 k:BxK wr w.heap.size base kind vd vf
 c:wr.cell? ⟨w.heap.size+1,0,none⟩=some (.float .f64 h)
 lt:w.heap.size+1<wr.heap.size
 bl:Below w.heap.size w wr
theorem LaB.step {w wr d:World} {base kind:Int} {e b:Value} {h:Nat} (H:LaB w base kind e b h wr) (a:Below wr.heap.size wr d):LaB w base kind e b h d:=
 ⟨H.k.step a,(a.cell (p:=⟨w.heap.size+1,0,none⟩) H.lt).trans H.c,Nat.lt_of_lt_of_le H.lt a.size,H.bl.trans (a.mono H.bl.size)⟩
theorem Lf (w:World) (base kind:Int) (b a:Value) (h:Nat):LaB w base kind b a h ((w.alloc (.cells #[.int .i64 base,.int .i64 kind,b,a] 26)).alloc (.cells #[.float .f64 h] 27)):=by
 have c:(w.alloc (.cells #[.int .i64 base,.int .i64 kind,b,a] 26)).heap.size=w.heap.size+1:=by simp
 refine⟨(qU w base kind b a).step ((Below.refl _ _).alloc (Nat.le_refl _) _),?_,by simp,((Below.refl _ _).alloc (Nat.le_refl _) _).alloc (by rw [c];omega) _⟩
 rw [<- c];exact cP _ _ _ 0
theorem zT (cur base kind E:Int) (h:Nat) (o g i:Value) (w:World) (u:E≠0) (s:Hid (∀ j,Below w.heap.size w j->Calls Tryz.prog 20 #[o,.int .i64 cur,.agg #[.int .i64 base,.int .i64 kind,g,i]] j fun e l=>e=.returned (.tuple #[.agg #[.slice none 0 0,.int .i64 0,.int .i64 0,.int .i64 0,.slice none 0 0,.slice none 0 0,.float .f64 0],.int .i64 E])/\Below j.heap.size j l)) :
  Calls Tryz.prog 7 #[o,.int .i64 cur,.agg #[.int .i64 base,.int .i64 kind,g,i],.float .f64 h] w fun e l=>e=.returned (.tuple #[.slice none 0 0,.int .i64 E])/\Below w.heap.size w l:=by
 have X:(E !=0)=true:=bne_iff_ne.2 u;have f:=hideS (Lf w base kind g i h);obtain⟨p,c⟩:∃ p,(w.alloc (.cells #[.int .i64 base,.int .i64 kind,g,i] 26)).alloc (.cells #[.float .f64 h] 27)=p:=⟨_,rfl⟩;rw [c] at f
 obtain⟨D,x,B,C⟩:=f.out.k.t;clear u
 go_enter Tryz.func7,Tryz.ntmps7
 go_wp2_with fail
 clear c D x B C;refine (s.out _ f.out.bl).mono ?_
 rintro e m ⟨rfl,b⟩;have a:=hideS (f.out.step b);clear b s f;obtain⟨Q,V,u3,K,T,W,G,⟨A,v,y⟩,⟨L,P,U⟩,⟨Y,z2,y2⟩,⟨S,z3,J⟩,⟨I,H,y4⟩,⟨M,Z,R⟩,⟨N,O,y6⟩,z,q⟩:=jY m.heap.size (.slice none 0 0) 0 0 0 (.slice none 0 0) (.slice none 0 0) 0 (m.alloc bC) (heap_alloc_new _ _);have n:Hid (Below w.heap.size w G):=(a.out.bl.alloc a.out.bl.size bC).trans (q.mono a.out.bl.size);obtain⟨r,d⟩:∃ r,m.alloc bC=r:=⟨_,rfl⟩;rw [d] at A v y
 unfold bC at d
 have F:=cg;clear z q
 go_wp2_with fail
 go_ret2
 exact⟨rfl,n.out⟩
theorem Cn (cur base kind:Int) (h n V0:Nat) (X:Nat->Nat) (p:Nat->Int) (pl:Option Addr) (q N:Nat) (f j:Option Addr) (d i m:Nat) (w:World) (hn:n<=255)
  (S:Hid (∀ b,Below w.heap.size w b->Calls Tryz.prog 20 #[.slice pl N q,.int .i64 cur,.agg #[.int .i64 base,.int .i64 kind,.slice f n d,.slice j m i]] b fun e C=>e=.returned (.tuple #[.agg #[.slice pl N q,.int .i64 cur,.int .i64 base,.int .i64 kind,.slice f n d,.slice j m i,.float .f64 V0],.int .i64 0])/\Below b.heap.size b C))
  (K:Hid (∀ b E,Below w.heap.size w b->b.cell? ⟨E,0,none⟩=some (.float .f64 h)->E<b.heap.size->BoC 22 #[.pointer (some ⟨E,0,none⟩)] n X p #[.slice pl N q,.int .i64 cur,.int .i64 base,.int .i64 kind,.slice f n d,.slice j m i,.float .f64 V0] b)) :
  Calls Tryz.prog 7 #[.slice pl N q,.int .i64 cur,.agg #[.int .i64 base,.int .i64 kind,.slice f n d,.slice j m i],.float .f64 h] w fun e C=>LsO w n X p e C/\Below w.heap.size w C:=by
 have s:=hideS (Lf w base kind (.slice f n d) (.slice j m i) h);obtain⟨Q,z⟩:∃ Q,(w.alloc (.cells #[.int .i64 base,.int .i64 kind,.slice f n d,.slice j m i] 26)).alloc (.cells #[.float .f64 h] 27)=Q:=⟨_,rfl⟩;rw [z] at s
 obtain⟨M,P,I,L⟩:=s.out.k.t
 go_enter Tryz.func7,Tryz.ntmps7
 go_wp2_with fail
 clear z M P I L;refine (S.out _ s.out.bl).mono ?_
 rintro e r ⟨rfl,y⟩;have G:=hideS (s.out.step y);clear y S s;obtain⟨u1,u2,u3,u4,u5,u6,F,⟨e0,z0,U⟩,⟨e1,z1,y1⟩,⟨e2,z2,y2⟩,⟨e3,z3,y3⟩,⟨e4,z4,y4⟩,⟨e5,z5,y5⟩,⟨e6,z6,y6⟩,H,R⟩:=jY r.heap.size (.slice pl N q) cur base kind (.slice f n d) (.slice j m i) V0 (r.alloc bC) (heap_alloc_new _ _);have x:Below r.heap.size r F:=((Below.refl _ r).alloc (Nat.le_refl _) bC).trans R;have a:=hideS (G.out.step x);have l:=hideS (vV 22 #[.pointer (some ⟨w.heap.size+1,0,none⟩)] n X p (.slice pl N q) (.slice f n d) (.slice j m i) cur base kind V0 F hn Cj (K.out F (w.heap.size+1) a.out.bl a.out.c a.out.lt));obtain⟨s0,s1,s2,s3,s4,s5,s6⟩:=H.t;obtain⟨M,P,I,L⟩:=a.out.k.t;obtain⟨J,A⟩:∃ J,r.alloc bC=J:=⟨_,rfl⟩;rw [A] at e0 z0 U
 unfold bC at A
 have Y:=cg;have V:=lW;clear H R x K
 go_wp2_with fail
 refine l.out.mono ?_
 rintro e O ⟨B,o⟩;have v:=hideS (a.out.bl.trans (o.mono a.out.bl.size));have W:=hideS a.out.bl.size;rcases B with⟨k,Z,T,u,rfl⟩| ⟨u,g,rfl,B⟩
 ·have D:Hid (LsO w n X p (.returned (.tuple #[.slice none 0 0,.int .i64 (p k)])) O):=Or.inl ⟨k,Z,T,u,rfl⟩;clear o l T u
  go_wp2_with fail
  go_ret2
  exact⟨D.out,v.out⟩
 ·have D:Hid (LsO w n X p (.returned (.tuple #[.slice (some ⟨g,0,none⟩) n n,.int .i64 0])) O):=Or.inr ⟨u,g,rfl,bO B W.out⟩;clear o l u B
  go_wp2_with fail
  go_ret2
  exact⟨D.out,v.out⟩
theorem rF (l:List Flw) (cur:Int) (c:Cv) (h:Nat) (pl:Option Addr) (bl r n N:Nat) (j i:Option Addr) (bd p m t s k:Nat) (w:World) (E:h<18446744073709551616) (v:JSrc aF w pl bl r l) (z:l.length=N) (d:N<=30000) (u:eu l) (y:TFl w j i bd p t s c.ds c.fs) :
  Calls Tryz.prog 7 #[.slice pl N n,.int .i64 cur,.agg #[.int .i64 c.base,.int .i64 c.kind,.slice j c.ds.length m,.slice i c.fs.length k],.float .f64 h] w fun e q=>((prE l cur c≠0/\e=.returned (.tuple #[.slice none 0 0,.int .i64 (prE l cur c)]))\/(prE l cur c=0/\LsO w c.ds.length (lnV l cur c h) (lnE l cur c h) e q))/\Below w.heap.size w q:=by
 by_cases f:prE l cur c=0
 ·have A:=prR l cur c;rw [f] at A
  have C:=(gh f).1.ok;refine (Cn cur c.base c.kind h c.ds.length (prV l cur c) (lnV l cur c h) (lnE l cur c h) pl n N j i m k c.fs.length w C.hi (fun o g=>zN l cur c pl bl r n N j i bd p m t s k o _ A (v.below g) z d u (y.below g)) (fun o g B D x=>NK l cur c h g pl bl r n N j i bd p m t s k o C f E D x (v.below B) z d u (y.below B))).mono ?_
  rintro e q ⟨a,b⟩;exact⟨Or.inr ⟨f,a⟩,b⟩
 ·refine (zT cur c.base c.kind (prE l cur c) h _ _ _ w f (fun o g=>tX l cur c pl bl r n N j i bd p m t s k o _ _ (prR l cur c) f (v.below g) z d u (y.below g))).mono ?_
  rintro e q ⟨a,b⟩;exact⟨Or.inl ⟨f,a⟩,b⟩
theorem zU (a b r:Nat) (w:World) (h:a<18446744073709551616) (l:b<18446744073709551616) (k:floatBits .sub .f64 a b=some r) (j:r<18446744073709551616) :
  Calls Tryz.prog 27 #[.int .u64 (a:Int),.int .u64 (b:Int)] w fun e m=>e=.returned (.tuple #[.int .u64 (tldV r:Nat),.int .i64 (gM r)])/\Below w.heap.size w m:=by
 have i:=hideS fun g=>kF a b _ _ g rfl rfl (ag h) (ag l)
 rw [k,ar] at i
 have f:=hideS fun g=>co (r:Int) g (ag j)
 unfold tldV gM;clear h l k j;generalize aM (r:Int)=n at *
 go_enter Tryz.func27,Tryz.ntmps27
 go_wp2_with fail
 refine (i.out _).mono ?_
 rintro e p ⟨rfl,c⟩;have d:=hideS c;clear c
 go_wp2_with fail
 refine (turned (f.out _)).mono ?_
 rintro e o ⟨rfl,rfl⟩;cases n
 ·go_wp2_with fail
  go_ret2
  exact⟨rfl,d.out⟩
 ·go_wp2_with fail
  go_ret2
  exact⟨rfl,d.out⟩
def PS (w:World) (pl:Option Addr) (N d:Nat) (cur base kind:Int) (f b:Value) (V:Nat) (E:Int):Prop:=∀ a,Below w.heap.size w a->Calls Tryz.prog 26 #[.slice pl N d,.int .i64 cur,.agg #[.int .i64 base,.int .i64 kind,f,b]] a fun e c=>e=.returned (.tuple #[.int .u64 (V:Int),.int .i64 E])/\Below a.heap.size a c
theorem Dy (w:World) (base kind:Int) (b a:Value):DxK (w.alloc (.cells #[.int .i64 base,.int .i64 kind,b,a] 39)) w.heap.size base kind b a:=⟨heap_alloc_new _ _⟩
def QT (b:Bool) (V:Nat):Nat:=if b=true then V else 0
def QU (b:Bool):Int:=if b=true then 0 else 91
theorem vW (pl:Option Addr) (N j:Nat) (cur base kind E h:Int) (a b:Value) (V:Nat) (w:World) (k:E≠0) (n:Hid (PS w pl N j cur base kind a b V E)) :
  Calls Tryz.prog 24 #[.slice pl N j,.int .i64 cur,.agg #[.int .i64 base,.int .i64 kind,a,b],.int .u64 h] w fun e m=>e=.returned (.tuple #[.int .u64 0,.int .i64 E])/\Below w.heap.size w m:=by
 have q:(E !=0)=true:=bne_iff_ne.2 k;have l:=hideS (Dy w base kind a b);have d:Hid (Below w.heap.size w (w.alloc (.cells #[.int .i64 base,.int .i64 kind,a,b] 39))):=(Below.refl _ _).alloc (Nat.le_refl _) _;clear k;obtain⟨i,g⟩:∃ i,w.alloc (.cells #[.int .i64 base,.int .i64 kind,a,b] 39)=i:=⟨_,rfl⟩;rw [g] at l d
 obtain⟨s,o,p,r⟩:=l.out.t
 go_enter Tryz.func24,Tryz.ntmps24
 go_wp2_with fail
 refine (n.out _ d.out).mono ?_
 rintro e u ⟨rfl,c⟩;have f:=hideS (d.out.trans (c.mono d.out.size));clear c
 go_wp2_with fail
 go_ret2
 exact⟨rfl,f.out⟩
theorem oa (pl:Option Addr) (N k:Nat) (cur base kind:Int) (h:Nat) (b c:Value) (V:Nat) (w:World) (l:h<18446744073709551616) (p:Hid (PS w pl N k cur base kind b c V 0)) :
  Calls Tryz.prog 24 #[.slice pl N k,.int .i64 cur,.agg #[.int .i64 base,.int .i64 kind,b,c],.int .u64 (h:Int)] w fun e n=>e=.returned (.tuple #[.int .u64 (QT (aM (h:Int)) V:Nat),.int .i64 (QU (aM (h:Int)))])/\Below w.heap.size w n:=by
 have m:=hideS (Dy w base kind b c);have f:Hid (Below w.heap.size w (w.alloc (.cells #[.int .i64 base,.int .i64 kind,b,c] 39))):=(Below.refl _ _).alloc (Nat.le_refl _) _;have g:=hideS fun q=>co (h:Int) q (ag l)
 clear l;obtain⟨j,i⟩:∃ j,w.alloc (.cells #[.int .i64 base,.int .i64 kind,b,c] 39)=j:=⟨_,rfl⟩;rw [i] at m f
 obtain⟨x,r,s,v⟩:=m.out.t;generalize aM (h:Int)=o at *
 go_enter Tryz.func24,Tryz.ntmps24
 go_wp2_with fail
 refine (p.out _ f.out).mono ?_
 rintro e y ⟨rfl,d⟩;have a:=hideS (f.out.trans (d.mono f.out.size));clear d
 go_wp2_with fail
 refine (turned (g.out _)).mono ?_
 rintro e u ⟨rfl,rfl⟩;cases o
 ·go_wp2_with fail
  go_ret2
  exact⟨rfl,a.out⟩
 ·go_wp2_with fail
  go_ret2
  exact⟨rfl,a.out⟩
end Go.Proofs.YtfdddijdjpijbaaGreat
