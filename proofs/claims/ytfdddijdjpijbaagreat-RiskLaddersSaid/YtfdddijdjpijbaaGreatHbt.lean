/-  -/
import Derived.Test.YtfdddijdjpijbaaGreatHbs
import Derived.Test.YtfdddijdjpijbaaGreatHbr
import Derived.Test.YtfdddijdjpijbaaGreatFnv
set_option maxHeartbeats 6400000
set_option maxRecDepth 20000
namespace Go.Proofs.YtfdddijdjpijbaaGreat
open Go.RowKit
structure DpB (w:World) (base kind:Int) (vd vf:Value) (wr:World):Prop where
 k:DxK wr w.heap.size base kind vd vf
 z:wr.heap[w.heap.size+1]? =some cY
 bl:Below w.heap.size w wr
 sz:w.heap.size+2<=wr.heap.size
theorem Ce (w:World) (base kind:Int) (c a:Value):DpB w base kind c a ((w.alloc (.cells #[.int .i64 base,.int .i64 kind,c,a] 39)).alloc cY):=by
 have d:(w.alloc (.cells #[.int .i64 base,.int .i64 kind,c,a] 39)).heap.size=w.heap.size+1:=by simp
 have b:=(Below.refl (w.heap.size+1) (w.alloc (.cells #[.int .i64 base,.int .i64 kind,c,a] 39))).alloc (by omega) cY
 refine⟨⟨?_⟩,?_,((Below.refl _ _).alloc (Nat.le_refl _) _).alloc (by omega) _,by simp⟩
 ·rw [b.block _ (by omega)];exact heap_alloc_new _ _
 ·rw [<- d];exact heap_alloc_new _ _
theorem DpB.step {w wr b:World} {base kind:Int} {d c:Value} (h:DpB w base kind d c wr) (a:Below wr.heap.size wr b):DpB w base kind d c b:=
 ⟨h.k.step a,(a.block _ (by have:=h.sz;omega)).trans h.z,h.bl.trans (a.mono h.bl.size),Nat.le_trans h.sz a.size⟩
structure DvE (w:World) (E:Int) (e:Ending) (w':World):Prop where
 e:e=.returned (.tuple #[.agg #[.int .i64 0,.int .i64 0,.slice none 0 0,.slice none 0 0],.int .i64 E])
 bl:Below w.heap.size w w'
theorem Cf {d u1 u2 u3 c:World} {B b n:Nat} {v:Value} {xs:List Nat} {k j g m:Value} (h:d.ownsRow B 41 1 v n (xs.map uV)) (a:b<B) (l:d.setCell ⟨b,0,none⟩ k=u1) (i:u1.setCell ⟨b,1,none⟩ j=u2) (e:u2.setCell ⟨b,2,none⟩ g=u3) (f:u3.setCell ⟨b,3,none⟩ m=c):c.ownsRow B 41 1 v n (xs.map uV):=by
 rw [<- f,<- e,<- i,<- l];exact bt (bt (bt (bt h a _) a _) a _) a _
def NH (w:World) (base kind E:Int) (d c:Value):Prop:=∀ a,Below w.heap.size w a->Calls Tryz.prog 42 #[.agg #[.int .i64 base,.int .i64 kind,d,c]] a fun e b=>e=.returned (.int .i64 E)/\Below a.heap.size a b
theorem zJ (base kind E:Int) (i:Int) (h:Int) (f g:Value) (w:World) (p:E≠0) (o:Hid (NH w base kind E f g)) :
  Calls Tryz.prog 25 #[.agg #[.int .i64 base,.int .i64 kind,f,g],.int .i64 i,.int .u64 h] w fun e A=>DvE w E e A:=by
 have F:(E !=0)=true:=bne_iff_ne.2 p;clear p;have b:=hideS (Ce w base kind (f) (g));obtain⟨m,a⟩:∃ m,(w.alloc (.cells #[.int .i64 base,.int .i64 kind,f,g] 39)).alloc cY=m:=⟨_,rfl⟩;rw [a] at b
 unfold cY at a
 obtain⟨x,q,B,u⟩:=b.out.k.t
 go_enter Tryz.func25,Tryz.ntmps25
 go_wp2_with fail
 clear a x q B u;refine (o.out _ b.out.bl).mono ?_
 rintro e C ⟨rfl,c⟩;have d:=hideS (b.out.step c);clear c o b;obtain⟨I,V,S,J,⟨R,T,U⟩,⟨P,H,O⟩,⟨M,K,Q⟩,⟨N,L,G⟩,n,l⟩:=jX (w.heap.size+1) 0 0 (.slice none 0 0) (.slice none 0 0) C d.out.z;have j:=hideS (d.out.bl.trans (l.mono (by omega)))
 obtain⟨r,y,D,s⟩:=n.t;clear n l
 go_wp2_with fail
 refine bodyPost_ret (v:=.tuple #[.agg #[.int .i64 0,.int .i64 0,.slice none 0 0,.slice none 0 0],.int .i64 E]) (by simp [results,Tryz.results25,go_sem,r,y,D,s]) rfl ?_
 exact⟨rfl,j.out⟩
theorem zK (base kind:Int) (i:Int) (h:Int) (g:Value) (j:Option Addr) (n l:Nat) (w:World) (hi:¬ (0<=i/\i<(n:Int))) (A:Hid (NH w base kind 0 g (.slice j n l))) :
  Calls Tryz.prog 25 #[.agg #[.int .i64 base,.int .i64 kind,g,.slice j n l],.int .i64 i,.int .u64 h] w fun e D=>DvE w 1 e D:=by
 have d:=hideS (Ce w base kind (g) (.slice j n l));obtain⟨s,a⟩:∃ s,(w.alloc (.cells #[.int .i64 base,.int .i64 kind,g,.slice j n l] 39)).alloc cY=s:=⟨_,rfl⟩;rw [a] at d
 unfold cY at a
 obtain⟨x,m,B,q⟩:=d.out.k.t
 go_enter Tryz.func25,Tryz.ntmps25
 go_wp2_with fail
 clear a x m B q;refine (A.out _ d.out.bl).mono ?_
 rintro e E ⟨rfl,f⟩;have b:=hideS (d.out.step f);clear f A d;obtain⟨x,m,B,q⟩:=b.out.k.t;obtain⟨I,W,T,J,⟨S,U,V⟩,⟨Q,H,P⟩,⟨M,K,R⟩,⟨N,L,G⟩,u,r⟩:=jX (w.heap.size+1) 0 0 (.slice none 0 0) (.slice none 0 0) E b.out.z;have c:=hideS (b.out.bl.trans (r.mono (by omega)))
 obtain⟨o,y,C,p⟩:=u.t;clear u r
 by_cases O:i<0
 ·clear hi
  go_wp2_with fail
  refine bodyPost_ret (v:=.tuple #[.agg #[.int .i64 0,.int .i64 0,.slice none 0 0,.slice none 0 0],.int .i64 1]) (by simp [results,Tryz.results25,go_sem,o,y,C,p]) rfl ?_
  exact⟨rfl,c.out⟩
 ·have F:(n:Int)<=i:=by omega
  clear hi
  go_wp2_with fail
  refine bodyPost_ret (v:=.tuple #[.agg #[.int .i64 0,.int .i64 0,.slice none 0 0,.slice none 0 0],.int .i64 1]) (by simp [results,Tryz.results25,go_sem,o,y,C,p]) rfl ?_
  exact⟨rfl,c.out⟩
def QS (w:World) (base kind:Int) (c d:Option Addr) (n cx cy:Nat) (i j h:Nat) (L:List Nat) (b:Bool):Prop:=∀ a,Below w.heap.size w a->Calls Tryz.prog 43 #[.agg #[.int .i64 base,.int .i64 kind,.slice c n cx,.slice d n cy],.int .i64 i,.int .i64 j,.int .u64 (h:Int)] a fun e f=>BqO a base kind c n cx L b e f
structure BgO (w:World) (base kind:Int) (px:Option Addr) (n cx:Nat) (L:List Nat) (bad:Bool) (e:Ending) (w':World):Prop where
 no:bad=true->DvE w 91 e w'
 yes:bad=false->BqO w base kind px n cx L false e w'
theorem rC (base kind:Int) (i p:Option Addr) (n cx cy k h:Nat) (L:List Nat) (j:Bool) (w:World) (hk:k<n) (hn:n<=255) (V:h<18446744073709551616) (hL:L.length=n) (Z:Hid (NH w base kind 0 (.slice i n cx) (.slice p n cy))) (HD:Hid (aM (h:Int)=true->QS w base kind i p n cx cy k (k+1) h L j)) :
  Calls Tryz.prog 25 #[.agg #[.int .i64 base,.int .i64 kind,.slice i n cx,.slice p n cy],.int .i64 k,.int .u64 (h:Int)] w fun e w'=>BgO w base kind i n cx L (!aM (h:Int)||j) e w':=by
 have G:=hideS fun wx=>co (h:Int) wx (ag V)
 have r:=hideS (Ce w base kind (.slice i n cx) (.slice p n cy));obtain⟨U,l⟩:∃ U,(w.alloc (.cells #[.int .i64 base,.int .i64 kind,.slice i n cx,.slice p n cy] 39)).alloc cY=U:=⟨_,rfl⟩;rw [l] at r
 unfold cY at l
 obtain⟨C,A,D,B⟩:=r.out.k.t;have l1:(0:Int)<=(k:Int):=Int.natCast_nonneg _;have l2:(k:Int)<(n:Int):=by omega
 have F:=hideS hL;have ab:IntKind.i64.wrap ((k:Int)+1)=((k+1:Nat):Int):=by rw [IntKind.wrap_i64];omega
 clear V hL;generalize aM (h:Int)=b1 at *
 go_enter Tryz.func25,Tryz.ntmps25
 go_wp2_with fail
 clear l C A D B;refine (Z.out _ r.out.bl).mono ?_
 rintro e w3 ⟨rfl,y⟩;have a:=hideS (r.out.step y);clear y Z r;obtain⟨C,A,D,B⟩:=a.out.k.t
 go_wp2_with fail
 refine (turned (G.out _)).mono ?_
 rintro e w4 ⟨rfl,rfl⟩;cases b1
 ·obtain⟨Q,u2,u3,R,⟨M,z0,y0⟩,⟨K,P,W⟩,⟨H,S,X⟩,⟨I,T,O⟩,f,d⟩:=jX (w.heap.size+1) 0 0 (.slice none 0 0) (.slice none 0 0) w3 a.out.z;have b:=hideS (a.out.bl.trans (d.mono (by omega)))
  obtain⟨m,s,x,o⟩:=f.t;clear f d
  go_wp2_with fail
  refine bodyPost_ret (v:=.tuple #[.agg #[.int .i64 0,.int .i64 0,.slice none 0 0,.slice none 0 0],.int .i64 91]) (by simp [results,Tryz.results25,go_sem,m,s,x,o]) rfl ?_
  exact⟨fun _=>⟨rfl,b.out⟩,fun e=>(by cases e)⟩
 ·go_wp2_with fail
  refine (HD.out (by first | trivial | rfl) _ a.out.bl).mono ?_
  rintro e w5 u;have c:=hideS (a.out.step u.bl);have E:=a.out.sz;have HZ:=hideS E;cases j
  ·obtain⟨v,rfl,N⟩:=u.yes rfl;obtain⟨q,g,Y,rfl,_,_,_,_⟩:=bq N F.out;obtain⟨Q,u2,u3,R,⟨M,z0,y0⟩,⟨K,P,W⟩,⟨H,S,X⟩,⟨I,T,O⟩,f,d⟩:=jX (w.heap.size+1) base kind (.slice i n cx) (.slice q n Y) w5 c.out.z;have b:=hideS (c.out.bl.trans (d.mono (by omega)))
   have J:=hideS (fX (Cf N (by omega) M K H I) (by omega:w.heap.size<=w3.heap.size))
   obtain⟨m,s,x,o⟩:=f.t;clear f d N u C A D B
   go_wp2_with fail
   refine bodyPost_ret (v:=.tuple #[.agg #[.int .i64 base,.int .i64 kind,.slice i n cx,.slice q n Y],.int .i64 0]) (by simp [results,Tryz.results25,go_sem,m,s,x,o]) rfl ?_
   exact⟨fun e=>(by cases e),fun _=>⟨fun e=>(by cases e),fun _=>⟨_,rfl,J.out⟩,b.out⟩⟩
  ·obtain rfl:=u.no rfl;obtain⟨Q,u2,u3,R,⟨M,z0,y0⟩,⟨K,P,W⟩,⟨H,S,X⟩,⟨I,T,O⟩,f,d⟩:=jX (w.heap.size+1) 0 0 (.slice none 0 0) (.slice none 0 0) w5 c.out.z;have b:=hideS (c.out.bl.trans (d.mono (by omega)))
   obtain⟨m,s,x,o⟩:=f.t;clear f d u C A D B
   go_wp2_with fail
   refine bodyPost_ret (v:=.tuple #[.agg #[.int .i64 0,.int .i64 0,.slice none 0 0,.slice none 0 0],.int .i64 91]) (by simp [results,Tryz.results25,go_sem,m,s,x,o]) rfl ?_
   exact⟨fun _=>⟨rfl,b.out⟩,fun e=>(by cases e)⟩
theorem NI {xs ys:List Nat} (c:xs.length=ys.length) (h:∀ t<xs.length,xs.getD t 0=ys.getD t 0):xs=ys:=
 List.ext_getElem c fun t a b=>by
  have:=h t a;rw [List.getD_eq_getElem?_getD,List.getD_eq_getElem?_getD,List.getElem?_eq_getElem a,List.getElem?_eq_getElem b] at this
  exact this
theorem PP (c:Cv) (i j h n t:Nat) (a:t<n):(bqL c i j h n).getD t 0=bqV c i j h t:=by
 unfold bqL;rw [List.getD_eq_getElem?_getD,List.getElem?_map,List.getElem?_range a];rfl
theorem zL {c:Cv} {k h:Nat} (a:c.Ok) (d:k<c.ds.length):bqL c k (k+1) h c.ds.length=(c.bump k h).fs:=
 NI (by rw [eL];show _=(c.fs.set k _).length;rw [List.length_set,a.len]) fun t b=>by
  rw [eL] at b
  rw [PP _ _ _ _ _ _ b,mn (by rw [a.len];exact d)]
  unfold bqV
  by_cases e:t=k
  ·subst e;rw [if_pos ⟨Nat.le_refl _,Nat.lt_succ_self _⟩,if_pos rfl]
  ·rw [if_neg (by omega),if_neg e]
structure DvO (w:World) (d:Cv) (E:Int) (px:Option Addr) (bx ox cx:Nat) (e:Ending) (w':World):Prop where
 bad:E≠0->e=.returned (.tuple #[.agg #[.int .i64 0,.int .i64 0,.slice none 0 0,.slice none 0 0],.int .i64 E])
 ok:E=0->∃ q g cc,e=.returned (.tuple #[.agg #[.int .i64 d.base,.int .i64 d.kind,.slice px d.ds.length cx,.slice q d.fs.length cc],.int .i64 0])/\CSrcD w' px q bx ox g 0 d.ds d.fs/\w.heap.size<=g
 bl:Below w.heap.size w w'
theorem DvE.dv {w b:World} {d:Cv} {E:Int} {i:Option Addr} {c g cx:Nat} {e:Ending} (h:DvE w E e b) (f:E≠0):DvO w d E i c g cx e b:=⟨fun _=>h.e,fun a=>absurd a f,h.bl⟩
theorem BqO.dv {w l:World} {c:Cv} {L:List Nat} {f o:Option Addr} {j k s x cx:Nat} {e:Ending} (h:BqO w c.base c.kind f c.ds.length cx L false e l) (r:CSrcD w f o j k s x c.ds c.fs) (n:L.length=c.ds.length) (t:∀ i<L.length,L.getD i 0<18446744073709551616):DvO w ⟨c.base,c.kind,c.ds,L⟩ 0 f j k cx e l:=by
 obtain⟨v,y,u⟩:=h.yes rfl;obtain⟨q,g,m,rfl,b,p,_,_⟩:=bq u n;refine⟨fun a=>absurd rfl a,fun _=>⟨q,g,m,?_,⟨(r.below h.bl).d,⟨b.at_,b.lt,b.cell⟩,fun i hi=>ag (t i hi)⟩,p⟩,h.bl⟩
 show e=.returned (.tuple #[.agg #[.int .i64 c.base,.int .i64 c.kind,.slice f c.ds.length cx,.slice q L.length m],.int .i64 0])
 rw [n];exact y
theorem NJ {c:Cv} {E:Int} {w:World} {b a:Option Addr} {d e g f cx cy:Nat} (j:CSrcD w b a d e g f c.ds c.fs) (i:c.Chk E):NH w c.base c.kind E (.slice b c.ds.length cx) (.slice a c.fs.length cy):=
 fun h k=>dw c.base c.kind b a d e cx g f cy c.ds c.fs h (j.below k) i
theorem zM (c d:Cv) (i E:Int) (h:Nat) (m g:Option Addr) (r s cx y A cy:Nat) (w:World) (u:h<18446744073709551616) (l:CSrcD w m g r s y A c.ds c.fs) (B:c.Fit) (D:BmpR c i h d E) :
  Calls Tryz.prog 25 #[.agg #[.int .i64 c.base,.int .i64 c.kind,.slice m c.ds.length cx,.slice g c.fs.length cy],.int .i64 i,.int .u64 (h:Int)] w fun e p=>DvO w d E m r s cx e p:=by
 cases D with
 | chk E F C=>exact (zJ c.base c.kind E i h _ _ w C (NJ l F)).mono fun e p a=>a.dv C
 | arg ok hi=>exact (zK c.base c.kind i h _ g c.fs.length cy w (by rw [ok.len];exact hi) (NJ l (.ok ok))).mono fun e p a=>a.dv (by decide)
 | val ok k f e o=>
  subst e;have z:=ok.len;have q:=NJ (cx:=cx) (cy:=cy) l (.ok ok);rw [z] at q ⊢
  refine (rC c.base c.kind m g c.ds.length cx cy k h (bqL c k (k+1) h c.ds.length) true w f ok.hi u (eL _ _ _ _ _) q (fun v x j=>?_)).mono fun e p a=>(a.no (by simp)).dv (by decide)
  have:=ks c k (k+1) h c.ds.length k m g r s cx y A cy x ok (l.below j) B rfl u v (by omega) (fun t G a _=>absurd a (by omega)) (fun _=>⟨Nat.le_refl _,Nat.lt_succ_self _,o⟩)
  rw [decide_eq_true f] at this
  exact this
 | ok ok k f e o=>
  subst e;have z:=ok.len;have q:=NJ (cx:=cx) (cy:=cy) l (.ok ok);have n:=(zG o).2;rw [z] at q ⊢
  refine (rC c.base c.kind m g c.ds.length cx cy k h (bqL c k (k+1) h c.ds.length) false w f ok.hi u (eL _ _ _ _ _) q (fun v x j=>?_)).mono fun e p a=>?_
  ·have:=ks c k (k+1) h c.ds.length c.ds.length m g r s cx y A cy x ok (l.below j) B rfl u v (Nat.le_refl _) (fun t G a b=>by rw [show t=k by omega];exact o) (fun a=>absurd a (by omega))
   rw [decide_eq_false (by omega)] at this
   exact this
  ·have:=(a.yes (by rw [n];rfl)).dv l (eL _ _ _ _ _) (fun i hi=>by rw [zL ok f] at hi ⊢;exact zH ok B f o i hi)
   rw [zL ok f] at this
   exact this
structure HoB (w:World) (base kind:Int) (vd vf:Value) (wr:World):Prop where
 k:BxK wr w.heap.size base kind vd vf
 z:wr.heap[w.heap.size+1]? =some bC
 bl:Below w.heap.size w wr
theorem HoB.step {w wr b:World} {base kind:Int} {d c:Value} (h:HoB w base kind d c wr) (a:Below wr.heap.size wr b):HoB w base kind d c b:=
 ⟨h.k.step a,(a.block _ (Array.getElem?_eq_some_iff.1 h.z).1).trans h.z,h.bl.trans (a.mono h.bl.size)⟩
theorem Lb (w:World) (base kind:Int) (b a:Value):HoB w base kind b a ((w.alloc (.cells #[.int .i64 base,.int .i64 kind,b,a] 26)).alloc bC):=by
 have c:(w.alloc (.cells #[.int .i64 base,.int .i64 kind,b,a] 26)).heap.size=w.heap.size+1:=by simp
 refine⟨(qU w base kind b a).step ((Below.refl _ _).alloc (Nat.le_refl _) _),?_,((Below.refl _ _).alloc (Nat.le_refl _) _).alloc (by rw [c];omega) _⟩
 rw [<- c];exact heap_alloc_new _ _
theorem zN (l:List Flw) (cur:Int) (c:Cv) (pl:Option Addr) (bl G m N:Nat) (a b:Option Addr) (bd B d M D f:Nat) (w:World) (V:Nat) (h:PreR l cur c V 0) (F:JSrc aF w pl bl G l) (x:l.length=N) (o:N<=30000) (H:eu l) (I:TFl w a b bd B M D c.ds c.fs) :
  Calls Tryz.prog 20 #[.slice pl N m,.int .i64 cur,.agg #[.int .i64 c.base,.int .i64 c.kind,.slice a c.ds.length d,.slice b c.fs.length f]] w fun e Z=>e=.returned (.tuple #[.agg #[.slice pl N m,.int .i64 cur,.int .i64 c.base,.int .i64 c.kind,.slice a c.ds.length d,.slice b c.fs.length f,.float .f64 V],.int .i64 0])/\Below w.heap.size w Z:=by
 have K:=hideS fun L (J:Below w.heap.size w L)=>qV l cur c pl bl G m N a b bd B d M D f L V 0 h (F.below J) x o H (I.below J)
 have i:=hideS (Lb w c.base c.kind (.slice a c.ds.length d) (.slice b c.fs.length f));clear h F x H I;generalize c.ds.length=p at *
 generalize c.fs.length=n at *
 generalize c.base=base at *
 generalize c.kind=kind at *
 obtain⟨A,g⟩:∃ A,(w.alloc (.cells #[.int .i64 base,.int .i64 kind,.slice a p d,.slice b n f] 26)).alloc bC=A:=⟨_,rfl⟩;rw [g] at i
 unfold bC at g
 obtain⟨E,y,O,s⟩:=i.out.k.t
 go_enter Tryz.func20,Tryz.ntmps20
 go_wp2_with fail
 clear g E y O s;refine (K.out _ i.out.bl).mono ?_
 rintro e Y ⟨rfl,j⟩;have r:=hideS (i.out.step j);clear j i K;obtain⟨E,y,O,s⟩:=r.out.k.t;obtain⟨u1,u2,u3,u4,u5,u6,u7,⟨e0,z0,y0⟩,⟨e1,z1,y1⟩,⟨e2,z2,y2⟩,⟨e3,z3,y3⟩,⟨e4,z4,y4⟩,⟨e5,z5,y5⟩,⟨e6,z6,y6⟩,u,C⟩:=jY (w.heap.size+1) (.slice pl N m) cur base kind (.slice a p d) (.slice b n f) V Y r.out.z;have X:=hideS u;have q:=hideS (r.out.bl.trans (C.mono (by omega)))
 have S:=cg;clear u C
 go_wp2_with fail
 obtain⟨P,R,W,T,s4,Q,U⟩:=X.out.t;refine bodyPost_ret (v:=.tuple #[.agg #[.slice pl N m,.int .i64 cur,.int .i64 base,.int .i64 kind,.slice a p d,.slice b n f,.float .f64 V],.int .i64 0]) (by simp [results,Tryz.results20,go_sem,P,R,W,T,s4,Q,U]) rfl ?_
 exact⟨rfl,q.out⟩
theorem tX (l:List Flw) (cur:Int) (c:Cv) (pl:Option Addr) (bl y C N:Nat) (f g:Option Addr) (bd r i J u j:Nat) (w:World) (V:Nat) (E:Int) (h:PreR l cur c V E) (F:E≠0) (x:JSrc aF w pl bl y l) (p:l.length=N) (m:N<=30000) (A:eu l) (B:TFl w f g bd r J u c.ds c.fs) :
  Calls Tryz.prog 20 #[.slice pl N C,.int .i64 cur,.agg #[.int .i64 c.base,.int .i64 c.kind,.slice f c.ds.length i,.slice g c.fs.length j]] w fun e w'=>e=.returned (.tuple #[.agg #[.slice none 0 0,.int .i64 0,.int .i64 0,.int .i64 0,.slice none 0 0,.slice none 0 0,.float .f64 0],.int .i64 E])/\Below w.heap.size w w':=by
 have H:=hideS fun I (D:Below w.heap.size w I)=>qV l cur c pl bl y C N f g bd r i J u j I V E h (x.below D) p m A (B.below D)
 have b:=hideS (Lb w c.base c.kind (.slice f c.ds.length i) (.slice g c.fs.length j));have dE:(E !=0)=true:=bne_iff_ne.2 F;clear h x p A B F;generalize c.ds.length=T at *
 generalize c.fs.length=M at *
 generalize c.base=base at *
 generalize c.kind=kind at *
 obtain⟨q,a⟩:∃ q,(w.alloc (.cells #[.int .i64 base,.int .i64 kind,.slice f T i,.slice g M j] 26)).alloc bC=q:=⟨_,rfl⟩;rw [a] at b
 unfold bC at a
 obtain⟨Q,O,t2,L⟩:=b.out.k.t
 go_enter Tryz.func20,Tryz.ntmps20
 go_wp2_with fail
 clear a Q O t2 L;refine (H.out _ b.out.bl).mono ?_
 rintro e Z ⟨rfl,d⟩;have G:=hideS (b.out.step d);clear d b H;obtain⟨u1,u2,u3,u4,u5,u6,u7,⟨e0,z0,y0⟩,⟨e1,z1,y1⟩,⟨e2,z2,y2⟩,⟨e3,z3,y3⟩,⟨e4,z4,y4⟩,⟨e5,z5,y5⟩,⟨e6,z6,y6⟩,o,s⟩:=jY (w.heap.size+1) (.slice none 0 0) 0 0 0 (.slice none 0 0) (.slice none 0 0) 0 Z G.out.z;have Y:=hideS o;have n:=hideS (G.out.bl.trans (s.mono (by omega)))
 have S:=cg;clear o s
 go_wp2_with fail
 obtain⟨K,R,X,U,s4,P,W⟩:=Y.out.t;refine bodyPost_ret (v:=.tuple #[.agg #[.slice none 0 0,.int .i64 0,.int .i64 0,.int .i64 0,.slice none 0 0,.slice none 0 0,.float .f64 0],.int .i64 E]) (by simp [results,Tryz.results20,go_sem,K,R,X,U,s4,P,W]) rfl ?_
 exact⟨rfl,n.out⟩
def BmC (f:Nat) (a:Array Value) (base kind:Int) (h g:Value) (w:World) (d:Cv) (E:Int):Prop:=∀ b,Below w.heap.size w b->Calls Tryz.prog f (#[.agg #[.int .i64 base,.int .i64 kind,h,g]]++a) b fun e c=>CvO b d E e c
theorem zO (h:Nat) (a:Array Value) (d:Cv) (E cur base kind:Int) (v0 c g:Value) (V0:Nat) (w:World) (n:E≠0) (A:∀ args w,(callFunc h args).run Tryz.prog w=.ok (.enter h args) w) (m:Hid (BmC h a base kind c g w d E)) :
  Calls Tryz.prog 32 #[.agg #[v0,.int .i64 cur,.int .i64 base,.int .i64 kind,c,g,.float .f64 V0],.func (.func h) #[] a] w fun e G=>e=.returned (.tuple #[.float .f64 0,.int .i64 E])/\Below w.heap.size w G:=by
 have M:(E !=0)=true:=bne_iff_ne.2 n;have z:=hideS n;have r:=hideS (rx w v0 c g cur base kind V0);have i:=hideS ((Below.refl w.heap.size w).alloc (Nat.le_refl _) (.cells #[v0,.int .i64 cur,.int .i64 base,.int .i64 kind,c,g,.float .f64 V0] 56));obtain⟨p,f⟩:∃ p,w.alloc (.cells #[v0,.int .i64 cur,.int .i64 base,.int .i64 kind,c,g,.float .f64 V0] 56)=p:=⟨_,rfl⟩;rw [f] at r i
 obtain⟨D,u,I,y,v,B,F⟩:=r.out.t;unfold BmC at m
 clear n
 go_enter Tryz.func32,Tryz.ntmps32
 go_wp2_with fail
 clear f D u I y v B F;refine (m.out _ i.out).mono ?_
 intro e l o;have L:=o.bad z.out;subst L;have k:=hideS (i.out.trans (o.bl.mono i.out.size));clear o m;obtain⟨P,Y,X,x,⟨H,J,K⟩,⟨V,O,U⟩,⟨S,Q,W⟩,⟨T,R,N⟩,C,q⟩:=bB l.heap.size 0 0 (.slice none 0 0) (.slice none 0 0) (l.alloc au) (heap_alloc_new _ _);have j:Hid (Below w.heap.size w x):=(k.out.alloc k.out.size au).trans (q.mono k.out.size);obtain⟨s,b⟩:∃ s,l.alloc au=s:=⟨_,rfl⟩;rw [b] at H J K
 unfold au at b
 clear C q
 go_wp2_with fail
 go_ret2
 exact⟨rfl,j.out⟩
theorem Cg (y:Nat) (s:Array Value) (l:List Flw) (d:Cv) (E cur base kind:Int) (pl:Option Addr) (bl T r N:Nat) (u v:Value) (V0 V:Nat) (w:World) (ab:∀ args w,(callFunc y args).run Tryz.prog w=.ok (.enter y args) w) (F:Hid (BmC y s base kind u v w d 0)) (Q:PreR l cur d V E) (S:JSrc aF w pl bl T l) (L:l.length=N) (z:N<=30000) (U:eu l) :
  Calls Tryz.prog 32 #[.agg #[.slice pl N r,.int .i64 cur,.int .i64 base,.int .i64 kind,u,v,.float .f64 V0],.func (.func y) #[] s] w fun e w'=>e=.returned (.tuple #[.float .f64 V,.int .i64 E])/\Below w.heap.size w w':=by
 have p:=hideS fun H B g o f j (hb:Below w.heap.size w H) (c:OwnC H B d g o f j)=>qV l cur d pl bl T r N (some ⟨g,0,none⟩) (some ⟨f,0,none⟩) g 0 o f 0 j H V E Q (S.below hb) L z U c.src
 have x:=hideS (rx w (.slice pl N r) u v cur base kind V0);have n:=hideS ((Below.refl w.heap.size w).alloc (Nat.le_refl _) (.cells #[.slice pl N r,.int .i64 cur,.int .i64 base,.int .i64 kind,u,v,.float .f64 V0] 56));obtain⟨O,m⟩:∃ O,w.alloc (.cells #[.slice pl N r,.int .i64 cur,.int .i64 base,.int .i64 kind,u,v,.float .f64 V0] 56)=O:=⟨_,rfl⟩;rw [m] at x n
 obtain⟨R,M,t2,X,Z,t5,t6⟩:=x.out.t;unfold BmC at F
 clear Q S L U
 go_enter Tryz.func32,Tryz.ntmps32
 go_wp2_with fail
 clear m R M t2 X Z t5 t6;refine (F.out _ n.out).mono ?_
 intro e h c;obtain⟨g,o,f,j,he,I⟩:=c.ok rfl;subst he;have J:=hideS (n.out.trans (c.bl.mono n.out.size));have HK:=hideS (x.out.step c.bl);clear c F x n;obtain⟨u1,u2,u3,C,⟨e0,Y,y0⟩,⟨e1,z1,y1⟩,⟨e2,z2,y2⟩,⟨e3,z3,y3⟩,K,P⟩:=bB h.heap.size d.base d.kind (.slice (some ⟨g,0,none⟩) d.ds.length o) (.slice (some ⟨f,0,none⟩) d.fs.length j) (h.alloc au) (heap_alloc_new _ _);have a:Below h.heap.size h C:=((Below.refl _ h).alloc (Nat.le_refl _) au).trans P;have b:Hid (Below w.heap.size w C):=J.out.trans (a.mono J.out.size);have A:=hideS (I.below a);have D:=hideS (HK.out.step a);have k:=hideS (p.out C _ g o f j b.out A.out);obtain⟨W,q⟩:∃ W,h.alloc au=W:=⟨_,rfl⟩;rw [q] at e0 Y y0
 unfold au at q
 obtain⟨s0,s1,s2,s3⟩:=K.t;obtain⟨R,M,_,_,_,_,_⟩:=D.out.t;clear K P a I p HK;generalize d.ds.length=n1 at *
 generalize d.fs.length=n2 at *
 generalize d.base=db at *
 generalize d.kind=dk at *
 go_wp2_with fail
 refine k.out.mono ?_
 rintro e w5 ⟨rfl,i⟩;have G:=hideS (b.out.trans (i.mono b.out.size));clear i k
 go_wp2_with fail
 go_ret2
 exact⟨rfl,G.out⟩
theorem nY (i v0 a c:Value) (E cur base kind:Int) (V0 V:Nat) (w:World) (m:E≠0)
  (l:Hid (∀ f,Below w.heap.size w f->Calls Tryz.prog 32 #[.agg #[v0,.int .i64 cur,.int .i64 base,.int .i64 kind,a,c,.float .f64 V0],i] f fun e h=>e=.returned (.tuple #[.float .f64 V,.int .i64 E])/\Below f.heap.size f h)) :
  Calls Tryz.prog 29 #[.agg #[v0,.int .i64 cur,.int .i64 base,.int .i64 kind,a,c,.float .f64 V0],i] w fun e h=>e=.returned (.tuple #[.float .f64 0,.int .i64 E])/\Below w.heap.size w h:=by
 have x:(E !=0)=true:=bne_iff_ne.2 m;have k:=hideS (rx w v0 a c cur base kind V0);have g:=hideS ((Below.refl w.heap.size w).alloc (Nat.le_refl _) (.cells #[v0,.int .i64 cur,.int .i64 base,.int .i64 kind,a,c,.float .f64 V0] 56));obtain⟨j,b⟩:∃ j,w.alloc (.cells #[v0,.int .i64 cur,.int .i64 base,.int .i64 kind,a,c,.float .f64 V0] 56)=j:=⟨_,rfl⟩;rw [b] at k g
 obtain⟨s,n,v,p,o,r,u⟩:=k.out.t;clear m
 go_enter Tryz.func29,Tryz.ntmps29
 go_wp2_with fail
 clear b s n v p o r u;refine (l.out _ g.out).mono ?_
 rintro e y ⟨rfl,d⟩;have q:=hideS (g.out.trans (d.mono g.out.size));clear d l
 go_wp2_with fail
 go_ret2
 exact⟨rfl,q.out⟩
theorem Ch (k v0 c f:Value) (cur base kind:Int) (V0 V x:Nat) (w:World) (m:floatBits .sub .f64 V V0=some x) (p:x<18446744073709551616)
  (o:Hid (∀ b,Below w.heap.size w b->Calls Tryz.prog 32 #[.agg #[v0,.int .i64 cur,.int .i64 base,.int .i64 kind,c,f,.float .f64 V0],k] b fun e g=>e=.returned (.tuple #[.float .f64 V,.int .i64 0])/\Below b.heap.size b g)) :
  Calls Tryz.prog 29 #[.agg #[v0,.int .i64 cur,.int .i64 base,.int .i64 kind,c,f,.float .f64 V0],k] w fun e g=>e=.returned (.tuple #[.float .f64 (tldV x),.int .i64 (gM x)])/\Below w.heap.size w g:=by
 have j:=hideS fun b=>nX x b (ag p)
 have A:=fun w=>run_float_arith (P:=Tryz.prog) w .sub 27 .f64 _ _ _ m
 have i:=hideS (rx w v0 c f cur base kind V0);have h:=hideS ((Below.refl w.heap.size w).alloc (Nat.le_refl _) (.cells #[v0,.int .i64 cur,.int .i64 base,.int .i64 kind,c,f,.float .f64 V0] 56));obtain⟨l,d⟩:∃ l,w.alloc (.cells #[v0,.int .i64 cur,.int .i64 base,.int .i64 kind,c,f,.float .f64 V0] 56)=l:=⟨_,rfl⟩;rw [d] at i h
 obtain⟨y,q,z,s,r,v,n⟩:=i.out.t;clear m p;generalize tldV x=C at *
 generalize gM x=D at *
 go_enter Tryz.func29,Tryz.ntmps29
 go_wp2_with fail
 clear d y q z s r v n;refine (o.out _ h.out).mono ?_
 rintro e B ⟨rfl,a⟩;have u:=hideS (h.out.trans (a.mono h.out.size));have HK:=hideS (i.out.step a);obtain⟨_,_,_,_,_,_,n⟩:=HK.out.t;clear a o
 go_wp2_with (go_at_call 33;refine (turned (j.out _)).mono ?_;rintro e g ⟨rfl,rfl⟩)
 go_ret2
 exact⟨rfl,u.out⟩
noncomputable def prV (l:List Flw) (cur:Int) (c:Cv):Nat:=(vO l cur c).choose
noncomputable def prE (l:List Flw) (cur:Int) (c:Cv):Int:=(vO l cur c).choose_spec.choose
theorem prR (l:List Flw) (cur:Int) (c:Cv):PreR l cur c (prV l cur c) (prE l cur c):=(vO l cur c).choose_spec.choose_spec
theorem Lc {l:List Flw} {cur:Int} {c:Cv} {V d:Nat} {E b:Int} (h:PreR l cur c V E) (a:PreR l cur c d b):V=d/\E=b:=by
 cases h with
 | bad E h e=>cases a with
  | bad b a f=>exact⟨rfl,bN h a⟩
  | ok a=>exact absurd ((jU h).2 a) e
 | ok h=>exact⟨(mX a h).1.symm,(mX a h).2.symm⟩
theorem QG {l:List Flw} {cur:Int} {c:Cv} {V:Nat} {E:Int} (h:PreR l cur c V E):prV l cur c=V/\prE l cur c=E:=Lc (prR l cur c) h
theorem gh {l:List Flw} {cur:Int} {c:Cv} (h:prE l cur c=0):FineP l cur c/\prV l cur c=valF (wsI cur c l)/\aM (prV l cur c:Nat)=true/\prV l cur c<18446744073709551616:=by
 have e:=prR l cur c;rw [h] at e
 obtain⟨a,b,d⟩:=FK e;exact⟨a,b,d,by rw [b];exact vN _⟩
noncomputable def chO (l:List Flw) (cur:Int) (d:Cv) (V0:Nat):Nat:=(floatBits .sub .f64 (prV l cur d) V0).getD 0
noncomputable def chV (l:List Flw) (cur:Int) (d:Cv) (V0:Nat):Nat:=if prE l cur d=0 then tldV (chO l cur d V0) else 0
noncomputable def chE (l:List Flw) (cur:Int) (d:Cv) (V0:Nat):Int:=if prE l cur d=0 then gM (chO l cur d V0) else prE l cur d
theorem Ci {l:List Flw} {cur:Int} {d:Cv} {V0:Nat} (h:prE l cur d=0) (a:aM (V0:Int)=true):floatBits .sub .f64 (prV l cur d) V0=some (chO l cur d V0)/\RkW (chO l cur d V0) (gI (vI (prV l cur d) - vI V0) (-1074)):=by
 obtain⟨r,e,k⟩:=pW (cC (gh h).2.2.1) (cC a);unfold chO;rw [e];exact⟨rfl,k⟩
noncomputable def rD (l:List Flw) (cur:Int) (d:Cv) (V0:Nat) (E:Int):Nat:=if E=0 then chV l cur d V0 else 0
noncomputable def rE (l:List Flw) (cur:Int) (d:Cv) (V0:Nat) (E:Int):Int:=if E=0 then chE l cur d V0 else E
noncomputable def PQ (l:List Flw) (cur:Int) (d:Cv) (E:Int):Nat:=if E=0 then prV l cur d else 0
noncomputable def PR (l:List Flw) (cur:Int) (d:Cv) (E:Int):Int:=if E=0 then prE l cur d else E
theorem BmC.later {b:Nat} {a:Array Value} {base kind E:Int} {f e:Value} {w c:World} {d:Cv} (h:BmC b a base kind f e w d E) (g:Below w.heap.size w c):BmC b a base kind f e c d E:=fun i j=>h i (g.trans (j.mono g.size))
theorem zP (b:Nat) (a:Array Value) (l:List Flw) (d:Cv) (E cur base kind:Int) (pl:Option Addr) (bl m j N:Nat) (f h:Value) (V0:Nat) (w:World) (c:∀ args w,(callFunc b args).run Tryz.prog w=.ok (.enter b args) w) (k:BmC b a base kind f h w d E) (q:JSrc aF w pl bl m l) (p:l.length=N) (i:N<=30000) (n:eu l) :
  Calls Tryz.prog 32 #[.agg #[.slice pl N j,.int .i64 cur,.int .i64 base,.int .i64 kind,f,h,.float .f64 V0],.func (.func b) #[] a] w fun e o=>e=.returned (.tuple #[.float .f64 (PQ l cur d E),.int .i64 (PR l cur d E)])/\Below w.heap.size w o:=by
 unfold PQ PR
 by_cases g:E=0
 ·subst g;rw [if_pos rfl,if_pos rfl];exact Cg b a l d (prE l cur d) cur base kind pl bl m j N f h V0 (prV l cur d) w c k (prR l cur d) q p i n
 ·rw [if_neg g,if_neg g];exact zO b a d E cur base kind _ f h V0 w g c k
theorem nZ (h:Nat) (a:Array Value) (l:List Flw) (d:Cv) (E cur base kind:Int) (pl:Option Addr) (bl p n N:Nat) (f g:Value) (V0:Nat) (w:World) (q:aM (V0:Int)=true) (k:∀ args w,(callFunc h args).run Tryz.prog w=.ok (.enter h args) w) (x:BmC h a base kind f g w d E) (y:JSrc aF w pl bl p l) (v:l.length=N) (j:N<=30000) (t:eu l) :
  Calls Tryz.prog 29 #[.agg #[.slice pl N n,.int .i64 cur,.int .i64 base,.int .i64 kind,f,g,.float .f64 V0],.func (.func h) #[] a] w fun e u=>e=.returned (.tuple #[.float .f64 (rD l cur d V0 E),.int .i64 (rE l cur d V0 E)])/\Below w.heap.size w u:=by
 have c:=fun m (o:Below w.heap.size w m)=>zP h a l d E cur base kind pl bl p n N f g V0 m k (x.later o) (y.below o) v j t
 unfold rD rE;unfold PQ PR at c
 by_cases i:E=0
 ·subst i;rw [if_pos rfl,if_pos rfl];simp only [if_true] at c
  unfold chV chE
  by_cases b:prE l cur d=0
  ·rw [if_pos b,if_pos b];rw [b] at c
   obtain⟨s,r⟩:=Ci b q;exact Ch _ _ f g cur base kind V0 _ _ w s r.2.1 c
  ·rw [if_neg b,if_neg b];exact nY _ _ f g _ cur base kind V0 _ w b c
 ·rw [if_neg i,if_neg i];simp only [i,if_false] at c
  exact nY _ _ f g _ cur base kind V0 _ w i c
def LsO (w:World) (n:Nat) (X:Nat->Nat) (a:Nat->Int) (e:Ending) (b:World):Prop:=
 (∃ k<n,a k≠0/\(∀ j<k,a j=0)/\e=.returned (.tuple #[.slice none 0 0,.int .i64 (a k)]))\/
 ((∀ k<n,a k=0)/\∃ g,e=.returned (.tuple #[.slice (some ⟨g,0,none⟩) n n,.int .i64 0])/\b.ownsRow w.heap.size 27 1 (.slice (some ⟨g,0,none⟩) n n) n (((List.range n).map X).map fV))
theorem Ld (X:Nat->Nat) {n k:Nat} (h:k<n):((List.range n).map X).getD k 0=X k:=by
 rw [List.getD_eq_getElem?_getD,List.getElem?_map,List.getElem?_range h];rfl
theorem Gi (N:Nat) (e:N<=1000):∃ z,∀ w:World,(Instr.makeSlice 24 (.int .i64 (N:Int)) (.int .i64 (N:Int))).run Tryz.prog w=.ok (.slice (some ⟨w.heap.size,0,none⟩) N N) (w.alloc (.cells (madeCells z N) 27)):=by
 obtain⟨d,hi,b,a,c⟩:=info_parts jo;refine⟨(Value.float .f64 0).cells,fun w=>?_⟩
 have:=run_make (P:=Tryz.prog) w 24 27 d _ Tryz.underlying24 hi b .i64 .i64 (N:Int) (N:Int) (by omega) (by omega) (by rw [c];omega) (by omega)
 rw [a,Nat.mul_one,Int.toNat_natCast] at this
 exact this
def BoC (j:Nat) (b:Array Value) (n:Nat) (X:Nat->Nat) (i:Nat->Int) (pos:Array Value) (w:World):Prop:=
 ∀ k<n,∀ c,Below w.heap.size w c->Calls Tryz.prog j (#[.int .i64 (k:Nat)]++b) c fun e f=>(∃ h a,e=.returned (.func (.func h) #[] a)/\∀ d,Below f.heap.size f d->Calls Tryz.prog 29 #[.agg pos,.func (.func h) #[] a] d fun e g=>e=.returned (.tuple #[.float .f64 (X k),.int .i64 (i k)])/\Below d.heap.size d g)/\Below c.heap.size c f
theorem vV (H:Nat) (m:Array Value) (n:Nat) (X:Nat->Nat) (y:Nat->Int) (v0 h l:Value) (cur base kind:Int) (V0:Nat) (w:World) (hn:n<=255) (ab:∀ args w,(callFunc H args).run Tryz.prog w=.ok (.enter H args) w) (S:Hid (BoC H m n X y #[v0,.int .i64 cur,.int .i64 base,.int .i64 kind,h,l,.float .f64 V0] w)) :
  Calls Tryz.prog 21 #[.agg #[v0,.int .i64 cur,.int .i64 base,.int .i64 kind,h,l,.float .f64 V0],.int .i64 (n:Nat),.func (.func H) #[] m] w fun e T=>LsO w n X y e T/\Below w.heap.size w T:=by
 obtain⟨z,P⟩:=Gi n (by omega)
 have M:=hideS (rx w v0 h l cur base kind V0);have J:=hideS ((Below.refl w.heap.size w).alloc (Nat.le_refl _) (.cells #[v0,.int .i64 cur,.int .i64 base,.int .i64 kind,h,l,.float .f64 V0] 56));obtain⟨f,s⟩:∃ f,w.alloc (.cells #[v0,.int .i64 cur,.int .i64 base,.int .i64 kind,h,l,.float .f64 V0] 56)=f:=⟨_,rfl⟩;have N:f.heap.size=w.heap.size+1:=by rw [<- s];simp
 rw [s] at M J
 have b:Hid (PsB (f.alloc (.cells (madeCells z n) 27)) w.heap.size v0 cur base kind h l V0/\RowF (f.alloc (.cells (madeCells z n) 27)) f.heap.size n (((List.range n).map X).take 0)/\Below w.heap.size w (f.alloc (.cells (madeCells z n) 27))):=⟨M.out.step ((Below.refl _ _).alloc (Nat.le_refl _) _),Fk f n z,J.out.alloc J.out.size _⟩;have o:Hid (w.heap.size+1<=f.heap.size):=by show _<=_;omega
 clear N
 go_enter Tryz.func21,Tryz.ntmps21
 go_wp2_with fail
 clear s M J P;generalize f.heap.size=g at *
 go_loopw [9,10,11,15] (fun _ _ _ i wr=>∃ k:Nat,k<=n/\i=.int .i64 k/\Hid (∀ j<k,y j=0)/\Hid (PsB wr w.heap.size v0 cur base kind h l V0/\RowF wr g n (((List.range n).map X).take k)/\Below w.heap.size w wr)) (fun _ _ _ i _=>n - (intOf i).toNat)
 case atStart=>exact⟨0,Nat.zero_le _,rfl,fun j R=>by omega,b⟩
 case round=>
  clear b;obtain⟨k,hk,rfl,Q,b⟩:=hrel
  by_cases a:k<n
  ·have L:=hideS (Ld X a);have C:=hideS (S.out k a);unfold BoC at S
   obtain⟨t0,U,t2,Z,Y,t5,t6⟩:=b.out.1.t
   go_wp2_with fail
   go_region_held3 (fun x=>x.cell? ⟨w.heap.size,0,none⟩=some v0/\x.cell? ⟨w.heap.size,1,none⟩=some (.int .i64 cur)/\x.cell? ⟨w.heap.size,2,none⟩=some (.int .i64 base)/\x.cell? ⟨w.heap.size,3,none⟩=some (.int .i64 kind)/\x.cell? ⟨w.heap.size,4,none⟩=some h/\x.cell? ⟨w.heap.size,5,none⟩=some l/\x.cell? ⟨w.heap.size,6,none⟩=some (.float .f64 V0)) (first | go_keep | exact D.out.t | exact HK2.out.t) (first | (go_at_call 29;refine (F.out _ (Below.refl _ _)).mono ?_;rintro e I ⟨rfl,E⟩;have q:=hideS (v.out.trans (E.mono v.out.size));have D:=hideS (b.out.1.step q.out);clear E) | (refine (C.out _ b.out.2.2.drew).mono ?_;rintro e w2 ⟨⟨fN,V,rfl,G⟩,c⟩;have v:Hid (Below wr.heap.size wr w2):=⟨c.os,c.tape,c.output,c.size,c.block⟩;have HK2:=hideS (b.out.1.step v.out);have F:=hideS G;clear c G))
   all_goals
    clear t0 U t2 Z Y t5 t6 C F HK2;have r:=hideS (b.out.2.1.stay q.out b.out.2.1.lt);have B:=hideS (b.out.2.2.trans (q.out.mono b.out.2.2.size))
    by_cases A:y k=0
    ·have HS:Hid (PsB (I.setCell ⟨g,k,none⟩ (.float .f64 (X k))) w.heap.size v0 cur base kind h l V0/\RowF (I.setCell ⟨g,k,none⟩ (.float .f64 (X k))) g n (((List.range n).map X).take (k+1))/\Below w.heap.size w (I.setCell ⟨g,k,none⟩ (.float .f64 (X k)))):=by
      have hb:=(Below.refl g I).setCell (p:=⟨g,k,none⟩) (Nat.le_refl _) (.float .f64 (X k));exact⟨D.out.stay hb (by have:=o.out;omega),JA (X k) r.out a (by simp;exact a) L.out,B.out.setCell (p:=⟨g,k,none⟩) (by show w.heap.size<=g;have:=o.out;omega) _⟩
     have K:Hid (∀ j<k+1,y j=0):=fun j R=>by
      rcases Nat.lt_or_eq_of_le (Nat.le_of_lt_succ R) with d | d
      ·exact Q.out j d
      ·rw [d];exact A
     obtain⟨u,hu⟩:=r.out.cell a;have hz:=r.out.frozen k;have W:=cg;rw [A];clear A
     go_wp2_with fail
     go_roundw
     case rel=>exact⟨k+1,by omega,by simp,K,HS⟩
     case measure=>simp [intOf];omega
    ·have dE:(y k !=0)=true:=bne_iff_ne.2 A;have O:=hideS A;clear A
     go_wp2_with fail
     go_ret2
     exact⟨Or.inl ⟨k,a,O.out,Q.out,rfl⟩,B.out⟩
  ·obtain rfl:k=n:=by omega
   go_wp2_with fail
   go_ret2
   refine⟨Or.inr ⟨Q.out,g,rfl,?_⟩,b.out.2.2⟩
   have:=b.out.2.1.own (base:=w.heap.size) (by rw [List.length_take,List.length_map,List.length_range];omega) (by have:=o.out;omega) (by omega)
   rw [List.take_of_length_le (by simp)] at this
   exact this
theorem Cj (args:Array Value) (w:World):(callFunc 22 args).run Tryz.prog w=.ok (.enter 22 args) w:=lV Tryz.func22 (by kernel_rfl) rfl args w
theorem zQ (args:Array Value) (w:World):(callFunc 23 args).run Tryz.prog w=.ok (.enter 23 args) w:=lV Tryz.func23 (by kernel_rfl) rfl args w
theorem Ck (args:Array Value) (w:World):(callFunc 46 args).run Tryz.prog w=.ok (.enter 46 args) w:=lV Tryz.func46 (by kernel_rfl) rfl args w
theorem Gj (k a:Nat) (w:World) :
  Calls Tryz.prog 22 #[.int .i64 (k:Nat),.pointer (some ⟨a,0,none⟩)] w fun e b=>e=.returned (.func (.func 23) #[] #[.pointer (some ⟨w.heap.size,0,none⟩),.pointer (some ⟨a,0,none⟩)])/\b=w.alloc (.cells #[.int .i64 (k:Nat)] 3):=by
 have c:=lW
 go_enter Tryz.func22,Tryz.ntmps22
 go_wp2_with fail
 go_ret
 exact⟨rfl,rfl⟩
theorem Cl (h:Nat) (w:World) :
  Calls Tryz.prog 30 #[.float .f64 h] w fun e a=>e=.returned (.func (.func 46) #[] #[.pointer (some ⟨w.heap.size,0,none⟩)])/\a=w.alloc (.cells #[.float .f64 h] 27):=by
 have b:=lW
 go_enter Tryz.func30,Tryz.ntmps30
 go_wp2_with fail
 go_ret
 exact⟨rfl,rfl⟩
theorem zR {g u1 u2 u3 c:World} {B b:Nat} {d:Cv} {f cx e cy:Nat} {n m k p:Value} (h:OwnC g B d f cx e cy) (a:b<B) (o:g.setCell ⟨b,0,none⟩ n=u1) (l:u1.setCell ⟨b,1,none⟩ m=u2) (i:u2.setCell ⟨b,2,none⟩ k=u3) (j:u3.setCell ⟨b,3,none⟩ p=c):OwnC c B d f cx e cy:=by
 rw [<- j,<- i,<- l,<- o];exact (((h.put a _).put a _).put a _).put a _
theorem Cm (c d:Cv) (k h o y:Nat) (E:Int) (s B:Value) (w:World) (hi:w.cell? ⟨o,0,none⟩=some (.int .i64 (k:Nat))) (i:o<w.heap.size) (S:w.cell? ⟨y,0,none⟩=some (.float .f64 h)) (m:y<w.heap.size)
  (K:Hid (∀ G,Below w.heap.size w G->Calls Tryz.prog 18 #[.agg #[.int .i64 c.base,.int .i64 c.kind,s,B],.int .i64 (k:Nat),.float .f64 h] G fun e J=>CvO G d E e J)) :
  Calls Tryz.prog 23 #[.agg #[.int .i64 c.base,.int .i64 c.kind,s,B],.pointer (some ⟨o,0,none⟩),.pointer (some ⟨y,0,none⟩)] w fun e J=>CvO w d E e J:=by
 have a:=hideS (iN w c.base c.kind s B);generalize c.base=base at *
 generalize c.kind=kind at *
 obtain⟨Q,g⟩:∃ Q,(w.alloc (.cells #[.int .i64 base,.int .i64 kind,s,B] 26)).alloc au=Q:=⟨_,rfl⟩;rw [g] at a
 unfold au at g
 obtain⟨t0,X,t2,t3⟩:=a.out.k.t;have H:=(a.out.bl.cell (p:=⟨o,0,none⟩) i).trans hi;have L:=(a.out.bl.cell (p:=⟨y,0,none⟩) m).trans S;clear hi S i m
 go_enter Tryz.func23,Tryz.ntmps23
 go_wp2_with fail
 clear g H L t0 X t2 t3;refine (K.out _ a.out.bl).mono ?_
 intro e W n;have b:=hideS (a.out.step n.bl);have V:=hideS a.out.sz
 by_cases A:E=0
 ·subst A;obtain⟨x,q,r,u,rfl,O⟩:=n.ok rfl;obtain⟨u1,u2,u3,N,⟨U,z0,y0⟩,⟨T,z1,y1⟩,⟨P,z2,y2⟩,⟨R,z3,Y⟩,l,j⟩:=bB (w.heap.size+1) d.base d.kind (.slice (some ⟨x,0,none⟩) d.ds.length q) (.slice (some ⟨r,0,none⟩) d.fs.length u) W b.out.z;have HO:=hideS (zR O (by have:=V.out;omega) U T P R)
  have f:=hideS (b.out.bl.trans (j.mono (by omega)))
  obtain⟨C,I,M,D⟩:=l.t;have F:Hid (∀ v,v=Value.tuple #[.agg #[.int .i64 d.base,.int .i64 d.kind,.slice (some ⟨x,0,none⟩) d.ds.length q,.slice (some ⟨r,0,none⟩) d.fs.length u],.int .i64 0]->CvO w d 0 (.returned v) N):=fun v hv=>by
   subst hv;exact⟨fun h=>absurd rfl h,fun _=>⟨x,q,r,u,rfl,HO.out.mono (by have:=V.out;omega)⟩,f.out⟩
  clear O l j n a K;generalize d.ds.length=Z at *
  generalize d.fs.length=n2 at *
  generalize d.base=db at *
  generalize d.kind=dk at *
  go_wp2_with fail
  refine bodyPost_ret (v:=.tuple #[.agg #[.int .i64 db,.int .i64 dk,.slice (some ⟨x,0,none⟩) Z q,.slice (some ⟨r,0,none⟩) n2 u],.int .i64 0]) (by simp [results,Tryz.results23,go_sem,C,I,M,D]) rfl ?_
  exact F.out _ rfl
 ·have he:=n.bad A;subst he;obtain⟨u1,u2,u3,N,⟨U,z0,y0⟩,⟨T,z1,y1⟩,⟨P,z2,y2⟩,⟨R,z3,Y⟩,l,j⟩:=bB (w.heap.size+1) 0 0 (.slice none 0 0) (.slice none 0 0) W b.out.z;have f:=hideS (b.out.bl.trans (j.mono (by omega)))
  obtain⟨C,I,M,D⟩:=l.t;have F:=hideS A;clear l j n A a K
  go_wp2_with fail
  refine bodyPost_ret (v:=.tuple #[.agg #[.int .i64 0,.int .i64 0,.slice none 0 0,.slice none 0 0],.int .i64 E]) (by simp [results,Tryz.results23,go_sem,C,I,M,D]) rfl ?_
  exact⟨fun _=>rfl,fun h=>absurd h F.out,f.out⟩
theorem Gk (c d:Cv) (h u:Nat) (E:Int) (q y:Value) (w:World) (P:w.cell? ⟨u,0,none⟩=some (.float .f64 h)) (l:u<w.heap.size)
  (H:Hid (∀ D,Below w.heap.size w D->Calls Tryz.prog 19 #[.agg #[.int .i64 c.base,.int .i64 c.kind,q,y],.float .f64 h] D fun e G=>CvO D d E e G)) :
  Calls Tryz.prog 46 #[.agg #[.int .i64 c.base,.int .i64 c.kind,q,y],.pointer (some ⟨u,0,none⟩)] w fun e G=>CvO w d E e G:=by
 have b:=hideS (iN w c.base c.kind q y);generalize c.base=base at *
 generalize c.kind=kind at *
 obtain⟨N,g⟩:∃ N,(w.alloc (.cells #[.int .i64 base,.int .i64 kind,q,y] 26)).alloc au=N:=⟨_,rfl⟩;rw [g] at b
 unfold au at g
 obtain⟨t0,U,t2,t3⟩:=b.out.k.t;have I:=(b.out.bl.cell (p:=⟨u,0,none⟩) l).trans P;clear P l
 go_enter Tryz.func46,Tryz.ntmps46
 go_wp2_with fail
 clear g I t0 U t2 t3;refine (H.out _ b.out.bl).mono ?_
 intro e T m;have a:=hideS (b.out.step m.bl);have S:=hideS b.out.sz
 by_cases x:E=0
 ·subst x;obtain⟨s,n,o,r,rfl,L⟩:=m.ok rfl;obtain⟨X,u2,u3,K,⟨R,z0,y0⟩,⟨Q,Y,y1⟩,⟨M,Z,y2⟩,⟨O,z3,V⟩,j,i⟩:=bB (w.heap.size+1) d.base d.kind (.slice (some ⟨s,0,none⟩) d.ds.length n) (.slice (some ⟨o,0,none⟩) d.fs.length r) T a.out.z;have HO:=hideS (zR L (by have:=S.out;omega) R Q M O)
  have f:=hideS (a.out.bl.trans (i.mono (by omega)))
  obtain⟨A,F,J,B⟩:=j.t;have C:Hid (∀ v,v=Value.tuple #[.agg #[.int .i64 d.base,.int .i64 d.kind,.slice (some ⟨s,0,none⟩) d.ds.length n,.slice (some ⟨o,0,none⟩) d.fs.length r],.int .i64 0]->CvO w d 0 (.returned v) K):=fun v hv=>by
   subst hv;exact⟨fun h=>absurd rfl h,fun _=>⟨s,n,o,r,rfl,HO.out.mono (by have:=S.out;omega)⟩,f.out⟩
  clear L j i m b H;generalize d.ds.length=W at *
  generalize d.fs.length=n2 at *
  generalize d.base=db at *
  generalize d.kind=dk at *
  go_wp2_with fail
  refine bodyPost_ret (v:=.tuple #[.agg #[.int .i64 db,.int .i64 dk,.slice (some ⟨s,0,none⟩) W n,.slice (some ⟨o,0,none⟩) n2 r],.int .i64 0]) (by simp [results,Tryz.results46,go_sem,A,F,J,B]) rfl ?_
  exact C.out _ rfl
 ·have he:=m.bad x;subst he;obtain⟨X,u2,u3,K,⟨R,z0,y0⟩,⟨Q,Y,y1⟩,⟨M,Z,y2⟩,⟨O,z3,V⟩,j,i⟩:=bB (w.heap.size+1) 0 0 (.slice none 0 0) (.slice none 0 0) T a.out.z;have f:=hideS (a.out.bl.trans (i.mono (by omega)))
  obtain⟨A,F,J,B⟩:=j.t;have C:=hideS x;clear j i m x b H
  go_wp2_with fail
  refine bodyPost_ret (v:=.tuple #[.agg #[.int .i64 0,.int .i64 0,.slice none 0 0,.slice none 0 0],.int .i64 E]) (by simp [results,Tryz.results46,go_sem,A,F,J,B]) rfl ?_
  exact⟨fun _=>rfl,fun h=>absurd h C.out,f.out⟩
noncomputable def lnV (l:List Flw) (cur:Int) (c:Cv) (h k:Nat):Nat:=rD l cur (c.bump k h) (prV l cur c) (bmE c k h)
noncomputable def lnE (l:List Flw) (cur:Int) (c:Cv) (h k:Nat):Int:=rE l cur (c.bump k h) (prV l cur c) (bmE c k h)
theorem zS {c:Cv} {k h:Nat} (b:c.Ok) (f:k<c.ds.length):∃ d,BmpR c (k:Nat) h d (bmE c k h)/\(bmE c k h=0->d=c.bump k h):=by
 rcases bmE_cases c k h with⟨a,e⟩| ⟨a,e⟩
 ·rw [e];exact⟨_,.ok b k f rfl a,fun _=>rfl⟩
 ·rw [e];exact⟨_,.val b k f rfl a,fun h=>absurd h (by decide)⟩
theorem Le {l:List Flw} {cur:Int} {d d':Cv} {V0:Nat} {E:Int} (h:E=0->d=d'):rD l cur d V0 E=rD l cur d' V0 E/\rE l cur d V0 E=rE l cur d' V0 E:=by
 unfold rD rE
 by_cases e:E=0
 ·rw [h e];exact⟨rfl,rfl⟩
 ·rw [if_neg e,if_neg e,if_neg e,if_neg e];exact⟨rfl,rfl⟩
theorem NK (l:List Flw) (cur:Int) (c:Cv) (h g:Nat) (pl:Option Addr) (bl D A N:Nat) (n m:Option Addr) (bd y r B z s:Nat) (w:World) (R:c.Ok) (E:prE l cur c=0) (M:h<18446744073709551616) (hc:w.cell? ⟨g,0,none⟩=some (.float .f64 h)) (o:g<w.heap.size) (U:JSrc aF w pl bl D l) (S:l.length=N) (t:N<=30000) (O:eu l) (P:TFl w n m bd y B z c.ds c.fs) :
  BoC 22 #[.pointer (some ⟨g,0,none⟩)] c.ds.length (lnV l cur c h) (lnE l cur c h) #[.slice pl N A,.int .i64 cur,.int .i64 c.base,.int .i64 c.kind,.slice n c.ds.length r,.slice m c.fs.length s,.float .f64 (prV l cur c)] w:=fun k F a i=>by
 refine (Gj k g a).mono ?_
 rintro e V ⟨rfl,rfl⟩;have u:Below a.heap.size a (a.alloc (.cells #[.int .i64 (k:Nat)] 3)):=(Below.refl _ _).alloc (Nat.le_refl _) _;refine⟨⟨_,_,rfl,fun x v=>?_⟩,u⟩
 obtain⟨d,G,T⟩:=zS (h:=h) R F;have f:Below w.heap.size w x:=(i.trans (u.mono i.size)).trans (v.mono (Nat.le_trans i.size u.size));have hi:(a.alloc (.cells #[.int .i64 (k:Nat)] 3)).cell? ⟨a.heap.size,0,none⟩=some (.int .i64 (k:Nat)):=cP a _ _ 0;have j:a.heap.size<(a.alloc (.cells #[.int .i64 (k:Nat)] 3)).heap.size:=by simp
 have J:BmC 23 #[.pointer (some ⟨a.heap.size,0,none⟩),.pointer (some ⟨g,0,none⟩)] c.base c.kind (.slice n c.ds.length r) (.slice m c.fs.length s) x d (bmE c k h):=fun L C=>by
  have b:=f.trans (C.mono f.size);have q:=v.trans (C.mono v.size);exact Cm c d k h a.heap.size g (bmE c k h) _ _ L ((q.cell (p:=⟨a.heap.size,0,none⟩) j).trans hi) (Nat.lt_of_lt_of_le j q.size) ((b.cell (p:=⟨g,0,none⟩) o).trans hc) (Nat.lt_of_lt_of_le o b.size) (fun I H=>tV c d k h (bmE c k h) n m bd y r B z s I G M (P.below (b.trans (H.mono b.size))))
 have:=nZ 23 _ l d (bmE c k h) cur c.base c.kind pl bl D A N (.slice n c.ds.length r) (.slice m c.fs.length s) (prV l cur c) x (gh E).2.2.1 zQ J (U.below f) S t O;obtain⟨Q,K⟩:=Le (l:=l) (cur:=cur) (V0:=prV l cur c) T;rw [Q,K] at this
 exact this
structure LaB (w:World) (base kind:Int) (vd vf:Value) (h:Nat) (wr:World):Prop where
 k:BxK wr w.heap.size base kind vd vf
 c:wr.cell? ⟨w.heap.size+1,0,none⟩=some (.float .f64 h)
 lt:w.heap.size+1<wr.heap.size
 bl:Below w.heap.size w wr
theorem LaB.step {w wr b:World} {base kind:Int} {e d:Value} {h:Nat} (H:LaB w base kind e d h wr) (a:Below wr.heap.size wr b):LaB w base kind e d h b:=
 ⟨H.k.step a,(a.cell (p:=⟨w.heap.size+1,0,none⟩) H.lt).trans H.c,Nat.lt_of_lt_of_le H.lt a.size,H.bl.trans (a.mono H.bl.size)⟩
theorem Lf (w:World) (base kind:Int) (b a:Value) (h:Nat):LaB w base kind b a h ((w.alloc (.cells #[.int .i64 base,.int .i64 kind,b,a] 26)).alloc (.cells #[.float .f64 h] 27)):=by
 have c:(w.alloc (.cells #[.int .i64 base,.int .i64 kind,b,a] 26)).heap.size=w.heap.size+1:=by simp
 refine⟨(qU w base kind b a).step ((Below.refl _ _).alloc (Nat.le_refl _) _),?_,by simp,((Below.refl _ _).alloc (Nat.le_refl _) _).alloc (by rw [c];omega) _⟩
 rw [<- c];exact cP _ _ _ 0
theorem zT (cur base kind E:Int) (h:Nat) (s g j:Value) (w:World) (u:E≠0) (o:Hid (∀ i,Below w.heap.size w i->Calls Tryz.prog 20 #[s,.int .i64 cur,.agg #[.int .i64 base,.int .i64 kind,g,j]] i fun e m=>e=.returned (.tuple #[.agg #[.slice none 0 0,.int .i64 0,.int .i64 0,.int .i64 0,.slice none 0 0,.slice none 0 0,.float .f64 0],.int .i64 E])/\Below i.heap.size i m)) :
  Calls Tryz.prog 7 #[s,.int .i64 cur,.agg #[.int .i64 base,.int .i64 kind,g,j],.float .f64 h] w fun e m=>e=.returned (.tuple #[.slice none 0 0,.int .i64 E])/\Below w.heap.size w m:=by
 have J:(E !=0)=true:=bne_iff_ne.2 u;have b:=hideS (Lf w base kind g j h);obtain⟨r,d⟩:∃ r,(w.alloc (.cells #[.int .i64 base,.int .i64 kind,g,j] 26)).alloc (.cells #[.float .f64 h] 27)=r:=⟨_,rfl⟩;rw [d] at b
 obtain⟨A,v,D,y⟩:=b.out.k.t;clear u
 go_enter Tryz.func7,Tryz.ntmps7
 go_wp2_with fail
 clear d A v D y;refine (o.out _ b.out.bl).mono ?_
 rintro e n ⟨rfl,f⟩;have a:=hideS (b.out.step f);clear f o b;obtain⟨P,u2,u3,Q,R,U,B,⟨C,F,G⟩,⟨e1,O,Z⟩,⟨W,S,y2⟩,⟨X,V,K⟩,⟨M,H,L⟩,⟨N,Y,I⟩,⟨T,z6,y6⟩,z,p⟩:=jY n.heap.size (.slice none 0 0) 0 0 0 (.slice none 0 0) (.slice none 0 0) 0 (n.alloc bC) (heap_alloc_new _ _);have l:Hid (Below w.heap.size w B):=(a.out.bl.alloc a.out.bl.size bC).trans (p.mono a.out.bl.size);obtain⟨q,c⟩:∃ q,n.alloc bC=q:=⟨_,rfl⟩;rw [c] at C F G
 unfold bC at c
 have x:=cg;clear z p
 go_wp2_with fail
 go_ret2
 exact⟨rfl,l.out⟩
theorem Cn (cur base kind:Int) (h n V0:Nat) (X:Nat->Nat) (q:Nat->Int) (pl:Option Addr) (p N:Nat) (i j:Option Addr) (d f m:Nat) (w:World) (hn:n<=255)
  (H:Hid (∀ b,Below w.heap.size w b->Calls Tryz.prog 20 #[.slice pl N p,.int .i64 cur,.agg #[.int .i64 base,.int .i64 kind,.slice i n d,.slice j m f]] b fun e C=>e=.returned (.tuple #[.agg #[.slice pl N p,.int .i64 cur,.int .i64 base,.int .i64 kind,.slice i n d,.slice j m f,.float .f64 V0],.int .i64 0])/\Below b.heap.size b C))
  (Q:Hid (∀ b E,Below w.heap.size w b->b.cell? ⟨E,0,none⟩=some (.float .f64 h)->E<b.heap.size->BoC 22 #[.pointer (some ⟨E,0,none⟩)] n X q #[.slice pl N p,.int .i64 cur,.int .i64 base,.int .i64 kind,.slice i n d,.slice j m f,.float .f64 V0] b)) :
  Calls Tryz.prog 7 #[.slice pl N p,.int .i64 cur,.agg #[.int .i64 base,.int .i64 kind,.slice i n d,.slice j m f],.float .f64 h] w fun e C=>LsO w n X q e C/\Below w.heap.size w C:=by
 have u:=hideS (Lf w base kind (.slice i n d) (.slice j m f) h);obtain⟨S,A⟩:∃ S,(w.alloc (.cells #[.int .i64 base,.int .i64 kind,.slice i n d,.slice j m f] 26)).alloc (.cells #[.float .f64 h] 27)=S:=⟨_,rfl⟩;rw [A] at u
 obtain⟨M,K,T,I⟩:=u.out.k.t
 go_enter Tryz.func7,Tryz.ntmps7
 go_wp2_with fail
 clear A M K T I;refine (H.out _ u.out.bl).mono ?_
 rintro e r ⟨rfl,y⟩;have F:=hideS (u.out.step y);clear y H u;obtain⟨u1,u2,u3,u4,u5,u6,D,⟨Y,V,y0⟩,⟨e1,z1,y1⟩,⟨e2,z2,y2⟩,⟨e3,z3,y3⟩,⟨e4,z4,y4⟩,⟨e5,z5,y5⟩,⟨e6,z6,y6⟩,J,L⟩:=jY r.heap.size (.slice pl N p) cur base kind (.slice i n d) (.slice j m f) V0 (r.alloc bC) (heap_alloc_new _ _);have s:Below r.heap.size r D:=((Below.refl _ r).alloc (Nat.le_refl _) bC).trans L;have a:=hideS (F.out.step s);have o:=hideS (vV 22 #[.pointer (some ⟨w.heap.size+1,0,none⟩)] n X q (.slice pl N p) (.slice i n d) (.slice j m f) cur base kind V0 D hn Cj (Q.out D (w.heap.size+1) a.out.bl a.out.c a.out.lt));obtain⟨s0,s1,s2,s3,s4,s5,s6⟩:=J.t;obtain⟨M,K,T,I⟩:=a.out.k.t;obtain⟨R,z⟩:∃ R,r.alloc bC=R:=⟨_,rfl⟩;rw [z] at Y V y0
 unfold bC at z
 have Z:=cg;have W:=lW;clear J L s Q
 go_wp2_with fail
 refine o.out.mono ?_
 rintro e P ⟨B,l⟩;have v:=hideS (a.out.bl.trans (l.mono a.out.bl.size));have HS:=hideS a.out.bl.size;rcases B with⟨k,U,O,x,rfl⟩| ⟨x,g,rfl,B⟩
 ·have G:Hid (LsO w n X q (.returned (.tuple #[.slice none 0 0,.int .i64 (q k)])) P):=Or.inl ⟨k,U,O,x,rfl⟩;clear l o O x
  go_wp2_with fail
  go_ret2
  exact⟨G.out,v.out⟩
 ·have G:Hid (LsO w n X q (.returned (.tuple #[.slice (some ⟨g,0,none⟩) n n,.int .i64 0])) P):=Or.inr ⟨x,g,rfl,bO B HS.out⟩;clear l o x B
  go_wp2_with fail
  go_ret2
  exact⟨G.out,v.out⟩
theorem rF (l:List Flw) (cur:Int) (c:Cv) (h:Nat) (pl:Option Addr) (bl t o N:Nat) (j i:Option Addr) (bd p k r q n:Nat) (w:World) (D:h<18446744073709551616) (z:JSrc aF w pl bl t l) (y:l.length=N) (f:N<=30000) (v:eu l) (x:TFl w j i bd p r q c.ds c.fs) :
  Calls Tryz.prog 7 #[.slice pl N o,.int .i64 cur,.agg #[.int .i64 c.base,.int .i64 c.kind,.slice j c.ds.length k,.slice i c.fs.length n],.float .f64 h] w fun e s=>((prE l cur c≠0/\e=.returned (.tuple #[.slice none 0 0,.int .i64 (prE l cur c)]))\/(prE l cur c=0/\LsO w c.ds.length (lnV l cur c h) (lnE l cur c h) e s))/\Below w.heap.size w s:=by
 by_cases d:prE l cur c=0
 ·have A:=prR l cur c;rw [d] at A
  have C:=(gh d).1.ok;refine (Cn cur c.base c.kind h c.ds.length (prV l cur c) (lnV l cur c h) (lnE l cur c h) pl o N j i k n c.fs.length w C.hi (fun m g=>zN l cur c pl bl t o N j i bd p k r q n m _ A (z.below g) y f v (x.below g)) (fun m g B E u=>NK l cur c h g pl bl t o N j i bd p k r q n m C d D E u (z.below B) y f v (x.below B))).mono ?_
  rintro e s ⟨a,b⟩;exact⟨Or.inr ⟨d,a⟩,b⟩
 ·refine (zT cur c.base c.kind (prE l cur c) h _ _ _ w d (fun m g=>tX l cur c pl bl t o N j i bd p k r q n m _ _ (prR l cur c) d (z.below g) y f v (x.below g))).mono ?_
  rintro e s ⟨a,b⟩;exact⟨Or.inl ⟨d,a⟩,b⟩
theorem zU (a b r:Nat) (w:World) (k:a<18446744073709551616) (l:b<18446744073709551616) (h:floatBits .sub .f64 a b=some r) (i:r<18446744073709551616) :
  Calls Tryz.prog 27 #[.int .u64 (a:Int),.int .u64 (b:Int)] w fun e m=>e=.returned (.tuple #[.int .u64 (tldV r:Nat),.int .i64 (gM r)])/\Below w.heap.size w m:=by
 have j:=hideS fun f=>kF a b _ _ f rfl rfl (ag k) (ag l)
 rw [h,ar] at j
 have g:=hideS fun f=>co (r:Int) f (ag i)
 unfold tldV gM;clear k l h i;generalize aM (r:Int)=n at *
 go_enter Tryz.func27,Tryz.ntmps27
 go_wp2_with fail
 refine (j.out _).mono ?_
 rintro e o ⟨rfl,d⟩;have c:=hideS d;clear d
 go_wp2_with fail
 refine (turned (g.out _)).mono ?_
 rintro e p ⟨rfl,rfl⟩;cases n
 ·go_wp2_with fail
  go_ret2
  exact⟨rfl,c.out⟩
 ·go_wp2_with fail
  go_ret2
  exact⟨rfl,c.out⟩
def PS (w:World) (pl:Option Addr) (N f:Nat) (cur base kind:Int) (d c:Value) (V:Nat) (E:Int):Prop:=∀ a,Below w.heap.size w a->Calls Tryz.prog 26 #[.slice pl N f,.int .i64 cur,.agg #[.int .i64 base,.int .i64 kind,d,c]] a fun e b=>e=.returned (.tuple #[.int .u64 (V:Int),.int .i64 E])/\Below a.heap.size a b
theorem Dy (w:World) (base kind:Int) (b a:Value):DxK (w.alloc (.cells #[.int .i64 base,.int .i64 kind,b,a] 39)) w.heap.size base kind b a:=⟨heap_alloc_new _ _⟩
def QT (b:Bool) (V:Nat):Nat:=if b=true then V else 0
def QU (b:Bool):Int:=if b=true then 0 else 91
theorem vW (pl:Option Addr) (N k:Nat) (cur base kind E h:Int) (a b:Value) (V:Nat) (w:World) (l:E≠0) (m:Hid (PS w pl N k cur base kind a b V E)) :
  Calls Tryz.prog 24 #[.slice pl N k,.int .i64 cur,.agg #[.int .i64 base,.int .i64 kind,a,b],.int .u64 h] w fun e n=>e=.returned (.tuple #[.int .u64 0,.int .i64 E])/\Below w.heap.size w n:=by
 have p:(E !=0)=true:=bne_iff_ne.2 l;have j:=hideS (Dy w base kind a b);have d:Hid (Below w.heap.size w (w.alloc (.cells #[.int .i64 base,.int .i64 kind,a,b] 39))):=(Below.refl _ _).alloc (Nat.le_refl _) _;clear l;obtain⟨i,f⟩:∃ i,w.alloc (.cells #[.int .i64 base,.int .i64 kind,a,b] 39)=i:=⟨_,rfl⟩;rw [f] at j d
 obtain⟨r,o,s,q⟩:=j.out.t
 go_enter Tryz.func24,Tryz.ntmps24
 go_wp2_with fail
 refine (m.out _ d.out).mono ?_
 rintro e u ⟨rfl,c⟩;have g:=hideS (d.out.trans (c.mono d.out.size));clear c
 go_wp2_with fail
 go_ret2
 exact⟨rfl,g.out⟩
theorem oa (pl:Option Addr) (N m:Nat) (cur base kind:Int) (h:Nat) (a b:Value) (V:Nat) (w:World) (l:h<18446744073709551616) (o:Hid (PS w pl N m cur base kind a b V 0)) :
  Calls Tryz.prog 24 #[.slice pl N m,.int .i64 cur,.agg #[.int .i64 base,.int .i64 kind,a,b],.int .u64 (h:Int)] w fun e q=>e=.returned (.tuple #[.int .u64 (QT (aM (h:Int)) V:Nat),.int .i64 (QU (aM (h:Int)))])/\Below w.heap.size w q:=by
 have k:=hideS (Dy w base kind a b);have f:Hid (Below w.heap.size w (w.alloc (.cells #[.int .i64 base,.int .i64 kind,a,b] 39))):=(Below.refl _ _).alloc (Nat.le_refl _) _;have g:=hideS fun p=>co (h:Int) p (ag l)
 clear l;obtain⟨j,i⟩:∃ j,w.alloc (.cells #[.int .i64 base,.int .i64 kind,a,b] 39)=j:=⟨_,rfl⟩;rw [i] at k f
 obtain⟨v,r,x,s⟩:=k.out.t;generalize aM (h:Int)=n at *
 go_enter Tryz.func24,Tryz.ntmps24
 go_wp2_with fail
 refine (o.out _ f.out).mono ?_
 rintro e y ⟨rfl,c⟩;have d:=hideS (f.out.trans (c.mono f.out.size));clear c
 go_wp2_with fail
 refine (turned (g.out _)).mono ?_
 rintro e u ⟨rfl,rfl⟩;cases n
 ·go_wp2_with fail
  go_ret2
  exact⟨rfl,d.out⟩
 ·go_wp2_with fail
  go_ret2
  exact⟨rfl,d.out⟩
end Go.Proofs.YtfdddijdjpijbaaGreat
