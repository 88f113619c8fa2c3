/-  -/
import Derived.Test.YtfdddijdjpijbaaGreatHbs
import Derived.Test.YtfdddijdjpijbaaGreatHbr
import Derived.Test.YtfdddijdjpijbaaGreatFnv
set_option maxHeartbeats 6400000
set_option maxRecDepth 20000
namespace Go.Proofs.YtfdddijdjpijbaaGreat
open Go.RowKit
structure DpB (w:World) (base kind:Int) (vd vf:Value) (wr:World):Prop where
 k:DxK wr w.heap.size base kind vd vf
 z:wr.heap[w.heap.size+1]? =some bG
 bl:Below w.heap.size w wr
 sz:w.heap.size+2<=wr.heap.size
theorem rQ (w:World) (base kind:Int) (a c:Value):DpB w base kind a c ((w.alloc (.cells #[.int .i64 base,.int .i64 kind,a,c] 39)).alloc bG):=by
 have d:(w.alloc (.cells #[.int .i64 base,.int .i64 kind,a,c] 39)).heap.size=w.heap.size+1:=by simp
 have b:=(Below.refl (w.heap.size+1) (w.alloc (.cells #[.int .i64 base,.int .i64 kind,a,c] 39))).alloc (by omega) bG
 refine⟨⟨?_⟩,?_,((Below.refl _ _).alloc (Nat.le_refl _) _).alloc (by omega) _,by simp⟩
 ·rw [b.block _ (by omega)];exact heap_alloc_new _ _
 ·rw [<- d];exact heap_alloc_new _ _
theorem DpB.step {w wr c:World} {base kind:Int} {b d:Value} (h:DpB w base kind b d wr) (a:Below wr.heap.size wr c):DpB w base kind b d c:=
 ⟨h.k.step a,(a.block _ (by have:=h.sz;omega)).trans h.z,h.bl.trans (a.mono h.bl.size),Nat.le_trans h.sz a.size⟩
structure DvE (w:World) (E:Int) (e:Ending) (w':World):Prop where
 e:e=.returned (.tuple #[.agg #[.int .i64 0,.int .i64 0,.slice none 0 0,.slice none 0 0],.int .i64 E])
 bl:Below w.heap.size w w'
theorem rR {c u1 u2 u3 d:World} {B b n:Nat} {v:Value} {xs:List Nat} {e f l g:Value} (h:c.ownsRow B 41 1 v n (xs.map uV)) (a:b<B) (i:c.setCell ⟨b,0,none⟩ e=u1) (m:u1.setCell ⟨b,1,none⟩ f=u2) (j:u2.setCell ⟨b,2,none⟩ l=u3) (k:u3.setCell ⟨b,3,none⟩ g=d):d.ownsRow B 41 1 v n (xs.map uV):=by
 rw [<- k,<- j,<- m,<- i];exact bw (bw (bw (bw h a _) a _) a _) a _
def GN (w:World) (base kind E:Int) (b d:Value):Prop:=∀ a,Below w.heap.size w a->Calls Tryz.prog 42 #[.agg #[.int .i64 base,.int .i64 kind,b,d]] a fun e c=>e=.returned (.int .i64 E)/\Below a.heap.size a c
theorem Af (base kind E:Int) (i:Int) (h:Int) (f g:Value) (w:World) (o:E≠0) (l:Hid (GN w base kind E f g)) :
  Calls Tryz.prog 25 #[.agg #[.int .i64 base,.int .i64 kind,f,g],.int .i64 i,.int .u64 h] w fun e y=>DvE w E e y:=by
 have J:(E !=0)=true:=bne_iff_ne.2 o;clear o;have c:=hideS (rQ w base kind (f) (g));obtain⟨p,a⟩:∃ p,(w.alloc (.cells #[.int .i64 base,.int .i64 kind,f,g] 39)).alloc bG=p:=⟨_,rfl⟩;rw [a] at c
 unfold bG at a
 obtain⟨A,C,B,x⟩:=c.out.k.t
 go_enter Tryz.func25,Tryz.ntmps25
 go_wp2_with fail
 clear a A C B x;refine (l.out _ c.out.bl).mono ?_
 rintro e D ⟨rfl,d⟩;have b:=hideS (c.out.step d);clear d l c;obtain⟨K,Q,T,H,⟨F,M,I⟩,⟨R,U,L⟩,⟨G,P,O⟩,⟨N,V,S⟩,m,n⟩:=dH (w.heap.size+1) 0 0 (.slice none 0 0) (.slice none 0 0) D b.out.z;have j:=hideS (b.out.bl.trans (n.mono (by omega)))
 obtain⟨r,q,s,u⟩:=m.t;clear m n
 go_wp2_with fail
 refine bodyPost_ret (v:=.tuple #[.agg #[.int .i64 0,.int .i64 0,.slice none 0 0,.slice none 0 0],.int .i64 E]) (by simp [results,Tryz.results25,go_sem,r,q,s,u]) rfl ?_
 exact⟨rfl,j.out⟩
theorem CC (base kind E:Int) (h:Int) (f g:Value) (w:World) (n:E≠0) (j:Hid (GN w base kind E f g)) :
  Calls Tryz.prog 47 #[.agg #[.int .i64 base,.int .i64 kind,f,g],.int .u64 h] w fun e x=>DvE w E e x:=by
 have I:(E !=0)=true:=bne_iff_ne.2 n;clear n;have c:=hideS (rQ w base kind (f) (g));obtain⟨o,a⟩:∃ o,(w.alloc (.cells #[.int .i64 base,.int .i64 kind,f,g] 39)).alloc bG=o:=⟨_,rfl⟩;rw [a] at c
 unfold bG at a
 obtain⟨y,B,A,u⟩:=c.out.k.t
 go_enter Tryz.func47,Tryz.ntmps47
 go_wp2_with fail
 clear a y B A u;refine (j.out _ c.out.bl).mono ?_
 rintro e C ⟨rfl,d⟩;have b:=hideS (c.out.step d);clear d j c;obtain⟨J,P,S,G,⟨D,L,H⟩,⟨R,T,K⟩,⟨F,O,N⟩,⟨M,U,Q⟩,l,m⟩:=dH (w.heap.size+1) 0 0 (.slice none 0 0) (.slice none 0 0) C b.out.z;have i:=hideS (b.out.bl.trans (m.mono (by omega)))
 obtain⟨q,p,r,s⟩:=l.t;clear l m
 go_wp2_with fail
 refine bodyPost_ret (v:=.tuple #[.agg #[.int .i64 0,.int .i64 0,.slice none 0 0,.slice none 0 0],.int .i64 E]) (by simp [results,Tryz.results47,go_sem,q,p,r,s]) rfl ?_
 exact⟨rfl,i.out⟩
theorem Ah (base kind:Int) (i:Int) (h:Int) (g:Value) (j:Option Addr) (n l:Nat) (w:World) (hi:¬ (0<=i/\i<(n:Int))) (o:Hid (GN w base kind 0 g (.slice j n l))) :
  Calls Tryz.prog 25 #[.agg #[.int .i64 base,.int .i64 kind,g,.slice j n l],.int .i64 i,.int .u64 h] w fun e D=>DvE w 1 e D:=by
 have c:=hideS (rQ w base kind (g) (.slice j n l));obtain⟨C,b⟩:∃ C,(w.alloc (.cells #[.int .i64 base,.int .i64 kind,g,.slice j n l] 39)).alloc bG=C:=⟨_,rfl⟩;rw [b] at c
 unfold bG at b
 obtain⟨y,B,A,x⟩:=c.out.k.t
 go_enter Tryz.func25,Tryz.ntmps25
 go_wp2_with fail
 clear b y B A x;refine (o.out _ c.out.bl).mono ?_
 rintro e E ⟨rfl,f⟩;have a:=hideS (c.out.step f);clear f o c;obtain⟨y,B,A,x⟩:=a.out.k.t;obtain⟨L,R,U,J,⟨H,N,K⟩,⟨S,V,M⟩,⟨I,Q,P⟩,⟨O,W,T⟩,r,s⟩:=dH (w.heap.size+1) 0 0 (.slice none 0 0) (.slice none 0 0) E a.out.z;have d:=hideS (a.out.bl.trans (s.mono (by omega)))
 obtain⟨p,m,q,u⟩:=r.t;clear r s
 by_cases G:i<0
 ·clear hi
  go_wp2_with fail
  refine bodyPost_ret (v:=.tuple #[.agg #[.int .i64 0,.int .i64 0,.slice none 0 0,.slice none 0 0],.int .i64 1]) (by simp [results,Tryz.results25,go_sem,p,m,q,u]) rfl ?_
  exact⟨rfl,d.out⟩
 ·have F:(n:Int)<=i:=by omega
  clear hi
  go_wp2_with fail
  refine bodyPost_ret (v:=.tuple #[.agg #[.int .i64 0,.int .i64 0,.slice none 0 0,.slice none 0 0],.int .i64 1]) (by simp [results,Tryz.results25,go_sem,p,m,q,u]) rfl ?_
  exact⟨rfl,d.out⟩
def Re (w:World) (base kind:Int) (c f:Option Addr) (n cx cy:Nat) (i j h:Nat) (L:List Nat) (a:Bool):Prop:=∀ b,Below w.heap.size w b->Calls Tryz.prog 43 #[.agg #[.int .i64 base,.int .i64 kind,.slice c n cx,.slice f n cy],.int .i64 i,.int .i64 j,.int .u64 (h:Int)] b fun e d=>BqO b base kind c n cx L a e d
structure BgO (w:World) (base kind:Int) (px:Option Addr) (n cx:Nat) (L:List Nat) (bad:Bool) (e:Ending) (w':World):Prop where
 no:bad=true->DvE w 91 e w'
 yes:bad=false->BqO w base kind px n cx L false e w'
theorem rS (base kind:Int) (i y:Option Addr) (n cx cy k h:Nat) (L:List Nat) (j:Bool) (w:World) (hk:k<n) (hn:n<=255) (R:h<18446744073709551616) (hL:L.length=n) (Q:Hid (GN w base kind 0 (.slice i n cx) (.slice y n cy))) (HD:Hid (aE (h:Int)=true->Re w base kind i y n cx cy k (k+1) h L j)) :
  Calls Tryz.prog 25 #[.agg #[.int .i64 base,.int .i64 kind,.slice i n cx,.slice y n cy],.int .i64 k,.int .u64 (h:Int)] w fun e w'=>BgO w base kind i n cx L (!aE (h:Int)||j) e w':=by
 have M:=hideS fun wx=>bK (h:Int) wx (af R)
 have r:=hideS (rQ w base kind (.slice i n cx) (.slice y n cy));obtain⟨P,l⟩:∃ P,(w.alloc (.cells #[.int .i64 base,.int .i64 kind,.slice i n cx,.slice y n cy] 39)).alloc bG=P:=⟨_,rfl⟩;rw [l] at r
 unfold bG at l
 obtain⟨B,D,C,A⟩:=r.out.k.t;have l1:(0:Int)<=(k:Int):=Int.natCast_nonneg _;have l2:(k:Int)<(n:Int):=by omega
 have G:=hideS hL;have ab:IntKind.i64.wrap ((k:Int)+1)=((k+1:Nat):Int):=by rw [IntKind.wrap_i64];omega
 clear R hL;generalize aE (h:Int)=b1 at *
 go_enter Tryz.func25,Tryz.ntmps25
 go_wp2_with fail
 clear l B D C A;refine (Q.out _ r.out.bl).mono ?_
 rintro e w3 ⟨rfl,x⟩;have a:=hideS (r.out.step x);clear x Q r;obtain⟨B,D,C,A⟩:=a.out.k.t
 go_wp2_with fail
 refine (turned (M.out _)).mono ?_
 rintro e w4 ⟨rfl,rfl⟩;cases b1
 ·obtain⟨U,u2,u3,S,⟨H,W,T⟩,⟨N,z1,V⟩,⟨I,Y,X⟩,⟨K,z3,y3⟩,d,f⟩:=dH (w.heap.size+1) 0 0 (.slice none 0 0) (.slice none 0 0) w3 a.out.z;have b:=hideS (a.out.bl.trans (f.mono (by omega)))
  obtain⟨o,m,p,s⟩:=d.t;clear d f
  go_wp2_with fail
  refine bodyPost_ret (v:=.tuple #[.agg #[.int .i64 0,.int .i64 0,.slice none 0 0,.slice none 0 0],.int .i64 91]) (by simp [results,Tryz.results25,go_sem,o,m,p,s]) rfl ?_
  exact⟨fun _=>⟨rfl,b.out⟩,fun e=>(by cases e)⟩
 ·go_wp2_with fail
  refine (HD.out (by first | trivial | rfl) _ a.out.bl).mono ?_
  rintro e O u;have c:=hideS (a.out.step u.bl);have E:=a.out.sz;have HZ:=hideS E;cases j
  ·obtain⟨v,rfl,F⟩:=u.yes rfl;obtain⟨q,g,Z,rfl,_,_,_,_⟩:=bq F G.out;obtain⟨U,u2,u3,S,⟨H,W,T⟩,⟨N,z1,V⟩,⟨I,Y,X⟩,⟨K,z3,y3⟩,d,f⟩:=dH (w.heap.size+1) base kind (.slice i n cx) (.slice q n Z) O c.out.z;have b:=hideS (c.out.bl.trans (f.mono (by omega)))
   have J:=hideS (gr (rR F (by omega) H N I K) (by omega:w.heap.size<=w3.heap.size))
   obtain⟨o,m,p,s⟩:=d.t;clear d f F u B D C A
   go_wp2_with fail
   refine bodyPost_ret (v:=.tuple #[.agg #[.int .i64 base,.int .i64 kind,.slice i n cx,.slice q n Z],.int .i64 0]) (by simp [results,Tryz.results25,go_sem,o,m,p,s]) rfl ?_
   exact⟨fun e=>(by cases e),fun _=>⟨fun e=>(by cases e),fun _=>⟨_,rfl,J.out⟩,b.out⟩⟩
  ·obtain rfl:=u.no rfl;obtain⟨U,u2,u3,S,⟨H,W,T⟩,⟨N,z1,V⟩,⟨I,Y,X⟩,⟨K,z3,y3⟩,d,f⟩:=dH (w.heap.size+1) 0 0 (.slice none 0 0) (.slice none 0 0) O c.out.z;have b:=hideS (c.out.bl.trans (f.mono (by omega)))
   obtain⟨o,m,p,s⟩:=d.t;clear d f u B D C A
   go_wp2_with fail
   refine bodyPost_ret (v:=.tuple #[.agg #[.int .i64 0,.int .i64 0,.slice none 0 0,.slice none 0 0],.int .i64 91]) (by simp [results,Tryz.results25,go_sem,o,m,p,s]) rfl ?_
   exact⟨fun _=>⟨rfl,b.out⟩,fun e=>(by cases e)⟩
theorem uD (base kind:Int) (i x:Option Addr) (n cx cy h:Nat) (L:List Nat) (j:Bool) (w:World) (Q:h<18446744073709551616) (Z:L.length=n) (P:Hid (GN w base kind 0 (.slice i n cx) (.slice x n cy))) (HD:Hid (aE (h:Int)=true->Re w base kind i x n cx cy 0 n h L j)) :
  Calls Tryz.prog 47 #[.agg #[.int .i64 base,.int .i64 kind,.slice i n cx,.slice x n cy],.int .u64 (h:Int)] w fun e w'=>BgO w base kind i n cx L (!aE (h:Int)||j) e w':=by
 have M:=hideS fun wx=>bK (h:Int) wx (af Q)
 have r:=hideS (rQ w base kind (.slice i n cx) (.slice x n cy));obtain⟨w2,l⟩:∃ w2,(w.alloc (.cells #[.int .i64 base,.int .i64 kind,.slice i n cx,.slice x n cy] 39)).alloc bG=w2:=⟨_,rfl⟩;rw [l] at r
 unfold bG at l
 obtain⟨B,D,C,A⟩:=r.out.k.t;have G:=hideS Z;clear Q Z;generalize aE (h:Int)=b1 at *
 go_enter Tryz.func47,Tryz.ntmps47
 go_wp2_with fail
 clear l B D C A;refine (P.out _ r.out.bl).mono ?_
 rintro e w3 ⟨rfl,y⟩;have a:=hideS (r.out.step y);clear y P r;obtain⟨B,D,C,A⟩:=a.out.k.t
 go_wp2_with fail
 refine (turned (M.out _)).mono ?_
 rintro e w4 ⟨rfl,rfl⟩;cases b1
 ·obtain⟨T,u2,u3,R,⟨H,V,S⟩,⟨N,z1,U⟩,⟨I,X,W⟩,⟨K,z3,y3⟩,d,f⟩:=dH (w.heap.size+1) 0 0 (.slice none 0 0) (.slice none 0 0) w3 a.out.z;have b:=hideS (a.out.bl.trans (f.mono (by omega)))
  obtain⟨o,m,p,s⟩:=d.t;clear d f
  go_wp2_with fail
  refine bodyPost_ret (v:=.tuple #[.agg #[.int .i64 0,.int .i64 0,.slice none 0 0,.slice none 0 0],.int .i64 91]) (by simp [results,Tryz.results47,go_sem,o,m,p,s]) rfl ?_
  exact⟨fun _=>⟨rfl,b.out⟩,fun e=>(by cases e)⟩
 ·go_wp2_with fail
  refine (HD.out (by first | trivial | rfl) _ a.out.bl).mono ?_
  rintro e O u;have c:=hideS (a.out.step u.bl);have E:=a.out.sz;have HZ:=hideS E;cases j
  ·obtain⟨v,rfl,F⟩:=u.yes rfl;obtain⟨q,g,Y,rfl,_,_,_,_⟩:=bq F G.out;obtain⟨T,u2,u3,R,⟨H,V,S⟩,⟨N,z1,U⟩,⟨I,X,W⟩,⟨K,z3,y3⟩,d,f⟩:=dH (w.heap.size+1) base kind (.slice i n cx) (.slice q n Y) O c.out.z;have b:=hideS (c.out.bl.trans (f.mono (by omega)))
   have J:=hideS (gr (rR F (by omega) H N I K) (by omega:w.heap.size<=w3.heap.size))
   obtain⟨o,m,p,s⟩:=d.t;clear d f F u B D C A
   go_wp2_with fail
   refine bodyPost_ret (v:=.tuple #[.agg #[.int .i64 base,.int .i64 kind,.slice i n cx,.slice q n Y],.int .i64 0]) (by simp [results,Tryz.results47,go_sem,o,m,p,s]) rfl ?_
   exact⟨fun e=>(by cases e),fun _=>⟨fun e=>(by cases e),fun _=>⟨_,rfl,J.out⟩,b.out⟩⟩
  ·obtain rfl:=u.no rfl;obtain⟨T,u2,u3,R,⟨H,V,S⟩,⟨N,z1,U⟩,⟨I,X,W⟩,⟨K,z3,y3⟩,d,f⟩:=dH (w.heap.size+1) 0 0 (.slice none 0 0) (.slice none 0 0) O c.out.z;have b:=hideS (c.out.bl.trans (f.mono (by omega)))
   obtain⟨o,m,p,s⟩:=d.t;clear d f u B D C A
   go_wp2_with fail
   refine bodyPost_ret (v:=.tuple #[.agg #[.int .i64 0,.int .i64 0,.slice none 0 0,.slice none 0 0],.int .i64 91]) (by simp [results,Tryz.results47,go_sem,o,m,p,s]) rfl ?_
   exact⟨fun _=>⟨rfl,b.out⟩,fun e=>(by cases e)⟩
theorem Ec {xs ys:List Nat} (b:xs.length=ys.length) (h:∀ t<xs.length,xs.getD t 0=ys.getD t 0):xs=ys:=
 List.ext_getElem b fun t a c=>by
  have:=h t a;rw [List.getD_eq_getElem?_getD,List.getD_eq_getElem?_getD,List.getElem?_eq_getElem a,List.getElem?_eq_getElem c] at this
  exact this
theorem LF (c:Cv) (i j h n t:Nat) (a:t<n):(bqL c i j h n).getD t 0=bqV c i j h t:=by
 unfold bqL;rw [List.getD_eq_getElem?_getD,List.getElem?_map,List.getElem?_range a];rfl
theorem Ai {c:Cv} {k h:Nat} (b:c.Ok) (d:k<c.ds.length):bqL c k (k+1) h c.ds.length=(c.bump k h).fs:=
 Ec (by rw [cA];show _=(c.fs.set k _).length;rw [List.length_set,b.len]) fun t a=>by
  rw [cA] at a
  rw [LF _ _ _ _ _ _ a,mw (by rw [b.len];exact d)]
  unfold bqV
  by_cases e:t=k
  ·subst e;rw [if_pos ⟨Nat.le_refl _,Nat.lt_succ_self _⟩,if_pos rfl]
  ·rw [if_neg (by omega),if_neg e]
theorem Aj {c:Cv} {h:Nat} (b:c.Ok):bqL c 0 c.ds.length h c.ds.length=(c.para h).fs:=
 Ec (by rw [cA];show _=(c.parL h _).length;rw [eJ,b.len]) fun t a=>by
  rw [cA] at a
  rw [LF _ _ _ _ _ _ a]
  show _=(c.parL h c.ds.length).getD t 0
  rw [mu c h _ (by rw [b.len];exact Nat.le_refl _)]
  unfold bqV;rw [if_pos ⟨Nat.zero_le _,a⟩,if_pos a]
structure DvO (w:World) (d:Cv) (E:Int) (px:Option Addr) (bx ox cx:Nat) (e:Ending) (w':World):Prop where
 bad:E≠0->e=.returned (.tuple #[.agg #[.int .i64 0,.int .i64 0,.slice none 0 0,.slice none 0 0],.int .i64 E])
 ok:E=0->∃ q g cc,e=.returned (.tuple #[.agg #[.int .i64 d.base,.int .i64 d.kind,.slice px d.ds.length cx,.slice q d.fs.length cc],.int .i64 0])/\CSrcD w' px q bx ox g 0 d.ds d.fs/\w.heap.size<=g
 bl:Below w.heap.size w w'
theorem DvE.dv {w b:World} {d:Cv} {E:Int} {c:Option Addr} {i g cx:Nat} {e:Ending} (h:DvE w E e b) (f:E≠0):DvO w d E c i g cx e b:=⟨fun _=>h.e,fun a=>absurd a f,h.bl⟩
theorem BqO.dv {w k:World} {c:Cv} {L:List Nat} {f y:Option Addr} {j n u o cx:Nat} {e:Ending} (h:BqO w c.base c.kind f c.ds.length cx L false e k) (t:CSrcD w f y j n u o c.ds c.fs) (m:L.length=c.ds.length) (r:∀ i<L.length,L.getD i 0<18446744073709551616):DvO w ⟨c.base,c.kind,c.ds,L⟩ 0 f j n cx e k:=by
 obtain⟨v,p,s⟩:=h.yes rfl;obtain⟨q,g,l,rfl,b,x,_,_⟩:=bq s m;refine⟨fun a=>absurd rfl a,fun _=>⟨q,g,l,?_,⟨(t.below h.bl).d,⟨b.at_,b.lt,b.cell⟩,fun i hi=>af (r i hi)⟩,x⟩,h.bl⟩
 show e=.returned (.tuple #[.agg #[.int .i64 c.base,.int .i64 c.kind,.slice f c.ds.length cx,.slice q L.length l],.int .i64 0])
 rw [m];exact p
theorem CD {c:Cv} {E:Int} {w:World} {a b:Option Addr} {f d e g cx cy:Nat} (i:CSrcD w a b f d e g c.ds c.fs) (k:c.Chk E):GN w c.base c.kind E (.slice a c.ds.length cx) (.slice b c.fs.length cy):=
 fun j h=>dC c.base c.kind a b f d cx e g cy c.ds c.fs j (i.below h) k
theorem ON (c d:Cv) (i E:Int) (h:Nat) (j m:Option Addr) (s u cx B x cy:Nat) (w:World) (r:h<18446744073709551616) (l:CSrcD w j m s u B x c.ds c.fs) (v:c.Fit) (G:BmpR c i h d E) :
  Calls Tryz.prog 25 #[.agg #[.int .i64 c.base,.int .i64 c.kind,.slice j c.ds.length cx,.slice m c.fs.length cy],.int .i64 i,.int .u64 (h:Int)] w fun e p=>DvO w d E j s u cx e p:=by
 cases G with
 | chk E F C=>exact (Af c.base c.kind E i h _ _ w C (CD l F)).mono fun e p a=>a.dv C
 | arg ok hi=>exact (Ah c.base c.kind i h _ m c.fs.length cy w (by rw [ok.len];exact hi) (CD l (.ok ok))).mono fun e p a=>a.dv (by decide)
 | val ok k f e o=>
  subst e;have z:=ok.len;have n:=CD (cx:=cx) (cy:=cy) l (.ok ok);rw [z] at n ⊢
  refine (rS c.base c.kind j m c.ds.length cx cy k h (bqL c k (k+1) h c.ds.length) true w f ok.hi r (cA _ _ _ _ _) n (fun A y g=>?_)).mono fun e p a=>(a.no (by simp)).dv (by decide)
  have:=ew c k (k+1) h c.ds.length k j m s u cx B x cy y ok (l.below g) v rfl r A (by omega) (fun t D a _=>absurd a (by omega)) (fun _=>⟨Nat.le_refl _,Nat.lt_succ_self _,o⟩)
  rw [decide_eq_true f] at this
  exact this
 | ok ok k f e o=>
  subst e;have z:=ok.len;have n:=CD (cx:=cx) (cy:=cy) l (.ok ok);have q:=(rL o).2;rw [z] at n ⊢
  refine (rS c.base c.kind j m c.ds.length cx cy k h (bqL c k (k+1) h c.ds.length) false w f ok.hi r (cA _ _ _ _ _) n (fun A y g=>?_)).mono fun e p a=>?_
  ·have:=ew c k (k+1) h c.ds.length c.ds.length j m s u cx B x cy y ok (l.below g) v rfl r A (Nat.le_refl _) (fun t D a b=>by rw [show t=k by omega];exact o) (fun a=>absurd a (by omega))
   rw [decide_eq_false (by omega)] at this
   exact this
  ·have:=(a.yes (by rw [q];rfl)).dv l (cA _ _ _ _ _) (fun i hi=>by rw [Ai ok f] at hi ⊢;exact Lz ok v f o i hi)
   rw [Ai ok f] at this
   exact this
theorem CE (c d:Cv) (E:Int) (h:Nat) (f j:Option Addr) (q s cx B v cy:Nat) (w:World) (p:h<18446744073709551616) (g:CSrcD w f j q s B v c.ds c.fs) (u:c.Fit) (G:ParR c h d E) :
  Calls Tryz.prog 47 #[.agg #[.int .i64 c.base,.int .i64 c.kind,.slice f c.ds.length cx,.slice j c.fs.length cy],.int .u64 (h:Int)] w fun e r=>DvO w d E f q s cx e r:=by
 cases G with
 | chk E F D=>exact (CC c.base c.kind E h _ _ w D (CD g F)).mono fun e r a=>a.dv D
 | val ok k C n m=>
  have z:=ok.len;have l:=CD (cx:=cx) (cy:=cy) g (.ok ok);rw [z] at l ⊢
  refine (uD c.base c.kind f j c.ds.length cx cy h (bqL c 0 c.ds.length h c.ds.length) true w p (cA _ _ _ _ _) l (fun A x b=>?_)).mono fun e r a=>(a.no (by simp)).dv (by decide)
  have:=ew c 0 c.ds.length h c.ds.length k f j q s cx B v cy x ok (g.below b) u rfl p A (by omega) (fun t y _ _=>m t y) (fun _=>⟨Nat.zero_le _,C,n⟩)
  rw [decide_eq_true C] at this
  exact this
 | ok ok n=>
  have z:=ok.len;have l:=CD (cx:=cx) (cy:=cy) g (.ok ok);have o:=(rL (n 0 ok.lo)).2;rw [z] at l ⊢
  refine (uD c.base c.kind f j c.ds.length cx cy h (bqL c 0 c.ds.length h c.ds.length) false w p (cA _ _ _ _ _) l (fun A x b=>?_)).mono fun e r a=>?_
  ·have:=ew c 0 c.ds.length h c.ds.length c.ds.length f j q s cx B v cy x ok (g.below b) u rfl p A (Nat.le_refl _) (fun t y _ _=>n t y) (fun a=>absurd a (by omega))
   rw [decide_eq_false (by omega)] at this
   exact this
  ·have:=(a.yes (by rw [o];rfl)).dv g (cA _ _ _ _ _) (fun i hi=>by rw [Aj ok] at hi ⊢;exact Ac ok u n i hi)
   rw [Aj ok] at this
   exact this
structure HoB (w:World) (base kind:Int) (vd vf:Value) (wr:World):Prop where
 k:BxK wr w.heap.size base kind vd vf
 z:wr.heap[w.heap.size+1]? =some aR
 bl:Below w.heap.size w wr
theorem HoB.step {w wr c:World} {base kind:Int} {b d:Value} (h:HoB w base kind b d wr) (a:Below wr.heap.size wr c):HoB w base kind b d c:=
 ⟨h.k.step a,(a.block _ (Array.getElem?_eq_some_iff.1 h.z).1).trans h.z,h.bl.trans (a.mono h.bl.size)⟩
theorem LG (w:World) (base kind:Int) (a b:Value):HoB w base kind a b ((w.alloc (.cells #[.int .i64 base,.int .i64 kind,a,b] 26)).alloc aR):=by
 have c:(w.alloc (.cells #[.int .i64 base,.int .i64 kind,a,b] 26)).heap.size=w.heap.size+1:=by simp
 refine⟨(rl w base kind a b).step ((Below.refl _ _).alloc (Nat.le_refl _) _),?_,((Below.refl _ _).alloc (Nat.le_refl _) _).alloc (by rw [c];omega) _⟩
 rw [<- c];exact heap_alloc_new _ _
theorem rT (l:List Flw) (cur:Int) (c:Cv) (pl:Option Addr) (bl A j N:Nat) (a b:Option Addr) (bd s g K D f:Nat) (w:World) (V:Nat) (h:PreR l cur c V 0) (y:JSrc aF w pl bl A l) (F:l.length=N) (o:N<=30000) (I:dB l) (J:TFl w a b bd s K D c.ds c.fs) :
  Calls Tryz.prog 20 #[.slice pl N j,.int .i64 cur,.agg #[.int .i64 c.base,.int .i64 c.kind,.slice a c.ds.length g,.slice b c.fs.length f]] w fun e S=>e=.returned (.tuple #[.agg #[.slice pl N j,.int .i64 cur,.int .i64 c.base,.int .i64 c.kind,.slice a c.ds.length g,.slice b c.fs.length f,.float .f64 V],.int .i64 0])/\Below w.heap.size w S:=by
 have x:=hideS fun u (H:Below w.heap.size w u)=>rm l cur c pl bl A j N a b bd s g K D f u V 0 h (y.below H) F o I (J.below H)
 have i:=hideS (LG w c.base c.kind (.slice a c.ds.length g) (.slice b c.fs.length f));clear h y F I J;generalize c.ds.length=n at *
 generalize c.fs.length=p at *
 generalize c.base=base at *
 generalize c.kind=kind at *
 obtain⟨M,d⟩:∃ M,(w.alloc (.cells #[.int .i64 base,.int .i64 kind,.slice a n g,.slice b p f] 26)).alloc aR=M:=⟨_,rfl⟩;rw [d] at i
 unfold aR at d
 obtain⟨C,O,G,B⟩:=i.out.k.t
 go_enter Tryz.func20,Tryz.ntmps20
 go_wp2_with fail
 clear d C O G B;refine (x.out _ i.out.bl).mono ?_
 rintro e T ⟨rfl,m⟩;have r:=hideS (i.out.step m);clear m i x;obtain⟨C,O,G,B⟩:=r.out.k.t;obtain⟨u1,u2,u3,u4,u5,u6,u7,⟨e0,z0,y0⟩,⟨e1,z1,y1⟩,⟨e2,z2,y2⟩,⟨e3,z3,y3⟩,⟨e4,z4,y4⟩,⟨e5,z5,y5⟩,⟨e6,z6,y6⟩,E,L⟩:=gv (w.heap.size+1) (.slice pl N j) cur base kind (.slice a n g) (.slice b p f) V T r.out.z;have Q:=hideS E;have q:=hideS (r.out.bl.trans (L.mono (by omega)))
 have Y:=bJ;clear E L
 go_wp2_with fail
 obtain⟨Z,P,R,W,s4,U,X⟩:=Q.out.t;refine bodyPost_ret (v:=.tuple #[.agg #[.slice pl N j,.int .i64 cur,.int .i64 base,.int .i64 kind,.slice a n g,.slice b p f,.float .f64 V],.int .i64 0]) (by simp [results,Tryz.results20,go_sem,Z,P,R,W,s4,U,X]) rfl ?_
 exact⟨rfl,q.out⟩
theorem nC (l:List Flw) (cur:Int) (c:Cv) (pl:Option Addr) (bl s y N:Nat) (b g:Option Addr) (bd o j G u i:Nat) (w:World) (V:Nat) (E:Int) (h:PreR l cur c V E) (D:E≠0) (r:JSrc aF w pl bl s l) (A:l.length=N) (m:N<=30000) (C:dB l) (F:TFl w b g bd o G u c.ds c.fs) :
  Calls Tryz.prog 20 #[.slice pl N y,.int .i64 cur,.agg #[.int .i64 c.base,.int .i64 c.kind,.slice b c.ds.length j,.slice g c.fs.length i]] w fun e P=>e=.returned (.tuple #[.agg #[.slice none 0 0,.int .i64 0,.int .i64 0,.int .i64 0,.slice none 0 0,.slice none 0 0,.float .f64 0],.int .i64 E])/\Below w.heap.size w P:=by
 have q:=hideS fun p (B:Below w.heap.size w p)=>rm l cur c pl bl s y N b g bd o j G u i p V E h (r.below B) A m C (F.below B)
 have d:=hideS (LG w c.base c.kind (.slice b c.ds.length j) (.slice g c.fs.length i));have dE:(E !=0)=true:=bne_iff_ne.2 D;clear h r A C F D;generalize c.ds.length=R at *
 generalize c.fs.length=Z at *
 generalize c.base=base at *
 generalize c.kind=kind at *
 obtain⟨J,a⟩:∃ J,(w.alloc (.cells #[.int .i64 base,.int .i64 kind,.slice b R j,.slice g Z i] 26)).alloc aR=J:=⟨_,rfl⟩;rw [a] at d
 unfold aR at a
 obtain⟨Q,t1,X,O⟩:=d.out.k.t
 go_enter Tryz.func20,Tryz.ntmps20
 go_wp2_with fail
 clear a Q t1 X O;refine (q.out _ d.out.bl).mono ?_
 rintro e S ⟨rfl,f⟩;have I:=hideS (d.out.step f);clear f d q;obtain⟨u1,u2,u3,u4,u5,u6,u7,⟨e0,z0,y0⟩,⟨e1,z1,y1⟩,⟨e2,z2,y2⟩,⟨e3,z3,y3⟩,⟨e4,z4,y4⟩,⟨e5,z5,y5⟩,⟨e6,z6,y6⟩,x,H⟩:=gv (w.heap.size+1) (.slice none 0 0) 0 0 0 (.slice none 0 0) (.slice none 0 0) 0 S I.out.z;have L:=hideS x;have n:=hideS (I.out.bl.trans (H.mono (by omega)))
 have Y:=bJ;clear x H
 go_wp2_with fail
 obtain⟨s0,K,M,U,s4,T,W⟩:=L.out.t;refine bodyPost_ret (v:=.tuple #[.agg #[.slice none 0 0,.int .i64 0,.int .i64 0,.int .i64 0,.slice none 0 0,.slice none 0 0,.float .f64 0],.int .i64 E]) (by simp [results,Tryz.results20,go_sem,s0,K,M,U,s4,T,W]) rfl ?_
 exact⟨rfl,n.out⟩
def BmC (c:Nat) (a:Array Value) (base kind:Int) (f h:Value) (w:World) (d:Cv) (E:Int):Prop:=∀ b,Below w.heap.size w b->Calls Tryz.prog c (#[.agg #[.int .i64 base,.int .i64 kind,f,h]]++a) b fun e g=>CvO b d E e g
theorem Ak (h:Nat) (b:Array Value) (d:Cv) (E cur base kind:Int) (v0 a c:Value) (V0:Nat) (w:World) (m:E≠0) (B:∀ args w,(callFunc h args).run Tryz.prog w=.ok (.enter h args) w) (j:Hid (BmC h b base kind a c w d E)) :
  Calls Tryz.prog 32 #[.agg #[v0,.int .i64 cur,.int .i64 base,.int .i64 kind,a,c,.float .f64 V0],.func (.func h) #[] b] w fun e H=>e=.returned (.tuple #[.float .f64 0,.int .i64 E])/\Below w.heap.size w H:=by
 have N:(E !=0)=true:=bne_iff_ne.2 m;have x:=hideS m;have q:=hideS (rN w v0 a c cur base kind V0);have i:=hideS ((Below.refl w.heap.size w).alloc (Nat.le_refl _) (.cells #[v0,.int .i64 cur,.int .i64 base,.int .i64 kind,a,c,.float .f64 V0] 56));obtain⟨r,f⟩:∃ r,w.alloc (.cells #[v0,.int .i64 cur,.int .i64 base,.int .i64 kind,a,c,.float .f64 V0] 56)=r:=⟨_,rfl⟩;rw [f] at q i
 obtain⟨I,K,J,G,C,L,D⟩:=q.out.t;unfold BmC at j
 clear m
 go_enter Tryz.func32,Tryz.ntmps32
 go_wp2_with fail
 clear f I K J G C L D;refine (j.out _ i.out).mono ?_
 intro e o l;have u:=l.bad x.out;subst u;have k:=hideS (i.out.trans (l.bl.mono i.out.size));clear l j;obtain⟨O,T,W,z,⟨y,F,A⟩,⟨V,X,P⟩,⟨M,S,R⟩,⟨Q,Y,U⟩,v,p⟩:=bD o.heap.size 0 0 (.slice none 0 0) (.slice none 0 0) (o.alloc ar) (heap_alloc_new _ _);have n:Hid (Below w.heap.size w z):=(k.out.alloc k.out.size ar).trans (p.mono k.out.size);obtain⟨s,g⟩:∃ s,o.alloc ar=s:=⟨_,rfl⟩;rw [g] at y F A
 unfold ar at g
 clear v p
 go_wp2_with fail
 go_ret2
 exact⟨rfl,n.out⟩
theorem CF (x:Nat) (q:Array Value) (l:List Flw) (d:Cv) (E cur base kind:Int) (pl:Option Addr) (bl J o N:Nat) (i v:Value) (V0 V:Nat) (w:World) (ab:∀ args w,(callFunc x args).run Tryz.prog w=.ok (.enter x args) w) (A:Hid (BmC x q base kind i v w d 0)) (S:PreR l cur d V E) (I:JSrc aF w pl bl J l) (P:l.length=N) (F:N<=30000) (R:dB l) :
  Calls Tryz.prog 32 #[.agg #[.slice pl N o,.int .i64 cur,.int .i64 base,.int .i64 kind,i,v,.float .f64 V0],.func (.func x) #[] q] w fun e Z=>e=.returned (.tuple #[.float .f64 V,.int .i64 E])/\Below w.heap.size w Z:=by
 have u:=hideS fun z B h j f s (hb:Below w.heap.size w z) (g:OwnC z B d h j f s)=>rm l cur d pl bl J o N (some ⟨h,0,none⟩) (some ⟨f,0,none⟩) h 0 j f 0 s z V E S (I.below hb) P F R g.src
 have y:=hideS (rN w (.slice pl N o) i v cur base kind V0);have r:=hideS ((Below.refl w.heap.size w).alloc (Nat.le_refl _) (.cells #[.slice pl N o,.int .i64 cur,.int .i64 base,.int .i64 kind,i,v,.float .f64 V0] 56));obtain⟨U,m⟩:∃ U,w.alloc (.cells #[.slice pl N o,.int .i64 cur,.int .i64 base,.int .i64 kind,i,v,.float .f64 V0] 56)=U:=⟨_,rfl⟩;rw [m] at y r
 obtain⟨K,W,t2,Y,t4,t5,t6⟩:=y.out.t;unfold BmC at A
 clear S I P R
 go_enter Tryz.func32,Tryz.ntmps32
 go_wp2_with fail
 clear m K W t2 Y t4 t5 t6;refine (A.out _ r.out).mono ?_
 intro e c g;obtain⟨h,j,f,s,he,Q⟩:=g.ok rfl;subst he;have O:=hideS (r.out.trans (g.bl.mono r.out.size));have HK:=hideS (y.out.step g.bl);clear g A y r;obtain⟨u1,u2,u3,H,⟨X,z0,y0⟩,⟨e1,z1,y1⟩,⟨e2,z2,y2⟩,⟨e3,z3,y3⟩,M,T⟩:=bD c.heap.size d.base d.kind (.slice (some ⟨h,0,none⟩) d.ds.length j) (.slice (some ⟨f,0,none⟩) d.fs.length s) (c.alloc ar) (heap_alloc_new _ _);have a:Below c.heap.size c H:=((Below.refl _ c).alloc (Nat.le_refl _) ar).trans T;have b:Hid (Below w.heap.size w H):=O.out.trans (a.mono O.out.size);have C:=hideS (Q.below a);have D:=hideS (HK.out.step a);have p:=hideS (u.out H _ h j f s b.out C.out);obtain⟨L,n⟩:∃ L,c.alloc ar=L:=⟨_,rfl⟩;rw [n] at X z0 y0
 unfold ar at n
 obtain⟨s0,s1,s2,s3⟩:=M.t;obtain⟨K,W,_,_,_,_,_⟩:=D.out.t;clear M T a Q u HK;generalize d.ds.length=n1 at *
 generalize d.fs.length=n2 at *
 generalize d.base=db at *
 generalize d.kind=dk at *
 go_wp2_with fail
 refine p.out.mono ?_
 rintro e w5 ⟨rfl,k⟩;have G:=hideS (b.out.trans (k.mono b.out.size));clear k p
 go_wp2_with fail
 go_ret2
 exact⟨rfl,G.out⟩
theorem oq (m v0 a c:Value) (E cur base kind:Int) (V0 V:Nat) (w:World) (l:E≠0)
  (i:Hid (∀ f,Below w.heap.size w f->Calls Tryz.prog 32 #[.agg #[v0,.int .i64 cur,.int .i64 base,.int .i64 kind,a,c,.float .f64 V0],m] f fun e h=>e=.returned (.tuple #[.float .f64 V,.int .i64 E])/\Below f.heap.size f h)) :
  Calls Tryz.prog 29 #[.agg #[v0,.int .i64 cur,.int .i64 base,.int .i64 kind,a,c,.float .f64 V0],m] w fun e h=>e=.returned (.tuple #[.float .f64 0,.int .i64 E])/\Below w.heap.size w h:=by
 have x:(E !=0)=true:=bne_iff_ne.2 l;have j:=hideS (rN w v0 a c cur base kind V0);have g:=hideS ((Below.refl w.heap.size w).alloc (Nat.le_refl _) (.cells #[v0,.int .i64 cur,.int .i64 base,.int .i64 kind,a,c,.float .f64 V0] 56));obtain⟨k,d⟩:∃ k,w.alloc (.cells #[v0,.int .i64 cur,.int .i64 base,.int .i64 kind,a,c,.float .f64 V0] 56)=k:=⟨_,rfl⟩;rw [d] at j g
 obtain⟨r,u,s,q,n,v,o⟩:=j.out.t;clear l
 go_enter Tryz.func29,Tryz.ntmps29
 go_wp2_with fail
 clear d r u s q n v o;refine (i.out _ g.out).mono ?_
 rintro e y ⟨rfl,b⟩;have p:=hideS (g.out.trans (b.mono g.out.size));clear b i
 go_wp2_with fail
 go_ret2
 exact⟨rfl,p.out⟩
theorem CG (o v0 c d:Value) (cur base kind:Int) (V0 V x:Nat) (w:World) (p:floatBits .sub .f64 V V0=some x) (l:x<18446744073709551616)
  (k:Hid (∀ b,Below w.heap.size w b->Calls Tryz.prog 32 #[.agg #[v0,.int .i64 cur,.int .i64 base,.int .i64 kind,c,d,.float .f64 V0],o] b fun e h=>e=.returned (.tuple #[.float .f64 V,.int .i64 0])/\Below b.heap.size b h)) :
  Calls Tryz.prog 29 #[.agg #[v0,.int .i64 cur,.int .i64 base,.int .i64 kind,c,d,.float .f64 V0],o] w fun e h=>e=.returned (.tuple #[.float .f64 (tldV x),.int .i64 (fU x)])/\Below w.heap.size w h:=by
 have i:=hideS fun b=>jH x b (af l)
 have A:=fun w=>run_float_arith (P:=Tryz.prog) w .sub 27 .f64 _ _ _ p
 have j:=hideS (rN w v0 c d cur base kind V0);have g:=hideS ((Below.refl w.heap.size w).alloc (Nat.le_refl _) (.cells #[v0,.int .i64 cur,.int .i64 base,.int .i64 kind,c,d,.float .f64 V0] 56));obtain⟨n,f⟩:∃ n,w.alloc (.cells #[v0,.int .i64 cur,.int .i64 base,.int .i64 kind,c,d,.float .f64 V0] 56)=n:=⟨_,rfl⟩;rw [f] at j g
 obtain⟨u,y,v,s,q,z,m⟩:=j.out.t;clear p l;generalize tldV x=B at *
 generalize fU x=C at *
 go_enter Tryz.func29,Tryz.ntmps29
 go_wp2_with fail
 clear f u y v s q z m;refine (k.out _ g.out).mono ?_
 rintro e D ⟨rfl,a⟩;have r:=hideS (g.out.trans (a.mono g.out.size));have HK:=hideS (j.out.step a);obtain⟨_,_,_,_,_,_,m⟩:=HK.out.t;clear a k
 go_wp2_with (go_at_call 33;refine (turned (i.out _)).mono ?_;rintro e h ⟨rfl,rfl⟩)
 go_ret2
 exact⟨rfl,r.out⟩
noncomputable def prV (l:List Flw) (cur:Int) (c:Cv):Nat:=(wL l cur c).choose
noncomputable def prE (l:List Flw) (cur:Int) (c:Cv):Int:=(wL l cur c).choose_spec.choose
theorem prR (l:List Flw) (cur:Int) (c:Cv):PreR l cur c (prV l cur c) (prE l cur c):=(wL l cur c).choose_spec.choose_spec
theorem LH {l:List Flw} {cur:Int} {c:Cv} {V d:Nat} {E b:Int} (h:PreR l cur c V E) (a:PreR l cur c d b):V=d/\E=b:=by
 cases h with
 | bad E h e=>cases a with
  | bad b a f=>exact⟨rfl,bR h a⟩
  | ok a=>exact absurd ((kg h).2 a) e
 | ok h=>exact⟨(ns a h).1.symm,(ns a h).2.symm⟩
theorem Rf {l:List Flw} {cur:Int} {c:Cv} {V:Nat} {E:Int} (h:PreR l cur c V E):prV l cur c=V/\prE l cur c=E:=LH (prR l cur c) h
theorem cL {l:List Flw} {cur:Int} {c:Cv} (h:prE l cur c=0):FineP l cur c/\prV l cur c=valF (wsI cur c l)/\aE (prV l cur c:Nat)=true/\prV l cur c<18446744073709551616:=by
 have e:=prR l cur c;rw [h] at e
 obtain⟨a,b,d⟩:=Gq e;exact⟨a,b,d,by rw [b];exact oZ _⟩
noncomputable def chO (l:List Flw) (cur:Int) (d:Cv) (V0:Nat):Nat:=(floatBits .sub .f64 (prV l cur d) V0).getD 0
noncomputable def chV (l:List Flw) (cur:Int) (d:Cv) (V0:Nat):Nat:=if prE l cur d=0 then tldV (chO l cur d V0) else 0
noncomputable def chE (l:List Flw) (cur:Int) (d:Cv) (V0:Nat):Int:=if prE l cur d=0 then fU (chO l cur d V0) else prE l cur d
theorem CH {l:List Flw} {cur:Int} {d:Cv} {V0:Nat} (h:prE l cur d=0) (a:aE (V0:Int)=true):floatBits .sub .f64 (prV l cur d) V0=some (chO l cur d V0)/\RkW (chO l cur d V0) (gU (vI (prV l cur d) - vI V0) (-1074)):=by
 obtain⟨r,e,k⟩:=jr (bt (cL h).2.2.1) (bt a);unfold chO;rw [e];exact⟨rfl,k⟩
noncomputable def oJ (l:List Flw) (cur:Int) (d:Cv) (V0:Nat) (E:Int):Nat:=if E=0 then chV l cur d V0 else 0
noncomputable def oK (l:List Flw) (cur:Int) (d:Cv) (V0:Nat) (E:Int):Int:=if E=0 then chE l cur d V0 else E
noncomputable def rU (l:List Flw) (cur:Int) (d:Cv) (E:Int):Nat:=if E=0 then prV l cur d else 0
noncomputable def nD (l:List Flw) (cur:Int) (d:Cv) (E:Int):Int:=if E=0 then prE l cur d else E
theorem BmC.later {b:Nat} {a:Array Value} {base kind E:Int} {c g:Value} {w f:World} {d:Cv} (h:BmC b a base kind c g w d E) (e:Below w.heap.size w f):BmC b a base kind c g f d E:=fun j i=>h j (e.trans (i.mono e.size))
theorem ot (b:Nat) (a:Array Value) (l:List Flw) (d:Cv) (E cur base kind:Int) (pl:Option Addr) (bl k m N:Nat) (f g:Value) (V0:Nat) (w:World) (c:∀ args w,(callFunc b args).run Tryz.prog w=.ok (.enter b args) w) (j:BmC b a base kind f g w d E) (n:JSrc aF w pl bl k l) (q:l.length=N) (i:N<=30000) (o:dB l) :
  Calls Tryz.prog 32 #[.agg #[.slice pl N m,.int .i64 cur,.int .i64 base,.int .i64 kind,f,g,.float .f64 V0],.func (.func b) #[] a] w fun e p=>e=.returned (.tuple #[.float .f64 (rU l cur d E),.int .i64 (nD l cur d E)])/\Below w.heap.size w p:=by
 unfold rU nD
 by_cases h:E=0
 ·subst h;rw [if_pos rfl,if_pos rfl];exact CF b a l d (prE l cur d) cur base kind pl bl k m N f g V0 (prV l cur d) w c j (prR l cur d) n q i o
 ·rw [if_neg h,if_neg h];exact Ak b a d E cur base kind _ f g V0 w h c j
theorem ou (h:Nat) (a:Array Value) (l:List Flw) (d:Cv) (E cur base kind:Int) (pl:Option Addr) (bl o p N:Nat) (f g:Value) (V0:Nat) (w:World) (q:aE (V0:Int)=true) (j:∀ args w,(callFunc h args).run Tryz.prog w=.ok (.enter h args) w) (r:BmC h a base kind f g w d E) (s:JSrc aF w pl bl o l) (x:l.length=N) (k:N<=30000) (t:dB l) :
  Calls Tryz.prog 29 #[.agg #[.slice pl N p,.int .i64 cur,.int .i64 base,.int .i64 kind,f,g,.float .f64 V0],.func (.func h) #[] a] w fun e v=>e=.returned (.tuple #[.float .f64 (oJ l cur d V0 E),.int .i64 (oK l cur d V0 E)])/\Below w.heap.size w v:=by
 have b:=fun m (n:Below w.heap.size w m)=>ot h a l d E cur base kind pl bl o p N f g V0 m j (r.later n) (s.below n) x k t
 unfold oJ oK;unfold rU nD at b
 by_cases i:E=0
 ·subst i;rw [if_pos rfl,if_pos rfl];simp only [if_true] at b
  unfold chV chE
  by_cases c:prE l cur d=0
  ·rw [if_pos c,if_pos c];rw [c] at b
   obtain⟨y,u⟩:=CH c q;exact CG _ _ f g cur base kind V0 _ _ w y u.2.1 b
  ·rw [if_neg c,if_neg c];exact oq _ _ f g _ cur base kind V0 _ w c b
 ·rw [if_neg i,if_neg i];simp only [i,if_false] at b
  exact oq _ _ f g _ cur base kind V0 _ w i b
def LsO (w:World) (n:Nat) (X:Nat->Nat) (a:Nat->Int) (e:Ending) (b:World):Prop:=
 (∃ k<n,a k≠0/\(∀ j<k,a j=0)/\e=.returned (.tuple #[.slice none 0 0,.int .i64 (a k)]))\/
 ((∀ k<n,a k=0)/\∃ g,e=.returned (.tuple #[.slice (some ⟨g,0,none⟩) n n,.int .i64 0])/\b.ownsRow w.heap.size 27 1 (.slice (some ⟨g,0,none⟩) n n) n (((List.range n).map X).map fV))
theorem LI (X:Nat->Nat) {n k:Nat} (h:k<n):((List.range n).map X).getD k 0=X k:=by
 rw [List.getD_eq_getElem?_getD,List.getElem?_map,List.getElem?_range h];rfl
theorem GO (N:Nat) (e:N<=1000):∃ z,∀ w:World,(Instr.makeSlice 24 (.int .i64 (N:Int)) (.int .i64 (N:Int))).run Tryz.prog w=.ok (.slice (some ⟨w.heap.size,0,none⟩) N N) (w.alloc (.cells (madeCells z N) 27)):=by
 obtain⟨d,hi,a,c,b⟩:=info_parts jx;refine⟨(Value.float .f64 0).cells,fun w=>?_⟩
 have:=run_make (P:=Tryz.prog) w 24 27 d _ Tryz.underlying24 hi a .i64 .i64 (N:Int) (N:Int) (by omega) (by omega) (by rw [b];omega) (by omega)
 rw [c,Nat.mul_one,Int.toNat_natCast] at this
 exact this
def BoC (j:Nat) (a:Array Value) (n:Nat) (X:Nat->Nat) (i:Nat->Int) (pos:Array Value) (w:World):Prop:=
 ∀ k<n,∀ c,Below w.heap.size w c->Calls Tryz.prog j (#[.int .i64 (k:Nat)]++a) c fun e g=>(∃ h b,e=.returned (.func (.func h) #[] b)/\∀ d,Below g.heap.size g d->Calls Tryz.prog 29 #[.agg pos,.func (.func h) #[] b] d fun e f=>e=.returned (.tuple #[.float .f64 (X k),.int .i64 (i k)])/\Below d.heap.size d f)/\Below c.heap.size c g
theorem wR (J:Nat) (m:Array Value) (n:Nat) (X:Nat->Nat) (y:Nat->Int) (v0 h l:Value) (cur base kind:Int) (V0:Nat) (w:World) (hn:n<=255) (Z:∀ args w,(callFunc J args).run Tryz.prog w=.ok (.enter J args) w) (T:Hid (BoC J m n X y #[v0,.int .i64 cur,.int .i64 base,.int .i64 kind,h,l,.float .f64 V0] w)) :
  Calls Tryz.prog 21 #[.agg #[v0,.int .i64 cur,.int .i64 base,.int .i64 kind,h,l,.float .f64 V0],.int .i64 (n:Nat),.func (.func J) #[] m] w fun e U=>LsO w n X y e U/\Below w.heap.size w U:=by
 obtain⟨z,R⟩:=GO n (by omega)
 have P:=hideS (rN w v0 h l cur base kind V0);have I:=hideS ((Below.refl w.heap.size w).alloc (Nat.le_refl _) (.cells #[v0,.int .i64 cur,.int .i64 base,.int .i64 kind,h,l,.float .f64 V0] 56));obtain⟨f,v⟩:∃ f,w.alloc (.cells #[v0,.int .i64 cur,.int .i64 base,.int .i64 kind,h,l,.float .f64 V0] 56)=f:=⟨_,rfl⟩;have O:f.heap.size=w.heap.size+1:=by rw [<- v];simp
 rw [v] at P I
 have b:Hid (PsB (f.alloc (.cells (madeCells z n) 27)) w.heap.size v0 cur base kind h l V0/\RowF (f.alloc (.cells (madeCells z n) 27)) f.heap.size n (((List.range n).map X).take 0)/\Below w.heap.size w (f.alloc (.cells (madeCells z n) 27))):=⟨P.out.step ((Below.refl _ _).alloc (Nat.le_refl _) _),FR f n z,I.out.alloc I.out.size _⟩;have o:Hid (w.heap.size+1<=f.heap.size):=by show _<=_;omega
 clear O
 go_enter Tryz.func21,Tryz.ntmps21
 go_wp2_with fail
 clear v P I R;generalize f.heap.size=g at *
 go_loopw [9,10,11,15] (fun _ _ _ i B=>∃ k:Nat,k<=n/\i=.int .i64 k/\Hid (∀ j<k,y j=0)/\Hid (PsB B w.heap.size v0 cur base kind h l V0/\RowF B g n (((List.range n).map X).take k)/\Below w.heap.size w B)) (fun _ _ _ i _=>n - (intOf i).toNat)
 case atStart=>exact⟨0,Nat.zero_le _,rfl,fun j S=>by omega,b⟩
 case round=>
  clear b;obtain⟨k,hk,rfl,M,b⟩:=hrel
  by_cases c:k<n
  ·have N:=hideS (LI X c);have D:=hideS (T.out k c);unfold BoC at T
   obtain⟨t0,t1,t2,t3,t4,t5,t6⟩:=b.out.1.t
   go_wp2_with fail
   go_region_held3 (fun x=>x.cell? ⟨w.heap.size,0,none⟩=some v0/\x.cell? ⟨w.heap.size,1,none⟩=some (.int .i64 cur)/\x.cell? ⟨w.heap.size,2,none⟩=some (.int .i64 base)/\x.cell? ⟨w.heap.size,3,none⟩=some (.int .i64 kind)/\x.cell? ⟨w.heap.size,4,none⟩=some h/\x.cell? ⟨w.heap.size,5,none⟩=some l/\x.cell? ⟨w.heap.size,6,none⟩=some (.float .f64 V0)) (first | go_keep | exact E.out.t | exact HK2.out.t) (first | (go_at_call 29;refine (C.out _ (Below.refl _ _)).mono ?_;rintro e K ⟨rfl,H⟩;have q:=hideS (r.out.trans (H.mono r.out.size));have E:=hideS (b.out.1.step q.out);clear H) | (refine (D.out _ b.out.2.2.drew).mono ?_;rintro e w2 ⟨⟨fN,W,rfl,G⟩,a⟩;have r:Hid (Below B.heap.size B w2):=⟨a.os,a.tape,a.output,a.size,a.block⟩;have HK2:=hideS (b.out.1.step r.out);have C:=hideS G;clear a G))
   all_goals
    clear t0 t1 t2 t3 t4 t5 t6 D C HK2;have s:=hideS (b.out.2.1.stay q.out b.out.2.1.lt);have F:=hideS (b.out.2.2.trans (q.out.mono b.out.2.2.size))
    by_cases A:y k=0
    ·have Y:Hid (PsB (K.setCell ⟨g,k,none⟩ (.float .f64 (X k))) w.heap.size v0 cur base kind h l V0/\RowF (K.setCell ⟨g,k,none⟩ (.float .f64 (X k))) g n (((List.range n).map X).take (k+1))/\Below w.heap.size w (K.setCell ⟨g,k,none⟩ (.float .f64 (X k)))):=by
      have hb:=(Below.refl g K).setCell (p:=⟨g,k,none⟩) (Nat.le_refl _) (.float .f64 (X k));exact⟨E.out.stay hb (by have:=o.out;omega),Ke (X k) s.out c (by simp;exact c) N.out,F.out.setCell (p:=⟨g,k,none⟩) (by show w.heap.size<=g;have:=o.out;omega) _⟩
     have L:Hid (∀ j<k+1,y j=0):=fun j S=>by
      rcases Nat.lt_or_eq_of_le (Nat.le_of_lt_succ S) with d | d
      ·exact M.out j d
      ·rw [d];exact A
     obtain⟨u,hu⟩:=s.out.cell c;have hz:=s.out.frozen k;have V:=bJ;rw [A];clear A
     go_wp2_with fail
     go_roundw
     case rel=>exact⟨k+1,by omega,by simp,L,Y⟩
     case measure=>simp [intOf];omega
    ·have dE:(y k !=0)=true:=bne_iff_ne.2 A;have Q:=hideS A;clear A
     go_wp2_with fail
     go_ret2
     exact⟨Or.inl ⟨k,c,Q.out,M.out,rfl⟩,F.out⟩
  ·obtain rfl:k=n:=by omega
   go_wp2_with fail
   go_ret2
   refine⟨Or.inr ⟨M.out,g,rfl,?_⟩,b.out.2.2⟩
   have:=b.out.2.1.own (base:=w.heap.size) (by rw [List.length_take,List.length_map,List.length_range];omega) (by have:=o.out;omega) (by omega)
   rw [List.take_of_length_le (by simp)] at this
   exact this
theorem CI (args:Array Value) (w:World):(callFunc 22 args).run Tryz.prog w=.ok (.enter 22 args) w:=mc Tryz.func22 (by kernel_rfl) rfl args w
theorem Al (args:Array Value) (w:World):(callFunc 23 args).run Tryz.prog w=.ok (.enter 23 args) w:=mc Tryz.func23 (by kernel_rfl) rfl args w
theorem rV (args:Array Value) (w:World):(callFunc 46 args).run Tryz.prog w=.ok (.enter 46 args) w:=mc Tryz.func46 (by kernel_rfl) rfl args w
theorem GP (k a:Nat) (w:World) :
  Calls Tryz.prog 22 #[.int .i64 (k:Nat),.pointer (some ⟨a,0,none⟩)] w fun e b=>e=.returned (.func (.func 23) #[] #[.pointer (some ⟨w.heap.size,0,none⟩),.pointer (some ⟨a,0,none⟩)])/\b=w.alloc (.cells #[.int .i64 (k:Nat)] 3):=by
 have c:=me
 go_enter Tryz.func22,Tryz.ntmps22
 go_wp2_with fail
 go_ret
 exact⟨rfl,rfl⟩
theorem CJ (h:Nat) (w:World) :
  Calls Tryz.prog 30 #[.float .f64 h] w fun e b=>e=.returned (.func (.func 46) #[] #[.pointer (some ⟨w.heap.size,0,none⟩)])/\b=w.alloc (.cells #[.float .f64 h] 27):=by
 have a:=me
 go_enter Tryz.func30,Tryz.ntmps30
 go_wp2_with fail
 go_ret
 exact⟨rfl,rfl⟩
theorem Am {c u1 u2 u3 e:World} {B b:Nat} {d:Cv} {g cx f cy:Nat} {i j o k:Value} (h:OwnC c B d g cx f cy) (a:b<B) (l:c.setCell ⟨b,0,none⟩ i=u1) (p:u1.setCell ⟨b,1,none⟩ j=u2) (m:u2.setCell ⟨b,2,none⟩ o=u3) (n:u3.setCell ⟨b,3,none⟩ k=e):OwnC e B d g cx f cy:=by
 rw [<- n,<- m,<- p,<- l];exact (((h.put a _).put a _).put a _).put a _
theorem CK (c d:Cv) (k h q u:Nat) (E:Int) (o s:Value) (w:World) (hi:w.cell? ⟨q,0,none⟩=some (.int .i64 (k:Nat))) (n:q<w.heap.size) (N:w.cell? ⟨u,0,none⟩=some (.float .f64 h)) (j:u<w.heap.size)
  (G:Hid (∀ F,Below w.heap.size w F->Calls Tryz.prog 18 #[.agg #[.int .i64 c.base,.int .i64 c.kind,o,s],.int .i64 (k:Nat),.float .f64 h] F fun e M=>CvO F d E e M)) :
  Calls Tryz.prog 23 #[.agg #[.int .i64 c.base,.int .i64 c.kind,o,s],.pointer (some ⟨q,0,none⟩),.pointer (some ⟨u,0,none⟩)] w fun e M=>CvO w d E e M:=by
 have b:=hideS (iU w c.base c.kind o s);generalize c.base=base at *
 generalize c.kind=kind at *
 obtain⟨V,f⟩:∃ V,(w.alloc (.cells #[.int .i64 base,.int .i64 kind,o,s] 26)).alloc ar=V:=⟨_,rfl⟩;rw [f] at b
 unfold ar at f
 obtain⟨t0,t1,t2,t3⟩:=b.out.k.t;have K:=(b.out.bl.cell (p:=⟨q,0,none⟩) n).trans hi;have C:=(b.out.bl.cell (p:=⟨u,0,none⟩) j).trans N;clear hi N n j
 go_enter Tryz.func23,Tryz.ntmps23
 go_wp2_with fail
 clear f K C t0 t1 t2 t3;refine (G.out _ b.out.bl).mono ?_
 intro e W m;have a:=hideS (b.out.step m.bl);have O:=hideS b.out.sz
 by_cases B:E=0
 ·subst B;obtain⟨A,x,y,r,rfl,P⟩:=m.ok rfl;obtain⟨u1,u2,u3,S,⟨Q,z0,y0⟩,⟨U,z1,y1⟩,⟨R,z2,y2⟩,⟨T,z3,y3⟩,i,l⟩:=bD (w.heap.size+1) d.base d.kind (.slice (some ⟨A,0,none⟩) d.ds.length x) (.slice (some ⟨y,0,none⟩) d.fs.length r) W a.out.z;have HO:=hideS (Am P (by have:=O.out;omega) Q U R T)
  have g:=hideS (a.out.bl.trans (l.mono (by omega)))
  obtain⟨H,D,I,L⟩:=i.t;have J:Hid (∀ v,v=Value.tuple #[.agg #[.int .i64 d.base,.int .i64 d.kind,.slice (some ⟨A,0,none⟩) d.ds.length x,.slice (some ⟨y,0,none⟩) d.fs.length r],.int .i64 0]->CvO w d 0 (.returned v) S):=fun v X=>by
   subst X;exact⟨fun h=>absurd rfl h,fun _=>⟨A,x,y,r,rfl,HO.out.mono (by have:=O.out;omega)⟩,g.out⟩
  clear P i l m b G;generalize d.ds.length=n1 at *
  generalize d.fs.length=n2 at *
  generalize d.base=db at *
  generalize d.kind=Z at *
  go_wp2_with fail
  refine bodyPost_ret (v:=.tuple #[.agg #[.int .i64 db,.int .i64 Z,.slice (some ⟨A,0,none⟩) n1 x,.slice (some ⟨y,0,none⟩) n2 r],.int .i64 0]) (by simp [results,Tryz.results23,go_sem,H,D,I,L]) rfl ?_
  exact J.out _ rfl
 ·have Y:=m.bad B;subst Y;obtain⟨u1,u2,u3,S,⟨Q,z0,y0⟩,⟨U,z1,y1⟩,⟨R,z2,y2⟩,⟨T,z3,y3⟩,i,l⟩:=bD (w.heap.size+1) 0 0 (.slice none 0 0) (.slice none 0 0) W a.out.z;have g:=hideS (a.out.bl.trans (l.mono (by omega)))
  obtain⟨H,D,I,L⟩:=i.t;have J:=hideS B;clear i l m B b G
  go_wp2_with fail
  refine bodyPost_ret (v:=.tuple #[.agg #[.int .i64 0,.int .i64 0,.slice none 0 0,.slice none 0 0],.int .i64 E]) (by simp [results,Tryz.results23,go_sem,H,D,I,L]) rfl ?_
  exact⟨fun _=>rfl,fun h=>absurd h J.out,g.out⟩
theorem GQ (c d:Cv) (h r:Nat) (E:Int) (n q:Value) (w:World) (K:w.cell? ⟨r,0,none⟩=some (.float .f64 h)) (j:r<w.heap.size)
  (D:Hid (∀ C,Below w.heap.size w C->Calls Tryz.prog 19 #[.agg #[.int .i64 c.base,.int .i64 c.kind,n,q],.float .f64 h] C fun e J=>CvO C d E e J)) :
  Calls Tryz.prog 46 #[.agg #[.int .i64 c.base,.int .i64 c.kind,n,q],.pointer (some ⟨r,0,none⟩)] w fun e J=>CvO w d E e J:=by
 have b:=hideS (iU w c.base c.kind n q);generalize c.base=base at *
 generalize c.kind=kind at *
 obtain⟨S,f⟩:∃ S,(w.alloc (.cells #[.int .i64 base,.int .i64 kind,n,q] 26)).alloc ar=S:=⟨_,rfl⟩;rw [f] at b
 unfold ar at f
 obtain⟨t0,t1,t2,t3⟩:=b.out.k.t;have A:=(b.out.bl.cell (p:=⟨r,0,none⟩) j).trans K;clear K j
 go_enter Tryz.func46,Tryz.ntmps46
 go_wp2_with fail
 clear f A t0 t1 t2 t3;refine (D.out _ b.out.bl).mono ?_
 intro e T m;have a:=hideS (b.out.step m.bl);have L:=hideS b.out.sz
 by_cases y:E=0
 ·subst y;obtain⟨x,s,u,o,rfl,M⟩:=m.ok rfl;obtain⟨u1,u2,u3,P,⟨N,z0,Y⟩,⟨R,z1,y1⟩,⟨O,z2,y2⟩,⟨Q,z3,y3⟩,i,l⟩:=bD (w.heap.size+1) d.base d.kind (.slice (some ⟨x,0,none⟩) d.ds.length s) (.slice (some ⟨u,0,none⟩) d.fs.length o) T a.out.z;have X:=hideS (Am M (by have:=L.out;omega) N R O Q)
  have g:=hideS (a.out.bl.trans (l.mono (by omega)))
  obtain⟨F,B,G,I⟩:=i.t;have H:Hid (∀ v,v=Value.tuple #[.agg #[.int .i64 d.base,.int .i64 d.kind,.slice (some ⟨x,0,none⟩) d.ds.length s,.slice (some ⟨u,0,none⟩) d.fs.length o],.int .i64 0]->CvO w d 0 (.returned v) P):=fun v U=>by
   subst U;exact⟨fun h=>absurd rfl h,fun _=>⟨x,s,u,o,rfl,X.out.mono (by have:=L.out;omega)⟩,g.out⟩
  clear M i l m b D;generalize d.ds.length=n1 at *
  generalize d.fs.length=Z at *
  generalize d.base=db at *
  generalize d.kind=W at *
  go_wp2_with fail
  refine bodyPost_ret (v:=.tuple #[.agg #[.int .i64 db,.int .i64 W,.slice (some ⟨x,0,none⟩) n1 s,.slice (some ⟨u,0,none⟩) Z o],.int .i64 0]) (by simp [results,Tryz.results46,go_sem,F,B,G,I]) rfl ?_
  exact H.out _ rfl
 ·have V:=m.bad y;subst V;obtain⟨u1,u2,u3,P,⟨N,z0,Y⟩,⟨R,z1,y1⟩,⟨O,z2,y2⟩,⟨Q,z3,y3⟩,i,l⟩:=bD (w.heap.size+1) 0 0 (.slice none 0 0) (.slice none 0 0) T a.out.z;have g:=hideS (a.out.bl.trans (l.mono (by omega)))
  obtain⟨F,B,G,I⟩:=i.t;have H:=hideS y;clear i l m y b D
  go_wp2_with fail
  refine bodyPost_ret (v:=.tuple #[.agg #[.int .i64 0,.int .i64 0,.slice none 0 0,.slice none 0 0],.int .i64 E]) (by simp [results,Tryz.results46,go_sem,F,B,G,I]) rfl ?_
  exact⟨fun _=>rfl,fun h=>absurd h H.out,g.out⟩
noncomputable def lnV (l:List Flw) (cur:Int) (c:Cv) (h k:Nat):Nat:=oJ l cur (c.bump k h) (prV l cur c) (bmE c k h)
noncomputable def lnE (l:List Flw) (cur:Int) (c:Cv) (h k:Nat):Int:=oK l cur (c.bump k h) (prV l cur c) (bmE c k h)
theorem LJ {c:Cv} {k h:Nat} (b:c.Ok) (f:k<c.ds.length):∃ d,BmpR c (k:Nat) h d (bmE c k h)/\(bmE c k h=0->d=c.bump k h):=by
 rcases bmE_cases c k h with⟨a,e⟩| ⟨a,e⟩
 ·rw [e];exact⟨_,.ok b k f rfl a,fun _=>rfl⟩
 ·rw [e];exact⟨_,.val b k f rfl a,fun h=>absurd h (by decide)⟩
theorem LK {l:List Flw} {cur:Int} {d d':Cv} {V0:Nat} {E:Int} (h:E=0->d=d'):oJ l cur d V0 E=oJ l cur d' V0 E/\oK l cur d V0 E=oK l cur d' V0 E:=by
 unfold oJ oK
 by_cases e:E=0
 ·rw [h e];exact⟨rfl,rfl⟩
 ·rw [if_neg e,if_neg e,if_neg e,if_neg e];exact⟨rfl,rfl⟩
theorem On (l:List Flw) (cur:Int) (c:Cv) (h f:Nat) (pl:Option Addr) (bl B C N:Nat) (n j:Option Addr) (bd z r D A s:Nat) (w:World) (I:c.Ok) (E:prE l cur c=0) (H:h<18446744073709551616) (hc:w.cell? ⟨f,0,none⟩=some (.float .f64 h)) (m:f<w.heap.size) (K:JSrc aF w pl bl B l) (R:l.length=N) (x:N<=30000) (P:dB l) (S:TFl w n j bd z D A c.ds c.fs) :
  BoC 22 #[.pointer (some ⟨f,0,none⟩)] c.ds.length (lnV l cur c h) (lnE l cur c h) #[.slice pl N C,.int .i64 cur,.int .i64 c.base,.int .i64 c.kind,.slice n c.ds.length r,.slice j c.fs.length s,.float .f64 (prV l cur c)] w:=fun k Q a g=>by
 refine (GP k f a).mono ?_
 rintro e V ⟨rfl,rfl⟩;have t:Below a.heap.size a (a.alloc (.cells #[.int .i64 (k:Nat)] 3)):=(Below.refl _ _).alloc (Nat.le_refl _) _;refine⟨⟨_,_,rfl,fun v u=>?_⟩,t⟩
 obtain⟨d,U,M⟩:=LJ (h:=h) I Q;have i:Below w.heap.size w v:=(g.trans (t.mono g.size)).trans (u.mono (Nat.le_trans g.size t.size));have hi:(a.alloc (.cells #[.int .i64 (k:Nat)] 3)).cell? ⟨a.heap.size,0,none⟩=some (.int .i64 (k:Nat)):=cT a _ _ 0;have q:a.heap.size<(a.alloc (.cells #[.int .i64 (k:Nat)] 3)).heap.size:=by simp
 have L:BmC 23 #[.pointer (some ⟨a.heap.size,0,none⟩),.pointer (some ⟨f,0,none⟩)] c.base c.kind (.slice n c.ds.length r) (.slice j c.fs.length s) v d (bmE c k h):=fun F y=>by
  have b:=i.trans (y.mono i.size);have o:=u.trans (y.mono u.size);exact CK c d k h a.heap.size f (bmE c k h) _ _ F ((o.cell (p:=⟨a.heap.size,0,none⟩) q).trans hi) (Nat.lt_of_lt_of_le q o.size) ((b.cell (p:=⟨f,0,none⟩) m).trans hc) (Nat.lt_of_lt_of_le m b.size) (fun G O=>uB c d k h (bmE c k h) n j bd z r D A s G U H (S.below (b.trans (O.mono b.size))))
 have:=ou 23 _ l d (bmE c k h) cur c.base c.kind pl bl B C N (.slice n c.ds.length r) (.slice j c.fs.length s) (prV l cur c) v (cL E).2.2.1 Al L (K.below i) R x P;obtain⟨T,J⟩:=LK (l:=l) (cur:=cur) (V0:=prV l cur c) M;rw [T,J] at this
 exact this
structure LaB (w:World) (base kind:Int) (vd vf:Value) (h:Nat) (wr:World):Prop where
 k:BxK wr w.heap.size base kind vd vf
 c:wr.cell? ⟨w.heap.size+1,0,none⟩=some (.float .f64 h)
 lt:w.heap.size+1<wr.heap.size
 bl:Below w.heap.size w wr
theorem LaB.step {w wr d:World} {base kind:Int} {b e:Value} {h:Nat} (H:LaB w base kind b e h wr) (a:Below wr.heap.size wr d):LaB w base kind b e h d:=
 ⟨H.k.step a,(a.cell (p:=⟨w.heap.size+1,0,none⟩) H.lt).trans H.c,Nat.lt_of_lt_of_le H.lt a.size,H.bl.trans (a.mono H.bl.size)⟩
theorem LL (w:World) (base kind:Int) (a b:Value) (h:Nat):LaB w base kind a b h ((w.alloc (.cells #[.int .i64 base,.int .i64 kind,a,b] 26)).alloc (.cells #[.float .f64 h] 27)):=by
 have c:(w.alloc (.cells #[.int .i64 base,.int .i64 kind,a,b] 26)).heap.size=w.heap.size+1:=by simp
 refine⟨(rl w base kind a b).step ((Below.refl _ _).alloc (Nat.le_refl _) _),?_,by simp,((Below.refl _ _).alloc (Nat.le_refl _) _).alloc (by rw [c];omega) _⟩
 rw [<- c];exact cT _ _ _ 0
theorem An (cur base kind E:Int) (h:Nat) (r g j:Value) (w:World) (q:E≠0) (o:Hid (∀ i,Below w.heap.size w i->Calls Tryz.prog 20 #[r,.int .i64 cur,.agg #[.int .i64 base,.int .i64 kind,g,j]] i fun e l=>e=.returned (.tuple #[.agg #[.slice none 0 0,.int .i64 0,.int .i64 0,.int .i64 0,.slice none 0 0,.slice none 0 0,.float .f64 0],.int .i64 E])/\Below i.heap.size i l)) :
  Calls Tryz.prog 7 #[r,.int .i64 cur,.agg #[.int .i64 base,.int .i64 kind,g,j],.float .f64 h] w fun e l=>e=.returned (.tuple #[.slice none 0 0,.int .i64 E])/\Below w.heap.size w l:=by
 have N:(E !=0)=true:=bne_iff_ne.2 q;have b:=hideS (LL w base kind g j h);obtain⟨u,d⟩:∃ u,(w.alloc (.cells #[.int .i64 base,.int .i64 kind,g,j] 26)).alloc (.cells #[.float .f64 h] 27)=u:=⟨_,rfl⟩;rw [d] at b
 obtain⟨D,G,F,C⟩:=b.out.k.t;clear q
 go_enter Tryz.func7,Tryz.ntmps7
 go_wp2_with fail
 clear d D G F C;refine (o.out _ b.out.bl).mono ?_
 rintro e n ⟨rfl,f⟩;have a:=hideS (b.out.step f);clear f o b;obtain⟨P,X,u3,K,Z,O,A,⟨y,B,z⟩,⟨e1,z1,R⟩,⟨J,U,T⟩,⟨S,z3,y3⟩,⟨e4,L,V⟩,⟨W,H,Q⟩,⟨Y,M,I⟩,x,p⟩:=gv n.heap.size (.slice none 0 0) 0 0 0 (.slice none 0 0) (.slice none 0 0) 0 (n.alloc aR) (heap_alloc_new _ _);have m:Hid (Below w.heap.size w A):=(a.out.bl.alloc a.out.bl.size aR).trans (p.mono a.out.bl.size);obtain⟨s,c⟩:∃ s,n.alloc aR=s:=⟨_,rfl⟩;rw [c] at y B z
 unfold aR at c
 have v:=bJ;clear x p
 go_wp2_with fail
 go_ret2
 exact⟨rfl,m.out⟩
theorem CL (cur base kind:Int) (h n V0:Nat) (X:Nat->Nat) (q:Nat->Int) (pl:Option Addr) (r N:Nat) (d i:Option Addr) (j f m:Nat) (w:World) (hn:n<=255)
  (O:Hid (∀ b,Below w.heap.size w b->Calls Tryz.prog 20 #[.slice pl N r,.int .i64 cur,.agg #[.int .i64 base,.int .i64 kind,.slice d n j,.slice i m f]] b fun e B=>e=.returned (.tuple #[.agg #[.slice pl N r,.int .i64 cur,.int .i64 base,.int .i64 kind,.slice d n j,.slice i m f,.float .f64 V0],.int .i64 0])/\Below b.heap.size b B))
  (Q:Hid (∀ b E,Below w.heap.size w b->b.cell? ⟨E,0,none⟩=some (.float .f64 h)->E<b.heap.size->BoC 22 #[.pointer (some ⟨E,0,none⟩)] n X q #[.slice pl N r,.int .i64 cur,.int .i64 base,.int .i64 kind,.slice d n j,.slice i m f,.float .f64 V0] b)) :
  Calls Tryz.prog 7 #[.slice pl N r,.int .i64 cur,.agg #[.int .i64 base,.int .i64 kind,.slice d n j,.slice i m f],.float .f64 h] w fun e B=>LsO w n X q e B/\Below w.heap.size w B:=by
 have v:=hideS (LL w base kind (.slice d n j) (.slice i m f) h);obtain⟨J,s⟩:∃ J,(w.alloc (.cells #[.int .i64 base,.int .i64 kind,.slice d n j,.slice i m f] 26)).alloc (.cells #[.float .f64 h] 27)=J:=⟨_,rfl⟩;rw [s] at v
 obtain⟨I,T,M,H⟩:=v.out.k.t
 go_enter Tryz.func7,Tryz.ntmps7
 go_wp2_with fail
 clear s I T M H;refine (O.out _ v.out.bl).mono ?_
 rintro e p ⟨rfl,u⟩;have F:=hideS (v.out.step u);clear u O v;obtain⟨u1,u2,u3,u4,u5,u6,G,⟨U,Y,W⟩,⟨e1,z1,y1⟩,⟨e2,z2,y2⟩,⟨e3,z3,y3⟩,⟨e4,z4,y4⟩,⟨e5,z5,y5⟩,⟨e6,z6,y6⟩,L,R⟩:=gv p.heap.size (.slice pl N r) cur base kind (.slice d n j) (.slice i m f) V0 (p.alloc aR) (heap_alloc_new _ _);have z:Below p.heap.size p G:=((Below.refl _ p).alloc (Nat.le_refl _) aR).trans R;have a:=hideS (F.out.step z);have o:=hideS (wR 22 #[.pointer (some ⟨w.heap.size+1,0,none⟩)] n X q (.slice pl N r) (.slice d n j) (.slice i m f) cur base kind V0 G hn CI (Q.out G (w.heap.size+1) a.out.bl a.out.c a.out.lt));obtain⟨s0,s1,s2,s3,s4,s5,s6⟩:=L.t;obtain⟨I,T,M,H⟩:=a.out.k.t;obtain⟨S,A⟩:∃ S,p.alloc aR=S:=⟨_,rfl⟩;rw [A] at U Y W
 unfold aR at A
 have Z:=bJ;have ab:=me;clear L R z Q
 go_wp2_with fail
 refine o.out.mono ?_
 rintro e K ⟨C,l⟩;have y:=hideS (a.out.bl.trans (l.mono a.out.bl.size));have HS:=hideS a.out.bl.size;rcases C with⟨k,V,P,x,rfl⟩| ⟨x,g,rfl,C⟩
 ·have D:Hid (LsO w n X q (.returned (.tuple #[.slice none 0 0,.int .i64 (q k)])) K):=Or.inl ⟨k,V,P,x,rfl⟩;clear l o P x
  go_wp2_with fail
  go_ret2
  exact⟨D.out,y.out⟩
 ·have D:Hid (LsO w n X q (.returned (.tuple #[.slice (some ⟨g,0,none⟩) n n,.int .i64 0])) K):=Or.inr ⟨x,g,rfl,bS C HS.out⟩;clear l o x C
  go_wp2_with fail
  go_ret2
  exact⟨D.out,y.out⟩
theorem CM (l:List Flw) (cur:Int) (c:Cv) (h:Nat) (pl:Option Addr) (bl r o N:Nat) (j i:Option Addr) (bd p m t q n:Nat) (w:World) (D:h<18446744073709551616) (u:JSrc aF w pl bl r l) (x:l.length=N) (g:N<=30000) (v:dB l) (z:TFl w j i bd p t q c.ds c.fs) :
  Calls Tryz.prog 7 #[.slice pl N o,.int .i64 cur,.agg #[.int .i64 c.base,.int .i64 c.kind,.slice j c.ds.length m,.slice i c.fs.length n],.float .f64 h] w fun e s=>((prE l cur c≠0/\e=.returned (.tuple #[.slice none 0 0,.int .i64 (prE l cur c)]))\/(prE l cur c=0/\LsO w c.ds.length (lnV l cur c h) (lnE l cur c h) e s))/\Below w.heap.size w s:=by
 by_cases d:prE l cur c=0
 ·have C:=prR l cur c;rw [d] at C
  have A:=(cL d).1.ok;refine (CL cur c.base c.kind h c.ds.length (prV l cur c) (lnV l cur c h) (lnE l cur c h) pl o N j i m n c.fs.length w A.hi (fun k f=>rT l cur c pl bl r o N j i bd p m t q n k _ C (u.below f) x g v (z.below f)) (fun k f B E y=>On l cur c h f pl bl r o N j i bd p m t q n k A d D E y (u.below B) x g v (z.below B))).mono ?_
  rintro e s ⟨a,b⟩;exact⟨Or.inr ⟨d,a⟩,b⟩
 ·refine (An cur c.base c.kind (prE l cur c) h _ _ _ w d (fun k f=>nC l cur c pl bl r o N j i bd p m t q n k _ _ (prR l cur c) d (u.below f) x g v (z.below f))).mono ?_
  rintro e s ⟨a,b⟩;exact⟨Or.inl ⟨d,a⟩,b⟩
end Go.Proofs.YtfdddijdjpijbaaGreat
