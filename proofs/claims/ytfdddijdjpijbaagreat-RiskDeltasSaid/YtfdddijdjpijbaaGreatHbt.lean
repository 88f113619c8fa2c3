/-  -/
import Derived.Test.YtfdddijdjpijbaaGreatHbs
import Derived.Test.YtfdddijdjpijbaaGreatHbr
import Derived.Test.YtfdddijdjpijbaaGreatFnv
set_option maxHeartbeats 6400000
set_option maxRecDepth 20000
namespace Go.Proofs.YtfdddijdjpijbaaGreat
open Go.RowKit
structure DpB (w:World) (base kind:Int) (vd vf:Value) (wr:World):Prop where
 k:DxK wr w.heap.size base kind vd vf
 z:wr.heap[w.heap.size+1]? =some bG
 bl:Below w.heap.size w wr
 sz:w.heap.size+2<=wr.heap.size
theorem rQ (w:World) (base kind:Int) (a c:Value):DpB w base kind a c ((w.alloc (.cells #[.int .i64 base,.int .i64 kind,a,c] 39)).alloc bG):=by
 have d:(w.alloc (.cells #[.int .i64 base,.int .i64 kind,a,c] 39)).heap.size=w.heap.size+1:=by simp
 have b:=(Below.refl (w.heap.size+1) (w.alloc (.cells #[.int .i64 base,.int .i64 kind,a,c] 39))).alloc (by omega) bG
 refine⟨⟨?_⟩,?_,((Below.refl _ _).alloc (Nat.le_refl _) _).alloc (by omega) _,by simp⟩
 ·rw [b.block _ (by omega)];exact heap_alloc_new _ _
 ·rw [<- d];exact heap_alloc_new _ _
theorem DpB.step {w wr b:World} {base kind:Int} {c d:Value} (h:DpB w base kind c d wr) (a:Below wr.heap.size wr b):DpB w base kind c d b:=
 ⟨h.k.step a,(a.block _ (by have:=h.sz;omega)).trans h.z,h.bl.trans (a.mono h.bl.size),Nat.le_trans h.sz a.size⟩
structure DvE (w:World) (E:Int) (e:Ending) (w':World):Prop where
 e:e=.returned (.tuple #[.agg #[.int .i64 0,.int .i64 0,.slice none 0 0,.slice none 0 0],.int .i64 E])
 bl:Below w.heap.size w w'
theorem rR {c u1 u2 u3 d:World} {B b n:Nat} {v:Value} {xs:List Nat} {g e j m:Value} (h:c.ownsRow B 41 1 v n (xs.map uV)) (a:b<B) (f:c.setCell ⟨b,0,none⟩ g=u1) (i:u1.setCell ⟨b,1,none⟩ e=u2) (k:u2.setCell ⟨b,2,none⟩ j=u3) (l:u3.setCell ⟨b,3,none⟩ m=d):d.ownsRow B 41 1 v n (xs.map uV):=by
 rw [<- l,<- k,<- i,<- f];exact bw (bw (bw (bw h a _) a _) a _) a _
def GN (w:World) (base kind E:Int) (c d:Value):Prop:=∀ a,Below w.heap.size w a->Calls Tryz.prog 42 #[.agg #[.int .i64 base,.int .i64 kind,c,d]] a fun e b=>e=.returned (.int .i64 E)/\Below a.heap.size a b
theorem Af (base kind E:Int) (i:Int) (h:Int) (f g:Value) (w:World) (n:E≠0) (o:Hid (GN w base kind E f g)) :
  Calls Tryz.prog 25 #[.agg #[.int .i64 base,.int .i64 kind,f,g],.int .i64 i,.int .u64 h] w fun e x=>DvE w E e x:=by
 have G:(E !=0)=true:=bne_iff_ne.2 n;clear n;have b:=hideS (rQ w base kind (f) (g));obtain⟨l,a⟩:∃ l,(w.alloc (.cells #[.int .i64 base,.int .i64 kind,f,g] 39)).alloc bG=l:=⟨_,rfl⟩;rw [a] at b
 unfold bG at a
 obtain⟨y,r,C,D⟩:=b.out.k.t
 go_enter Tryz.func25,Tryz.ntmps25
 go_wp2_with fail
 clear a y r C D;refine (o.out _ b.out.bl).mono ?_
 rintro e s ⟨rfl,c⟩;have d:=hideS (b.out.step c);clear c o b;obtain⟨M,R,S,U,⟨H,T,Q⟩,⟨L,J,V⟩,⟨N,K,O⟩,⟨P,I,F⟩,m,p⟩:=dH (w.heap.size+1) 0 0 (.slice none 0 0) (.slice none 0 0) s d.out.z;have j:=hideS (d.out.bl.trans (p.mono (by omega)))
 obtain⟨u,B,q,A⟩:=m.t;clear m p
 go_wp2_with fail
 refine bodyPost_ret (v:=.tuple #[.agg #[.int .i64 0,.int .i64 0,.slice none 0 0,.slice none 0 0],.int .i64 E]) (by simp [results,Tryz.results25,go_sem,u,B,q,A]) rfl ?_
 exact⟨rfl,j.out⟩
theorem CC (base kind E:Int) (h:Int) (f g:Value) (w:World) (m:E≠0) (n:Hid (GN w base kind E f g)) :
  Calls Tryz.prog 47 #[.agg #[.int .i64 base,.int .i64 kind,f,g],.int .u64 h] w fun e u=>DvE w E e u:=by
 have F:(E !=0)=true:=bne_iff_ne.2 m;clear m;have b:=hideS (rQ w base kind (f) (g));obtain⟨j,a⟩:∃ j,(w.alloc (.cells #[.int .i64 base,.int .i64 kind,f,g] 39)).alloc bG=j:=⟨_,rfl⟩;rw [a] at b
 unfold bG at a
 obtain⟨x,q,B,C⟩:=b.out.k.t
 go_enter Tryz.func47,Tryz.ntmps47
 go_wp2_with fail
 clear a x q B C;refine (n.out _ b.out.bl).mono ?_
 rintro e r ⟨rfl,c⟩;have d:=hideS (b.out.step c);clear c n b;obtain⟨L,Q,R,T,⟨G,S,P⟩,⟨K,I,U⟩,⟨M,J,N⟩,⟨O,H,D⟩,l,o⟩:=dH (w.heap.size+1) 0 0 (.slice none 0 0) (.slice none 0 0) r d.out.z;have i:=hideS (d.out.bl.trans (o.mono (by omega)))
 obtain⟨s,A,p,y⟩:=l.t;clear l o
 go_wp2_with fail
 refine bodyPost_ret (v:=.tuple #[.agg #[.int .i64 0,.int .i64 0,.slice none 0 0,.slice none 0 0],.int .i64 E]) (by simp [results,Tryz.results47,go_sem,s,A,p,y]) rfl ?_
 exact⟨rfl,i.out⟩
theorem Ah (base kind:Int) (i:Int) (h:Int) (g:Value) (j:Option Addr) (n l:Nat) (w:World) (hi:¬ (0<=i/\i<(n:Int))) (B:Hid (GN w base kind 0 g (.slice j n l))) :
  Calls Tryz.prog 25 #[.agg #[.int .i64 base,.int .i64 kind,g,.slice j n l],.int .i64 i,.int .u64 h] w fun e E=>DvE w 1 e E:=by
 have c:=hideS (rQ w base kind (g) (.slice j n l));obtain⟨p,a⟩:∃ p,(w.alloc (.cells #[.int .i64 base,.int .i64 kind,g,.slice j n l] 39)).alloc bG=p:=⟨_,rfl⟩;rw [a] at c
 unfold bG at a
 obtain⟨s,o,y,A⟩:=c.out.k.t
 go_enter Tryz.func25,Tryz.ntmps25
 go_wp2_with fail
 clear a s o y A;refine (B.out _ c.out.bl).mono ?_
 rintro e D ⟨rfl,d⟩;have b:=hideS (c.out.step d);clear d B c;obtain⟨s,o,y,A⟩:=b.out.k.t;obtain⟨N,S,T,V,⟨I,U,R⟩,⟨M,K,W⟩,⟨O,L,P⟩,⟨Q,J,F⟩,q,C⟩:=dH (w.heap.size+1) 0 0 (.slice none 0 0) (.slice none 0 0) D b.out.z;have f:=hideS (b.out.bl.trans (C.mono (by omega)))
 obtain⟨r,x,m,u⟩:=q.t;clear q C
 by_cases H:i<0
 ·clear hi
  go_wp2_with fail
  refine bodyPost_ret (v:=.tuple #[.agg #[.int .i64 0,.int .i64 0,.slice none 0 0,.slice none 0 0],.int .i64 1]) (by simp [results,Tryz.results25,go_sem,r,x,m,u]) rfl ?_
  exact⟨rfl,f.out⟩
 ·have G:(n:Int)<=i:=by omega
  clear hi
  go_wp2_with fail
  refine bodyPost_ret (v:=.tuple #[.agg #[.int .i64 0,.int .i64 0,.slice none 0 0,.slice none 0 0],.int .i64 1]) (by simp [results,Tryz.results25,go_sem,r,x,m,u]) rfl ?_
  exact⟨rfl,f.out⟩
def Re (w:World) (base kind:Int) (c d:Option Addr) (n cx cy:Nat) (i j h:Nat) (L:List Nat) (b:Bool):Prop:=∀ a,Below w.heap.size w a->Calls Tryz.prog 43 #[.agg #[.int .i64 base,.int .i64 kind,.slice c n cx,.slice d n cy],.int .i64 i,.int .i64 j,.int .u64 (h:Int)] a fun e f=>BqO a base kind c n cx L b e f
structure BgO (w:World) (base kind:Int) (px:Option Addr) (n cx:Nat) (L:List Nat) (bad:Bool) (e:Ending) (w':World):Prop where
 no:bad=true->DvE w 91 e w'
 yes:bad=false->BqO w base kind px n cx L false e w'
theorem rS (base kind:Int) (f p:Option Addr) (n cx cy k h:Nat) (L:List Nat) (l:Bool) (w:World) (hk:k<n) (hn:n<=255) (hh:h<18446744073709551616) (R:L.length=n) (HC:Hid (GN w base kind 0 (.slice f n cx) (.slice p n cy))) (HD:Hid (aE (h:Int)=true->Re w base kind f p n cx cy k (k+1) h L l)) :
  Calls Tryz.prog 25 #[.agg #[.int .i64 base,.int .i64 kind,.slice f n cx,.slice p n cy],.int .i64 k,.int .u64 (h:Int)] w fun e w'=>BgO w base kind f n cx L (!aE (h:Int)||l) e w':=by
 have E:=hideS fun wx=>bK (h:Int) wx (af hh)
 have o:=hideS (rQ w base kind (.slice f n cx) (.slice p n cy));obtain⟨Q,j⟩:∃ Q,(w.alloc (.cells #[.int .i64 base,.int .i64 kind,.slice f n cx,.slice p n cy] 39)).alloc bG=Q:=⟨_,rfl⟩;rw [j] at o
 unfold bG at j
 obtain⟨B,A,C,D⟩:=o.out.k.t;have l1:(0:Int)<=(k:Int):=Int.natCast_nonneg _;have l2:(k:Int)<(n:Int):=by omega
 have I:=hideS R;have ab:IntKind.i64.wrap ((k:Int)+1)=((k+1:Nat):Int):=by rw [IntKind.wrap_i64];omega
 clear hh R;generalize aE (h:Int)=b1 at *
 go_enter Tryz.func25,Tryz.ntmps25
 go_wp2_with fail
 clear j B A C D;refine (HC.out _ o.out.bl).mono ?_
 rintro e U ⟨rfl,s⟩;have a:=hideS (o.out.step s);clear s HC o;obtain⟨B,A,C,D⟩:=a.out.k.t
 go_wp2_with fail
 refine (turned (E.out _)).mono ?_
 rintro e w4 ⟨rfl,rfl⟩;cases b1
 ·obtain⟨X,u2,u3,u4,⟨F,z0,Z⟩,⟨J,V,y1⟩,⟨K,W,Y⟩,⟨M,T,O⟩,d,i⟩:=dH (w.heap.size+1) 0 0 (.slice none 0 0) (.slice none 0 0) U a.out.z;have b:=hideS (a.out.bl.trans (i.mono (by omega)))
  obtain⟨u,y,m,x⟩:=d.t;clear d i
  go_wp2_with fail
  refine bodyPost_ret (v:=.tuple #[.agg #[.int .i64 0,.int .i64 0,.slice none 0 0,.slice none 0 0],.int .i64 91]) (by simp [results,Tryz.results25,go_sem,u,y,m,x]) rfl ?_
  exact⟨fun _=>⟨rfl,b.out⟩,fun e=>(by cases e)⟩
 ·go_wp2_with fail
  refine (HD.out (by first | trivial | rfl) _ a.out.bl).mono ?_
  rintro e P r;have c:=hideS (a.out.step r.bl);have N:=a.out.sz;have HZ:=hideS N;cases l
  ·obtain⟨v,rfl,H⟩:=r.yes rfl;obtain⟨q,g,S,rfl,_,_,_,_⟩:=bq H I.out;obtain⟨X,u2,u3,u4,⟨F,z0,Z⟩,⟨J,V,y1⟩,⟨K,W,Y⟩,⟨M,T,O⟩,d,i⟩:=dH (w.heap.size+1) base kind (.slice f n cx) (.slice q n S) P c.out.z;have b:=hideS (c.out.bl.trans (i.mono (by omega)))
   have G:=hideS (gr (rR H (by omega) F J K M) (by omega:w.heap.size<=U.heap.size))
   obtain⟨u,y,m,x⟩:=d.t;clear d i H r B A C D
   go_wp2_with fail
   refine bodyPost_ret (v:=.tuple #[.agg #[.int .i64 base,.int .i64 kind,.slice f n cx,.slice q n S],.int .i64 0]) (by simp [results,Tryz.results25,go_sem,u,y,m,x]) rfl ?_
   exact⟨fun e=>(by cases e),fun _=>⟨fun e=>(by cases e),fun _=>⟨_,rfl,G.out⟩,b.out⟩⟩
  ·obtain rfl:=r.no rfl;obtain⟨X,u2,u3,u4,⟨F,z0,Z⟩,⟨J,V,y1⟩,⟨K,W,Y⟩,⟨M,T,O⟩,d,i⟩:=dH (w.heap.size+1) 0 0 (.slice none 0 0) (.slice none 0 0) P c.out.z;have b:=hideS (c.out.bl.trans (i.mono (by omega)))
   obtain⟨u,y,m,x⟩:=d.t;clear d i r B A C D
   go_wp2_with fail
   refine bodyPost_ret (v:=.tuple #[.agg #[.int .i64 0,.int .i64 0,.slice none 0 0,.slice none 0 0],.int .i64 91]) (by simp [results,Tryz.results25,go_sem,u,y,m,x]) rfl ?_
   exact⟨fun _=>⟨rfl,b.out⟩,fun e=>(by cases e)⟩
theorem uD (base kind:Int) (f p:Option Addr) (n cx cy h:Nat) (L:List Nat) (l:Bool) (w:World) (hh:h<18446744073709551616) (S:L.length=n) (HC:Hid (GN w base kind 0 (.slice f n cx) (.slice p n cy))) (HD:Hid (aE (h:Int)=true->Re w base kind f p n cx cy 0 n h L l)) :
  Calls Tryz.prog 47 #[.agg #[.int .i64 base,.int .i64 kind,.slice f n cx,.slice p n cy],.int .u64 (h:Int)] w fun e w'=>BgO w base kind f n cx L (!aE (h:Int)||l) e w':=by
 have E:=hideS fun wx=>bK (h:Int) wx (af hh)
 have o:=hideS (rQ w base kind (.slice f n cx) (.slice p n cy));obtain⟨Q,j⟩:∃ Q,(w.alloc (.cells #[.int .i64 base,.int .i64 kind,.slice f n cx,.slice p n cy] 39)).alloc bG=Q:=⟨_,rfl⟩;rw [j] at o
 unfold bG at j
 obtain⟨B,A,C,D⟩:=o.out.k.t;have I:=hideS S;clear hh S;generalize aE (h:Int)=b1 at *
 go_enter Tryz.func47,Tryz.ntmps47
 go_wp2_with fail
 clear j B A C D;refine (HC.out _ o.out.bl).mono ?_
 rintro e U ⟨rfl,s⟩;have a:=hideS (o.out.step s);clear s HC o;obtain⟨B,A,C,D⟩:=a.out.k.t
 go_wp2_with fail
 refine (turned (E.out _)).mono ?_
 rintro e w4 ⟨rfl,rfl⟩;cases b1
 ·obtain⟨X,u2,u3,u4,⟨F,z0,Z⟩,⟨J,V,y1⟩,⟨K,W,Y⟩,⟨M,T,O⟩,d,i⟩:=dH (w.heap.size+1) 0 0 (.slice none 0 0) (.slice none 0 0) U a.out.z;have b:=hideS (a.out.bl.trans (i.mono (by omega)))
  obtain⟨u,y,m,x⟩:=d.t;clear d i
  go_wp2_with fail
  refine bodyPost_ret (v:=.tuple #[.agg #[.int .i64 0,.int .i64 0,.slice none 0 0,.slice none 0 0],.int .i64 91]) (by simp [results,Tryz.results47,go_sem,u,y,m,x]) rfl ?_
  exact⟨fun _=>⟨rfl,b.out⟩,fun e=>(by cases e)⟩
 ·go_wp2_with fail
  refine (HD.out (by first | trivial | rfl) _ a.out.bl).mono ?_
  rintro e P r;have c:=hideS (a.out.step r.bl);have N:=a.out.sz;have HZ:=hideS N;cases l
  ·obtain⟨v,rfl,H⟩:=r.yes rfl;obtain⟨q,g,R,rfl,_,_,_,_⟩:=bq H I.out;obtain⟨X,u2,u3,u4,⟨F,z0,Z⟩,⟨J,V,y1⟩,⟨K,W,Y⟩,⟨M,T,O⟩,d,i⟩:=dH (w.heap.size+1) base kind (.slice f n cx) (.slice q n R) P c.out.z;have b:=hideS (c.out.bl.trans (i.mono (by omega)))
   have G:=hideS (gr (rR H (by omega) F J K M) (by omega:w.heap.size<=U.heap.size))
   obtain⟨u,y,m,x⟩:=d.t;clear d i H r B A C D
   go_wp2_with fail
   refine bodyPost_ret (v:=.tuple #[.agg #[.int .i64 base,.int .i64 kind,.slice f n cx,.slice q n R],.int .i64 0]) (by simp [results,Tryz.results47,go_sem,u,y,m,x]) rfl ?_
   exact⟨fun e=>(by cases e),fun _=>⟨fun e=>(by cases e),fun _=>⟨_,rfl,G.out⟩,b.out⟩⟩
  ·obtain rfl:=r.no rfl;obtain⟨X,u2,u3,u4,⟨F,z0,Z⟩,⟨J,V,y1⟩,⟨K,W,Y⟩,⟨M,T,O⟩,d,i⟩:=dH (w.heap.size+1) 0 0 (.slice none 0 0) (.slice none 0 0) P c.out.z;have b:=hideS (c.out.bl.trans (i.mono (by omega)))
   obtain⟨u,y,m,x⟩:=d.t;clear d i r B A C D
   go_wp2_with fail
   refine bodyPost_ret (v:=.tuple #[.agg #[.int .i64 0,.int .i64 0,.slice none 0 0,.slice none 0 0],.int .i64 91]) (by simp [results,Tryz.results47,go_sem,u,y,m,x]) rfl ?_
   exact⟨fun _=>⟨rfl,b.out⟩,fun e=>(by cases e)⟩
theorem Ec {xs ys:List Nat} (b:xs.length=ys.length) (h:∀ t<xs.length,xs.getD t 0=ys.getD t 0):xs=ys:=
 List.ext_getElem b fun t a c=>by
  have:=h t a;rw [List.getD_eq_getElem?_getD,List.getD_eq_getElem?_getD,List.getElem?_eq_getElem a,List.getElem?_eq_getElem c] at this
  exact this
theorem LF (c:Cv) (i j h n t:Nat) (a:t<n):(bqL c i j h n).getD t 0=bqV c i j h t:=by
 unfold bqL;rw [List.getD_eq_getElem?_getD,List.getElem?_map,List.getElem?_range a];rfl
theorem Ai {c:Cv} {k h:Nat} (b:c.Ok) (d:k<c.ds.length):bqL c k (k+1) h c.ds.length=(c.bump k h).fs:=
 Ec (by rw [cA];show _=(c.fs.set k _).length;rw [List.length_set,b.len]) fun t a=>by
  rw [cA] at a
  rw [LF _ _ _ _ _ _ a,mw (by rw [b.len];exact d)]
  unfold bqV
  by_cases e:t=k
  ·subst e;rw [if_pos ⟨Nat.le_refl _,Nat.lt_succ_self _⟩,if_pos rfl]
  ·rw [if_neg (by omega),if_neg e]
theorem Aj {c:Cv} {h:Nat} (b:c.Ok):bqL c 0 c.ds.length h c.ds.length=(c.para h).fs:=
 Ec (by rw [cA];show _=(c.parL h _).length;rw [eJ,b.len]) fun t a=>by
  rw [cA] at a
  rw [LF _ _ _ _ _ _ a]
  show _=(c.parL h c.ds.length).getD t 0
  rw [mu c h _ (by rw [b.len];exact Nat.le_refl _)]
  unfold bqV;rw [if_pos ⟨Nat.zero_le _,a⟩,if_pos a]
structure DvO (w:World) (d:Cv) (E:Int) (px:Option Addr) (bx ox cx:Nat) (e:Ending) (w':World):Prop where
 bad:E≠0->e=.returned (.tuple #[.agg #[.int .i64 0,.int .i64 0,.slice none 0 0,.slice none 0 0],.int .i64 E])
 ok:E=0->∃ q g cc,e=.returned (.tuple #[.agg #[.int .i64 d.base,.int .i64 d.kind,.slice px d.ds.length cx,.slice q d.fs.length cc],.int .i64 0])/\CSrcD w' px q bx ox g 0 d.ds d.fs/\w.heap.size<=g
 bl:Below w.heap.size w w'
theorem DvE.dv {w b:World} {d:Cv} {E:Int} {g:Option Addr} {c i cx:Nat} {e:Ending} (h:DvE w E e b) (f:E≠0):DvO w d E g c i cx e b:=⟨fun _=>h.e,fun a=>absurd a f,h.bl⟩
theorem BqO.dv {w l:World} {c:Cv} {L:List Nat} {f p:Option Addr} {n m t o cx:Nat} {e:Ending} (h:BqO w c.base c.kind f c.ds.length cx L false e l) (x:CSrcD w f p n m t o c.ds c.fs) (k:L.length=c.ds.length) (r:∀ i<L.length,L.getD i 0<18446744073709551616):DvO w ⟨c.base,c.kind,c.ds,L⟩ 0 f n m cx e l:=by
 obtain⟨v,y,s⟩:=h.yes rfl;obtain⟨q,g,j,rfl,b,u,_,_⟩:=bq s k;refine⟨fun a=>absurd rfl a,fun _=>⟨q,g,j,?_,⟨(x.below h.bl).d,⟨b.at_,b.lt,b.cell⟩,fun i hi=>af (r i hi)⟩,u⟩,h.bl⟩
 show e=.returned (.tuple #[.agg #[.int .i64 c.base,.int .i64 c.kind,.slice f c.ds.length cx,.slice q L.length j],.int .i64 0])
 rw [k];exact y
theorem CD {c:Cv} {E:Int} {w:World} {b a:Option Addr} {d g e f cx cy:Nat} (h:CSrcD w b a d g e f c.ds c.fs) (i:c.Chk E):GN w c.base c.kind E (.slice b c.ds.length cx) (.slice a c.fs.length cy):=
 fun j k=>dC c.base c.kind b a d g cx e f cy c.ds c.fs j (h.below k) i
theorem ON (c d:Cv) (i E:Int) (h:Nat) (l f:Option Addr) (s r cx y x cy:Nat) (w:World) (u:h<18446744073709551616) (g:CSrcD w l f s r y x c.ds c.fs) (z:c.Fit) (D:BmpR c i h d E) :
  Calls Tryz.prog 25 #[.agg #[.int .i64 c.base,.int .i64 c.kind,.slice l c.ds.length cx,.slice f c.fs.length cy],.int .i64 i,.int .u64 (h:Int)] w fun e p=>DvO w d E l s r cx e p:=by
 cases D with
 | chk E F C=>exact (Af c.base c.kind E i h _ _ w C (CD g F)).mono fun e p a=>a.dv C
 | arg ok hi=>exact (Ah c.base c.kind i h _ f c.fs.length cy w (by rw [ok.len];exact hi) (CD g (.ok ok))).mono fun e p a=>a.dv (by decide)
 | val ok k m e q=>
  subst e;have B:=ok.len;have o:=CD (cx:=cx) (cy:=cy) g (.ok ok);rw [B] at o ⊢
  refine (rS c.base c.kind l f c.ds.length cx cy k h (bqL c k (k+1) h c.ds.length) true w m ok.hi u (cA _ _ _ _ _) o (fun v A j=>?_)).mono fun e p a=>(a.no (by simp)).dv (by decide)
  have:=ew c k (k+1) h c.ds.length k l f s r cx y x cy A ok (g.below j) z rfl u v (by omega) (fun t G a _=>absurd a (by omega)) (fun _=>⟨Nat.le_refl _,Nat.lt_succ_self _,q⟩)
  rw [decide_eq_true m] at this
  exact this
 | ok ok k m e q=>
  subst e;have B:=ok.len;have o:=CD (cx:=cx) (cy:=cy) g (.ok ok);have n:=(rL q).2;rw [B] at o ⊢
  refine (rS c.base c.kind l f c.ds.length cx cy k h (bqL c k (k+1) h c.ds.length) false w m ok.hi u (cA _ _ _ _ _) o (fun v A j=>?_)).mono fun e p a=>?_
  ·have:=ew c k (k+1) h c.ds.length c.ds.length l f s r cx y x cy A ok (g.below j) z rfl u v (Nat.le_refl _) (fun t G a b=>by rw [show t=k by omega];exact q) (fun a=>absurd a (by omega))
   rw [decide_eq_false (by omega)] at this
   exact this
  ·have:=(a.yes (by rw [n];rfl)).dv g (cA _ _ _ _ _) (fun i hi=>by rw [Ai ok m] at hi ⊢;exact Lz ok z m q i hi)
   rw [Ai ok m] at this
   exact this
theorem CE (c d:Cv) (E:Int) (h:Nat) (f g:Option Addr) (r q cx x v cy:Nat) (w:World) (s:h<18446744073709551616) (j:CSrcD w f g r q x v c.ds c.fs) (y:c.Fit) (F:ParR c h d E) :
  Calls Tryz.prog 47 #[.agg #[.int .i64 c.base,.int .i64 c.kind,.slice f c.ds.length cx,.slice g c.fs.length cy],.int .u64 (h:Int)] w fun e p=>DvO w d E f r q cx e p:=by
 cases F with
 | chk E G C=>exact (CC c.base c.kind E h _ _ w C (CD j G)).mono fun e p a=>a.dv C
 | val ok k D o l=>
  have A:=ok.len;have n:=CD (cx:=cx) (cy:=cy) j (.ok ok);rw [A] at n ⊢
  refine (uD c.base c.kind f g c.ds.length cx cy h (bqL c 0 c.ds.length h c.ds.length) true w s (cA _ _ _ _ _) n (fun u z b=>?_)).mono fun e p a=>(a.no (by simp)).dv (by decide)
  have:=ew c 0 c.ds.length h c.ds.length k f g r q cx x v cy z ok (j.below b) y rfl s u (by omega) (fun t B _ _=>l t B) (fun _=>⟨Nat.zero_le _,D,o⟩)
  rw [decide_eq_true D] at this
  exact this
 | ok ok o=>
  have A:=ok.len;have n:=CD (cx:=cx) (cy:=cy) j (.ok ok);have m:=(rL (o 0 ok.lo)).2;rw [A] at n ⊢
  refine (uD c.base c.kind f g c.ds.length cx cy h (bqL c 0 c.ds.length h c.ds.length) false w s (cA _ _ _ _ _) n (fun u z b=>?_)).mono fun e p a=>?_
  ·have:=ew c 0 c.ds.length h c.ds.length c.ds.length f g r q cx x v cy z ok (j.below b) y rfl s u (Nat.le_refl _) (fun t B _ _=>o t B) (fun a=>absurd a (by omega))
   rw [decide_eq_false (by omega)] at this
   exact this
  ·have:=(a.yes (by rw [m];rfl)).dv j (cA _ _ _ _ _) (fun i hi=>by rw [Aj ok] at hi ⊢;exact Ac ok y o i hi)
   rw [Aj ok] at this
   exact this
structure HoB (w:World) (base kind:Int) (vd vf:Value) (wr:World):Prop where
 k:BxK wr w.heap.size base kind vd vf
 z:wr.heap[w.heap.size+1]? =some aR
 bl:Below w.heap.size w wr
theorem HoB.step {w wr b:World} {base kind:Int} {c d:Value} (h:HoB w base kind c d wr) (a:Below wr.heap.size wr b):HoB w base kind c d b:=
 ⟨h.k.step a,(a.block _ (Array.getElem?_eq_some_iff.1 h.z).1).trans h.z,h.bl.trans (a.mono h.bl.size)⟩
theorem LG (w:World) (base kind:Int) (a b:Value):HoB w base kind a b ((w.alloc (.cells #[.int .i64 base,.int .i64 kind,a,b] 26)).alloc aR):=by
 have c:(w.alloc (.cells #[.int .i64 base,.int .i64 kind,a,b] 26)).heap.size=w.heap.size+1:=by simp
 refine⟨(rl w base kind a b).step ((Below.refl _ _).alloc (Nat.le_refl _) _),?_,((Below.refl _ _).alloc (Nat.le_refl _) _).alloc (by rw [c];omega) _⟩
 rw [<- c];exact heap_alloc_new _ _
theorem rT (l:List Flw) (cur:Int) (c:Cv) (pl:Option Addr) (bl I i N:Nat) (a b:Option Addr) (bd H g L F d:Nat) (w:World) (V:Nat) (h:PreR l cur c V 0) (x:JSrc aF w pl bl I l) (s:l.length=N) (r:N<=30000) (D:dB l) (u:TFl w a b bd H L F c.ds c.fs) :
  Calls Tryz.prog 20 #[.slice pl N i,.int .i64 cur,.agg #[.int .i64 c.base,.int .i64 c.kind,.slice a c.ds.length g,.slice b c.fs.length d]] w fun e P=>e=.returned (.tuple #[.agg #[.slice pl N i,.int .i64 cur,.int .i64 c.base,.int .i64 c.kind,.slice a c.ds.length g,.slice b c.fs.length d,.float .f64 V],.int .i64 0])/\Below w.heap.size w P:=by
 have y:=hideS fun G (O:Below w.heap.size w G)=>rm l cur c pl bl I i N a b bd H g L F d G V 0 h (x.below O) s r D (u.below O)
 have j:=hideS (LG w c.base c.kind (.slice a c.ds.length g) (.slice b c.fs.length d));clear h x s D u;generalize c.ds.length=n at *
 generalize c.fs.length=q at *
 generalize c.base=base at *
 generalize c.kind=kind at *
 obtain⟨M,f⟩:∃ M,(w.alloc (.cells #[.int .i64 base,.int .i64 kind,.slice a n g,.slice b q d] 26)).alloc aR=M:=⟨_,rfl⟩;rw [f] at j
 unfold aR at f
 obtain⟨B,A,J,C⟩:=j.out.k.t
 go_enter Tryz.func20,Tryz.ntmps20
 go_wp2_with fail
 clear f B A J C;refine (y.out _ j.out.bl).mono ?_
 rintro e Y ⟨rfl,m⟩;have p:=hideS (j.out.step m);clear m j y;obtain⟨B,A,J,C⟩:=p.out.k.t;obtain⟨u1,u2,u3,u4,u5,u6,u7,⟨e0,z0,y0⟩,⟨e1,z1,y1⟩,⟨e2,z2,y2⟩,⟨e3,z3,y3⟩,⟨e4,z4,y4⟩,⟨e5,z5,y5⟩,⟨e6,z6,y6⟩,E,K⟩:=gv (w.heap.size+1) (.slice pl N i) cur base kind (.slice a n g) (.slice b q d) V Y p.out.z;have Z:=hideS E;have o:=hideS (p.out.bl.trans (K.mono (by omega)))
 have R:=bJ;clear E K
 go_wp2_with fail
 obtain⟨T,U,X,Q,s4,W,S⟩:=Z.out.t;refine bodyPost_ret (v:=.tuple #[.agg #[.slice pl N i,.int .i64 cur,.int .i64 base,.int .i64 kind,.slice a n g,.slice b q d,.float .f64 V],.int .i64 0]) (by simp [results,Tryz.results20,go_sem,T,U,X,Q,s4,W,S]) rfl ?_
 exact⟨rfl,o.out⟩
theorem nC (l:List Flw) (cur:Int) (c:Cv) (pl:Option Addr) (bl F q N:Nat) (f g:Option Addr) (bd D j H A i:Nat) (w:World) (V:Nat) (E:Int) (h:PreR l cur c V E) (u:E≠0) (r:JSrc aF w pl bl F l) (o:l.length=N) (n:N<=30000) (x:dB l) (p:TFl w f g bd D H A c.ds c.fs) :
  Calls Tryz.prog 20 #[.slice pl N q,.int .i64 cur,.agg #[.int .i64 c.base,.int .i64 c.kind,.slice f c.ds.length j,.slice g c.fs.length i]] w fun e K=>e=.returned (.tuple #[.agg #[.slice none 0 0,.int .i64 0,.int .i64 0,.int .i64 0,.slice none 0 0,.slice none 0 0,.float .f64 0],.int .i64 E])/\Below w.heap.size w K:=by
 have s:=hideS fun C (J:Below w.heap.size w C)=>rm l cur c pl bl F q N f g bd D j H A i C V E h (r.below J) o n x (p.below J)
 have b:=hideS (LG w c.base c.kind (.slice f c.ds.length j) (.slice g c.fs.length i));have dE:(E !=0)=true:=bne_iff_ne.2 u;clear h r o x p u;generalize c.ds.length=S at *
 generalize c.fs.length=X at *
 generalize c.base=base at *
 generalize c.kind=kind at *
 obtain⟨I,a⟩:∃ I,(w.alloc (.cells #[.int .i64 base,.int .i64 kind,.slice f S j,.slice g X i] 26)).alloc aR=I:=⟨_,rfl⟩;rw [a] at b
 unfold aR at a
 obtain⟨R,P,Y,U⟩:=b.out.k.t
 go_enter Tryz.func20,Tryz.ntmps20
 go_wp2_with fail
 clear a R P Y U;refine (s.out _ b.out.bl).mono ?_
 rintro e w2 ⟨rfl,d⟩;have B:=hideS (b.out.step d);clear d b s;obtain⟨u1,u2,u3,u4,u5,u6,u7,⟨e0,z0,y0⟩,⟨e1,z1,y1⟩,⟨e2,z2,y2⟩,⟨e3,z3,y3⟩,⟨e4,z4,y4⟩,⟨e5,z5,y5⟩,⟨e6,z6,y6⟩,y,G⟩:=gv (w.heap.size+1) (.slice none 0 0) 0 0 0 (.slice none 0 0) (.slice none 0 0) 0 w2 B.out.z;have HZ:=hideS y;have m:=hideS (B.out.bl.trans (G.mono (by omega)))
 have M:=bJ;clear y G
 go_wp2_with fail
 obtain⟨Q,T,Z,L,s4,W,O⟩:=HZ.out.t;refine bodyPost_ret (v:=.tuple #[.agg #[.slice none 0 0,.int .i64 0,.int .i64 0,.int .i64 0,.slice none 0 0,.slice none 0 0,.float .f64 0],.int .i64 E]) (by simp [results,Tryz.results20,go_sem,Q,T,Z,L,s4,W,O]) rfl ?_
 exact⟨rfl,m.out⟩
def BmC (f:Nat) (a:Array Value) (base kind:Int) (g h:Value) (w:World) (d:Cv) (E:Int):Prop:=∀ b,Below w.heap.size w b->Calls Tryz.prog f (#[.agg #[.int .i64 base,.int .i64 kind,g,h]]++a) b fun e c=>CvO b d E e c
theorem Ak (i:Nat) (f:Array Value) (d:Cv) (E cur base kind:Int) (v0 b g:Value) (V0:Nat) (w:World) (l:E≠0) (G:∀ args w,(callFunc i args).run Tryz.prog w=.ok (.enter i args) w) (o:Hid (BmC i f base kind b g w d E)) :
  Calls Tryz.prog 32 #[.agg #[v0,.int .i64 cur,.int .i64 base,.int .i64 kind,b,g,.float .f64 V0],.func (.func i) #[] f] w fun e C=>e=.returned (.tuple #[.float .f64 0,.int .i64 E])/\Below w.heap.size w C:=by
 have N:(E !=0)=true:=bne_iff_ne.2 l;have F:=hideS l;have r:=hideS (rN w v0 b g cur base kind V0);have h:=hideS ((Below.refl w.heap.size w).alloc (Nat.le_refl _) (.cells #[v0,.int .i64 cur,.int .i64 base,.int .i64 kind,b,g,.float .f64 V0] 56));obtain⟨q,c⟩:∃ q,w.alloc (.cells #[v0,.int .i64 cur,.int .i64 base,.int .i64 kind,b,g,.float .f64 V0] 56)=q:=⟨_,rfl⟩;rw [c] at r h
 obtain⟨D,v,I,J,z,u,A⟩:=r.out.t;unfold BmC at o
 clear l
 go_enter Tryz.func32,Tryz.ntmps32
 go_wp2_with fail
 clear c D v I J z u A;refine (o.out _ h.out).mono ?_
 intro e k n;have B:=n.bad F.out;subst B;have j:=hideS (h.out.trans (n.bl.mono h.out.size));clear n o;obtain⟨S,W,X,L,⟨x,K,H⟩,⟨R,P,Y⟩,⟨T,Q,U⟩,⟨V,O,M⟩,y,s⟩:=bD k.heap.size 0 0 (.slice none 0 0) (.slice none 0 0) (k.alloc ar) (heap_alloc_new _ _);have m:Hid (Below w.heap.size w L):=(j.out.alloc j.out.size ar).trans (s.mono j.out.size);obtain⟨p,a⟩:∃ p,k.alloc ar=p:=⟨_,rfl⟩;rw [a] at x K H
 unfold ar at a
 clear y s
 go_wp2_with fail
 go_ret2
 exact⟨rfl,m.out⟩
theorem CF (y:Nat) (q:Array Value) (l:List Flw) (d:Cv) (E cur base kind:Int) (pl:Option Addr) (bl T i N:Nat) (u j:Value) (V0 V:Nat) (w:World) (ab:∀ args w,(callFunc y args).run Tryz.prog w=.ok (.enter y args) w) (G:Hid (BmC y q base kind u j w d 0)) (I:PreR l cur d V E) (K:JSrc aF w pl bl T l) (J:l.length=N) (H:N<=30000) (Q:dB l) :
  Calls Tryz.prog 32 #[.agg #[.slice pl N i,.int .i64 cur,.int .i64 base,.int .i64 kind,u,j,.float .f64 V0],.func (.func y) #[] q] w fun e Z=>e=.returned (.tuple #[.float .f64 V,.int .i64 E])/\Below w.heap.size w Z:=by
 have v:=hideS fun D B c m f r (hb:Below w.heap.size w D) (h:OwnC D B d c m f r)=>rm l cur d pl bl T i N (some ⟨c,0,none⟩) (some ⟨f,0,none⟩) c 0 m f 0 r D V E I (K.below hb) J H Q h.src
 have x:=hideS (rN w (.slice pl N i) u j cur base kind V0);have s:=hideS ((Below.refl w.heap.size w).alloc (Nat.le_refl _) (.cells #[.slice pl N i,.int .i64 cur,.int .i64 base,.int .i64 kind,u,j,.float .f64 V0] 56));obtain⟨W,n⟩:∃ W,w.alloc (.cells #[.slice pl N i,.int .i64 cur,.int .i64 base,.int .i64 kind,u,j,.float .f64 V0] 56)=W:=⟨_,rfl⟩;rw [n] at x s
 obtain⟨P,M,t2,t3,Y,X,t6⟩:=x.out.t;unfold BmC at G
 clear I K J Q
 go_enter Tryz.func32,Tryz.ntmps32
 go_wp2_with fail
 clear n P M t2 t3 Y X t6;refine (G.out _ s.out).mono ?_
 intro e g h;obtain⟨c,m,f,r,he,L⟩:=h.ok rfl;subst he;have O:=hideS (s.out.trans (h.bl.mono s.out.size));have HK:=hideS (x.out.step h.bl);clear h G x s;obtain⟨u1,u2,u3,F,⟨e0,z0,y0⟩,⟨e1,z1,y1⟩,⟨e2,z2,y2⟩,⟨e3,z3,y3⟩,R,U⟩:=bD g.heap.size d.base d.kind (.slice (some ⟨c,0,none⟩) d.ds.length m) (.slice (some ⟨f,0,none⟩) d.fs.length r) (g.alloc ar) (heap_alloc_new _ _);have a:Below g.heap.size g F:=((Below.refl _ g).alloc (Nat.le_refl _) ar).trans U;have b:Hid (Below w.heap.size w F):=O.out.trans (a.mono O.out.size);have C:=hideS (L.below a);have A:=hideS (HK.out.step a);have k:=hideS (v.out F _ c m f r b.out C.out);obtain⟨S,o⟩:∃ S,g.alloc ar=S:=⟨_,rfl⟩;rw [o] at e0 z0 y0
 unfold ar at o
 obtain⟨s0,s1,s2,s3⟩:=R.t;obtain⟨P,M,_,_,_,_,_⟩:=A.out.t;clear R U a L v HK;generalize d.ds.length=n1 at *
 generalize d.fs.length=n2 at *
 generalize d.base=db at *
 generalize d.kind=dk at *
 go_wp2_with fail
 refine k.out.mono ?_
 rintro e w5 ⟨rfl,p⟩;have z:=hideS (b.out.trans (p.mono b.out.size));clear p k
 go_wp2_with fail
 go_ret2
 exact⟨rfl,z.out⟩
theorem oq (i v0 a d:Value) (E cur base kind:Int) (V0 V:Nat) (w:World) (j:E≠0)
  (m:Hid (∀ g,Below w.heap.size w g->Calls Tryz.prog 32 #[.agg #[v0,.int .i64 cur,.int .i64 base,.int .i64 kind,a,d,.float .f64 V0],i] g fun e h=>e=.returned (.tuple #[.float .f64 V,.int .i64 E])/\Below g.heap.size g h)) :
  Calls Tryz.prog 29 #[.agg #[v0,.int .i64 cur,.int .i64 base,.int .i64 kind,a,d,.float .f64 V0],i] w fun e h=>e=.returned (.tuple #[.float .f64 0,.int .i64 E])/\Below w.heap.size w h:=by
 have x:(E !=0)=true:=bne_iff_ne.2 j;have l:=hideS (rN w v0 a d cur base kind V0);have f:=hideS ((Below.refl w.heap.size w).alloc (Nat.le_refl _) (.cells #[v0,.int .i64 cur,.int .i64 base,.int .i64 kind,a,d,.float .f64 V0] 56));obtain⟨k,b⟩:∃ k,w.alloc (.cells #[v0,.int .i64 cur,.int .i64 base,.int .i64 kind,a,d,.float .f64 V0] 56)=k:=⟨_,rfl⟩;rw [b] at l f
 obtain⟨s,o,u,v,q,n,r⟩:=l.out.t;clear j
 go_enter Tryz.func29,Tryz.ntmps29
 go_wp2_with fail
 clear b s o u v q n r;refine (m.out _ f.out).mono ?_
 rintro e y ⟨rfl,c⟩;have p:=hideS (f.out.trans (c.mono f.out.size));clear c m
 go_wp2_with fail
 go_ret2
 exact⟨rfl,p.out⟩
theorem CG (l v0 c f:Value) (cur base kind:Int) (V0 V x:Nat) (w:World) (k:floatBits .sub .f64 V V0=some x) (o:x<18446744073709551616)
  (p:Hid (∀ b,Below w.heap.size w b->Calls Tryz.prog 32 #[.agg #[v0,.int .i64 cur,.int .i64 base,.int .i64 kind,c,f,.float .f64 V0],l] b fun e h=>e=.returned (.tuple #[.float .f64 V,.int .i64 0])/\Below b.heap.size b h)) :
  Calls Tryz.prog 29 #[.agg #[v0,.int .i64 cur,.int .i64 base,.int .i64 kind,c,f,.float .f64 V0],l] w fun e h=>e=.returned (.tuple #[.float .f64 (tldV x),.int .i64 (fU x)])/\Below w.heap.size w h:=by
 have j:=hideS fun b=>jH x b (af o)
 have D:=fun w=>run_float_arith (P:=Tryz.prog) w .sub 27 .f64 _ _ _ k
 have i:=hideS (rN w v0 c f cur base kind V0);have g:=hideS ((Below.refl w.heap.size w).alloc (Nat.le_refl _) (.cells #[v0,.int .i64 cur,.int .i64 base,.int .i64 kind,c,f,.float .f64 V0] 56));obtain⟨n,d⟩:∃ n,w.alloc (.cells #[v0,.int .i64 cur,.int .i64 base,.int .i64 kind,c,f,.float .f64 V0] 56)=n:=⟨_,rfl⟩;rw [d] at i g
 obtain⟨v,r,y,z,u,q,m⟩:=i.out.t;clear k o;generalize tldV x=A at *
 generalize fU x=C at *
 go_enter Tryz.func29,Tryz.ntmps29
 go_wp2_with fail
 clear d v r y z u q m;refine (p.out _ g.out).mono ?_
 rintro e B ⟨rfl,a⟩;have s:=hideS (g.out.trans (a.mono g.out.size));have HK:=hideS (i.out.step a);obtain⟨_,_,_,_,_,_,m⟩:=HK.out.t;clear a p
 go_wp2_with (go_at_call 33;refine (turned (j.out _)).mono ?_;rintro e h ⟨rfl,rfl⟩)
 go_ret2
 exact⟨rfl,s.out⟩
noncomputable def prV (l:List Flw) (cur:Int) (c:Cv):Nat:=(wL l cur c).choose
noncomputable def prE (l:List Flw) (cur:Int) (c:Cv):Int:=(wL l cur c).choose_spec.choose
theorem prR (l:List Flw) (cur:Int) (c:Cv):PreR l cur c (prV l cur c) (prE l cur c):=(wL l cur c).choose_spec.choose_spec
theorem LH {l:List Flw} {cur:Int} {c:Cv} {V d:Nat} {E b:Int} (h:PreR l cur c V E) (a:PreR l cur c d b):V=d/\E=b:=by
 cases h with
 | bad E h e=>cases a with
  | bad b a f=>exact⟨rfl,bR h a⟩
  | ok a=>exact absurd ((kg h).2 a) e
 | ok h=>exact⟨(ns a h).1.symm,(ns a h).2.symm⟩
theorem Rf {l:List Flw} {cur:Int} {c:Cv} {V:Nat} {E:Int} (h:PreR l cur c V E):prV l cur c=V/\prE l cur c=E:=LH (prR l cur c) h
theorem cL {l:List Flw} {cur:Int} {c:Cv} (h:prE l cur c=0):FineP l cur c/\prV l cur c=valF (wsI cur c l)/\aE (prV l cur c:Nat)=true/\prV l cur c<18446744073709551616:=by
 have e:=prR l cur c;rw [h] at e
 obtain⟨a,b,d⟩:=Gq e;exact⟨a,b,d,by rw [b];exact oZ _⟩
noncomputable def chO (l:List Flw) (cur:Int) (d:Cv) (V0:Nat):Nat:=(floatBits .sub .f64 (prV l cur d) V0).getD 0
noncomputable def chV (l:List Flw) (cur:Int) (d:Cv) (V0:Nat):Nat:=if prE l cur d=0 then tldV (chO l cur d V0) else 0
noncomputable def chE (l:List Flw) (cur:Int) (d:Cv) (V0:Nat):Int:=if prE l cur d=0 then fU (chO l cur d V0) else prE l cur d
theorem CH {l:List Flw} {cur:Int} {d:Cv} {V0:Nat} (h:prE l cur d=0) (a:aE (V0:Int)=true):floatBits .sub .f64 (prV l cur d) V0=some (chO l cur d V0)/\RkW (chO l cur d V0) (gU (vI (prV l cur d) - vI V0) (-1074)):=by
 obtain⟨r,e,k⟩:=jr (bt (cL h).2.2.1) (bt a);unfold chO;rw [e];exact⟨rfl,k⟩
noncomputable def oJ (l:List Flw) (cur:Int) (d:Cv) (V0:Nat) (E:Int):Nat:=if E=0 then chV l cur d V0 else 0
noncomputable def oK (l:List Flw) (cur:Int) (d:Cv) (V0:Nat) (E:Int):Int:=if E=0 then chE l cur d V0 else E
noncomputable def rU (l:List Flw) (cur:Int) (d:Cv) (E:Int):Nat:=if E=0 then prV l cur d else 0
noncomputable def nD (l:List Flw) (cur:Int) (d:Cv) (E:Int):Int:=if E=0 then prE l cur d else E
theorem BmC.later {c:Nat} {a:Array Value} {base kind E:Int} {f g:Value} {w b:World} {d:Cv} (h:BmC c a base kind f g w d E) (e:Below w.heap.size w b):BmC c a base kind f g b d E:=fun j i=>h j (e.trans (i.mono e.size))
theorem ot (b:Nat) (a:Array Value) (l:List Flw) (d:Cv) (E cur base kind:Int) (pl:Option Addr) (bl k j N:Nat) (g h:Value) (V0:Nat) (w:World) (c:∀ args w,(callFunc b args).run Tryz.prog w=.ok (.enter b args) w) (m:BmC b a base kind g h w d E) (q:JSrc aF w pl bl k l) (o:l.length=N) (i:N<=30000) (n:dB l) :
  Calls Tryz.prog 32 #[.agg #[.slice pl N j,.int .i64 cur,.int .i64 base,.int .i64 kind,g,h,.float .f64 V0],.func (.func b) #[] a] w fun e p=>e=.returned (.tuple #[.float .f64 (rU l cur d E),.int .i64 (nD l cur d E)])/\Below w.heap.size w p:=by
 unfold rU nD
 by_cases f:E=0
 ·subst f;rw [if_pos rfl,if_pos rfl];exact CF b a l d (prE l cur d) cur base kind pl bl k j N g h V0 (prV l cur d) w c m (prR l cur d) q o i n
 ·rw [if_neg f,if_neg f];exact Ak b a d E cur base kind _ g h V0 w f c m
theorem ou (i:Nat) (c:Array Value) (l:List Flw) (d:Cv) (E cur base kind:Int) (pl:Option Addr) (bl p o N:Nat) (f g:Value) (V0:Nat) (w:World) (t:aE (V0:Int)=true) (k:∀ args w,(callFunc i args).run Tryz.prog w=.ok (.enter i args) w) (y:BmC i c base kind f g w d E) (v:JSrc aF w pl bl p l) (s:l.length=N) (j:N<=30000) (q:dB l) :
  Calls Tryz.prog 29 #[.agg #[.slice pl N o,.int .i64 cur,.int .i64 base,.int .i64 kind,f,g,.float .f64 V0],.func (.func i) #[] c] w fun e u=>e=.returned (.tuple #[.float .f64 (oJ l cur d V0 E),.int .i64 (oK l cur d V0 E)])/\Below w.heap.size w u:=by
 have b:=fun m (n:Below w.heap.size w m)=>ot i c l d E cur base kind pl bl p o N f g V0 m k (y.later n) (v.below n) s j q
 unfold oJ oK;unfold rU nD at b
 by_cases h:E=0
 ·subst h;rw [if_pos rfl,if_pos rfl];simp only [if_true] at b
  unfold chV chE
  by_cases a:prE l cur d=0
  ·rw [if_pos a,if_pos a];rw [a] at b
   obtain⟨r,x⟩:=CH a t;exact CG _ _ f g cur base kind V0 _ _ w r x.2.1 b
  ·rw [if_neg a,if_neg a];exact oq _ _ f g _ cur base kind V0 _ w a b
 ·rw [if_neg h,if_neg h];simp only [h,if_false] at b
  exact oq _ _ f g _ cur base kind V0 _ w h b
def LsO (w:World) (n:Nat) (X:Nat->Nat) (a:Nat->Int) (e:Ending) (b:World):Prop:=
 (∃ k<n,a k≠0/\(∀ j<k,a j=0)/\e=.returned (.tuple #[.slice none 0 0,.int .i64 (a k)]))\/
 ((∀ k<n,a k=0)/\∃ g,e=.returned (.tuple #[.slice (some ⟨g,0,none⟩) n n,.int .i64 0])/\b.ownsRow w.heap.size 27 1 (.slice (some ⟨g,0,none⟩) n n) n (((List.range n).map X).map fV))
theorem LI (X:Nat->Nat) {n k:Nat} (h:k<n):((List.range n).map X).getD k 0=X k:=by
 rw [List.getD_eq_getElem?_getD,List.getElem?_map,List.getElem?_range h];rfl
theorem GO (N:Nat) (e:N<=1000):∃ z,∀ w:World,(Instr.makeSlice 24 (.int .i64 (N:Int)) (.int .i64 (N:Int))).run Tryz.prog w=.ok (.slice (some ⟨w.heap.size,0,none⟩) N N) (w.alloc (.cells (madeCells z N) 27)):=by
 obtain⟨d,hi,b,a,c⟩:=info_parts jx;refine⟨(Value.float .f64 0).cells,fun w=>?_⟩
 have:=run_make (P:=Tryz.prog) w 24 27 d _ Tryz.underlying24 hi b .i64 .i64 (N:Int) (N:Int) (by omega) (by omega) (by rw [c];omega) (by omega)
 rw [a,Nat.mul_one,Int.toNat_natCast] at this
 exact this
def BoC (i:Nat) (b:Array Value) (n:Nat) (X:Nat->Nat) (j:Nat->Int) (pos:Array Value) (w:World):Prop:=
 ∀ k<n,∀ c,Below w.heap.size w c->Calls Tryz.prog i (#[.int .i64 (k:Nat)]++b) c fun e f=>(∃ h a,e=.returned (.func (.func h) #[] a)/\∀ d,Below f.heap.size f d->Calls Tryz.prog 29 #[.agg pos,.func (.func h) #[] a] d fun e g=>e=.returned (.tuple #[.float .f64 (X k),.int .i64 (j k)])/\Below d.heap.size d g)/\Below c.heap.size c f
theorem wR (H:Nat) (m:Array Value) (n:Nat) (X:Nat->Nat) (A:Nat->Int) (v0 h l:Value) (cur base kind:Int) (V0:Nat) (w:World) (hn:n<=255) (ab:∀ args w,(callFunc H args).run Tryz.prog w=.ok (.enter H args) w) (T:Hid (BoC H m n X A #[v0,.int .i64 cur,.int .i64 base,.int .i64 kind,h,l,.float .f64 V0] w)) :
  Calls Tryz.prog 21 #[.agg #[v0,.int .i64 cur,.int .i64 base,.int .i64 kind,h,l,.float .f64 V0],.int .i64 (n:Nat),.func (.func H) #[] m] w fun e S=>LsO w n X A e S/\Below w.heap.size w S:=by
 obtain⟨z,M⟩:=GO n (by omega)
 have N:=hideS (rN w v0 h l cur base kind V0);have I:=hideS ((Below.refl w.heap.size w).alloc (Nat.le_refl _) (.cells #[v0,.int .i64 cur,.int .i64 base,.int .i64 kind,h,l,.float .f64 V0] 56));obtain⟨f,r⟩:∃ f,w.alloc (.cells #[v0,.int .i64 cur,.int .i64 base,.int .i64 kind,h,l,.float .f64 V0] 56)=f:=⟨_,rfl⟩;have L:f.heap.size=w.heap.size+1:=by rw [<- r];simp
 rw [r] at N I
 have b:Hid (PsB (f.alloc (.cells (madeCells z n) 27)) w.heap.size v0 cur base kind h l V0/\RowF (f.alloc (.cells (madeCells z n) 27)) f.heap.size n (((List.range n).map X).take 0)/\Below w.heap.size w (f.alloc (.cells (madeCells z n) 27))):=⟨N.out.step ((Below.refl _ _).alloc (Nat.le_refl _) _),FR f n z,I.out.alloc I.out.size _⟩;have q:Hid (w.heap.size+1<=f.heap.size):=by show _<=_;omega
 clear L
 go_enter Tryz.func21,Tryz.ntmps21
 go_wp2_with fail
 clear r N I M;generalize f.heap.size=g at *
 go_loopw [9,10,11,15] (fun _ _ _ i wr=>∃ k:Nat,k<=n/\i=.int .i64 k/\Hid (∀ j<k,A j=0)/\Hid (PsB wr w.heap.size v0 cur base kind h l V0/\RowF wr g n (((List.range n).map X).take k)/\Below w.heap.size w wr)) (fun _ _ _ i _=>n - (intOf i).toNat)
 case atStart=>exact⟨0,Nat.zero_le _,rfl,fun j R=>by omega,b⟩
 case round=>
  clear b;obtain⟨k,hk,rfl,O,b⟩:=hrel
  by_cases a:k<n
  ·have Q:=hideS (LI X a);have D:=hideS (T.out k a);unfold BoC at T
   obtain⟨t0,W,t2,t3,Z,V,t6⟩:=b.out.1.t
   go_wp2_with fail
   go_region_held3 (fun x=>x.cell? ⟨w.heap.size,0,none⟩=some v0/\x.cell? ⟨w.heap.size,1,none⟩=some (.int .i64 cur)/\x.cell? ⟨w.heap.size,2,none⟩=some (.int .i64 base)/\x.cell? ⟨w.heap.size,3,none⟩=some (.int .i64 kind)/\x.cell? ⟨w.heap.size,4,none⟩=some h/\x.cell? ⟨w.heap.size,5,none⟩=some l/\x.cell? ⟨w.heap.size,6,none⟩=some (.float .f64 V0)) (first | go_keep | exact G.out.t | exact HK2.out.t) (first | (go_at_call 29;refine (E.out _ (Below.refl _ _)).mono ?_;rintro e J ⟨rfl,C⟩;have v:=hideS (o.out.trans (C.mono o.out.size));have G:=hideS (b.out.1.step v.out);clear C) | (refine (D.out _ b.out.2.2.drew).mono ?_;rintro e Y ⟨⟨fN,ad,rfl,B⟩,c⟩;have o:Hid (Below wr.heap.size wr Y):=⟨c.os,c.tape,c.output,c.size,c.block⟩;have HK2:=hideS (b.out.1.step o.out);have E:=hideS B;clear c B))
   all_goals
    clear t0 W t2 t3 Z V t6 D E HK2;have s:=hideS (b.out.2.1.stay v.out b.out.2.1.lt);have F:=hideS (b.out.2.2.trans (v.out.mono b.out.2.2.size))
    by_cases y:A k=0
    ·have HS:Hid (PsB (J.setCell ⟨g,k,none⟩ (.float .f64 (X k))) w.heap.size v0 cur base kind h l V0/\RowF (J.setCell ⟨g,k,none⟩ (.float .f64 (X k))) g n (((List.range n).map X).take (k+1))/\Below w.heap.size w (J.setCell ⟨g,k,none⟩ (.float .f64 (X k)))):=by
      have hb:=(Below.refl g J).setCell (p:=⟨g,k,none⟩) (Nat.le_refl _) (.float .f64 (X k));exact⟨G.out.stay hb (by have:=q.out;omega),Ke (X k) s.out a (by simp;exact a) Q.out,F.out.setCell (p:=⟨g,k,none⟩) (by show w.heap.size<=g;have:=q.out;omega) _⟩
     have K:Hid (∀ j<k+1,A j=0):=fun j R=>by
      rcases Nat.lt_or_eq_of_le (Nat.le_of_lt_succ R) with d | d
      ·exact O.out j d
      ·rw [d];exact y
     obtain⟨u,hu⟩:=s.out.cell a;have hz:=s.out.frozen k;have U:=bJ;rw [y];clear y
     go_wp2_with fail
     go_roundw
     case rel=>exact⟨k+1,by omega,by simp,K,HS⟩
     case measure=>simp [intOf];omega
    ·have dE:(A k !=0)=true:=bne_iff_ne.2 y;have P:=hideS y;clear y
     go_wp2_with fail
     go_ret2
     exact⟨Or.inl ⟨k,a,P.out,O.out,rfl⟩,F.out⟩
  ·obtain rfl:k=n:=by omega
   go_wp2_with fail
   go_ret2
   refine⟨Or.inr ⟨O.out,g,rfl,?_⟩,b.out.2.2⟩
   have:=b.out.2.1.own (base:=w.heap.size) (by rw [List.length_take,List.length_map,List.length_range];omega) (by have:=q.out;omega) (by omega)
   rw [List.take_of_length_le (by simp)] at this
   exact this
theorem CI (args:Array Value) (w:World):(callFunc 22 args).run Tryz.prog w=.ok (.enter 22 args) w:=mc Tryz.func22 (by kernel_rfl) rfl args w
theorem Al (args:Array Value) (w:World):(callFunc 23 args).run Tryz.prog w=.ok (.enter 23 args) w:=mc Tryz.func23 (by kernel_rfl) rfl args w
theorem rV (args:Array Value) (w:World):(callFunc 46 args).run Tryz.prog w=.ok (.enter 46 args) w:=mc Tryz.func46 (by kernel_rfl) rfl args w
theorem GP (k a:Nat) (w:World) :
  Calls Tryz.prog 22 #[.int .i64 (k:Nat),.pointer (some ⟨a,0,none⟩)] w fun e b=>e=.returned (.func (.func 23) #[] #[.pointer (some ⟨w.heap.size,0,none⟩),.pointer (some ⟨a,0,none⟩)])/\b=w.alloc (.cells #[.int .i64 (k:Nat)] 3):=by
 have c:=me
 go_enter Tryz.func22,Tryz.ntmps22
 go_wp2_with fail
 go_ret
 exact⟨rfl,rfl⟩
theorem CJ (h:Nat) (w:World) :
  Calls Tryz.prog 30 #[.float .f64 h] w fun e a=>e=.returned (.func (.func 46) #[] #[.pointer (some ⟨w.heap.size,0,none⟩)])/\a=w.alloc (.cells #[.float .f64 h] 27):=by
 have b:=me
 go_enter Tryz.func30,Tryz.ntmps30
 go_wp2_with fail
 go_ret
 exact⟨rfl,rfl⟩
theorem Am {c u1 u2 u3 g:World} {B b:Nat} {d:Cv} {e cx f cy:Nat} {k i m p:Value} (h:OwnC c B d e cx f cy) (a:b<B) (j:c.setCell ⟨b,0,none⟩ k=u1) (l:u1.setCell ⟨b,1,none⟩ i=u2) (n:u2.setCell ⟨b,2,none⟩ m=u3) (o:u3.setCell ⟨b,3,none⟩ p=g):OwnC g B d e cx f cy:=by
 rw [<- o,<- n,<- l,<- j];exact (((h.put a _).put a _).put a _).put a _
theorem CK (c d:Cv) (k h o y:Nat) (E:Int) (u B:Value) (w:World) (hi:w.cell? ⟨o,0,none⟩=some (.int .i64 (k:Nat))) (m:o<w.heap.size) (W:w.cell? ⟨y,0,none⟩=some (.float .f64 h)) (l:y<w.heap.size)
  (M:Hid (∀ H,Below w.heap.size w H->Calls Tryz.prog 18 #[.agg #[.int .i64 c.base,.int .i64 c.kind,u,B],.int .i64 (k:Nat),.float .f64 h] H fun e G=>CvO H d E e G)) :
  Calls Tryz.prog 23 #[.agg #[.int .i64 c.base,.int .i64 c.kind,u,B],.pointer (some ⟨o,0,none⟩),.pointer (some ⟨y,0,none⟩)] w fun e G=>CvO w d E e G:=by
 have a:=hideS (iU w c.base c.kind u B);generalize c.base=base at *
 generalize c.kind=kind at *
 obtain⟨O,f⟩:∃ O,(w.alloc (.cells #[.int .i64 base,.int .i64 kind,u,B] 26)).alloc ar=O:=⟨_,rfl⟩;rw [f] at a
 unfold ar at f
 obtain⟨t0,Y,t2,t3⟩:=a.out.k.t;have L:=(a.out.bl.cell (p:=⟨o,0,none⟩) m).trans hi;have D:=(a.out.bl.cell (p:=⟨y,0,none⟩) l).trans W;clear hi W m l
 go_enter Tryz.func23,Tryz.ntmps23
 go_wp2_with fail
 clear f L D t0 Y t2 t3;refine (M.out _ a.out.bl).mono ?_
 intro e Q i;have b:=hideS (a.out.step i.bl);have U:=hideS a.out.sz
 by_cases s:E=0
 ·subst s;obtain⟨r,q,A,x,rfl,N⟩:=i.ok rfl;obtain⟨u1,u2,u3,V,⟨P,z0,y0⟩,⟨R,z1,y1⟩,⟨S,z2,y2⟩,⟨T,Z,X⟩,j,n⟩:=bD (w.heap.size+1) d.base d.kind (.slice (some ⟨r,0,none⟩) d.ds.length q) (.slice (some ⟨A,0,none⟩) d.fs.length x) Q b.out.z;have HO:=hideS (Am N (by have:=U.out;omega) P R S T)
  have g:=hideS (b.out.bl.trans (n.mono (by omega)))
  obtain⟨F,K,C,J⟩:=j.t;have I:Hid (∀ v,v=Value.tuple #[.agg #[.int .i64 d.base,.int .i64 d.kind,.slice (some ⟨r,0,none⟩) d.ds.length q,.slice (some ⟨A,0,none⟩) d.fs.length x],.int .i64 0]->CvO w d 0 (.returned v) V):=fun v hv=>by
   subst hv;exact⟨fun h=>absurd rfl h,fun _=>⟨r,q,A,x,rfl,HO.out.mono (by have:=U.out;omega)⟩,g.out⟩
  clear N j n i a M;generalize d.ds.length=n1 at *
  generalize d.fs.length=n2 at *
  generalize d.base=db at *
  generalize d.kind=dk at *
  go_wp2_with fail
  refine bodyPost_ret (v:=.tuple #[.agg #[.int .i64 db,.int .i64 dk,.slice (some ⟨r,0,none⟩) n1 q,.slice (some ⟨A,0,none⟩) n2 x],.int .i64 0]) (by simp [results,Tryz.results23,go_sem,F,K,C,J]) rfl ?_
  exact I.out _ rfl
 ·have he:=i.bad s;subst he;obtain⟨u1,u2,u3,V,⟨P,z0,y0⟩,⟨R,z1,y1⟩,⟨S,z2,y2⟩,⟨T,Z,X⟩,j,n⟩:=bD (w.heap.size+1) 0 0 (.slice none 0 0) (.slice none 0 0) Q b.out.z;have g:=hideS (b.out.bl.trans (n.mono (by omega)))
  obtain⟨F,K,C,J⟩:=j.t;have I:=hideS s;clear j n i s a M
  go_wp2_with fail
  refine bodyPost_ret (v:=.tuple #[.agg #[.int .i64 0,.int .i64 0,.slice none 0 0,.slice none 0 0],.int .i64 E]) (by simp [results,Tryz.results23,go_sem,F,K,C,J]) rfl ?_
  exact⟨fun _=>rfl,fun h=>absurd h I.out,g.out⟩
theorem GQ (c d:Cv) (h u:Nat) (E:Int) (r y:Value) (w:World) (T:w.cell? ⟨u,0,none⟩=some (.float .f64 h)) (j:u<w.heap.size)
  (J:Hid (∀ F,Below w.heap.size w F->Calls Tryz.prog 19 #[.agg #[.int .i64 c.base,.int .i64 c.kind,r,y],.float .f64 h] F fun e D=>CvO F d E e D)) :
  Calls Tryz.prog 46 #[.agg #[.int .i64 c.base,.int .i64 c.kind,r,y],.pointer (some ⟨u,0,none⟩)] w fun e D=>CvO w d E e D:=by
 have b:=hideS (iU w c.base c.kind r y);generalize c.base=base at *
 generalize c.kind=kind at *
 obtain⟨L,f⟩:∃ L,(w.alloc (.cells #[.int .i64 base,.int .i64 kind,r,y] 26)).alloc ar=L:=⟨_,rfl⟩;rw [f] at b
 unfold ar at f
 obtain⟨t0,V,t2,t3⟩:=b.out.k.t;have B:=(b.out.bl.cell (p:=⟨u,0,none⟩) j).trans T;clear T j
 go_enter Tryz.func46,Tryz.ntmps46
 go_wp2_with fail
 clear f B t0 V t2 t3;refine (J.out _ b.out.bl).mono ?_
 intro e N l;have a:=hideS (b.out.step l.bl);have R:=hideS b.out.sz
 by_cases q:E=0
 ·subst q;obtain⟨o,n,x,s,rfl,K⟩:=l.ok rfl;obtain⟨u1,u2,u3,S,⟨M,z0,y0⟩,⟨O,X,y1⟩,⟨P,Y,y2⟩,⟨Q,W,U⟩,i,m⟩:=bD (w.heap.size+1) d.base d.kind (.slice (some ⟨o,0,none⟩) d.ds.length n) (.slice (some ⟨x,0,none⟩) d.fs.length s) N a.out.z;have HO:=hideS (Am K (by have:=R.out;omega) M O P Q)
  have g:=hideS (a.out.bl.trans (m.mono (by omega)))
  obtain⟨C,I,A,H⟩:=i.t;have G:Hid (∀ v,v=Value.tuple #[.agg #[.int .i64 d.base,.int .i64 d.kind,.slice (some ⟨o,0,none⟩) d.ds.length n,.slice (some ⟨x,0,none⟩) d.fs.length s],.int .i64 0]->CvO w d 0 (.returned v) S):=fun v Z=>by
   subst Z;exact⟨fun h=>absurd rfl h,fun _=>⟨o,n,x,s,rfl,HO.out.mono (by have:=R.out;omega)⟩,g.out⟩
  clear K i m l b J;generalize d.ds.length=n1 at *
  generalize d.fs.length=n2 at *
  generalize d.base=db at *
  generalize d.kind=dk at *
  go_wp2_with fail
  refine bodyPost_ret (v:=.tuple #[.agg #[.int .i64 db,.int .i64 dk,.slice (some ⟨o,0,none⟩) n1 n,.slice (some ⟨x,0,none⟩) n2 s],.int .i64 0]) (by simp [results,Tryz.results46,go_sem,C,I,A,H]) rfl ?_
  exact G.out _ rfl
 ·have he:=l.bad q;subst he;obtain⟨u1,u2,u3,S,⟨M,z0,y0⟩,⟨O,X,y1⟩,⟨P,Y,y2⟩,⟨Q,W,U⟩,i,m⟩:=bD (w.heap.size+1) 0 0 (.slice none 0 0) (.slice none 0 0) N a.out.z;have g:=hideS (a.out.bl.trans (m.mono (by omega)))
  obtain⟨C,I,A,H⟩:=i.t;have G:=hideS q;clear i m l q b J
  go_wp2_with fail
  refine bodyPost_ret (v:=.tuple #[.agg #[.int .i64 0,.int .i64 0,.slice none 0 0,.slice none 0 0],.int .i64 E]) (by simp [results,Tryz.results46,go_sem,C,I,A,H]) rfl ?_
  exact⟨fun _=>rfl,fun h=>absurd h G.out,g.out⟩
noncomputable def lnV (l:List Flw) (cur:Int) (c:Cv) (h k:Nat):Nat:=oJ l cur (c.bump k h) (prV l cur c) (bmE c k h)
noncomputable def lnE (l:List Flw) (cur:Int) (c:Cv) (h k:Nat):Int:=oK l cur (c.bump k h) (prV l cur c) (bmE c k h)
theorem LJ {c:Cv} {k h:Nat} (f:c.Ok) (b:k<c.ds.length):∃ d,BmpR c (k:Nat) h d (bmE c k h)/\(bmE c k h=0->d=c.bump k h):=by
 rcases bmE_cases c k h with⟨a,e⟩| ⟨a,e⟩
 ·rw [e];exact⟨_,.ok f k b rfl a,fun _=>rfl⟩
 ·rw [e];exact⟨_,.val f k b rfl a,fun h=>absurd h (by decide)⟩
theorem LK {l:List Flw} {cur:Int} {d d':Cv} {V0:Nat} {E:Int} (h:E=0->d=d'):oJ l cur d V0 E=oJ l cur d' V0 E/\oK l cur d V0 E=oK l cur d' V0 E:=by
 unfold oJ oK
 by_cases e:E=0
 ·rw [h e];exact⟨rfl,rfl⟩
 ·rw [if_neg e,if_neg e,if_neg e,if_neg e];exact⟨rfl,rfl⟩
theorem On (l:List Flw) (cur:Int) (c:Cv) (h g:Nat) (pl:Option Addr) (bl D B N:Nat) (m n:Option Addr) (bd C s y z r:Nat) (w:World) (L:c.Ok) (P:prE l cur c=0) (U:h<18446744073709551616) (hc:w.cell? ⟨g,0,none⟩=some (.float .f64 h)) (j:g<w.heap.size) (Q:JSrc aF w pl bl D l) (I:l.length=N) (v:N<=30000) (E:dB l) (O:TFl w m n bd C y z c.ds c.fs) :
  BoC 22 #[.pointer (some ⟨g,0,none⟩)] c.ds.length (lnV l cur c h) (lnE l cur c h) #[.slice pl N B,.int .i64 cur,.int .i64 c.base,.int .i64 c.kind,.slice m c.ds.length s,.slice n c.fs.length r,.float .f64 (prV l cur c)] w:=fun k T a i=>by
 refine (GP k g a).mono ?_
 rintro e V ⟨rfl,rfl⟩;have x:Below a.heap.size a (a.alloc (.cells #[.int .i64 (k:Nat)] 3)):=(Below.refl _ _).alloc (Nat.le_refl _) _;refine⟨⟨_,_,rfl,fun u t=>?_⟩,x⟩
 obtain⟨d,G,R⟩:=LJ (h:=h) L T;have f:Below w.heap.size w u:=(i.trans (x.mono i.size)).trans (t.mono (Nat.le_trans i.size x.size));have hi:(a.alloc (.cells #[.int .i64 (k:Nat)] 3)).cell? ⟨a.heap.size,0,none⟩=some (.int .i64 (k:Nat)):=cT a _ _ 0;have q:a.heap.size<(a.alloc (.cells #[.int .i64 (k:Nat)] 3)).heap.size:=by simp
 have F:BmC 23 #[.pointer (some ⟨a.heap.size,0,none⟩),.pointer (some ⟨g,0,none⟩)] c.base c.kind (.slice m c.ds.length s) (.slice n c.fs.length r) u d (bmE c k h):=fun J A=>by
  have b:=f.trans (A.mono f.size);have o:=t.trans (A.mono t.size);exact CK c d k h a.heap.size g (bmE c k h) _ _ J ((o.cell (p:=⟨a.heap.size,0,none⟩) q).trans hi) (Nat.lt_of_lt_of_le q o.size) ((b.cell (p:=⟨g,0,none⟩) j).trans hc) (Nat.lt_of_lt_of_le j b.size) (fun K H=>uB c d k h (bmE c k h) m n bd C s y z r K G U (O.below (b.trans (H.mono b.size))))
 have:=ou 23 _ l d (bmE c k h) cur c.base c.kind pl bl D B N (.slice m c.ds.length s) (.slice n c.fs.length r) (prV l cur c) u (cL P).2.2.1 Al F (Q.below f) I v E;obtain⟨M,S⟩:=LK (l:=l) (cur:=cur) (V0:=prV l cur c) R;rw [M,S] at this
 exact this
structure LaB (w:World) (base kind:Int) (vd vf:Value) (h:Nat) (wr:World):Prop where
 k:BxK wr w.heap.size base kind vd vf
 c:wr.cell? ⟨w.heap.size+1,0,none⟩=some (.float .f64 h)
 lt:w.heap.size+1<wr.heap.size
 bl:Below w.heap.size w wr
theorem LaB.step {w wr b:World} {base kind:Int} {d e:Value} {h:Nat} (H:LaB w base kind d e h wr) (a:Below wr.heap.size wr b):LaB w base kind d e h b:=
 ⟨H.k.step a,(a.cell (p:=⟨w.heap.size+1,0,none⟩) H.lt).trans H.c,Nat.lt_of_lt_of_le H.lt a.size,H.bl.trans (a.mono H.bl.size)⟩
theorem LL (w:World) (base kind:Int) (a b:Value) (h:Nat):LaB w base kind a b h ((w.alloc (.cells #[.int .i64 base,.int .i64 kind,a,b] 26)).alloc (.cells #[.float .f64 h] 27)):=by
 have c:(w.alloc (.cells #[.int .i64 base,.int .i64 kind,a,b] 26)).heap.size=w.heap.size+1:=by simp
 refine⟨(rl w base kind a b).step ((Below.refl _ _).alloc (Nat.le_refl _) _),?_,by simp,((Below.refl _ _).alloc (Nat.le_refl _) _).alloc (by rw [c];omega) _⟩
 rw [<- c];exact cT _ _ _ 0
theorem An (cur base kind E:Int) (h:Nat) (r g j:Value) (w:World) (p:E≠0) (q:Hid (∀ i,Below w.heap.size w i->Calls Tryz.prog 20 #[r,.int .i64 cur,.agg #[.int .i64 base,.int .i64 kind,g,j]] i fun e n=>e=.returned (.tuple #[.agg #[.slice none 0 0,.int .i64 0,.int .i64 0,.int .i64 0,.slice none 0 0,.slice none 0 0,.float .f64 0],.int .i64 E])/\Below i.heap.size i n)) :
  Calls Tryz.prog 7 #[r,.int .i64 cur,.agg #[.int .i64 base,.int .i64 kind,g,j],.float .f64 h] w fun e n=>e=.returned (.tuple #[.slice none 0 0,.int .i64 E])/\Below w.heap.size w n:=by
 have J:(E !=0)=true:=bne_iff_ne.2 p;have b:=hideS (LL w base kind g j h);obtain⟨o,d⟩:∃ o,(w.alloc (.cells #[.int .i64 base,.int .i64 kind,g,j] 26)).alloc (.cells #[.float .f64 h] 27)=o:=⟨_,rfl⟩;rw [d] at b
 obtain⟨B,y,D,F⟩:=b.out.k.t;clear p
 go_enter Tryz.func7,Tryz.ntmps7
 go_wp2_with fail
 clear d B y D F;refine (q.out _ b.out.bl).mono ?_
 rintro e l ⟨rfl,c⟩;have a:=hideS (b.out.step c);clear c q b;obtain⟨X,u2,u3,u4,P,M,x,⟨z,G,C⟩,⟨U,Q,y1⟩,⟨Y,R,Z⟩,⟨e3,N,I⟩,⟨O,H,S⟩,⟨V,z5,L⟩,⟨T,K,W⟩,A,u⟩:=gv l.heap.size (.slice none 0 0) 0 0 0 (.slice none 0 0) (.slice none 0 0) 0 (l.alloc aR) (heap_alloc_new _ _);have m:Hid (Below w.heap.size w x):=(a.out.bl.alloc a.out.bl.size aR).trans (u.mono a.out.bl.size);obtain⟨s,f⟩:∃ s,l.alloc aR=s:=⟨_,rfl⟩;rw [f] at z G C
 unfold aR at f
 have v:=bJ;clear A u
 go_wp2_with fail
 go_ret2
 exact⟨rfl,m.out⟩
theorem CL (cur base kind:Int) (h n V0:Nat) (X:Nat->Nat) (q:Nat->Int) (pl:Option Addr) (p N:Nat) (i j:Option Addr) (f d m:Nat) (w:World) (hn:n<=255)
  (S:Hid (∀ b,Below w.heap.size w b->Calls Tryz.prog 20 #[.slice pl N p,.int .i64 cur,.agg #[.int .i64 base,.int .i64 kind,.slice i n f,.slice j m d]] b fun e B=>e=.returned (.tuple #[.agg #[.slice pl N p,.int .i64 cur,.int .i64 base,.int .i64 kind,.slice i n f,.slice j m d,.float .f64 V0],.int .i64 0])/\Below b.heap.size b B))
  (T:Hid (∀ b G,Below w.heap.size w b->b.cell? ⟨G,0,none⟩=some (.float .f64 h)->G<b.heap.size->BoC 22 #[.pointer (some ⟨G,0,none⟩)] n X q #[.slice pl N p,.int .i64 cur,.int .i64 base,.int .i64 kind,.slice i n f,.slice j m d,.float .f64 V0] b)) :
  Calls Tryz.prog 7 #[.slice pl N p,.int .i64 cur,.agg #[.int .i64 base,.int .i64 kind,.slice i n f,.slice j m d],.float .f64 h] w fun e B=>LsO w n X q e B/\Below w.heap.size w B:=by
 have u:=hideS (LL w base kind (.slice i n f) (.slice j m d) h);obtain⟨R,v⟩:∃ R,(w.alloc (.cells #[.int .i64 base,.int .i64 kind,.slice i n f,.slice j m d] 26)).alloc (.cells #[.float .f64 h] 27)=R:=⟨_,rfl⟩;rw [v] at u
 obtain⟨K,I,O,L⟩:=u.out.k.t
 go_enter Tryz.func7,Tryz.ntmps7
 go_wp2_with fail
 clear v K I O L;refine (S.out _ u.out.bl).mono ?_
 rintro e r ⟨rfl,z⟩;have E:=hideS (u.out.step z);clear z S u;obtain⟨u1,u2,u3,u4,u5,u6,F,⟨Y,U,y0⟩,⟨e1,z1,y1⟩,⟨e2,z2,y2⟩,⟨e3,z3,y3⟩,⟨e4,z4,y4⟩,⟨e5,z5,y5⟩,⟨e6,z6,y6⟩,M,Q⟩:=gv r.heap.size (.slice pl N p) cur base kind (.slice i n f) (.slice j m d) V0 (r.alloc aR) (heap_alloc_new _ _);have s:Below r.heap.size r F:=((Below.refl _ r).alloc (Nat.le_refl _) aR).trans Q;have a:=hideS (E.out.step s);have o:=hideS (wR 22 #[.pointer (some ⟨w.heap.size+1,0,none⟩)] n X q (.slice pl N p) (.slice i n f) (.slice j m d) cur base kind V0 F hn CI (T.out F (w.heap.size+1) a.out.bl a.out.c a.out.lt));obtain⟨s0,s1,s2,s3,s4,s5,s6⟩:=M.t;obtain⟨K,I,O,L⟩:=a.out.k.t;obtain⟨P,x⟩:∃ P,r.alloc aR=P:=⟨_,rfl⟩;rw [x] at Y U y0
 unfold aR at x
 have W:=bJ;have Z:=me;clear M Q s T
 go_wp2_with fail
 refine o.out.mono ?_
 rintro e H ⟨C,l⟩;have A:=hideS (a.out.bl.trans (l.mono a.out.bl.size));have HS:=hideS a.out.bl.size;rcases C with⟨k,V,J,y,rfl⟩| ⟨y,g,rfl,C⟩
 ·have D:Hid (LsO w n X q (.returned (.tuple #[.slice none 0 0,.int .i64 (q k)])) H):=Or.inl ⟨k,V,J,y,rfl⟩;clear l o J y
  go_wp2_with fail
  go_ret2
  exact⟨D.out,A.out⟩
 ·have D:Hid (LsO w n X q (.returned (.tuple #[.slice (some ⟨g,0,none⟩) n n,.int .i64 0])) H):=Or.inr ⟨y,g,rfl,bS C HS.out⟩;clear l o y C
  go_wp2_with fail
  go_ret2
  exact⟨D.out,A.out⟩
theorem CM (l:List Flw) (cur:Int) (c:Cv) (h:Nat) (pl:Option Addr) (bl t n N:Nat) (i j:Option Addr) (bd s o p q k:Nat) (w:World) (E:h<18446744073709551616) (z:JSrc aF w pl bl t l) (x:l.length=N) (d:N<=30000) (v:dB l) (y:TFl w i j bd s p q c.ds c.fs) :
  Calls Tryz.prog 7 #[.slice pl N n,.int .i64 cur,.agg #[.int .i64 c.base,.int .i64 c.kind,.slice i c.ds.length o,.slice j c.fs.length k],.float .f64 h] w fun e r=>((prE l cur c≠0/\e=.returned (.tuple #[.slice none 0 0,.int .i64 (prE l cur c)]))\/(prE l cur c=0/\LsO w c.ds.length (lnV l cur c h) (lnE l cur c h) e r))/\Below w.heap.size w r:=by
 by_cases f:prE l cur c=0
 ·have A:=prR l cur c;rw [f] at A
  have C:=(cL f).1.ok;refine (CL cur c.base c.kind h c.ds.length (prV l cur c) (lnV l cur c h) (lnE l cur c h) pl n N i j o k c.fs.length w C.hi (fun m g=>rT l cur c pl bl t n N i j bd s o p q k m _ A (z.below g) x d v (y.below g)) (fun m g B D u=>On l cur c h g pl bl t n N i j bd s o p q k m C f E D u (z.below B) x d v (y.below B))).mono ?_
  rintro e r ⟨a,b⟩;exact⟨Or.inr ⟨f,a⟩,b⟩
 ·refine (An cur c.base c.kind (prE l cur c) h _ _ _ w f (fun m g=>nC l cur c pl bl t n N i j bd s o p q k m _ _ (prR l cur c) f (z.below g) x d v (y.below g))).mono ?_
  rintro e r ⟨a,b⟩;exact⟨Or.inl ⟨f,a⟩,b⟩
end Go.Proofs.YtfdddijdjpijbaaGreat
