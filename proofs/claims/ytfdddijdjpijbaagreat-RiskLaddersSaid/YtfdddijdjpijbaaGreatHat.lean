/-  -/
import Derived.Test.YtfdddijdjpijbaaGreatHas
import Derived.Test.YtfdddijdjpijbaaGreatHar
set_option maxHeartbeats 12800000
set_option maxRecDepth 20000
namespace Go.Proofs.YtfdddijdjpijbaaGreat
open Go.RowKit
structure VBox (w:World) (base kind:Int) (vd vf:Value) (wr:World):Prop where
 t0:wr.cell? ⟨w.heap.size,0,none⟩=some (.int .i64 base)
 t1:wr.cell? ⟨w.heap.size,1,none⟩=some (.int .i64 kind)
 t2:wr.cell? ⟨w.heap.size,2,none⟩=some vd
 t3:wr.cell? ⟨w.heap.size,3,none⟩=some vf
 bl:Below w.heap.size w wr
 lt:w.heap.size<wr.heap.size
theorem fW (w:World) (base kind:Int) (b a:Value):VBox w base kind b a (w.alloc (.cells #[.int .i64 base,.int .i64 kind,b,a] 39)):=
 ⟨by simp,by simp,by simp,by simp,(Below.refl _ _).alloc (Nat.le_refl _) _,by simp⟩
theorem bH (w:World) (base kind:Int) (b a:Value):VBox w base kind b a (w.alloc (.cells #[.int .i64 base,.int .i64 kind,b,a] 26)):=
 ⟨by simp,by simp,by simp,by simp,(Below.refl _ _).alloc (Nat.le_refl _) _,by simp⟩
theorem VBox.step {w wr b:World} {base kind:Int} {d c:Value} (h:VBox w base kind d c wr) (a:Below wr.heap.size wr b):VBox w base kind d c b:=
 ⟨(a.cell (p:=⟨w.heap.size,0,none⟩) h.lt).trans h.t0,(a.cell (p:=⟨w.heap.size,1,none⟩) h.lt).trans h.t1,(a.cell (p:=⟨w.heap.size,2,none⟩) h.lt).trans h.t2,(a.cell (p:=⟨w.heap.size,3,none⟩) h.lt).trans h.t3,h.bl.trans (a.mono h.bl.size),Nat.lt_of_lt_of_le h.lt a.size⟩
theorem VBox.drewN {w wr:World} {base kind:Int} {b a:Value} (h:VBox w base kind b a wr) (m:Nat):VBox w base kind b a (wr.drewN m):=⟨h.t0,h.t1,h.t2,h.t3,⟨h.bl.os,h.bl.tape,h.bl.output,h.bl.size,h.bl.block⟩,h.lt⟩
structure CSrcD (w:World) (pd pf:Option Addr) (bd od b2 o2:Nat) (ds:List Int) (fs:List Nat):Prop where
 d:VSrc w pd bd od ds.length (xV ds)
 f:VSrc w pf b2 o2 fs.length (yV fs)
 u:∀ i<fs.length,U64 (fs.getD i 0:Nat)
theorem CSrcD.below {w a:World} {j e:Option Addr} {bd b i c:Nat} {g:List Int} {k:List Nat} (h:CSrcD w j e bd b i c g k) (l:Below w.heap.size w a):CSrcD a j e bd b i c g k:=⟨h.d.below l,h.f.below l,h.u⟩
theorem oh (base kind:Int) (f d:Value) (w:World) (h:base<0\/109572<base) :
  Calls Tryz.prog 42 #[.agg #[.int .i64 base,.int .i64 kind,f,d]] w fun e g=>e=.returned (.int .i64 51)/\Below w.heap.size w g:=by
 have c:=hideS (fW w base kind f d);rcases (show base<0\/(0<=base/\109572<base) by omega) with a | ⟨a,b⟩
 ·have i:decide (base<0)=true:=decide_eq_true a;clear h a
  go_enter Tryz.func42,Tryz.ntmps42
  go_wp2_with fail
  go_ret
  exact⟨rfl,c.out.bl⟩
 ·have i:decide (base<0)=false:=decide_eq_false (by omega)
  have j:decide (109572<base)=true:=decide_eq_true b;clear h a b
  go_enter Tryz.func42,Tryz.ntmps42
  go_wp2_with fail
  go_ret
  exact⟨rfl,c.out.bl⟩
theorem oq (base kind:Int) (f d:Value) (w:World) (m:0<=base) (n:base<=109572) (h:kind<1\/4<kind) :
  Calls Tryz.prog 42 #[.agg #[.int .i64 base,.int .i64 kind,f,d]] w fun e g=>e=.returned (.int .i64 90)/\Below w.heap.size w g:=by
 have c:=hideS (fW w base kind f d);have j:decide (base<0)=false:=decide_eq_false (by omega)
 have l:decide (109572<base)=false:=decide_eq_false (by omega)
 rcases (show kind<1\/(1<=kind/\4<kind) by omega) with a | ⟨a,b⟩
 ·have i:decide (kind<1)=true:=decide_eq_true a;clear h a
  go_enter Tryz.func42,Tryz.ntmps42
  go_wp2_with fail
  go_ret
  exact⟨rfl,c.out.bl⟩
 ·have i:decide (kind<1)=false:=decide_eq_false (by omega)
  have k:decide (4<kind)=true:=decide_eq_true b;clear h a b
  go_enter Tryz.func42,Tryz.ntmps42
  go_wp2_with fail
  go_ret
  exact⟨rfl,c.out.bl⟩
theorem qN (base kind:Int) (l k:Option Addr) (n m o p:Nat) (w:World) (j:0<=base) (d:base<=109572) (i:1<=kind) (g:kind<=4) (h:n<1\/255<n\/m≠n) :
  Calls Tryz.prog 42 #[.agg #[.int .i64 base,.int .i64 kind,.slice l n o,.slice k m p]] w fun e s=>e=.returned (.int .i64 100)/\Below w.heap.size w s:=by
 have f:=hideS (fW w base kind (.slice l n o) (.slice k m p));have t:decide (base<0)=false:=decide_eq_false (by omega)
 have x:decide (109572<base)=false:=decide_eq_false (by omega)
 have y:decide (kind<1)=false:=decide_eq_false (by omega)
 have u:decide (4<kind)=false:=decide_eq_false (by omega)
 rcases (show n<1\/(1<=n/\255<n)\/(1<=n/\n<=255/\m≠n) by omega) with a | ⟨a,b⟩| ⟨a,b,c⟩
 ·have q:decide ((n:Int)<1)=true:=decide_eq_true (by omega)
  clear h a j d i g
  go_enter Tryz.func42,Tryz.ntmps42
  go_wp2_with fail
  go_ret
  exact⟨rfl,f.out.bl⟩
 ·have q:decide ((n:Int)<1)=false:=decide_eq_false (by omega)
  have r:decide ((255:Int)<n)=true:=decide_eq_true (by omega)
  clear h a b j d i g
  go_enter Tryz.func42,Tryz.ntmps42
  go_wp2_with fail
  go_ret
  exact⟨rfl,f.out.bl⟩
 ·have q:decide ((n:Int)<1)=false:=decide_eq_false (by omega)
  have r:decide ((255:Int)<n)=false:=decide_eq_false (by omega)
  have v:((n:Int) !=(m:Int))=true:=bne_iff_ne.2 (by omega)
  clear h a b c j d i g
  go_enter Tryz.func42,Tryz.ntmps42
  go_wp2_with fail
  go_ret
  exact⟨rfl,f.out.bl⟩
inductive NodCC (x q:Int) (f p:Bool):Bool->Prop
 | back (h:x<=q):NodCC x q f p true
 | far (h:q<x) (h2:109572<x):NodCC x q f p true
 | inf (h:q<x) (h2:x<=109572) (hf:f=false):NodCC x q f p true
 | low (h:q<x) (h2:x<=109572) (hf:f=true) (hp:p=false):NodCC x q f p true
 | fine (h:q<x) (h2:x<=109572) (hf:f=true) (hp:p=true):NodCC x q f p false
theorem JZ (base:Int) (d:List Int) (e:List Nat) (i:Nat):NodCC (d.getD i 0) (du base d i) (aM (e.getD i 0:Nat)) (ltB 0 (e.getD i 0:Nat)) (kM base d e i):=by
 obtain⟨R,c⟩:∃ R,kM base d e i=R:=⟨_,rfl⟩;rw [c];unfold kM at c
 generalize d.getD i 0=x at *
 generalize du base d i=q at *
 generalize aM (e.getD i 0:Nat)=f at *
 generalize ltB 0 (e.getD i 0:Nat)=p at *
 by_cases a:x<=q
 ·simp [a] at c
  subst c;exact .back a
 ·by_cases b:109572<x
  ·simp [b] at c
   subst c;exact .far (by omega) b
  ·rw [decide_eq_false a,decide_eq_false b] at c
   cases f
   ·simp at c
    subst c;exact .inf (by omega) (by omega) rfl
   ·cases p
    ·simp at c
     subst c;exact .low (by omega) (by omega) rfl rfl
    ·simp at c
     subst c;exact .fine (by omega) (by omega) rfl rfl
theorem iS (base kind:Int) (S T:Option Addr) (bd od N b2 o2 O n K:Nat) (t:List Int) (A:List Nat) (w:World) (Y:VSrc w S bd od n (xV t)) (hY:VSrc w T b2 o2 n (yV A)) (hf:∀ i<n,U64 (A.getD i 0:Nat)) (b0:0<=base) (b1:base<=109572) (h1:1<=kind) (h4:kind<=4) (hn:1<=n) (ak:n<=255) (hK:K<=n) (z:∀ i<K,kM base t A i=false) (B:K<n->kM base t A K=true) :
  Calls Tryz.prog 42 #[.agg #[.int .i64 base,.int .i64 kind,.slice S n N,.slice T n O]] w fun e w'=>e=.returned (.int .i64 (if K<n then 100 else 0))/\Below w.heap.size w w':=by
 obtain⟨U,Q⟩:∃ U,w.alloc (.cells #[.int .i64 base,.int .i64 kind,.slice S n N,.slice T n O] 39)=U:=⟨_,rfl⟩;have g:Hid (VBox w base kind (.slice S n N) (.slice T n O) U):=by show VBox _ _ _ _ _ _;rw [<- Q];exact fW w base kind (.slice S n N) (.slice T n O)
 have L:=hideS (Y.below g.out.bl);have H:=hideS (hY.below g.out.bl);have M:=hideS hf;have I:=hideS z;have j:=hideS B;have o:=hideS fun (u:Int) (E:World) (hu:U64 u)=>co u E hu
 have p:=hideS fun (u:Int) (E:World) (hu:U64 u)=>go 0 u E (by unfold U64;decide) hu
 obtain rfl:=Y.at_ (by omega)
 obtain rfl:=hY.at_ (by omega)
 have G:decide (base<0)=false:=decide_eq_false (by omega)
 have P:decide (109572<base)=false:=decide_eq_false (by omega)
 have d3:decide (kind<1)=false:=decide_eq_false (by omega)
 have d4:decide (4<kind)=false:=decide_eq_false (by omega)
 have d5:decide ((n:Int)<1)=false:=decide_eq_false (by omega)
 have d6:decide ((255:Int)<n)=false:=decide_eq_false (by omega)
 have d7:((n:Int) !=(n:Int))=false:=by simp
 obtain⟨R,hR⟩:∃ R:Int,(if K<n then 100 else 0)=R:=⟨_,rfl⟩
 rw [hR];have V:=hideS hR;have s0:=g.out.t0;have s1:=g.out.t1;have s2:=g.out.t2;have s3:=g.out.t3;clear Y hY hf z B hR b0 b1 h1 h4
 go_enter Tryz.func42,Tryz.ntmps42
 go_wp2_with fail
 clear Q s0 s1 s2 s3 G P d3 d4 d5 d6 d7
 go_loopw [3,4] (fun l i wr=>∃ k:Nat,k<=K/\l=.int .i64 (du base t k)/\i=.int .i64 k/\Hid (wr=U)) (fun _ i _=>n - (intOf i).toNat)
 case atStart=>exact⟨0,Nat.zero_le _,rfl,rfl,rfl⟩
 case round=>
  obtain⟨k,hk,rfl,rfl,F⟩:=hrel;have t2:wr.cell? ⟨w.heap.size,2,none⟩=some (.slice (some ⟨bd,od,none⟩) n N):=by rw [F.out];exact g.out.t2
  have t3:wr.cell? ⟨w.heap.size,3,none⟩=some (.slice (some ⟨b2,o2,none⟩) n O):=by rw [F.out];exact g.out.t3
  by_cases s:k<n
  ·have ai:wr.cell? ⟨bd,od+k,none⟩=some (.int .i64 (t.getD k 0)):=by rw [F.out];exact L.out.cell k s
   have al:wr.cell? ⟨b2,o2+k,none⟩=some (.int .u64 (A.getD k 0:Nat)):=by rw [F.out];exact H.out.cell k s
   have J:=JZ base t A k;have D:=hideS (M.out k s);have f:=hideS fun E=>o.out _ E D.out
   have h:=hideS fun E=>p.out _ E D.out
   have HP:Hid (du base t (k+1)=t.getD k 0):=rfl
   by_cases ab:k<K
   ·rw [I.out k ab] at J
    generalize v:false=Z at J
    cases J with
    | back=>cases v
    | far=>cases v
    | inf=>cases v
    | low=>cases v
    | fine a b c d=>
     clear v;rw [c] at f
     rw [d] at h
     clear c d;generalize du base t k=q at *
     generalize t.getD k 0=x at *
     generalize C:((A.getD k 0:Nat):Int)=y at *
     clear C;have G:decide (x<=q)=false:=decide_eq_false (by omega)
     have P:decide (109572<x)=false:=decide_eq_false (by omega)
     clear I j M L H g o p D hn a b
     go_wp2_with (first | (go_at_call 41;refine (f.out _).mono ?_;rintro e X ⟨rfl,rfl⟩) | (go_at_call 60;refine (h.out _).mono ?_;rintro e W ⟨rfl,rfl⟩))
     go_roundw
     case rel=>exact⟨k+1,by omega,by rw [HP.out],by simp,F⟩
     case measure=>simp [intOf];omega
   ·obtain rfl:k=K:=by omega
    rw [j.out s] at J
    have r:Hid ((100:Int)=R):=by show _=_;rw [<- V.out,if_pos s]
    clear V HP;have m:Hid (Below w.heap.size w wr):=by show Below _ _ _;rw [F.out];exact g.out.bl
    generalize du base t k=q at *
    generalize t.getD k 0=x at *
    generalize C:((A.getD k 0:Nat):Int)=y at *
    clear C;generalize v:true=Z at J
    cases J with
    | fine=>cases v
    | back a=>
     clear v;have G:decide (x<=q)=true:=decide_eq_true a;clear I j M L H g o p D hn a
     go_wp2_with (first | (go_at_call 41;refine (f.out _).mono ?_;rintro e X ⟨rfl,rfl⟩) | (go_at_call 60;refine (h.out _).mono ?_;rintro e W ⟨rfl,rfl⟩))
     go_ret
     exact⟨by rw [<- r.out];rfl,m.out⟩
    | far a b=>
     clear v;have G:decide (x<=q)=false:=decide_eq_false (by omega)
     have P:decide (109572<x)=true:=decide_eq_true b;clear I j M L H g o p D hn a b
     go_wp2_with (first | (go_at_call 41;refine (f.out _).mono ?_;rintro e X ⟨rfl,rfl⟩) | (go_at_call 60;refine (h.out _).mono ?_;rintro e W ⟨rfl,rfl⟩))
     go_ret
     exact⟨by rw [<- r.out];rfl,m.out⟩
    | inf a b c=>
     clear v;rw [c] at f
     have G:decide (x<=q)=false:=decide_eq_false (by omega)
     have P:decide (109572<x)=false:=decide_eq_false (by omega)
     clear I j M L H g o p D hn a b c
     go_wp2_with (first | (go_at_call 41;refine (f.out _).mono ?_;rintro e X ⟨rfl,rfl⟩) | (go_at_call 60;refine (h.out _).mono ?_;rintro e W ⟨rfl,rfl⟩))
     go_ret
     exact⟨by rw [<- r.out];rfl,m.out⟩
    | low a b c d=>
     clear v;rw [c] at f
     rw [d] at h
     have G:decide (x<=q)=false:=decide_eq_false (by omega)
     have P:decide (109572<x)=false:=decide_eq_false (by omega)
     clear I j M L H g o p D hn a b c d
     go_wp2_with (first | (go_at_call 41;refine (f.out _).mono ?_;rintro e X ⟨rfl,rfl⟩) | (go_at_call 60;refine (h.out _).mono ?_;rintro e W ⟨rfl,rfl⟩))
     go_ret
     exact⟨by rw [<- r.out];rfl,m.out⟩
  ·obtain rfl:k=K:=by omega
   have r:Hid ((0:Int)=R):=by show _=_;rw [<- V.out,if_neg s]
   clear V;have ad:¬ (k:Int)<n:=by omega
   have m:Hid (Below w.heap.size w wr):=by show Below _ _ _;rw [F.out];exact g.out.bl
   go_wp2_with fail
   go_ret
   exact⟨by rw [<- r.out];rfl,m.out⟩
theorem dw (base kind:Int) (j i:Option Addr) (bd r p x s q:Nat) (a:List Int) (l:List Nat) (w:World) (b:CSrcD w j i bd r x s a l) {E:Int} (B:CurR base kind a l E) :
  Calls Tryz.prog 42 #[.agg #[.int .i64 base,.int .i64 kind,.slice j a.length p,.slice i l.length q]] w fun e A=>e=.returned (.int .i64 E)/\Below w.heap.size w A:=by
 cases B with
 | base h=>exact oh base kind _ _ w h
 | kind o g h=>exact oq base kind _ _ w o g h
 | len o g v t h=>exact qN base kind j i _ _ p q w o g v t h
 | ok h=>
  have k:=b.f;have n:=b.u;rw [h.len] at k n ⊢
  have:=iS base kind j i bd r p x s q a.length a.length a l w b.d k n h.b0 h.b1 h.k1 h.k4 h.lo h.hi (Nat.le_refl _) h.node (fun c=>absurd c (Nat.lt_irrefl _))
  rwa [if_neg (Nat.lt_irrefl _)] at this
 | node o g v t lo hi len K z y m=>
  have k:=b.f;have n:=b.u;rw [len] at k n ⊢
  have:=iS base kind j i bd r p x s q a.length K a l w b.d k n o g v t lo hi (Nat.le_of_lt z) m (fun _=>y)
  rwa [if_pos z] at this
instance (x:Nat):Decidable (af x):=by unfold af;infer_instance
theorem sub_self {r:Nat} (h:af r):floatBits .sub .f64 r r=some 0:=by
 rw [oD h h];unfold iU;rw [if_pos (by omega)]
 cases (r / 9223372036854775808 % 2==1)<;>rfl
end Go.Proofs.YtfdddijdjpijbaaGreat
