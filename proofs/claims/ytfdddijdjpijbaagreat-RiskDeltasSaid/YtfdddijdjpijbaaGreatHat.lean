/-  -/
import Derived.Test.YtfdddijdjpijbaaGreatHas
import Derived.Test.YtfdddijdjpijbaaGreatHar
set_option maxHeartbeats 12800000
set_option maxRecDepth 20000
namespace Go.Proofs.YtfdddijdjpijbaaGreat
open Go.RowKit
structure VBox (w:World) (base kind:Int) (vd vf:Value) (wr:World):Prop where
 t0:wr.cell? ⟨w.heap.size,0,none⟩=some (.int .i64 base)
 t1:wr.cell? ⟨w.heap.size,1,none⟩=some (.int .i64 kind)
 t2:wr.cell? ⟨w.heap.size,2,none⟩=some vd
 t3:wr.cell? ⟨w.heap.size,3,none⟩=some vf
 bl:Below w.heap.size w wr
 lt:w.heap.size<wr.heap.size
theorem gq (w:World) (base kind:Int) (a b:Value):VBox w base kind a b (w.alloc (.cells #[.int .i64 base,.int .i64 kind,a,b] 39)):=
 ⟨by simp,by simp,by simp,by simp,(Below.refl _ _).alloc (Nat.le_refl _) _,by simp⟩
theorem bu (w:World) (base kind:Int) (a b:Value):VBox w base kind a b (w.alloc (.cells #[.int .i64 base,.int .i64 kind,a,b] 26)):=
 ⟨by simp,by simp,by simp,by simp,(Below.refl _ _).alloc (Nat.le_refl _) _,by simp⟩
theorem VBox.step {w wr b:World} {base kind:Int} {c d:Value} (h:VBox w base kind c d wr) (a:Below wr.heap.size wr b):VBox w base kind c d b:=
 ⟨(a.cell (p:=⟨w.heap.size,0,none⟩) h.lt).trans h.t0,(a.cell (p:=⟨w.heap.size,1,none⟩) h.lt).trans h.t1,(a.cell (p:=⟨w.heap.size,2,none⟩) h.lt).trans h.t2,(a.cell (p:=⟨w.heap.size,3,none⟩) h.lt).trans h.t3,h.bl.trans (a.mono h.bl.size),Nat.lt_of_lt_of_le h.lt a.size⟩
theorem VBox.drewN {w wr:World} {base kind:Int} {a b:Value} (h:VBox w base kind a b wr) (m:Nat):VBox w base kind a b (wr.drewN m):=⟨h.t0,h.t1,h.t2,h.t3,⟨h.bl.os,h.bl.tape,h.bl.output,h.bl.size,h.bl.block⟩,h.lt⟩
structure CSrcD (w:World) (pd pf:Option Addr) (bd od b2 o2:Nat) (ds:List Int) (fs:List Nat):Prop where
 d:VSrc w pd bd od ds.length (xV ds)
 f:VSrc w pf b2 o2 fs.length (yV fs)
 u:∀ i<fs.length,U64 (fs.getD i 0:Nat)
theorem CSrcD.below {w a:World} {i j:Option Addr} {bd k b e:Nat} {g:List Int} {l:List Nat} (h:CSrcD w i j bd k b e g l) (c:Below w.heap.size w a):CSrcD a i j bd k b e g l:=⟨h.d.below c,h.f.below c,h.u⟩
theorem oD (base kind:Int) (b f:Value) (w:World) (h:base<0\/109572<base) :
  Calls Tryz.prog 42 #[.agg #[.int .i64 base,.int .i64 kind,b,f]] w fun e g=>e=.returned (.int .i64 51)/\Below w.heap.size w g:=by
 have d:=hideS (gq w base kind b f);rcases (show base<0\/(0<=base/\109572<base) by omega) with a | ⟨a,c⟩
 ·have i:decide (base<0)=true:=decide_eq_true a;clear h a
  go_enter Tryz.func42,Tryz.ntmps42
  go_wp2_with fail
  go_ret
  exact⟨rfl,d.out.bl⟩
 ·have i:decide (base<0)=false:=decide_eq_false (by omega)
  have j:decide (109572<base)=true:=decide_eq_true c;clear h a c
  go_enter Tryz.func42,Tryz.ntmps42
  go_wp2_with fail
  go_ret
  exact⟨rfl,d.out.bl⟩
theorem oE (base kind:Int) (b d:Value) (w:World) (j:0<=base) (m:base<=109572) (h:kind<1\/4<kind) :
  Calls Tryz.prog 42 #[.agg #[.int .i64 base,.int .i64 kind,b,d]] w fun e g=>e=.returned (.int .i64 90)/\Below w.heap.size w g:=by
 have c:=hideS (gq w base kind b d);have l:decide (base<0)=false:=decide_eq_false (by omega)
 have k:decide (109572<base)=false:=decide_eq_false (by omega)
 rcases (show kind<1\/(1<=kind/\4<kind) by omega) with a | ⟨a,f⟩
 ·have i:decide (kind<1)=true:=decide_eq_true a;clear h a
  go_enter Tryz.func42,Tryz.ntmps42
  go_wp2_with fail
  go_ret
  exact⟨rfl,c.out.bl⟩
 ·have i:decide (kind<1)=false:=decide_eq_false (by omega)
  have n:decide (4<kind)=true:=decide_eq_true f;clear h a f
  go_enter Tryz.func42,Tryz.ntmps42
  go_wp2_with fail
  go_ret
  exact⟨rfl,c.out.bl⟩
theorem rd (base kind:Int) (l o:Option Addr) (n m q p:Nat) (w:World) (i:0<=base) (j:base<=109572) (f:1<=kind) (g:kind<=4) (h:n<1\/255<n\/m≠n) :
  Calls Tryz.prog 42 #[.agg #[.int .i64 base,.int .i64 kind,.slice l n q,.slice o m p]] w fun e s=>e=.returned (.int .i64 100)/\Below w.heap.size w s:=by
 have d:=hideS (gq w base kind (.slice l n q) (.slice o m p));have y:decide (base<0)=false:=decide_eq_false (by omega)
 have x:decide (109572<base)=false:=decide_eq_false (by omega)
 have u:decide (kind<1)=false:=decide_eq_false (by omega)
 have v:decide (4<kind)=false:=decide_eq_false (by omega)
 rcases (show n<1\/(1<=n/\255<n)\/(1<=n/\n<=255/\m≠n) by omega) with a | ⟨a,b⟩| ⟨a,b,c⟩
 ·have k:decide ((n:Int)<1)=true:=decide_eq_true (by omega)
  clear h a i j f g
  go_enter Tryz.func42,Tryz.ntmps42
  go_wp2_with fail
  go_ret
  exact⟨rfl,d.out.bl⟩
 ·have k:decide ((n:Int)<1)=false:=decide_eq_false (by omega)
  have r:decide ((255:Int)<n)=true:=decide_eq_true (by omega)
  clear h a b i j f g
  go_enter Tryz.func42,Tryz.ntmps42
  go_wp2_with fail
  go_ret
  exact⟨rfl,d.out.bl⟩
 ·have k:decide ((n:Int)<1)=false:=decide_eq_false (by omega)
  have r:decide ((255:Int)<n)=false:=decide_eq_false (by omega)
  have t:((n:Int) !=(m:Int))=true:=bne_iff_ne.2 (by omega)
  clear h a b c i j f g
  go_enter Tryz.func42,Tryz.ntmps42
  go_wp2_with fail
  go_ret
  exact⟨rfl,d.out.bl⟩
inductive NodCC (x q:Int) (f p:Bool):Bool->Prop
 | back (h:x<=q):NodCC x q f p true
 | far (h:q<x) (h2:109572<x):NodCC x q f p true
 | inf (h:q<x) (h2:x<=109572) (hf:f=false):NodCC x q f p true
 | low (h:q<x) (h2:x<=109572) (hf:f=true) (hp:p=false):NodCC x q f p true
 | fine (h:q<x) (h2:x<=109572) (hf:f=true) (hp:p=true):NodCC x q f p false
theorem KE (base:Int) (d:List Int) (e:List Nat) (i:Nat):NodCC (d.getD i 0) (dA base d i) (aE (e.getD i 0:Nat)) (ltB 0 (e.getD i 0:Nat)) (kR base d e i):=by
 obtain⟨R,c⟩:∃ R,kR base d e i=R:=⟨_,rfl⟩;rw [c];unfold kR at c
 generalize d.getD i 0=x at *
 generalize dA base d i=q at *
 generalize aE (e.getD i 0:Nat)=f at *
 generalize ltB 0 (e.getD i 0:Nat)=p at *
 by_cases a:x<=q
 ·simp [a] at c
  subst c;exact .back a
 ·by_cases b:109572<x
  ·simp [b] at c
   subst c;exact .far (by omega) b
  ·rw [decide_eq_false a,decide_eq_false b] at c
   cases f
   ·simp at c
    subst c;exact .inf (by omega) (by omega) rfl
   ·cases p
    ·simp at c
     subst c;exact .low (by omega) (by omega) rfl rfl
    ·simp at c
     subst c;exact .fine (by omega) (by omega) rfl rfl
theorem ja (base kind:Int) (S T:Option Addr) (bd od Q b2 o2 N n K:Nat) (t:List Int) (A:List Nat) (w:World) (hX:VSrc w S bd od n (xV t)) (hY:VSrc w T b2 o2 n (yV A)) (hf:∀ i<n,U64 (A.getD i 0:Nat)) (b0:0<=base) (b1:base<=109572) (h1:1<=kind) (h4:kind<=4) (hn:1<=n) (ab:n<=255) (hK:K<=n) (v:∀ i<K,kR base t A i=false) (B:K<n->kR base t A K=true) :
  Calls Tryz.prog 42 #[.agg #[.int .i64 base,.int .i64 kind,.slice S n Q,.slice T n N]] w fun e w'=>e=.returned (.int .i64 (if K<n then 100 else 0))/\Below w.heap.size w w':=by
 obtain⟨X,P⟩:∃ X,w.alloc (.cells #[.int .i64 base,.int .i64 kind,.slice S n Q,.slice T n N] 39)=X:=⟨_,rfl⟩;have g:Hid (VBox w base kind (.slice S n Q) (.slice T n N) X):=by show VBox _ _ _ _ _ _;rw [<- P];exact gq w base kind (.slice S n Q) (.slice T n N)
 have L:=hideS (hX.below g.out.bl);have H:=hideS (hY.below g.out.bl);have M:=hideS hf;have J:=hideS v;have m:=hideS B;have p:=hideS fun (u:Int) (D:World) (hu:U64 u)=>bK u D hu
 have s:=hideS fun (u:Int) (D:World) (hu:U64 u)=>gF 0 u D (by unfold U64;decide) hu
 obtain rfl:=hX.at_ (by omega)
 obtain rfl:=hY.at_ (by omega)
 have G:decide (base<0)=false:=decide_eq_false (by omega)
 have O:decide (109572<base)=false:=decide_eq_false (by omega)
 have d3:decide (kind<1)=false:=decide_eq_false (by omega)
 have d4:decide (4<kind)=false:=decide_eq_false (by omega)
 have d5:decide ((n:Int)<1)=false:=decide_eq_false (by omega)
 have d6:decide ((255:Int)<n)=false:=decide_eq_false (by omega)
 have d7:((n:Int) !=(n:Int))=false:=by simp
 obtain⟨R,hR⟩:∃ R:Int,(if K<n then 100 else 0)=R:=⟨_,rfl⟩
 rw [hR];have V:=hideS hR;have s0:=g.out.t0;have s1:=g.out.t1;have s2:=g.out.t2;have s3:=g.out.t3;clear hX hY hf v B hR b0 b1 h1 h4
 go_enter Tryz.func42,Tryz.ntmps42
 go_wp2_with fail
 clear P s0 s1 s2 s3 G O d3 d4 d5 d6 d7
 go_loopw [3,4] (fun l i wr=>∃ k:Nat,k<=K/\l=.int .i64 (dA base t k)/\i=.int .i64 k/\Hid (wr=X)) (fun _ i _=>n - (intOf i).toNat)
 case atStart=>exact⟨0,Nat.zero_le _,rfl,rfl,rfl⟩
 case round=>
  obtain⟨k,hk,rfl,rfl,C⟩:=hrel;have t2:wr.cell? ⟨w.heap.size,2,none⟩=some (.slice (some ⟨bd,od,none⟩) n Q):=by rw [C.out];exact g.out.t2
  have t3:wr.cell? ⟨w.heap.size,3,none⟩=some (.slice (some ⟨b2,o2,none⟩) n N):=by rw [C.out];exact g.out.t3
  by_cases j:k<n
  ·have ad:wr.cell? ⟨bd,od+k,none⟩=some (.int .i64 (t.getD k 0)):=by rw [C.out];exact L.out.cell k j
   have al:wr.cell? ⟨b2,o2+k,none⟩=some (.int .u64 (A.getD k 0:Nat)):=by rw [C.out];exact H.out.cell k j
   have I:=KE base t A k;have F:=hideS (M.out k j);have f:=hideS fun D=>p.out _ D F.out
   have h:=hideS fun D=>s.out _ D F.out
   have HP:Hid (dA base t (k+1)=t.getD k 0):=rfl
   by_cases Y:k<K
   ·rw [J.out k Y] at I
    generalize z:false=Z at I
    cases I with
    | back=>cases z
    | far=>cases z
    | inf=>cases z
    | low=>cases z
    | fine a b c d=>
     clear z;rw [c] at f
     rw [d] at h
     clear c d;generalize dA base t k=q at *
     generalize t.getD k 0=x at *
     generalize E:((A.getD k 0:Nat):Int)=y at *
     clear E;have G:decide (x<=q)=false:=decide_eq_false (by omega)
     have O:decide (109572<x)=false:=decide_eq_false (by omega)
     clear J m M L H g p s F hn a b
     go_wp2_with (first | (go_at_call 41;refine (f.out _).mono ?_;rintro e U ⟨rfl,rfl⟩) | (go_at_call 60;refine (h.out _).mono ?_;rintro e W ⟨rfl,rfl⟩))
     go_roundw
     case rel=>exact⟨k+1,by omega,by rw [HP.out],by simp,C⟩
     case measure=>simp [intOf];omega
   ·obtain rfl:k=K:=by omega
    rw [m.out j] at I
    have o:Hid ((100:Int)=R):=by show _=_;rw [<- V.out,if_pos j]
    clear V HP;have r:Hid (Below w.heap.size w wr):=by show Below _ _ _;rw [C.out];exact g.out.bl
    generalize dA base t k=q at *
    generalize t.getD k 0=x at *
    generalize E:((A.getD k 0:Nat):Int)=y at *
    clear E;generalize z:true=Z at I
    cases I with
    | fine=>cases z
    | back a=>
     clear z;have G:decide (x<=q)=true:=decide_eq_true a;clear J m M L H g p s F hn a
     go_wp2_with (first | (go_at_call 41;refine (f.out _).mono ?_;rintro e U ⟨rfl,rfl⟩) | (go_at_call 60;refine (h.out _).mono ?_;rintro e W ⟨rfl,rfl⟩))
     go_ret
     exact⟨by rw [<- o.out];rfl,r.out⟩
    | far a b=>
     clear z;have G:decide (x<=q)=false:=decide_eq_false (by omega)
     have O:decide (109572<x)=true:=decide_eq_true b;clear J m M L H g p s F hn a b
     go_wp2_with (first | (go_at_call 41;refine (f.out _).mono ?_;rintro e U ⟨rfl,rfl⟩) | (go_at_call 60;refine (h.out _).mono ?_;rintro e W ⟨rfl,rfl⟩))
     go_ret
     exact⟨by rw [<- o.out];rfl,r.out⟩
    | inf a b c=>
     clear z;rw [c] at f
     have G:decide (x<=q)=false:=decide_eq_false (by omega)
     have O:decide (109572<x)=false:=decide_eq_false (by omega)
     clear J m M L H g p s F hn a b c
     go_wp2_with (first | (go_at_call 41;refine (f.out _).mono ?_;rintro e U ⟨rfl,rfl⟩) | (go_at_call 60;refine (h.out _).mono ?_;rintro e W ⟨rfl,rfl⟩))
     go_ret
     exact⟨by rw [<- o.out];rfl,r.out⟩
    | low a b c d=>
     clear z;rw [c] at f
     rw [d] at h
     have G:decide (x<=q)=false:=decide_eq_false (by omega)
     have O:decide (109572<x)=false:=decide_eq_false (by omega)
     clear J m M L H g p s F hn a b c d
     go_wp2_with (first | (go_at_call 41;refine (f.out _).mono ?_;rintro e U ⟨rfl,rfl⟩) | (go_at_call 60;refine (h.out _).mono ?_;rintro e W ⟨rfl,rfl⟩))
     go_ret
     exact⟨by rw [<- o.out];rfl,r.out⟩
  ·obtain rfl:k=K:=by omega
   have o:Hid ((0:Int)=R):=by show _=_;rw [<- V.out,if_neg j]
   clear V;have ai:¬ (k:Int)<n:=by omega
   have r:Hid (Below w.heap.size w wr):=by show Below _ _ _;rw [C.out];exact g.out.bl
   go_wp2_with fail
   go_ret
   exact⟨by rw [<- o.out];rfl,r.out⟩
theorem dC (base kind:Int) (l m:Option Addr) (bd x q s t p:Nat) (a:List Int) (i:List Nat) (w:World) (b:CSrcD w l m bd x s t a i) {E:Int} (A:CurR base kind a i E) :
  Calls Tryz.prog 42 #[.agg #[.int .i64 base,.int .i64 kind,.slice l a.length q,.slice m i.length p]] w fun e B=>e=.returned (.int .i64 E)/\Below w.heap.size w B:=by
 cases A with
 | base h=>exact oD base kind _ _ w h
 | kind n o h=>exact oE base kind _ _ w n o h
 | len n o r v h=>exact rd base kind l m _ _ q p w n o r v h
 | ok h=>
  have g:=b.f;have j:=b.u;rw [h.len] at g j ⊢
  have:=ja base kind l m bd x q s t p a.length a.length a i w b.d g j h.b0 h.b1 h.k1 h.k4 h.lo h.hi (Nat.le_refl _) h.node (fun c=>absurd c (Nat.lt_irrefl _))
  rwa [if_neg (Nat.lt_irrefl _)] at this
 | node n o r v lo hi len K z y k=>
  have g:=b.f;have j:=b.u;rw [len] at g j ⊢
  have:=ja base kind l m bd x q s t p a.length K a i w b.d g j n o r v lo hi (Nat.le_of_lt z) k (fun _=>y)
  rwa [if_pos z] at this
instance (x:Nat):Decidable (ag x):=by unfold ag;infer_instance
theorem sub_self {r:Nat} (h:ag r):floatBits .sub .f64 r r=some 0:=by
 rw [oR h h];unfold jc;rw [if_pos (by omega)]
 cases (r / 9223372036854775808 % 2==1)<;>rfl
end Go.Proofs.YtfdddijdjpijbaaGreat
