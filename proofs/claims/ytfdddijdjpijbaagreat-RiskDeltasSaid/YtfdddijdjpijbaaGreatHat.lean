/-  -/
import Derived.Test.YtfdddijdjpijbaaGreatHas
import Derived.Test.YtfdddijdjpijbaaGreatHar
set_option maxHeartbeats 12800000
set_option maxRecDepth 20000
namespace Go.Proofs.YtfdddijdjpijbaaGreat
open Go.RowKit
structure VBox (w:World) (base kind:Int) (vd vf:Value) (wr:World):Prop where
 t0:wr.cell? ⟨w.heap.size,0,none⟩=some (.int .i64 base)
 t1:wr.cell? ⟨w.heap.size,1,none⟩=some (.int .i64 kind)
 t2:wr.cell? ⟨w.heap.size,2,none⟩=some vd
 t3:wr.cell? ⟨w.heap.size,3,none⟩=some vf
 bl:Below w.heap.size w wr
 lt:w.heap.size<wr.heap.size
theorem gq (w:World) (base kind:Int) (a b:Value):VBox w base kind a b (w.alloc (.cells #[.int .i64 base,.int .i64 kind,a,b] 39)):=
 ⟨by simp,by simp,by simp,by simp,(Below.refl _ _).alloc (Nat.le_refl _) _,by simp⟩
theorem bu (w:World) (base kind:Int) (a b:Value):VBox w base kind a b (w.alloc (.cells #[.int .i64 base,.int .i64 kind,a,b] 26)):=
 ⟨by simp,by simp,by simp,by simp,(Below.refl _ _).alloc (Nat.le_refl _) _,by simp⟩
theorem VBox.step {w wr c:World} {base kind:Int} {b d:Value} (h:VBox w base kind b d wr) (a:Below wr.heap.size wr c):VBox w base kind b d c:=
 ⟨(a.cell (p:=⟨w.heap.size,0,none⟩) h.lt).trans h.t0,(a.cell (p:=⟨w.heap.size,1,none⟩) h.lt).trans h.t1,(a.cell (p:=⟨w.heap.size,2,none⟩) h.lt).trans h.t2,(a.cell (p:=⟨w.heap.size,3,none⟩) h.lt).trans h.t3,h.bl.trans (a.mono h.bl.size),Nat.lt_of_lt_of_le h.lt a.size⟩
theorem VBox.drewN {w wr:World} {base kind:Int} {a b:Value} (h:VBox w base kind a b wr) (m:Nat):VBox w base kind a b (wr.drewN m):=⟨h.t0,h.t1,h.t2,h.t3,⟨h.bl.os,h.bl.tape,h.bl.output,h.bl.size,h.bl.block⟩,h.lt⟩
structure CSrcD (w:World) (pd pf:Option Addr) (bd od b2 o2:Nat) (ds:List Int) (fs:List Nat):Prop where
 d:VSrc w pd bd od ds.length (xV ds)
 f:VSrc w pf b2 o2 fs.length (yV fs)
 u:∀ i<fs.length,U64 (fs.getD i 0:Nat)
theorem CSrcD.below {w k:World} {c l:Option Addr} {bd g e i:Nat} {b:List Int} {j:List Nat} (h:CSrcD w c l bd g e i b j) (a:Below w.heap.size w k):CSrcD k c l bd g e i b j:=⟨h.d.below a,h.f.below a,h.u⟩
theorem oD (base kind:Int) (b f:Value) (w:World) (h:base<0\/109572<base) :
  Calls Tryz.prog 42 #[.agg #[.int .i64 base,.int .i64 kind,b,f]] w fun e g=>e=.returned (.int .i64 51)/\Below w.heap.size w g:=by
 have c:=hideS (gq w base kind b f);rcases (show base<0\/(0<=base/\109572<base) by omega) with a | ⟨a,d⟩
 ·have i:decide (base<0)=true:=decide_eq_true a;clear h a
  go_enter Tryz.func42,Tryz.ntmps42
  go_wp2_with fail
  go_ret
  exact⟨rfl,c.out.bl⟩
 ·have i:decide (base<0)=false:=decide_eq_false (by omega)
  have j:decide (109572<base)=true:=decide_eq_true d;clear h a d
  go_enter Tryz.func42,Tryz.ntmps42
  go_wp2_with fail
  go_ret
  exact⟨rfl,c.out.bl⟩
theorem oE (base kind:Int) (b f:Value) (w:World) (l:0<=base) (m:base<=109572) (h:kind<1\/4<kind) :
  Calls Tryz.prog 42 #[.agg #[.int .i64 base,.int .i64 kind,b,f]] w fun e i=>e=.returned (.int .i64 90)/\Below w.heap.size w i:=by
 have c:=hideS (gq w base kind b f);have n:decide (base<0)=false:=decide_eq_false (by omega)
 have k:decide (109572<base)=false:=decide_eq_false (by omega)
 rcases (show kind<1\/(1<=kind/\4<kind) by omega) with a | ⟨a,d⟩
 ·have g:decide (kind<1)=true:=decide_eq_true a;clear h a
  go_enter Tryz.func42,Tryz.ntmps42
  go_wp2_with fail
  go_ret
  exact⟨rfl,c.out.bl⟩
 ·have g:decide (kind<1)=false:=decide_eq_false (by omega)
  have j:decide (4<kind)=true:=decide_eq_true d;clear h a d
  go_enter Tryz.func42,Tryz.ntmps42
  go_wp2_with fail
  go_ret
  exact⟨rfl,c.out.bl⟩
theorem rd (base kind:Int) (p k:Option Addr) (n m l o:Nat) (w:World) (g:0<=base) (j:base<=109572) (f:1<=kind) (d:kind<=4) (h:n<1\/255<n\/m≠n) :
  Calls Tryz.prog 42 #[.agg #[.int .i64 base,.int .i64 kind,.slice p n l,.slice k m o]] w fun e s=>e=.returned (.int .i64 100)/\Below w.heap.size w s:=by
 have i:=hideS (gq w base kind (.slice p n l) (.slice k m o));have t:decide (base<0)=false:=decide_eq_false (by omega)
 have y:decide (109572<base)=false:=decide_eq_false (by omega)
 have v:decide (kind<1)=false:=decide_eq_false (by omega)
 have x:decide (4<kind)=false:=decide_eq_false (by omega)
 rcases (show n<1\/(1<=n/\255<n)\/(1<=n/\n<=255/\m≠n) by omega) with a | ⟨a,b⟩| ⟨a,b,c⟩
 ·have q:decide ((n:Int)<1)=true:=decide_eq_true (by omega)
  clear h a g j f d
  go_enter Tryz.func42,Tryz.ntmps42
  go_wp2_with fail
  go_ret
  exact⟨rfl,i.out.bl⟩
 ·have q:decide ((n:Int)<1)=false:=decide_eq_false (by omega)
  have r:decide ((255:Int)<n)=true:=decide_eq_true (by omega)
  clear h a b g j f d
  go_enter Tryz.func42,Tryz.ntmps42
  go_wp2_with fail
  go_ret
  exact⟨rfl,i.out.bl⟩
 ·have q:decide ((n:Int)<1)=false:=decide_eq_false (by omega)
  have r:decide ((255:Int)<n)=false:=decide_eq_false (by omega)
  have u:((n:Int) !=(m:Int))=true:=bne_iff_ne.2 (by omega)
  clear h a b c g j f d
  go_enter Tryz.func42,Tryz.ntmps42
  go_wp2_with fail
  go_ret
  exact⟨rfl,i.out.bl⟩
inductive NodCC (x q:Int) (f p:Bool):Bool->Prop
 | back (h:x<=q):NodCC x q f p true
 | far (h:q<x) (h2:109572<x):NodCC x q f p true
 | inf (h:q<x) (h2:x<=109572) (hf:f=false):NodCC x q f p true
 | low (h:q<x) (h2:x<=109572) (hf:f=true) (hp:p=false):NodCC x q f p true
 | fine (h:q<x) (h2:x<=109572) (hf:f=true) (hp:p=true):NodCC x q f p false
theorem KE (base:Int) (d:List Int) (e:List Nat) (i:Nat):NodCC (d.getD i 0) (dA base d i) (aE (e.getD i 0:Nat)) (ltB 0 (e.getD i 0:Nat)) (kR base d e i):=by
 obtain⟨R,c⟩:∃ R,kR base d e i=R:=⟨_,rfl⟩;rw [c];unfold kR at c
 generalize d.getD i 0=x at *
 generalize dA base d i=q at *
 generalize aE (e.getD i 0:Nat)=f at *
 generalize ltB 0 (e.getD i 0:Nat)=p at *
 by_cases a:x<=q
 ·simp [a] at c
  subst c;exact .back a
 ·by_cases b:109572<x
  ·simp [b] at c
   subst c;exact .far (by omega) b
  ·rw [decide_eq_false a,decide_eq_false b] at c
   cases f
   ·simp at c
    subst c;exact .inf (by omega) (by omega) rfl
   ·cases p
    ·simp at c
     subst c;exact .low (by omega) (by omega) rfl rfl
    ·simp at c
     subst c;exact .fine (by omega) (by omega) rfl rfl
theorem ja (base kind:Int) (P T:Option Addr) (bd od U b2 o2 S n K:Nat) (t:List Int) (A:List Nat) (w:World) (hX:VSrc w P bd od n (xV t)) (hY:VSrc w T b2 o2 n (yV A)) (hf:∀ i<n,U64 (A.getD i 0:Nat)) (b0:0<=base) (b1:base<=109572) (h1:1<=kind) (h4:kind<=4) (hn:1<=n) (ac:n<=255) (hK:K<=n) (z:∀ i<K,kR base t A i=false) (B:K<n->kR base t A K=true) :
  Calls Tryz.prog 42 #[.agg #[.int .i64 base,.int .i64 kind,.slice P n U,.slice T n S]] w fun e w'=>e=.returned (.int .i64 (if K<n then 100 else 0))/\Below w.heap.size w w':=by
 obtain⟨Y,O⟩:∃ Y,w.alloc (.cells #[.int .i64 base,.int .i64 kind,.slice P n U,.slice T n S] 39)=Y:=⟨_,rfl⟩;have h:Hid (VBox w base kind (.slice P n U) (.slice T n S) Y):=by show VBox _ _ _ _ _ _;rw [<- O];exact gq w base kind (.slice P n U) (.slice T n S)
 have N:=hideS (hX.below h.out.bl);have M:=hideS (hY.below h.out.bl);have I:=hideS hf;have L:=hideS z;have j:=hideS B;have m:=hideS fun (u:Int) (C:World) (hu:U64 u)=>bK u C hu
 have o:=hideS fun (u:Int) (C:World) (hu:U64 u)=>gF 0 u C (by unfold U64;decide) hu
 obtain rfl:=hX.at_ (by omega)
 obtain rfl:=hY.at_ (by omega)
 have J:decide (base<0)=false:=decide_eq_false (by omega)
 have Q:decide (109572<base)=false:=decide_eq_false (by omega)
 have d3:decide (kind<1)=false:=decide_eq_false (by omega)
 have d4:decide (4<kind)=false:=decide_eq_false (by omega)
 have d5:decide ((n:Int)<1)=false:=decide_eq_false (by omega)
 have d6:decide ((255:Int)<n)=false:=decide_eq_false (by omega)
 have d7:((n:Int) !=(n:Int))=false:=by simp
 obtain⟨R,hR⟩:∃ R:Int,(if K<n then 100 else 0)=R:=⟨_,rfl⟩
 rw [hR];have V:=hideS hR;have s0:=h.out.t0;have s1:=h.out.t1;have s2:=h.out.t2;have s3:=h.out.t3;clear hX hY hf z B hR b0 b1 h1 h4
 go_enter Tryz.func42,Tryz.ntmps42
 go_wp2_with fail
 clear O s0 s1 s2 s3 J Q d3 d4 d5 d6 d7
 go_loopw [3,4] (fun l i F=>∃ k:Nat,k<=K/\l=.int .i64 (dA base t k)/\i=.int .i64 k/\Hid (F=Y)) (fun _ i _=>n - (intOf i).toNat)
 case atStart=>exact⟨0,Nat.zero_le _,rfl,rfl,rfl⟩
 case round=>
  obtain⟨k,hk,rfl,rfl,G⟩:=hrel;have t2:F.cell? ⟨w.heap.size,2,none⟩=some (.slice (some ⟨bd,od,none⟩) n U):=by rw [G.out];exact h.out.t2
  have t3:F.cell? ⟨w.heap.size,3,none⟩=some (.slice (some ⟨b2,o2,none⟩) n S):=by rw [G.out];exact h.out.t3
  by_cases s:k<n
  ·have ai:F.cell? ⟨bd,od+k,none⟩=some (.int .i64 (t.getD k 0)):=by rw [G.out];exact N.out.cell k s
   have ad:F.cell? ⟨b2,o2+k,none⟩=some (.int .u64 (A.getD k 0:Nat)):=by rw [G.out];exact M.out.cell k s
   have H:=KE base t A k;have E:=hideS (I.out k s);have f:=hideS fun C=>m.out _ C E.out
   have g:=hideS fun C=>o.out _ C E.out
   have HP:Hid (dA base t (k+1)=t.getD k 0):=rfl
   by_cases ab:k<K
   ·rw [L.out k ab] at H
    generalize v:false=Z at H
    cases H with
    | back=>cases v
    | far=>cases v
    | inf=>cases v
    | low=>cases v
    | fine a b c d=>
     clear v;rw [c] at f
     rw [d] at g
     clear c d;generalize dA base t k=q at *
     generalize t.getD k 0=x at *
     generalize D:((A.getD k 0:Nat):Int)=y at *
     clear D;have J:decide (x<=q)=false:=decide_eq_false (by omega)
     have Q:decide (109572<x)=false:=decide_eq_false (by omega)
     clear L j I N M h m o E hn a b
     go_wp2_with (first | (go_at_call 41;refine (f.out _).mono ?_;rintro e X ⟨rfl,rfl⟩) | (go_at_call 60;refine (g.out _).mono ?_;rintro e W ⟨rfl,rfl⟩))
     go_roundw
     case rel=>exact⟨k+1,by omega,by rw [HP.out],by simp,G⟩
     case measure=>simp [intOf];omega
   ·obtain rfl:k=K:=by omega
    rw [j.out s] at H
    have p:Hid ((100:Int)=R):=by show _=_;rw [<- V.out,if_pos s]
    clear V HP;have r:Hid (Below w.heap.size w F):=by show Below _ _ _;rw [G.out];exact h.out.bl
    generalize dA base t k=q at *
    generalize t.getD k 0=x at *
    generalize D:((A.getD k 0:Nat):Int)=y at *
    clear D;generalize v:true=Z at H
    cases H with
    | fine=>cases v
    | back a=>
     clear v;have J:decide (x<=q)=true:=decide_eq_true a;clear L j I N M h m o E hn a
     go_wp2_with (first | (go_at_call 41;refine (f.out _).mono ?_;rintro e X ⟨rfl,rfl⟩) | (go_at_call 60;refine (g.out _).mono ?_;rintro e W ⟨rfl,rfl⟩))
     go_ret
     exact⟨by rw [<- p.out];rfl,r.out⟩
    | far a b=>
     clear v;have J:decide (x<=q)=false:=decide_eq_false (by omega)
     have Q:decide (109572<x)=true:=decide_eq_true b;clear L j I N M h m o E hn a b
     go_wp2_with (first | (go_at_call 41;refine (f.out _).mono ?_;rintro e X ⟨rfl,rfl⟩) | (go_at_call 60;refine (g.out _).mono ?_;rintro e W ⟨rfl,rfl⟩))
     go_ret
     exact⟨by rw [<- p.out];rfl,r.out⟩
    | inf a b c=>
     clear v;rw [c] at f
     have J:decide (x<=q)=false:=decide_eq_false (by omega)
     have Q:decide (109572<x)=false:=decide_eq_false (by omega)
     clear L j I N M h m o E hn a b c
     go_wp2_with (first | (go_at_call 41;refine (f.out _).mono ?_;rintro e X ⟨rfl,rfl⟩) | (go_at_call 60;refine (g.out _).mono ?_;rintro e W ⟨rfl,rfl⟩))
     go_ret
     exact⟨by rw [<- p.out];rfl,r.out⟩
    | low a b c d=>
     clear v;rw [c] at f
     rw [d] at g
     have J:decide (x<=q)=false:=decide_eq_false (by omega)
     have Q:decide (109572<x)=false:=decide_eq_false (by omega)
     clear L j I N M h m o E hn a b c d
     go_wp2_with (first | (go_at_call 41;refine (f.out _).mono ?_;rintro e X ⟨rfl,rfl⟩) | (go_at_call 60;refine (g.out _).mono ?_;rintro e W ⟨rfl,rfl⟩))
     go_ret
     exact⟨by rw [<- p.out];rfl,r.out⟩
  ·obtain rfl:k=K:=by omega
   have p:Hid ((0:Int)=R):=by show _=_;rw [<- V.out,if_neg s]
   clear V;have al:¬ (k:Int)<n:=by omega
   have r:Hid (Below w.heap.size w F):=by show Below _ _ _;rw [G.out];exact h.out.bl
   go_wp2_with fail
   go_ret
   exact⟨by rw [<- p.out];rfl,r.out⟩
theorem dC (base kind:Int) (l i:Option Addr) (bd s p y t q:Nat) (a:List Int) (g:List Nat) (w:World) (b:CSrcD w l i bd s y t a g) {E:Int} (B:CurR base kind a g E) :
  Calls Tryz.prog 42 #[.agg #[.int .i64 base,.int .i64 kind,.slice l a.length p,.slice i g.length q]] w fun e A=>e=.returned (.int .i64 E)/\Below w.heap.size w A:=by
 cases B with
 | base h=>exact oD base kind _ _ w h
 | kind k o h=>exact oE base kind _ _ w k o h
 | len k o x r h=>exact rd base kind l i _ _ p q w k o x r h
 | ok h=>
  have n:=b.f;have m:=b.u;rw [h.len] at n m ⊢
  have:=ja base kind l i bd s p y t q a.length a.length a g w b.d n m h.b0 h.b1 h.k1 h.k4 h.lo h.hi (Nat.le_refl _) h.node (fun c=>absurd c (Nat.lt_irrefl _))
  rwa [if_neg (Nat.lt_irrefl _)] at this
 | node k o x r lo hi len K z v j=>
  have n:=b.f;have m:=b.u;rw [len] at n m ⊢
  have:=ja base kind l i bd s p y t q a.length K a g w b.d n m k o x r lo hi (Nat.le_of_lt z) j (fun _=>v)
  rwa [if_pos z] at this
instance (x:Nat):Decidable (ag x):=by unfold ag;infer_instance
theorem sub_self {r:Nat} (h:ag r):floatBits .sub .f64 r r=some 0:=by
 rw [oR h h];unfold jc;rw [if_pos (by omega)]
 cases (r / 9223372036854775808 % 2==1)<;>rfl
end Go.Proofs.YtfdddijdjpijbaaGreat
