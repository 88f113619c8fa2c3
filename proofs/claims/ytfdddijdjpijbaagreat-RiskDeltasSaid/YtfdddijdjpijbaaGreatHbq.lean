/-  -/
import Derived.Test.YtfdddijdjpijbaaGreatHar
import Derived.Test.YtfdddijdjpijbaaGreatHbp
import Derived.Test.YtfdddijdjpijbaaGreatHav
import Derived.Test.YtfdddijdjpijbaaGreatHau
import Derived.Test.YtfdddijdjpijbaaGreatHbd
import Derived.Test.YtfdddijdjpijbaaGreatHbn
import Derived.Test.YtfdddijdjpijbaaGreatHbo
set_option maxHeartbeats 800000
set_option maxRecDepth 20000
namespace Go.Proofs.YtfdddijdjpijbaaGreat
open Go.RowKit
theorem QU (kind x E:Int) (V:Nat) (c b:Option Addr) (m l cx g d cy:Nat) (xs:List Int) (ys:List Nat) (w:World) (h:AtO kind xs ys x V E) (j:TSrc w c b m l g d xs ys) (n:ys.length<=cy) (o:cy<=9223372036854775807) :
  Calls Tryz.prog 107 #[.agg #[.int .i64 kind,.slice c xs.length cx,.slice b ys.length cy],.int .i64 x] w fun e z=>e=.returned (.tuple #[.int .u64 (V:Int),.int .i64 E])/\Below w.heap.size w z:=by
 cases h with
 | err k E h y=>exact yk kind x k E c b m l cx g d cy xs ys w h y j
 | node k a h u s=>
  have p:=a.len;rw [p];exact lM kind x c b m l cx g d cy xs.length k xs ys w a rfl h u.lt (.inl s) j
 | piece k D i a h u s q=>
  have p:=a.len;have A:=a.k1;have B:=a.k4;rw [p];rw [p] at n
  unfold Km
  by_cases t:kind=1
  ·rw [if_pos t];exact lM kind x c b m l cx g d cy xs.length k xs ys w a rfl h u.lt (.inr ⟨s,t⟩) j
  ·rw [if_neg t]
   by_cases v:kind=2
   ·rw [if_pos v];subst v;exact yl x c b m l cx g d cy xs.length k D i xs ys w a rfl h q n o j
   ·rw [if_neg v]
    by_cases r:kind=3
    ·rw [if_pos r];subst r;exact ym x c b m l cx g d cy xs.length k D i xs ys w a rfl h q j
    ·rw [if_neg r];obtain rfl:kind=4:=by omega
     exact wg x c b m l cx g d cy xs.length k D i xs ys w a j.f rfl h q j
theorem sO (base kind x E:Int) (f g:Value) (w:World) (h:E≠0) (j:Hid (∀ b,Below w.heap.size w b->Calls Tryz.prog 37 #[.agg #[.int .i64 base,.int .i64 kind,f,g]] b fun e c=>e=.returned (.int .i64 E)/\Below b.heap.size b c)) :
  Calls Tryz.prog 127 #[.agg #[.int .i64 base,.int .i64 kind,f,g],.int .i64 x] w fun e c=>e=.returned (.tuple #[.float .f64 0,.int .i64 E])/\Below w.heap.size w c:=by
 have i:=hideS (bu w base kind f g);have k:(E !=0)=true:=bne_iff_ne.2 h;clear h
 go_enter Tryz.func127,Tryz.ntmps127
 go_wp2_with (go_at_call 37;refine (j.out _ i.out.bl).mono ?_;rintro e l ⟨rfl,a⟩;have d:=hideS (i.out.step a);clear a)
 go_ret2
 exact⟨rfl,d.out.bl⟩
theorem wK (base kind x E:Int) (V:Nat) (i k:Value) (w:World) (u:Hid (∀ b,Below w.heap.size w b->Calls Tryz.prog 37 #[.agg #[.int .i64 base,.int .i64 kind,i,k]] b fun e c=>e=.returned (.int .i64 0)/\Below b.heap.size b c))
  (t:Hid (∀ b,Below w.heap.size w b->Calls Tryz.prog 161 #[.agg #[.int .i64 base,.int .i64 kind,i,k]] b fun e c=>∃ m o cx r p cy,e=.returned (.agg #[.int .i64 kind,.slice (some ⟨m,0,none⟩) o cx,.slice (some ⟨r,0,none⟩) p cy])/\Below b.heap.size b c/\Hid (∀ j,Below c.heap.size c j->Calls Tryz.prog 160 #[.agg #[.int .i64 kind,.slice (some ⟨m,0,none⟩) o cx,.slice (some ⟨r,0,none⟩) p cy],.int .i64 x] j fun e q=>e=.returned (.tuple #[.float .f64 V,.int .i64 E])/\Below j.heap.size j q))) :
  Calls Tryz.prog 127 #[.agg #[.int .i64 base,.int .i64 kind,i,k],.int .i64 x] w fun e c=>e=.returned (.tuple #[.float .f64 V,.int .i64 E])/\Below w.heap.size w c:=by
 have l:=hideS (bu w base kind i k)
 go_enter Tryz.func127,Tryz.ntmps127
 go_wp2_with fail
 refine (u.out _ l.out.bl).mono ?_
 rintro e C ⟨rfl,g⟩;have a:=hideS (l.out.step g);clear g l u;have y:=a.out.t0;have v:=a.out.t1;have z:=a.out.t2;have A:=a.out.t3
 go_wp2_with fail
 refine (t.out _ a.out.bl).mono ?_
 rintro e D ⟨m,o,cx,r,p,cy,rfl,f,s⟩;have h:=hideS (a.out.step f);clear f a t y v z A
 go_wp2_with fail
 refine (s.out _ (Below.refl _ _)).mono ?_
 rintro e B ⟨rfl,d⟩;have n:=hideS (h.out.step d);clear d h s
 go_wp2_with fail
 go_ret2
 exact⟨rfl,n.out.bl⟩
theorem oF (base kind x E:Int) (f g:Value) (w:World) (h:E≠0) (j:Hid (∀ b,Below w.heap.size w b->Calls Tryz.prog 42 #[.agg #[.int .i64 base,.int .i64 kind,f,g]] b fun e c=>e=.returned (.int .i64 E)/\Below b.heap.size b c)) :
  Calls Tryz.prog 66 #[.agg #[.int .i64 base,.int .i64 kind,f,g],.int .i64 x] w fun e c=>e=.returned (.tuple #[.int .u64 0,.int .i64 E])/\Below w.heap.size w c:=by
 have i:=hideS (gq w base kind f g);have k:(E !=0)=true:=bne_iff_ne.2 h;clear h
 go_enter Tryz.func66,Tryz.ntmps66
 go_wp2_with (go_at_call 42;refine (j.out _ i.out.bl).mono ?_;rintro e l ⟨rfl,a⟩;have d:=hideS (i.out.step a);clear a)
 go_ret2
 exact⟨rfl,d.out.bl⟩
theorem rj (base kind x E:Int) (V:Nat) (i k:Value) (w:World) (u:Hid (∀ b,Below w.heap.size w b->Calls Tryz.prog 42 #[.agg #[.int .i64 base,.int .i64 kind,i,k]] b fun e c=>e=.returned (.int .i64 0)/\Below b.heap.size b c))
  (t:Hid (∀ b,Below w.heap.size w b->Calls Tryz.prog 108 #[.agg #[.int .i64 base,.int .i64 kind,i,k]] b fun e c=>∃ m o cx r p cy,e=.returned (.agg #[.int .i64 kind,.slice (some ⟨m,0,none⟩) o cx,.slice (some ⟨r,0,none⟩) p cy])/\Below b.heap.size b c/\Hid (∀ j,Below c.heap.size c j->Calls Tryz.prog 107 #[.agg #[.int .i64 kind,.slice (some ⟨m,0,none⟩) o cx,.slice (some ⟨r,0,none⟩) p cy],.int .i64 x] j fun e q=>e=.returned (.tuple #[.int .u64 (V:Int),.int .i64 E])/\Below j.heap.size j q))) :
  Calls Tryz.prog 66 #[.agg #[.int .i64 base,.int .i64 kind,i,k],.int .i64 x] w fun e c=>e=.returned (.tuple #[.int .u64 (V:Int),.int .i64 E])/\Below w.heap.size w c:=by
 have l:=hideS (gq w base kind i k)
 go_enter Tryz.func66,Tryz.ntmps66
 go_wp2_with fail
 refine (u.out _ l.out.bl).mono ?_
 rintro e C ⟨rfl,g⟩;have a:=hideS (l.out.step g);clear g l u;have y:=a.out.t0;have v:=a.out.t1;have z:=a.out.t2;have A:=a.out.t3
 go_wp2_with fail
 refine (t.out _ a.out.bl).mono ?_
 rintro e D ⟨m,o,cx,r,p,cy,rfl,f,s⟩;have h:=hideS (a.out.step f);clear f a t y v z A
 go_wp2_with fail
 refine (s.out _ (Below.refl _ _)).mono ?_
 rintro e B ⟨rfl,d⟩;have n:=hideS (h.out.step d);clear d h s
 go_wp2_with fail
 go_ret2
 exact⟨rfl,n.out.bl⟩
theorem zD (base:Int) (a:List Int) {n:Nat} (h:a.length=n):(ctX base a).length=1+n:=by rw [oY,h,Nat.add_comm]
theorem zE (a:List Nat) {n:Nat} (h:a.length=n):(ctY a).length=1+n:=by rw [wD,h,Nat.add_comm]
theorem sP (base kind x E:Int) (V:Nat) (m o:Option Addr) (bd s r k l p:Nat) (a:List Int) (b:List Nat) (w:World) (q:TFl w m o bd s k l a b) (h:FacO base kind a b x V E) :
  Calls Tryz.prog 127 #[.agg #[.int .i64 base,.int .i64 kind,.slice m a.length r,.slice o b.length p],.int .i64 x] w fun e H=>e=.returned (.tuple #[.float .f64 V,.int .i64 E])/\Below w.heap.size w H:=by
 cases h with
 | bad E h L=>exact sO base kind x E _ _ w L (fun g i=>dG base kind m o bd s r k l p a b g (q.below i) h)
 | ok ok V E Q=>
  refine wK base kind x E V _ _ w (fun g i=>dG base kind m o bd s r k l p a b g (q.below i) (.ok ok)) (fun g i=>?_)
  have lo:=ok.lo;have C:=ok.len;have j:=q.below i;have G:=j.x;have z:=j.y;rw [C] at z ⊢
  obtain rfl:=G.at_ (by omega)
  obtain rfl:=z.at_ (by omega)
  refine (zA base kind bd s r k l p a.length a b g G z rfl C lo ok.hi).mono fun e H ⟨v,F,D,I,N,O,K,t⟩=>⟨v,1+a.length,F,D,1+a.length,I,N,t,fun M B=>?_⟩
  have u:=zD base a (n:=a.length) rfl;have A:=zE b C;obtain⟨S,c1,c,P,_,_,_⟩:=dD (xs:=ctX base a) O u (by omega)
  obtain⟨R,c2,d,J,_,_,_⟩:=fx (xs:=ctY b) K A (by omega)
  injection c with c _ _;injection c with c;injection c with c;injection d with d _ _;injection d with d;injection d with d;subst c d;have:=Ga kind x E V (some ⟨v,0,none⟩) (some ⟨D,0,none⟩) v 0 F D 0 I (ctX base a) (ctY b) M Q (TFl.below ⟨by rw [u];exact P,by rw [A];exact J,Ks q.f⟩ B)
  rw [u,A] at this
  exact this
theorem oG (base kind x E:Int) (V:Nat) (q r:Option Addr) (bd y v o p s:Nat) (a:List Int) (b:List Nat) (w:World) (t:CSrcD w q r bd y o p a b) (h:FacO base kind a b x V E) :
  Calls Tryz.prog 66 #[.agg #[.int .i64 base,.int .i64 kind,.slice q a.length v,.slice r b.length s],.int .i64 x] w fun e L=>e=.returned (.tuple #[.int .u64 (V:Int),.int .i64 E])/\Below w.heap.size w L:=by
 cases h with
 | bad E h Q=>exact oF base kind x E _ _ w Q (fun k l=>dC base kind q r bd y v o p s a b k (t.below l) h)
 | ok ok V E Z=>
  refine rj base kind x E V _ _ w (fun k l=>dC base kind q r bd y v o p s a b k (t.below l) (.ok ok)) (fun k l=>?_)
  have lo:=ok.lo;have H:=ok.len;have m:=t.below l;have K:=m.d;have D:=m.f;rw [H] at D ⊢
  obtain rfl:=K.at_ (by omega)
  obtain rfl:=D.at_ (by omega)
  refine (sJ base kind bd y v o p s a.length a b k K D rfl H lo ok.hi).mono fun e L ⟨C,J,I,M,U,X,O,z⟩=>⟨C,1+a.length,J,I,1+a.length,M,U,z,fun R G=>?_⟩
  have B:=zD base a (n:=a.length) rfl;have F:=zE b H;obtain⟨g1,c1,c,Y,_,_,_⟩:=dD (xs:=ctX base a) X B (by omega)
  obtain⟨p2,g2,c2,g,A,_,W,S⟩:=bq (xs:=ctY b) O F;have T:=A.at_ (by omega)
  subst T;injection c with c _ _;injection c with c;injection c with c;injection g with g _ q4;injection g with g;injection g with g;subst c g q4;have P:∀ i<(ctY b).length,U64 ((ctY b).getD i 0:Nat):=fun i hi=>by
   cases i with
   | zero=>show U64 (4607182418800017408:Nat);unfold U64;decide
   | succ i=>exact t.u i (by rw [wD] at hi;omega)
  have:=QU kind x E V (some ⟨C,0,none⟩) (some ⟨I,0,none⟩) C 0 J I 0 M (ctX base a) (ctY b) R Z (TSrc.below ⟨by rw [B];exact Y,⟨fun _=>rfl,fun hh=>A.lt hh,fun j N=>A.cell j N⟩,P⟩ G) (by rw [F];exact W) (by unfold maxLen at S;omega)
  rw [B,F] at this
  exact this
def avD:List Int:=[100,200]
def avF:List Nat:=[4602678819172646912,4598175219545276416]
structure AvB (w wr:World):Prop where
 t0:wr.cell? ⟨w.heap.size+1+1,0,none⟩=some (.int .i64 0)
 t1:wr.cell? ⟨w.heap.size+1+1,1,none⟩=some (.int .i64 2)
 t2:wr.cell? ⟨w.heap.size+1+1,2,none⟩=some (.slice (some ⟨w.heap.size,0,none⟩) 2 2)
 t3:wr.cell? ⟨w.heap.size+1+1,3,none⟩=some (.slice (some ⟨w.heap.size+1,0,none⟩) 2 2)
 src:TFl wr (some ⟨w.heap.size,0,none⟩) (some ⟨w.heap.size+1,0,none⟩) w.heap.size 0 (w.heap.size+1) 0 avD avF
 bl:Below w.heap.size w wr
 lt:w.heap.size+1+1<wr.heap.size
theorem AvB.step {w wr b:World} (h:AvB w wr) (a:Below wr.heap.size wr b):AvB w b:=
 ⟨(a.cell (p:=⟨w.heap.size+1+1,0,none⟩) h.lt).trans h.t0,(a.cell (p:=⟨w.heap.size+1+1,1,none⟩) h.lt).trans h.t1,(a.cell (p:=⟨w.heap.size+1+1,2,none⟩) h.lt).trans h.t2,(a.cell (p:=⟨w.heap.size+1+1,3,none⟩) h.lt).trans h.t3,h.src.below a,h.bl.trans (a.mono h.bl.size),Nat.lt_of_lt_of_le h.lt a.size⟩
end Go.Proofs.YtfdddijdjpijbaaGreat
