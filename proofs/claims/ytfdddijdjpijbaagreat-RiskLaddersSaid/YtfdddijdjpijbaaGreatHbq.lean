/-  -/
import Derived.Test.YtfdddijdjpijbaaGreatHar
import Derived.Test.YtfdddijdjpijbaaGreatHbp
import Derived.Test.YtfdddijdjpijbaaGreatHav
import Derived.Test.YtfdddijdjpijbaaGreatHau
import Derived.Test.YtfdddijdjpijbaaGreatHbd
import Derived.Test.YtfdddijdjpijbaaGreatHbn
import Derived.Test.YtfdddijdjpijbaaGreatHbo
set_option maxHeartbeats 800000
set_option maxRecDepth 20000
namespace Go.Proofs.YtfdddijdjpijbaaGreat
open Go.RowKit
theorem Qw (kind x E:Int) (V:Nat) (c b:Option Addr) (g j cx m d cy:Nat) (xs:List Int) (ys:List Nat) (w:World) (h:AtO kind xs ys x V E) (l:TSrc w c b g j m d xs ys) (n:ys.length<=cy) (o:cy<=9223372036854775807) :
  Calls Tryz.prog 107 #[.agg #[.int .i64 kind,.slice c xs.length cx,.slice b ys.length cy],.int .i64 x] w fun e y=>e=.returned (.tuple #[.int .u64 (V:Int),.int .i64 E])/\Below w.heap.size w y:=by
 cases h with
 | err k E h z=>exact xJ kind x k E c b g j cx m d cy xs ys w h z l
 | node k a h t v=>
  have p:=a.len;rw [p];exact lJ kind x c b g j cx m d cy xs.length k xs ys w a rfl h t.lt (.inl v) l
 | piece k D i a h t v q=>
  have p:=a.len;have B:=a.k1;have A:=a.k4;rw [p];rw [p] at n
  unfold JI
  by_cases r:kind=1
  ·rw [if_pos r];exact lJ kind x c b g j cx m d cy xs.length k xs ys w a rfl h t.lt (.inr ⟨v,r⟩) l
  ·rw [if_neg r]
   by_cases u:kind=2
   ·rw [if_pos u];subst u;exact xK x c b g j cx m d cy xs.length k D i xs ys w a rfl h q n o l
   ·rw [if_neg u]
    by_cases s:kind=3
    ·rw [if_pos s];subst s;exact xL x c b g j cx m d cy xs.length k D i xs ys w a rfl h q l
    ·rw [if_neg s];obtain rfl:kind=4:=by omega
     exact vA x c b g j cx m d cy xs.length k D i xs ys w a l.f rfl h q l
theorem su (base kind x E:Int) (g c:Value) (w:World) (h:E≠0) (j:Hid (∀ b,Below w.heap.size w b->Calls Tryz.prog 37 #[.agg #[.int .i64 base,.int .i64 kind,g,c]] b fun e d=>e=.returned (.int .i64 E)/\Below b.heap.size b d)) :
  Calls Tryz.prog 127 #[.agg #[.int .i64 base,.int .i64 kind,g,c],.int .i64 x] w fun e d=>e=.returned (.tuple #[.float .f64 0,.int .i64 E])/\Below w.heap.size w d:=by
 have i:=hideS (bH w base kind g c);have l:(E !=0)=true:=bne_iff_ne.2 h;clear h
 go_enter Tryz.func127,Tryz.ntmps127
 go_wp2_with (go_at_call 37;refine (j.out _ i.out.bl).mono ?_;rintro e k ⟨rfl,a⟩;have f:=hideS (i.out.step a);clear a)
 go_ret2
 exact⟨rfl,f.out.bl⟩
theorem vM (base kind x E:Int) (V:Nat) (i j:Value) (w:World) (u:Hid (∀ b,Below w.heap.size w b->Calls Tryz.prog 37 #[.agg #[.int .i64 base,.int .i64 kind,i,j]] b fun e c=>e=.returned (.int .i64 0)/\Below b.heap.size b c))
  (s:Hid (∀ b,Below w.heap.size w b->Calls Tryz.prog 161 #[.agg #[.int .i64 base,.int .i64 kind,i,j]] b fun e c=>∃ q l cx m p cy,e=.returned (.agg #[.int .i64 kind,.slice (some ⟨q,0,none⟩) l cx,.slice (some ⟨m,0,none⟩) p cy])/\Below b.heap.size b c/\Hid (∀ k,Below c.heap.size c k->Calls Tryz.prog 160 #[.agg #[.int .i64 kind,.slice (some ⟨q,0,none⟩) l cx,.slice (some ⟨m,0,none⟩) p cy],.int .i64 x] k fun e o=>e=.returned (.tuple #[.float .f64 V,.int .i64 E])/\Below k.heap.size k o))) :
  Calls Tryz.prog 127 #[.agg #[.int .i64 base,.int .i64 kind,i,j],.int .i64 x] w fun e c=>e=.returned (.tuple #[.float .f64 V,.int .i64 E])/\Below w.heap.size w c:=by
 have r:=hideS (bH w base kind i j)
 go_enter Tryz.func127,Tryz.ntmps127
 go_wp2_with fail
 refine (u.out _ r.out.bl).mono ?_
 rintro e B ⟨rfl,d⟩;have a:=hideS (r.out.step d);clear d r u;have A:=a.out.t0;have v:=a.out.t1;have y:=a.out.t2;have z:=a.out.t3
 go_wp2_with fail
 refine (s.out _ a.out.bl).mono ?_
 rintro e D ⟨q,l,cx,m,p,cy,rfl,h,t⟩;have f:=hideS (a.out.step h);clear h a s A v y z
 go_wp2_with fail
 refine (t.out _ (Below.refl _ _)).mono ?_
 rintro e C ⟨rfl,g⟩;have n:=hideS (f.out.step g);clear g f t
 go_wp2_with fail
 go_ret2
 exact⟨rfl,n.out.bl⟩
theorem ot (base kind x E:Int) (g c:Value) (w:World) (h:E≠0) (j:Hid (∀ b,Below w.heap.size w b->Calls Tryz.prog 42 #[.agg #[.int .i64 base,.int .i64 kind,g,c]] b fun e d=>e=.returned (.int .i64 E)/\Below b.heap.size b d)) :
  Calls Tryz.prog 66 #[.agg #[.int .i64 base,.int .i64 kind,g,c],.int .i64 x] w fun e d=>e=.returned (.tuple #[.int .u64 0,.int .i64 E])/\Below w.heap.size w d:=by
 have i:=hideS (fW w base kind g c);have l:(E !=0)=true:=bne_iff_ne.2 h;clear h
 go_enter Tryz.func66,Tryz.ntmps66
 go_wp2_with (go_at_call 42;refine (j.out _ i.out.bl).mono ?_;rintro e k ⟨rfl,a⟩;have f:=hideS (i.out.step a);clear a)
 go_ret2
 exact⟨rfl,f.out.bl⟩
theorem qT (base kind x E:Int) (V:Nat) (i j:Value) (w:World) (u:Hid (∀ b,Below w.heap.size w b->Calls Tryz.prog 42 #[.agg #[.int .i64 base,.int .i64 kind,i,j]] b fun e c=>e=.returned (.int .i64 0)/\Below b.heap.size b c))
  (s:Hid (∀ b,Below w.heap.size w b->Calls Tryz.prog 108 #[.agg #[.int .i64 base,.int .i64 kind,i,j]] b fun e c=>∃ q l cx m p cy,e=.returned (.agg #[.int .i64 kind,.slice (some ⟨q,0,none⟩) l cx,.slice (some ⟨m,0,none⟩) p cy])/\Below b.heap.size b c/\Hid (∀ k,Below c.heap.size c k->Calls Tryz.prog 107 #[.agg #[.int .i64 kind,.slice (some ⟨q,0,none⟩) l cx,.slice (some ⟨m,0,none⟩) p cy],.int .i64 x] k fun e o=>e=.returned (.tuple #[.int .u64 (V:Int),.int .i64 E])/\Below k.heap.size k o))) :
  Calls Tryz.prog 66 #[.agg #[.int .i64 base,.int .i64 kind,i,j],.int .i64 x] w fun e c=>e=.returned (.tuple #[.int .u64 (V:Int),.int .i64 E])/\Below w.heap.size w c:=by
 have r:=hideS (fW w base kind i j)
 go_enter Tryz.func66,Tryz.ntmps66
 go_wp2_with fail
 refine (u.out _ r.out.bl).mono ?_
 rintro e B ⟨rfl,d⟩;have a:=hideS (r.out.step d);clear d r u;have A:=a.out.t0;have v:=a.out.t1;have y:=a.out.t2;have z:=a.out.t3
 go_wp2_with fail
 refine (s.out _ a.out.bl).mono ?_
 rintro e D ⟨q,l,cx,m,p,cy,rfl,h,t⟩;have f:=hideS (a.out.step h);clear h a s A v y z
 go_wp2_with fail
 refine (t.out _ (Below.refl _ _)).mono ?_
 rintro e C ⟨rfl,g⟩;have n:=hideS (f.out.step g);clear g f t
 go_wp2_with fail
 go_ret2
 exact⟨rfl,n.out.bl⟩
theorem yZ (base:Int) (a:List Int) {n:Nat} (h:a.length=n):(ctX base a).length=1+n:=by rw [oK,h,Nat.add_comm]
theorem za (a:List Nat) {n:Nat} (h:a.length=n):(ctY a).length=1+n:=by rw [vE,h,Nat.add_comm]
theorem sv (base kind x E:Int) (V:Nat) (s r:Option Addr) (bd k m q o l:Nat) (a:List Int) (b:List Nat) (w:World) (p:TFl w s r bd k q o a b) (h:FacO base kind a b x V E) :
  Calls Tryz.prog 127 #[.agg #[.int .i64 base,.int .i64 kind,.slice s a.length m,.slice r b.length l],.int .i64 x] w fun e G=>e=.returned (.tuple #[.float .f64 V,.int .i64 E])/\Below w.heap.size w G:=by
 cases h with
 | bad E h N=>exact su base kind x E _ _ w N (fun j i=>dA base kind s r bd k m q o l a b j (p.below i) h)
 | ok ok V E Q=>
  refine vM base kind x E V _ _ w (fun j i=>dA base kind s r bd k m q o l a b j (p.below i) (.ok ok)) (fun j i=>?_)
  have lo:=ok.lo;have A:=ok.len;have g:=p.below i;have I:=g.x;have t:=g.y;rw [A] at t ⊢
  obtain rfl:=I.at_ (by omega)
  obtain rfl:=t.at_ (by omega)
  refine (yU base kind bd k m q o l a.length a b j I t rfl A lo ok.hi).mono fun e G ⟨D,H,z,F,P,L,K,v⟩=>⟨D,1+a.length,H,z,1+a.length,F,P,v,fun O C=>?_⟩
  have u:=yZ base a (n:=a.length) rfl;have B:=za b A;obtain⟨R,c1,c,M,_,_,_⟩:=dz (xs:=ctX base a) L u (by omega)
  obtain⟨S,c2,d,J,_,_,_⟩:=dO (xs:=ctY b) K B (by omega)
  injection c with c _ _;injection c with c;injection c with c;injection d with d _ _;injection d with d;injection d with d;subst c d;have:=Fu kind x E V (some ⟨D,0,none⟩) (some ⟨z,0,none⟩) D 0 H z 0 F (ctX base a) (ctY b) O Q (TFl.below ⟨by rw [u];exact M,by rw [B];exact J,JN p.f⟩ C)
  rw [u,B] at this
  exact this
theorem ou (base kind x E:Int) (V:Nat) (y v:Option Addr) (bd o q t r p:Nat) (a:List Int) (b:List Nat) (w:World) (s:CSrcD w y v bd o t r a b) (h:FacO base kind a b x V E) :
  Calls Tryz.prog 66 #[.agg #[.int .i64 base,.int .i64 kind,.slice y a.length q,.slice v b.length p],.int .i64 x] w fun e K=>e=.returned (.tuple #[.int .u64 (V:Int),.int .i64 E])/\Below w.heap.size w K:=by
 cases h with
 | bad E h Y=>exact ot base kind x E _ _ w Y (fun m l=>dw base kind y v bd o q t r p a b m (s.below l) h)
 | ok ok V E T=>
  refine qT base kind x E V _ _ w (fun m l=>dw base kind y v bd o q t r p a b m (s.below l) (.ok ok)) (fun m l=>?_)
  have lo:=ok.lo;have F:=ok.len;have k:=s.below l;have M:=k.d;have z:=k.f;rw [F] at z ⊢
  obtain rfl:=M.at_ (by omega)
  obtain rfl:=z.at_ (by omega)
  refine (sj base kind bd o q t r p a.length a b m M z rfl F lo ok.hi).mono fun e K ⟨I,L,D,J,he,R,O,C⟩=>⟨I,1+a.length,L,D,1+a.length,J,he,C,fun Z H=>?_⟩
  have B:=yZ base a (n:=a.length) rfl;have G:=za b F;obtain⟨g1,c1,c,U,_,_,_⟩:=dz (xs:=ctX base a) R B (by omega)
  obtain⟨p2,g2,c2,g,A,_,Q,S⟩:=bq (xs:=ctY b) O G;have W:=A.at_ (by omega)
  subst W;injection c with c _ _;injection c with c;injection c with c;injection g with g _ q4;injection g with g;injection g with g;subst c g q4;have P:∀ i<(ctY b).length,U64 ((ctY b).getD i 0:Nat):=fun i hi=>by
   cases i with
   | zero=>show U64 (4607182418800017408:Nat);unfold U64;decide
   | succ i=>exact s.u i (by rw [vE] at hi;omega)
  have:=Qw kind x E V (some ⟨I,0,none⟩) (some ⟨D,0,none⟩) I 0 L D 0 J (ctX base a) (ctY b) Z T (TSrc.below ⟨by rw [B];exact U,⟨fun _=>rfl,fun X=>A.lt X,fun j N=>A.cell j N⟩,P⟩ H) (by rw [G];exact Q) (by unfold maxLen at S;omega)
  rw [B,G] at this
  exact this
def avD:List Int:=[100,200]
def avF:List Nat:=[4602678819172646912,4598175219545276416]
structure AvB (w wr:World):Prop where
 t0:wr.cell? ⟨w.heap.size+1+1,0,none⟩=some (.int .i64 0)
 t1:wr.cell? ⟨w.heap.size+1+1,1,none⟩=some (.int .i64 2)
 t2:wr.cell? ⟨w.heap.size+1+1,2,none⟩=some (.slice (some ⟨w.heap.size,0,none⟩) 2 2)
 t3:wr.cell? ⟨w.heap.size+1+1,3,none⟩=some (.slice (some ⟨w.heap.size+1,0,none⟩) 2 2)
 src:TFl wr (some ⟨w.heap.size,0,none⟩) (some ⟨w.heap.size+1,0,none⟩) w.heap.size 0 (w.heap.size+1) 0 avD avF
 bl:Below w.heap.size w wr
 lt:w.heap.size+1+1<wr.heap.size
theorem AvB.step {w wr b:World} (h:AvB w wr) (a:Below wr.heap.size wr b):AvB w b:=
 ⟨(a.cell (p:=⟨w.heap.size+1+1,0,none⟩) h.lt).trans h.t0,(a.cell (p:=⟨w.heap.size+1+1,1,none⟩) h.lt).trans h.t1,(a.cell (p:=⟨w.heap.size+1+1,2,none⟩) h.lt).trans h.t2,(a.cell (p:=⟨w.heap.size+1+1,3,none⟩) h.lt).trans h.t3,h.src.below a,h.bl.trans (a.mono h.bl.size),Nat.lt_of_lt_of_le h.lt a.size⟩
end Go.Proofs.YtfdddijdjpijbaaGreat
