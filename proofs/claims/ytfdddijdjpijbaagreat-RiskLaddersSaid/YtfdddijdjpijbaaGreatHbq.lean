/-  -/
import Derived.Test.YtfdddijdjpijbaaGreatHar
import Derived.Test.YtfdddijdjpijbaaGreatHbp
import Derived.Test.YtfdddijdjpijbaaGreatHav
import Derived.Test.YtfdddijdjpijbaaGreatHau
import Derived.Test.YtfdddijdjpijbaaGreatHbd
import Derived.Test.YtfdddijdjpijbaaGreatHbn
import Derived.Test.YtfdddijdjpijbaaGreatHbo
set_option maxHeartbeats 800000
set_option maxRecDepth 20000
namespace Go.Proofs.YtfdddijdjpijbaaGreat
open Go.RowKit
theorem Qw (kind x E:Int) (V:Nat) (c b:Option Addr) (d g cx l m cy:Nat) (xs:List Int) (ys:List Nat) (w:World) (h:AtO kind xs ys x V E) (j:TSrc w c b d g l m xs ys) (n:ys.length<=cy) (o:cy<=9223372036854775807) :
  Calls Tryz.prog 107 #[.agg #[.int .i64 kind,.slice c xs.length cx,.slice b ys.length cy],.int .i64 x] w fun e y=>e=.returned (.tuple #[.int .u64 (V:Int),.int .i64 E])/\Below w.heap.size w y:=by
 cases h with
 | err k E h z=>exact xJ kind x k E c b d g cx l m cy xs ys w h z j
 | node k a h q v=>
  have p:=a.len;rw [p];exact lJ kind x c b d g cx l m cy xs.length k xs ys w a rfl h q.lt (.inl v) j
 | piece k D i a h q v t=>
  have p:=a.len;have B:=a.k1;have A:=a.k4;rw [p];rw [p] at n
  unfold JI
  by_cases s:kind=1
  ·rw [if_pos s];exact lJ kind x c b d g cx l m cy xs.length k xs ys w a rfl h q.lt (.inr ⟨v,s⟩) j
  ·rw [if_neg s]
   by_cases r:kind=2
   ·rw [if_pos r];subst r;exact xK x c b d g cx l m cy xs.length k D i xs ys w a rfl h t n o j
   ·rw [if_neg r]
    by_cases u:kind=3
    ·rw [if_pos u];subst u;exact xL x c b d g cx l m cy xs.length k D i xs ys w a rfl h t j
    ·rw [if_neg u];obtain rfl:kind=4:=by omega
     exact vA x c b d g cx l m cy xs.length k D i xs ys w a j.f rfl h t j
theorem su (base kind x E:Int) (g f:Value) (w:World) (h:E≠0) (j:Hid (∀ b,Below w.heap.size w b->Calls Tryz.prog 37 #[.agg #[.int .i64 base,.int .i64 kind,g,f]] b fun e c=>e=.returned (.int .i64 E)/\Below b.heap.size b c)) :
  Calls Tryz.prog 127 #[.agg #[.int .i64 base,.int .i64 kind,g,f],.int .i64 x] w fun e c=>e=.returned (.tuple #[.float .f64 0,.int .i64 E])/\Below w.heap.size w c:=by
 have i:=hideS (bH w base kind g f);have l:(E !=0)=true:=bne_iff_ne.2 h;clear h
 go_enter Tryz.func127,Tryz.ntmps127
 go_wp2_with (go_at_call 37;refine (j.out _ i.out.bl).mono ?_;rintro e k ⟨rfl,a⟩;have d:=hideS (i.out.step a);clear a)
 go_ret2
 exact⟨rfl,d.out.bl⟩
theorem vM (base kind x E:Int) (V:Nat) (i k:Value) (w:World) (t:Hid (∀ b,Below w.heap.size w b->Calls Tryz.prog 37 #[.agg #[.int .i64 base,.int .i64 kind,i,k]] b fun e c=>e=.returned (.int .i64 0)/\Below b.heap.size b c))
  (s:Hid (∀ b,Below w.heap.size w b->Calls Tryz.prog 161 #[.agg #[.int .i64 base,.int .i64 kind,i,k]] b fun e c=>∃ r q cx o m cy,e=.returned (.agg #[.int .i64 kind,.slice (some ⟨r,0,none⟩) q cx,.slice (some ⟨o,0,none⟩) m cy])/\Below b.heap.size b c/\Hid (∀ j,Below c.heap.size c j->Calls Tryz.prog 160 #[.agg #[.int .i64 kind,.slice (some ⟨r,0,none⟩) q cx,.slice (some ⟨o,0,none⟩) m cy],.int .i64 x] j fun e l=>e=.returned (.tuple #[.float .f64 V,.int .i64 E])/\Below j.heap.size j l))) :
  Calls Tryz.prog 127 #[.agg #[.int .i64 base,.int .i64 kind,i,k],.int .i64 x] w fun e c=>e=.returned (.tuple #[.float .f64 V,.int .i64 E])/\Below w.heap.size w c:=by
 have p:=hideS (bH w base kind i k)
 go_enter Tryz.func127,Tryz.ntmps127
 go_wp2_with fail
 refine (t.out _ p.out.bl).mono ?_
 rintro e C ⟨rfl,h⟩;have a:=hideS (p.out.step h);clear h p t;have z:=a.out.t0;have v:=a.out.t1;have A:=a.out.t2;have y:=a.out.t3
 go_wp2_with fail
 refine (s.out _ a.out.bl).mono ?_
 rintro e D ⟨r,q,cx,o,m,cy,rfl,g,u⟩;have d:=hideS (a.out.step g);clear g a s z v A y
 go_wp2_with fail
 refine (u.out _ (Below.refl _ _)).mono ?_
 rintro e B ⟨rfl,f⟩;have n:=hideS (d.out.step f);clear f d u
 go_wp2_with fail
 go_ret2
 exact⟨rfl,n.out.bl⟩
theorem ot (base kind x E:Int) (g f:Value) (w:World) (h:E≠0) (j:Hid (∀ b,Below w.heap.size w b->Calls Tryz.prog 42 #[.agg #[.int .i64 base,.int .i64 kind,g,f]] b fun e c=>e=.returned (.int .i64 E)/\Below b.heap.size b c)) :
  Calls Tryz.prog 66 #[.agg #[.int .i64 base,.int .i64 kind,g,f],.int .i64 x] w fun e c=>e=.returned (.tuple #[.int .u64 0,.int .i64 E])/\Below w.heap.size w c:=by
 have i:=hideS (fW w base kind g f);have l:(E !=0)=true:=bne_iff_ne.2 h;clear h
 go_enter Tryz.func66,Tryz.ntmps66
 go_wp2_with (go_at_call 42;refine (j.out _ i.out.bl).mono ?_;rintro e k ⟨rfl,a⟩;have d:=hideS (i.out.step a);clear a)
 go_ret2
 exact⟨rfl,d.out.bl⟩
theorem qT (base kind x E:Int) (V:Nat) (i k:Value) (w:World) (t:Hid (∀ b,Below w.heap.size w b->Calls Tryz.prog 42 #[.agg #[.int .i64 base,.int .i64 kind,i,k]] b fun e c=>e=.returned (.int .i64 0)/\Below b.heap.size b c))
  (s:Hid (∀ b,Below w.heap.size w b->Calls Tryz.prog 108 #[.agg #[.int .i64 base,.int .i64 kind,i,k]] b fun e c=>∃ r q cx o m cy,e=.returned (.agg #[.int .i64 kind,.slice (some ⟨r,0,none⟩) q cx,.slice (some ⟨o,0,none⟩) m cy])/\Below b.heap.size b c/\Hid (∀ j,Below c.heap.size c j->Calls Tryz.prog 107 #[.agg #[.int .i64 kind,.slice (some ⟨r,0,none⟩) q cx,.slice (some ⟨o,0,none⟩) m cy],.int .i64 x] j fun e l=>e=.returned (.tuple #[.int .u64 (V:Int),.int .i64 E])/\Below j.heap.size j l))) :
  Calls Tryz.prog 66 #[.agg #[.int .i64 base,.int .i64 kind,i,k],.int .i64 x] w fun e c=>e=.returned (.tuple #[.int .u64 (V:Int),.int .i64 E])/\Below w.heap.size w c:=by
 have p:=hideS (fW w base kind i k)
 go_enter Tryz.func66,Tryz.ntmps66
 go_wp2_with fail
 refine (t.out _ p.out.bl).mono ?_
 rintro e C ⟨rfl,h⟩;have a:=hideS (p.out.step h);clear h p t;have z:=a.out.t0;have v:=a.out.t1;have A:=a.out.t2;have y:=a.out.t3
 go_wp2_with fail
 refine (s.out _ a.out.bl).mono ?_
 rintro e D ⟨r,q,cx,o,m,cy,rfl,g,u⟩;have d:=hideS (a.out.step g);clear g a s z v A y
 go_wp2_with fail
 refine (u.out _ (Below.refl _ _)).mono ?_
 rintro e B ⟨rfl,f⟩;have n:=hideS (d.out.step f);clear f d u
 go_wp2_with fail
 go_ret2
 exact⟨rfl,n.out.bl⟩
theorem yZ (base:Int) (a:List Int) {n:Nat} (h:a.length=n):(ctX base a).length=1+n:=by rw [oK,h,Nat.add_comm]
theorem za (a:List Nat) {n:Nat} (h:a.length=n):(ctY a).length=1+n:=by rw [vE,h,Nat.add_comm]
theorem sv (base kind x E:Int) (V:Nat) (o m:Option Addr) (bd k p s l q:Nat) (a:List Int) (b:List Nat) (w:World) (r:TFl w o m bd k s l a b) (h:FacO base kind a b x V E) :
  Calls Tryz.prog 127 #[.agg #[.int .i64 base,.int .i64 kind,.slice o a.length p,.slice m b.length q],.int .i64 x] w fun e I=>e=.returned (.tuple #[.float .f64 V,.int .i64 E])/\Below w.heap.size w I:=by
 cases h with
 | bad E h N=>exact su base kind x E _ _ w N (fun i j=>dA base kind o m bd k p s l q a b i (r.below j) h)
 | ok ok V E K=>
  refine vM base kind x E V _ _ w (fun i j=>dA base kind o m bd k p s l q a b i (r.below j) (.ok ok)) (fun i j=>?_)
  have lo:=ok.lo;have C:=ok.len;have g:=r.below j;have G:=g.x;have z:=g.y;rw [C] at z ⊢
  obtain rfl:=G.at_ (by omega)
  obtain rfl:=z.at_ (by omega)
  refine (yU base kind bd k p s l q a.length a b i G z rfl C lo ok.hi).mono fun e I ⟨A,F,v,H,Q,J,P,B⟩=>⟨A,1+a.length,F,v,1+a.length,H,Q,B,fun M u=>?_⟩
  have t:=yZ base a (n:=a.length) rfl;have D:=za b C;obtain⟨S,c1,d,L,_,_,_⟩:=dz (xs:=ctX base a) J t (by omega)
  obtain⟨R,c2,c,O,_,_,_⟩:=dO (xs:=ctY b) P D (by omega)
  injection d with d _ _;injection d with d;injection d with d;injection c with c _ _;injection c with c;injection c with c;subst d c;have:=Fu kind x E V (some ⟨A,0,none⟩) (some ⟨v,0,none⟩) A 0 F v 0 H (ctX base a) (ctY b) M K (TFl.below ⟨by rw [t];exact L,by rw [D];exact O,JN r.f⟩ u)
  rw [t,D] at this
  exact this
theorem ou (base kind x E:Int) (V:Nat) (r q:Option Addr) (bd o s y p t:Nat) (a:List Int) (b:List Nat) (w:World) (v:CSrcD w r q bd o y p a b) (h:FacO base kind a b x V E) :
  Calls Tryz.prog 66 #[.agg #[.int .i64 base,.int .i64 kind,.slice r a.length s,.slice q b.length t],.int .i64 x] w fun e M=>e=.returned (.tuple #[.int .u64 (V:Int),.int .i64 E])/\Below w.heap.size w M:=by
 cases h with
 | bad E h Y=>exact ot base kind x E _ _ w Y (fun l m=>dw base kind r q bd o s y p t a b l (v.below m) h)
 | ok ok V E Q=>
  refine qT base kind x E V _ _ w (fun l m=>dw base kind r q bd o s y p t a b l (v.below m) (.ok ok)) (fun l m=>?_)
  have lo:=ok.lo;have G:=ok.len;have k:=v.below m;have K:=k.d;have C:=k.f;rw [G] at C ⊢
  obtain rfl:=K.at_ (by omega)
  obtain rfl:=C.at_ (by omega)
  refine (sj base kind bd o s y p t a.length a b l K C rfl G lo ok.hi).mono fun e M ⟨D,J,B,L,he,P,oy,F⟩=>⟨D,1+a.length,J,B,1+a.length,L,he,F,fun W A=>?_⟩
  have z:=yZ base a (n:=a.length) rfl;have H:=za b G;obtain⟨g1,c1,g,S,_,_,_⟩:=dz (xs:=ctX base a) P z (by omega)
  obtain⟨p2,g2,c2,c,I,_,U,N⟩:=bq (xs:=ctY b) oy H;have Z:=I.at_ (by omega)
  subst Z;injection g with g _ _;injection g with g;injection g with g;injection c with c _ T;injection c with c;injection c with c;subst g c T;have X:∀ i<(ctY b).length,U64 ((ctY b).getD i 0:Nat):=fun i hi=>by
   cases i with
   | zero=>show U64 (4607182418800017408:Nat);unfold U64;decide
   | succ i=>exact v.u i (by rw [vE] at hi;omega)
  have:=Qw kind x E V (some ⟨D,0,none⟩) (some ⟨B,0,none⟩) D 0 J B 0 L (ctX base a) (ctY b) W Q (TSrc.below ⟨by rw [z];exact S,⟨fun _=>rfl,fun R=>I.lt R,fun j O=>I.cell j O⟩,X⟩ A) (by rw [H];exact U) (by unfold maxLen at N;omega)
  rw [z,H] at this
  exact this
def avD:List Int:=[100,200]
def avF:List Nat:=[4602678819172646912,4598175219545276416]
structure AvB (w wr:World):Prop where
 t0:wr.cell? ⟨w.heap.size+1+1,0,none⟩=some (.int .i64 0)
 t1:wr.cell? ⟨w.heap.size+1+1,1,none⟩=some (.int .i64 2)
 t2:wr.cell? ⟨w.heap.size+1+1,2,none⟩=some (.slice (some ⟨w.heap.size,0,none⟩) 2 2)
 t3:wr.cell? ⟨w.heap.size+1+1,3,none⟩=some (.slice (some ⟨w.heap.size+1,0,none⟩) 2 2)
 src:TFl wr (some ⟨w.heap.size,0,none⟩) (some ⟨w.heap.size+1,0,none⟩) w.heap.size 0 (w.heap.size+1) 0 avD avF
 bl:Below w.heap.size w wr
 lt:w.heap.size+1+1<wr.heap.size
theorem AvB.step {w wr b:World} (h:AvB w wr) (a:Below wr.heap.size wr b):AvB w b:=
 ⟨(a.cell (p:=⟨w.heap.size+1+1,0,none⟩) h.lt).trans h.t0,(a.cell (p:=⟨w.heap.size+1+1,1,none⟩) h.lt).trans h.t1,(a.cell (p:=⟨w.heap.size+1+1,2,none⟩) h.lt).trans h.t2,(a.cell (p:=⟨w.heap.size+1+1,3,none⟩) h.lt).trans h.t3,h.src.below a,h.bl.trans (a.mono h.bl.size),Nat.lt_of_lt_of_le h.lt a.size⟩
end Go.Proofs.YtfdddijdjpijbaaGreat
