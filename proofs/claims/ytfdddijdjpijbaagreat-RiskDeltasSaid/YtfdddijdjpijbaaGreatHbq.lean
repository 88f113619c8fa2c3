/-  -/
import Derived.Test.YtfdddijdjpijbaaGreatHar
import Derived.Test.YtfdddijdjpijbaaGreatHbp
import Derived.Test.YtfdddijdjpijbaaGreatHav
import Derived.Test.YtfdddijdjpijbaaGreatHau
import Derived.Test.YtfdddijdjpijbaaGreatHbd
import Derived.Test.YtfdddijdjpijbaaGreatHbn
import Derived.Test.YtfdddijdjpijbaaGreatHbo
set_option maxHeartbeats 800000
set_option maxRecDepth 20000
namespace Go.Proofs.YtfdddijdjpijbaaGreat
open Go.RowKit
theorem QU (kind x E:Int) (V:Nat) (b c:Option Addr) (g j cx m d cy:Nat) (xs:List Int) (ys:List Nat) (w:World) (h:AtO kind xs ys x V E) (l:TSrc w b c g j m d xs ys) (n:ys.length<=cy) (o:cy<=9223372036854775807) :
  Calls Tryz.prog 107 #[.agg #[.int .i64 kind,.slice b xs.length cx,.slice c ys.length cy],.int .i64 x] w fun e y=>e=.returned (.tuple #[.int .u64 (V:Int),.int .i64 E])/\Below w.heap.size w y:=by
 cases h with
 | err k E h z=>exact yk kind x k E b c g j cx m d cy xs ys w h z l
 | node k a h v s=>
  have p:=a.len;rw [p];exact lM kind x b c g j cx m d cy xs.length k xs ys w a rfl h v.lt (.inl s) l
 | piece k D i a h v s u=>
  have p:=a.len;have B:=a.k1;have A:=a.k4;rw [p];rw [p] at n
  unfold Km
  by_cases q:kind=1
  ·rw [if_pos q];exact lM kind x b c g j cx m d cy xs.length k xs ys w a rfl h v.lt (.inr ⟨s,q⟩) l
  ·rw [if_neg q]
   by_cases t:kind=2
   ·rw [if_pos t];subst t;exact yl x b c g j cx m d cy xs.length k D i xs ys w a rfl h u n o l
   ·rw [if_neg t]
    by_cases r:kind=3
    ·rw [if_pos r];subst r;exact ym x b c g j cx m d cy xs.length k D i xs ys w a rfl h u l
    ·rw [if_neg r];obtain rfl:kind=4:=by omega
     exact wg x b c g j cx m d cy xs.length k D i xs ys w a l.f rfl h u l
theorem sO (base kind x E:Int) (c g:Value) (w:World) (i:E≠0) (j:Hid (∀ b,Below w.heap.size w b->Calls Tryz.prog 37 #[.agg #[.int .i64 base,.int .i64 kind,c,g]] b fun e f=>e=.returned (.int .i64 E)/\Below b.heap.size b f)) :
  Calls Tryz.prog 127 #[.agg #[.int .i64 base,.int .i64 kind,c,g],.int .i64 x] w fun e f=>e=.returned (.tuple #[.float .f64 0,.int .i64 E])/\Below w.heap.size w f:=by
 have h:=hideS (bu w base kind c g);have l:(E !=0)=true:=bne_iff_ne.2 i;clear i
 go_enter Tryz.func127,Tryz.ntmps127
 go_wp2_with (go_at_call 37;refine (j.out _ h.out.bl).mono ?_;rintro e k ⟨rfl,a⟩;have d:=hideS (h.out.step a);clear a)
 go_ret2
 exact⟨rfl,d.out.bl⟩
theorem wK (base kind x E:Int) (V:Nat) (i j:Value) (w:World) (t:Hid (∀ b,Below w.heap.size w b->Calls Tryz.prog 37 #[.agg #[.int .i64 base,.int .i64 kind,i,j]] b fun e c=>e=.returned (.int .i64 0)/\Below b.heap.size b c))
  (s:Hid (∀ b,Below w.heap.size w b->Calls Tryz.prog 161 #[.agg #[.int .i64 base,.int .i64 kind,i,j]] b fun e c=>∃ r m cx n l cy,e=.returned (.agg #[.int .i64 kind,.slice (some ⟨r,0,none⟩) m cx,.slice (some ⟨n,0,none⟩) l cy])/\Below b.heap.size b c/\Hid (∀ k,Below c.heap.size c k->Calls Tryz.prog 160 #[.agg #[.int .i64 kind,.slice (some ⟨r,0,none⟩) m cx,.slice (some ⟨n,0,none⟩) l cy],.int .i64 x] k fun e o=>e=.returned (.tuple #[.float .f64 V,.int .i64 E])/\Below k.heap.size k o))) :
  Calls Tryz.prog 127 #[.agg #[.int .i64 base,.int .i64 kind,i,j],.int .i64 x] w fun e c=>e=.returned (.tuple #[.float .f64 V,.int .i64 E])/\Below w.heap.size w c:=by
 have p:=hideS (bu w base kind i j)
 go_enter Tryz.func127,Tryz.ntmps127
 go_wp2_with fail
 refine (t.out _ p.out.bl).mono ?_
 rintro e C ⟨rfl,g⟩;have a:=hideS (p.out.step g);clear g p t;have y:=a.out.t0;have A:=a.out.t1;have z:=a.out.t2;have v:=a.out.t3
 go_wp2_with fail
 refine (s.out _ a.out.bl).mono ?_
 rintro e D ⟨r,m,cx,n,l,cy,rfl,h,u⟩;have d:=hideS (a.out.step h);clear h a s y A z v
 go_wp2_with fail
 refine (u.out _ (Below.refl _ _)).mono ?_
 rintro e B ⟨rfl,f⟩;have q:=hideS (d.out.step f);clear f d u
 go_wp2_with fail
 go_ret2
 exact⟨rfl,q.out.bl⟩
theorem oF (base kind x E:Int) (c g:Value) (w:World) (i:E≠0) (j:Hid (∀ b,Below w.heap.size w b->Calls Tryz.prog 42 #[.agg #[.int .i64 base,.int .i64 kind,c,g]] b fun e f=>e=.returned (.int .i64 E)/\Below b.heap.size b f)) :
  Calls Tryz.prog 66 #[.agg #[.int .i64 base,.int .i64 kind,c,g],.int .i64 x] w fun e f=>e=.returned (.tuple #[.int .u64 0,.int .i64 E])/\Below w.heap.size w f:=by
 have h:=hideS (gq w base kind c g);have l:(E !=0)=true:=bne_iff_ne.2 i;clear i
 go_enter Tryz.func66,Tryz.ntmps66
 go_wp2_with (go_at_call 42;refine (j.out _ h.out.bl).mono ?_;rintro e k ⟨rfl,a⟩;have d:=hideS (h.out.step a);clear a)
 go_ret2
 exact⟨rfl,d.out.bl⟩
theorem rj (base kind x E:Int) (V:Nat) (i j:Value) (w:World) (t:Hid (∀ b,Below w.heap.size w b->Calls Tryz.prog 42 #[.agg #[.int .i64 base,.int .i64 kind,i,j]] b fun e c=>e=.returned (.int .i64 0)/\Below b.heap.size b c))
  (s:Hid (∀ b,Below w.heap.size w b->Calls Tryz.prog 108 #[.agg #[.int .i64 base,.int .i64 kind,i,j]] b fun e c=>∃ r m cx n l cy,e=.returned (.agg #[.int .i64 kind,.slice (some ⟨r,0,none⟩) m cx,.slice (some ⟨n,0,none⟩) l cy])/\Below b.heap.size b c/\Hid (∀ k,Below c.heap.size c k->Calls Tryz.prog 107 #[.agg #[.int .i64 kind,.slice (some ⟨r,0,none⟩) m cx,.slice (some ⟨n,0,none⟩) l cy],.int .i64 x] k fun e o=>e=.returned (.tuple #[.int .u64 (V:Int),.int .i64 E])/\Below k.heap.size k o))) :
  Calls Tryz.prog 66 #[.agg #[.int .i64 base,.int .i64 kind,i,j],.int .i64 x] w fun e c=>e=.returned (.tuple #[.int .u64 (V:Int),.int .i64 E])/\Below w.heap.size w c:=by
 have p:=hideS (gq w base kind i j)
 go_enter Tryz.func66,Tryz.ntmps66
 go_wp2_with fail
 refine (t.out _ p.out.bl).mono ?_
 rintro e C ⟨rfl,g⟩;have a:=hideS (p.out.step g);clear g p t;have y:=a.out.t0;have A:=a.out.t1;have z:=a.out.t2;have v:=a.out.t3
 go_wp2_with fail
 refine (s.out _ a.out.bl).mono ?_
 rintro e D ⟨r,m,cx,n,l,cy,rfl,h,u⟩;have d:=hideS (a.out.step h);clear h a s y A z v
 go_wp2_with fail
 refine (u.out _ (Below.refl _ _)).mono ?_
 rintro e B ⟨rfl,f⟩;have q:=hideS (d.out.step f);clear f d u
 go_wp2_with fail
 go_ret2
 exact⟨rfl,q.out.bl⟩
theorem zD (base:Int) (a:List Int) {n:Nat} (h:a.length=n):(ctX base a).length=1+n:=by rw [oY,h,Nat.add_comm]
theorem zE (a:List Nat) {n:Nat} (h:a.length=n):(ctY a).length=1+n:=by rw [wD,h,Nat.add_comm]
theorem sP (base kind x E:Int) (V:Nat) (q m:Option Addr) (bd k o s l p:Nat) (a:List Int) (b:List Nat) (w:World) (r:TFl w q m bd k s l a b) (h:FacO base kind a b x V E) :
  Calls Tryz.prog 127 #[.agg #[.int .i64 base,.int .i64 kind,.slice q a.length o,.slice m b.length p],.int .i64 x] w fun e H=>e=.returned (.tuple #[.float .f64 V,.int .i64 E])/\Below w.heap.size w H:=by
 cases h with
 | bad E h P=>exact sO base kind x E _ _ w P (fun g i=>dG base kind q m bd k o s l p a b g (r.below i) h)
 | ok ok V E N=>
  refine wK base kind x E V _ _ w (fun g i=>dG base kind q m bd k o s l p a b g (r.below i) (.ok ok)) (fun g i=>?_)
  have lo:=ok.lo;have v:=ok.len;have j:=r.below i;have I:=j.x;have t:=j.y;rw [v] at t ⊢
  obtain rfl:=I.at_ (by omega)
  obtain rfl:=t.at_ (by omega)
  refine (zA base kind bd k o s l p a.length a b g I t rfl v lo ok.hi).mono fun e H ⟨B,G,z,F,M,Q,K,u⟩=>⟨B,1+a.length,G,z,1+a.length,F,M,u,fun O C=>?_⟩
  have A:=zD base a (n:=a.length) rfl;have D:=zE b v;obtain⟨R,c1,c,J,_,_,_⟩:=dD (xs:=ctX base a) Q A (by omega)
  obtain⟨S,c2,d,L,_,_,_⟩:=fx (xs:=ctY b) K D (by omega)
  injection c with c _ _;injection c with c;injection c with c;injection d with d _ _;injection d with d;injection d with d;subst c d;have:=Ga kind x E V (some ⟨B,0,none⟩) (some ⟨z,0,none⟩) B 0 G z 0 F (ctX base a) (ctY b) O N (TFl.below ⟨by rw [A];exact J,by rw [D];exact L,Ks r.f⟩ C)
  rw [A,D] at this
  exact this
theorem oG (base kind x E:Int) (V:Nat) (t q:Option Addr) (bd o r y p s:Nat) (a:List Int) (b:List Nat) (w:World) (v:CSrcD w t q bd o y p a b) (h:FacO base kind a b x V E) :
  Calls Tryz.prog 66 #[.agg #[.int .i64 base,.int .i64 kind,.slice t a.length r,.slice q b.length s],.int .i64 x] w fun e L=>e=.returned (.tuple #[.int .u64 (V:Int),.int .i64 E])/\Below w.heap.size w L:=by
 cases h with
 | bad E h hE=>exact oF base kind x E _ _ w hE (fun k l=>dC base kind t q bd o r y p s a b k (v.below l) h)
 | ok ok V E W=>
  refine rj base kind x E V _ _ w (fun k l=>dC base kind t q bd o r y p s a b k (v.below l) (.ok ok)) (fun k l=>?_)
  have lo:=ok.lo;have C:=ok.len;have m:=v.below l;have M:=m.d;have A:=m.f;rw [C] at A ⊢
  obtain rfl:=M.at_ (by omega)
  obtain rfl:=A.at_ (by omega)
  refine (sJ base kind bd o r y p s a.length a b k M A rfl C lo ok.hi).mono fun e L ⟨G,K,D,J,U,ox,R,B⟩=>⟨G,1+a.length,K,D,1+a.length,J,U,B,fun X H=>?_⟩
  have F:=zD base a (n:=a.length) rfl;have I:=zE b C;obtain⟨g1,c1,c,Q,_,_,_⟩:=dD (xs:=ctX base a) ox F (by omega)
  obtain⟨p2,g2,c2,g,z,_,Y,T⟩:=bq (xs:=ctY b) R I;have P:=z.at_ (by omega)
  subst P;injection c with c _ _;injection c with c;injection c with c;injection g with g _ N;injection g with g;injection g with g;subst c g N;have Z:∀ i<(ctY b).length,U64 ((ctY b).getD i 0:Nat):=fun i hi=>by
   cases i with
   | zero=>show U64 (4607182418800017408:Nat);unfold U64;decide
   | succ i=>exact v.u i (by rw [wD] at hi;omega)
  have:=QU kind x E V (some ⟨G,0,none⟩) (some ⟨D,0,none⟩) G 0 K D 0 J (ctX base a) (ctY b) X W (TSrc.below ⟨by rw [F];exact Q,⟨fun _=>rfl,fun S=>z.lt S,fun j O=>z.cell j O⟩,Z⟩ H) (by rw [I];exact Y) (by unfold maxLen at T;omega)
  rw [F,I] at this
  exact this
def avD:List Int:=[100,200]
def avF:List Nat:=[4602678819172646912,4598175219545276416]
structure AvB (w wr:World):Prop where
 t0:wr.cell? ⟨w.heap.size+1+1,0,none⟩=some (.int .i64 0)
 t1:wr.cell? ⟨w.heap.size+1+1,1,none⟩=some (.int .i64 2)
 t2:wr.cell? ⟨w.heap.size+1+1,2,none⟩=some (.slice (some ⟨w.heap.size,0,none⟩) 2 2)
 t3:wr.cell? ⟨w.heap.size+1+1,3,none⟩=some (.slice (some ⟨w.heap.size+1,0,none⟩) 2 2)
 src:TFl wr (some ⟨w.heap.size,0,none⟩) (some ⟨w.heap.size+1,0,none⟩) w.heap.size 0 (w.heap.size+1) 0 avD avF
 bl:Below w.heap.size w wr
 lt:w.heap.size+1+1<wr.heap.size
theorem AvB.step {w wr b:World} (h:AvB w wr) (a:Below wr.heap.size wr b):AvB w b:=
 ⟨(a.cell (p:=⟨w.heap.size+1+1,0,none⟩) h.lt).trans h.t0,(a.cell (p:=⟨w.heap.size+1+1,1,none⟩) h.lt).trans h.t1,(a.cell (p:=⟨w.heap.size+1+1,2,none⟩) h.lt).trans h.t2,(a.cell (p:=⟨w.heap.size+1+1,3,none⟩) h.lt).trans h.t3,h.src.below a,h.bl.trans (a.mono h.bl.size),Nat.lt_of_lt_of_le h.lt a.size⟩
end Go.Proofs.YtfdddijdjpijbaaGreat
