/-  -/
import Derived.Test.YtfdddijdjpijbaaGreatHbl
import Derived.Test.YtfdddijdjpijbaaGreatBShelf
import Derived.Test.YtfdddijdjpijbaaGreatHar
import Derived.Deep.RegionHeld3
import Derived.Laws.FloatArith
import Derived.Test.YtfdddijdjpijbaaGreatHat
import Derived.Test.YtfdddijdjpijbaaGreatHas
import Derived.Test.YtfdddijdjpijbaaGreatHav
import Derived.Deep.QuietTactic
set_option maxHeartbeats 3200000
set_option maxRecDepth 20000
namespace Go.Proofs.YtfdddijdjpijbaaGreat
open Go.RowKit
structure TFl (w:World) (px py:Option Addr) (bx ox b2 oy:Nat) (xs:List Int) (ys:List Nat):Prop where
 x:VSrc w px bx ox xs.length (xV xs)
 y:VSrc w py b2 oy ys.length (flV ys)
 f:∀ i<ys.length,ys.getD i 0<18446744073709551616
theorem TFl.below {w b:World} {i a:Option Addr} {c j d e:Nat} {xs:List Int} {ys:List Nat} (h:TFl w i a c j d e xs ys) (g:Below w.heap.size w b):TFl b i a c j d e xs ys:=⟨h.x.below g,h.y.below g,h.f⟩
theorem TFl.u {w:World} {e a:Option Addr} {b g c d:Nat} {xs:List Int} {ys:List Nat} (h:TFl w e a b g c d xs ys):∀ i<ys.length,U64 (ys.getD i 0:Nat):=fun i hi=>aU (h.f i hi)
theorem jw {p:Nat->Bool} (n:Nat):∃ K≤n,(∀ i<K,p i=false)/\(K<n->p K=true):=by
 by_cases h:∃ i<n,p i=true
 ·obtain⟨k,e,d,a⟩:=eZ n h;exact⟨k,by omega,a,fun _=>d⟩
 ·exact⟨n,Nat.le_refl _,fun i hi=>by
   cases b:p i
   ·rfl
   ·exact absurd ⟨i,hi,b⟩ h,fun c=>absurd c (Nat.lt_irrefl _)⟩
theorem BM (d:Option Addr) (l k cx:Nat) (xs:List Int):∃ g:Bool,(g=true↔(1<=xs.length/\xs.length<=256/\∀ i<xs.length,plB xs i=false))/\∀ w,VSrc w d l k xs.length (xV xs)->Calls Tryz.prog 199 #[.slice d xs.length cx] w fun e m=>e=.returned (.bool g)/\m=w:=by
 by_cases n:xs.length<1\/256<xs.length
 ·exact⟨false,⟨fun h=>by simp at h,fun⟨a,b,_⟩=>by omega⟩,fun w _=>BL d _ cx w n⟩
 ·obtain⟨K,q,j,f⟩:=jw (p:=plB xs) xs.length;refine⟨decide (xs.length<=K),⟨fun h=>⟨by omega,by omega,fun i hi=>j i (by have:=of_decide_eq_true h;omega)⟩,fun⟨_,_,h⟩=>decide_eq_true (Classical.byContradiction fun c=>?_)⟩,fun w o=>yH d l k cx _ K xs w o (by omega) (by omega) q j f⟩
  have:=f (by omega)
  rw [h K (by omega)] at this
  cases this
theorem BN (kind:Int) (a:Option Addr) (j b cy:Nat) (ys:List Nat) (hn:ys.length<=256) (k:∀ i<ys.length,ys.getD i 0<18446744073709551616):∃ g:Bool,(g=true↔∀ i<ys.length,vlB kind ys i=false)/\∀ w,VSrc w a j b ys.length (flV ys)->Calls Tryz.prog 200 #[.int .i64 kind,.slice a ys.length cy] w fun e l=>e=.returned (.bool g)/\l=w:=by
 obtain⟨K,n,f,d⟩:=jw (p:=vlB kind ys) ys.length;refine⟨decide (ys.length<=K),⟨fun h i hi=>f i (by have:=of_decide_eq_true h;omega),fun h=>decide_eq_true (Classical.byContradiction fun c=>?_)⟩,fun w m=>yI kind a j b cy _ K ys w m k hn n f d⟩
 have:=d (by omega)
 rw [h K (by omega)] at this
 cases this
theorem JX (xs:List Int):prv xs 0= -1:=rfl
theorem yJ (xs:List Int) (k:Nat):prv xs (k+1)=xs.getD k 0:=rfl
theorem JY {kind:Int} {xs:List Int} {ys:List Nat} (h:∀ i<xs.length,eO kind xs ys i=false):(∀ i<xs.length,plB xs i=false)/\∀ i<xs.length,vlB kind ys i=false:=by
 refine⟨fun i hi=>?_,fun i hi=>?_⟩
 ·obtain⟨a,b,c,_,_⟩:=ap (h i hi);unfold plB;rw [Bool.or_eq_false_iff,decide_eq_false_iff_not,decide_eq_false_iff_not];refine⟨?_,by omega⟩
  cases i with
  | zero=>show ¬ xs.getD 0 0<=-1;omega
  | succ i=>
   have:=c (by omega)
   show ¬ xs.getD (i+1) 0<=xs.getD i 0
   rw [Nat.add_sub_cancel] at this
   omega
 ·obtain⟨_,_,_,d,e⟩:=ap (h i hi);unfold vlB;rw [d]
  by_cases f:kind=4
  ·rw [e f];simp
  ·rw [decide_eq_false f];rfl
theorem JZ {kind:Int} {xs:List Int} {ys:List Nat} (d:∀ i<xs.length,plB xs i=false) (f:∀ i<xs.length,vlB kind ys i=false):∀ i<xs.length,eO kind xs ys i=false:=fun i hi=>by
 have pos:∀ j,j<xs.length->0<=xs.getD j 0:=fun j=>by
  induction j with
  | zero=>intro c;have:=d 0 c;unfold plB at this;rw [Bool.or_eq_false_iff,decide_eq_false_iff_not,JX] at this;have:=this.1;omega
  | succ j e=>intro c;have:=d _ c;have g:=e (by omega);unfold plB at this;rw [Bool.or_eq_false_iff,decide_eq_false_iff_not,yJ] at this;have:=this.1;omega
 have a:=d i hi;have b:=f i hi;have p:=pos i hi;unfold plB at a
 unfold vlB at b
 rw [Bool.or_eq_false_iff,decide_eq_false_iff_not,decide_eq_false_iff_not] at a
 rw [Bool.or_eq_false_iff] at b
 unfold eO;rw [decide_eq_false (by omega),decide_eq_false a.2,b.1,b.2]
 cases i with
 | zero=>rfl
 | succ i=>
  have:=a.1;rw [yJ] at this
  rw [Nat.add_sub_cancel,decide_eq_false this];simp
theorem Nr (w:World):(binOp .eql 213 .nilFunc .nilFunc).run Tryz.prog w=.ok (.bool true) w:=by kernel_rfl
theorem PK (F:Nat) (w:World):(binOp .eql 213 (.func (.func F) #[] #[]) .nilFunc).run Tryz.prog w=.ok (.bool false) w:=by kernel_rfl
theorem yK (kind:Int) (d b:Value) (w:World) (HK:Hid (∀ c,Calls Tryz.prog 198 #[.int .i64 kind] c fun e a=>e=.returned .nilFunc/\a=c)) :
  Calls Tryz.prog 178 #[.agg #[.int .i64 kind,d,b]] w fun e a=>e=.returned (.tuple #[.nilFunc,.int .i64 90])/\Below w.heap.size w a:=by
 have f:=hideS (cH w kind d b);have g:=Nr
 go_enter Tryz.func178,Tryz.ntmps178
 go_wp2_with (go_at_call 198;refine (HK.out _).mono ?_;rintro e h ⟨rfl,rfl⟩)
 go_ret2
 exact⟨rfl,f.out.bl⟩
theorem FJ (kind:Int) (F f g cx cy:Nat) (p n:Option Addr) (l o:Bool) (w:World) (HK:Hid (∀ b,Calls Tryz.prog 198 #[.int .i64 kind] b fun e h=>e=.returned (.func (.func F) #[] #[])/\h=b))
  (m:Hid (∀ b,Below w.heap.size w b->Calls Tryz.prog 199 #[.slice p f cx] b fun e h=>e=.returned (.bool l)/\h=b))
  (k:Hid (l=true->f=g->∀ b,Below w.heap.size w b->Calls Tryz.prog 200 #[.int .i64 kind,.slice n g cy] b fun e h=>e=.returned (.bool o)/\h=b)) :
  Calls Tryz.prog 178 #[.agg #[.int .i64 kind,.slice p f cx,.slice n g cy]] w fun e h=>e=.returned (if l=true/\f=g/\o=true then .tuple #[.func (.func F) #[] #[],.int .i64 0] else .tuple #[.nilFunc,.int .i64 100])/\Below w.heap.size w h:=by
 have a:=hideS (cH w kind (.slice p f cx) (.slice n g cy));have r:=PK;cases l with
 | false=>
  rw [if_neg (by simp)]
  clear k
  go_enter Tryz.func178,Tryz.ntmps178
  go_wp2_with (first | (go_at_call 198;refine (HK.out _).mono ?_;rintro e d ⟨rfl,rfl⟩) | (go_at_call 199;refine (m.out _ a.out.bl).mono ?_;rintro e d ⟨rfl,rfl⟩))
  go_ret2
  exact⟨rfl,a.out.bl⟩
 | true=>
  by_cases i:f=g
  ·have q:((g:Int) !=(f:Int))=false:=by rw [i];simp
   have j:=hideS (k.out rfl i);clear k;cases o with
   | false=>
    rw [if_neg (by simp)]
    clear i
    go_enter Tryz.func178,Tryz.ntmps178
    go_wp2_with (first | (go_at_call 198;refine (HK.out _).mono ?_;rintro e d ⟨rfl,rfl⟩) | (go_at_call 199;refine (m.out _ a.out.bl).mono ?_;rintro e d ⟨rfl,rfl⟩) | (go_at_call 200;refine (j.out _ a.out.bl).mono ?_;rintro e d ⟨rfl,rfl⟩))
    go_ret2
    exact⟨rfl,a.out.bl⟩
   | true=>
    rw [if_pos ⟨rfl,i,rfl⟩];clear i
    go_enter Tryz.func178,Tryz.ntmps178
    go_wp2_with (first | (go_at_call 198;refine (HK.out _).mono ?_;rintro e d ⟨rfl,rfl⟩) | (go_at_call 199;refine (m.out _ a.out.bl).mono ?_;rintro e d ⟨rfl,rfl⟩) | (go_at_call 200;refine (j.out _ a.out.bl).mono ?_;rintro e d ⟨rfl,rfl⟩))
    go_ret2
    exact⟨rfl,a.out.bl⟩
  ·have q:((g:Int) !=(f:Int))=true:=by simp;omega
   rw [if_neg (fun c=>i c.2.1)]
   clear k i
   go_enter Tryz.func178,Tryz.ntmps178
   go_wp2_with (first | (go_at_call 198;refine (HK.out _).mono ?_;rintro e d ⟨rfl,rfl⟩) | (go_at_call 199;refine (m.out _ a.out.bl).mono ?_;rintro e d ⟨rfl,rfl⟩))
   go_ret2
   exact⟨rfl,a.out.bl⟩
def chF (kind E:Int):Value:=if E=0 then .func (.func (iZ kind)) #[] #[] else .nilFunc
theorem BO (kind E:Int) (u k:Option Addr) (N L cx F D cy:Nat) (xs:List Int) (ys:List Nat) (w:World) (h:TabR kind xs ys E) (G:TFl w u k N L F D xs ys) :
  Calls Tryz.prog 178 #[.agg #[.int .i64 kind,.slice u xs.length cx,.slice k ys.length cy]] w fun e r=>e=.returned (.tuple #[chF kind E,.int .i64 E])/\Below w.heap.size w r:=by
 have l:1<=kind->kind<=4->∀ E,TabR kind xs ys E->(E=0\/E=100)->Calls Tryz.prog 178 #[.agg #[.int .i64 kind,.slice u xs.length cx,.slice k ys.length cy]] w fun e r=>e=.returned (.tuple #[chF kind E,.int .i64 E])/\Below w.heap.size w r:=fun J M E h s=>by
  obtain⟨A,z,c1⟩:=BM u N L cx xs;have O:∃ m:Bool,(A=true->xs.length=ys.length->(m=true↔∀ i<ys.length,vlB kind ys i=false))/\(A=true->xs.length=ys.length->∀ w,VSrc w k F D ys.length (flV ys)->Calls Tryz.prog 200 #[.int .i64 kind,.slice k ys.length cy] w fun e r=>e=.returned (.bool m)/\r=w):=by
   by_cases Q:ys.length<=256
   ·obtain⟨m,B,c2⟩:=BN kind k F D cy ys Q G.f;exact⟨m,fun _ _=>B,fun _ _=>c2⟩
   ·exact⟨false,fun a b=>by have:=(z.1 a).2.1;omega,fun a b=>by have:=(z.1 a).2.1;omega⟩
  obtain⟨m,B,c2⟩:=O;have:=FJ kind (iZ kind) xs.length ys.length cx cy u k A m w (fun o=>qQ kind o J M) (fun o t=>c1 o (G.x.below t)) (fun a b o t=>c2 a b o (G.y.below t))
  refine this.mono fun e r ⟨P,t⟩=>⟨?_,t⟩
  rw [P]
  by_cases v:A=true/\xs.length=ys.length/\m=true
  ·have ok:OkT kind xs ys:=by
    obtain⟨a,b,c⟩:=v;have p:=z.1 a;have q:=(B a b).1 c;exact⟨J,M,p.1,p.2.1,b.symm,JZ p.2.2 (fun i hi=>q i (by omega))⟩
   have C:E=0:=by
    cases h with
    | ok h=>rfl
    | kind h=>omega
    | len j n h=>have:=ok.lo;have:=ok.hi;have:=ok.len;omega
    | node j n lo hi len K H d g=>rw [ok.node K H] at d;cases d
   rw [if_pos v,C];rfl
  ·have I:E=100:=by
    rcases s with s | s
    ·exfalso;apply v
     rw [s] at h
     have ok:=CZ h;obtain⟨p,q⟩:=JY ok.node;have a:=z.2 ⟨ok.lo,ok.hi,p⟩;exact⟨a,ok.len.symm,(B a ok.len.symm).2 (fun i hi=>q i (by rw [<- ok.len];exact hi))⟩
    ·exact s
   rw [if_neg v,I];rfl
 cases h with
 | kind h=>exact yK kind _ _ w (fun o=>qP kind o h)
 | ok h=>exact l h.k1 h.k4 0 (.ok h) (.inl rfl)
 | len j n h=>exact l j n 100 (.len j n h) (.inr rfl)
 | node j n lo hi len K H d g=>exact l j n 100 (.node j n lo hi len K H d g) (.inr rfl)
theorem yL {xs:List Int} {m:Nat} {y:Int} (h:y ∈ xs.take m):∃ j,j<m/\j<xs.length/\xs.getD j 0=y:=by
 obtain⟨j,b,e⟩:=List.mem_iff_getElem.1 h;have a:j<m/\j<xs.length:=by rw [List.length_take] at b;omega
 refine⟨j,a.1,a.2,?_⟩
 rw [<- e,List.getElem_take];simp [List.getD,a.2]
theorem yM {xs:List Int} {m:Nat} {y:Int} (h:y ∈ xs.drop m):∃ j,m<=j/\j<xs.length/\xs.getD j 0=y:=by
 obtain⟨j,b,e⟩:=List.mem_iff_getElem.1 h;have a:m+j<xs.length:=by rw [List.length_drop] at b;omega
 refine⟨m+j,by omega,a,?_⟩
 rw [<- e,List.getElem_drop];simp [List.getD,a]
theorem yN {xs:List Int} {x:Int} {m:Nat} (d:m<=xs.length) (lo:∀ j,j<m->xs.getD j 0<x) (hi:∀ j,m<=j->j<xs.length->¬ xs.getD j 0<x):xs.countP (fun y=>decide (y<x))=m:=by
 have e:xs.countP (fun y=>decide (y<x))=(xs.take m).countP (fun y=>decide (y<x))+(xs.drop m).countP (fun y=>decide (y<x)):=by
  rw [<- List.countP_append,List.take_append_drop]
 rw [e,List.countP_eq_length.2 (fun y a=>?_),List.countP_eq_zero.2 (fun y a=>?_),List.length_take]
 ·omega
 ·obtain⟨j,b,c,rfl⟩:=yM a
  simpa using hi j b c
 ·obtain⟨j,b,c,rfl⟩:=yL a
  simpa using lo j b
theorem FK {kind:Int} {xs:List Int} {ys:List Nat} (h:OkT kind xs ys):xs.Pairwise (·<=·):=by
 rw [List.pairwise_iff_getElem];intro i j hi b a;have:=h.rise a b;simp [List.getD,hi,b] at this
 omega
theorem FM {kind x:Int} {xs:List Int} {ys:List Nat} {k:Nat} (h:OkT kind xs ys) (i:FindR xs x k):(xs.contains x=true/\xs.countP (fun y=>decide (y<x))=k)\/(xs.contains x=false/\xs.countP (fun y=>decide (y<x))=k+1):=by
 have lt:=i.lt;have lo:∀ j,j<k->xs.getD j 0<x:=fun j d=>Int.lt_of_lt_of_le (h.rise d lt) i.le
 have hi:∀ j,k+1<=j->j<xs.length->x<xs.getD j 0:=fun j b a=>by
  have g:=i.gt (by omega)
  by_cases e:j=k+1
  ·rw [e];exact g
  ·exact Int.lt_trans g (h.rise (by omega) a)
 by_cases e:xs.getD k 0=x
 ·refine .inl ⟨?_,yN (by omega) lo (fun j b a=>?_)⟩
  ·rw [List.contains_iff_mem];have:xs.getD k 0=xs[k]:=by simp [List.getD,lt]
   rw [<- e,this];exact List.getElem_mem lt
  ·by_cases l:j=k
   ·rw [l];omega
   ·have:=hi j (by omega) a;omega
 ·refine .inr ⟨?_,yN (by omega) (fun j d=>?_) (fun j b a=>?_)⟩
  ·rw [Bool.eq_false_iff];intro c;rw [List.contains_iff_mem] at c
   obtain⟨j,d,l⟩:=List.mem_iff_getElem.1 c;have f:xs.getD j 0=x:=by rw [<- l];simp [List.getD,d]
   by_cases b:j<k
   ·have:=lo j b;omega
   ·by_cases a:j=k
    ·rw [a] at f;exact e f
    ·have:=hi j (by omega) d;omega
  ·by_cases b:j<k
   ·exact lo j b
   ·have:j=k:=by omega
    rw [this];have:=i.le;omega
  ·have:=hi j b a;omega
theorem BP (kind x:Int) (a b cx:Nat) (xs:List Int) (ys:List Nat) (w:World) (h:OkT kind xs ys) (g:VSrc w (some ⟨a,b,none⟩) a b xs.length (xV xs)) :
  Calls Tryz.prog 201 #[.slice (some ⟨a,b,none⟩) xs.length cx,.int .i64 x] w fun e d=>e=.returned (.tuple #[.int .i64 ((xs.countP fun y=>decide (y<x):Nat):Int),.bool (xs.contains x)])/\∃ q,d=w.drewN q:=by
 have i:=h.hi;have f:(xs.take xs.length).Pairwise (·<=·):=by rw [List.take_length];exact FK h
 have:=Any.slices_BinarySearch_int Tryz.bsL a b xs.length cx xs x w (Nat.le_refl _) (by omega) (fun j c=>g.cell j c) f
 rw [List.take_length] at this
 exact this
theorem yO (x:Int) (k:Option Addr) (j i cx n:Nat) (xs:List Int) (w:World) (d:VSrc w k j i n (xV xs)) (hn:1<=n) (o:n<=256) (f:x<xs.getD 0 0\/xs.getD (n - 1) 0<x) :
  Calls Tryz.prog 179 #[.slice k n cx,.int .i64 x] w fun e s=>e=.returned (.tuple #[.int .i64 0,.int .i64 51])/\s=w:=by
 obtain rfl:=d.at_ (by omega)
 obtain⟨m,q⟩:∃ m,n=m+1:=⟨n - 1,by omega⟩
 have c:n - 1=m:=by omega
 rw [c] at f
 have r:(n:Int) - 1=(m:Int):=by omega
 have g:m<n:=by omega
 have l:0<n:=by omega
 have u:w.cell? ⟨j,i,none⟩=some (.int .i64 (xs.getD 0 0)):=d.cell 0 (by omega)
 have v:w.cell? ⟨j,i+m,none⟩=some (.int .i64 (xs.getD m 0)):=d.cell m g;clear d q c hn;generalize xs.getD 0 0=a at *
 generalize xs.getD m 0=b at *
 rcases (show x<a\/(a<=x/\b<x) by omega) with h | ⟨h,p⟩
 ·have t:decide (x<a)=true:=decide_eq_true h;clear f
  go_enter Tryz.func179,Tryz.ntmps179
  go_wp2_with fail
  go_ret2
  exact⟨rfl,rfl⟩
 ·have t:decide (x<a)=false:=decide_eq_false (by omega)
  have y:decide (b<x)=true:=decide_eq_true p;clear f
  go_enter Tryz.func179,Tryz.ntmps179
  go_wp2_with fail
  go_ret2
  exact⟨rfl,rfl⟩
theorem BQ (kind x:Int) (z:Option Addr) (f d cx n k:Nat) (xs:List Int) (ys:List Nat) (w:World) (h:OkT kind xs ys) (j:xs.length=n) (c:VSrc w z f d n (xV xs)) (G:xs.getD 0 0<=x) (t:x<=xs.getD (n - 1) 0) (s:FindR xs x k) :
  Calls Tryz.prog 179 #[.slice z n cx,.int .i64 x] w fun e o=>e=.returned (.tuple #[.int .i64 (k:Int),.int .i64 0])/\Below w.heap.size w o:=by
 have u:=h.lo;have l:=h.hi;rw [j] at u l
 obtain rfl:=c.at_ (by omega)
 have v:Hid (∀ i,i=w->Calls Tryz.prog 201 #[.slice (some ⟨f,d,none⟩) n cx,.int .i64 x] i fun e o=>e=.returned (.tuple #[.int .i64 ((xs.countP fun y=>decide (y<x):Nat):Int),.bool (xs.contains x)])/\∃ q,o=i.drewN q):=fun i I=>by
  subst I;rw [<- j] at c ⊢
  exact BP kind x f d cx xs ys _ h c
 have C:=hideS (FM h s);have p:=s.lt;obtain⟨m,D⟩:∃ m,n=m+1:=⟨n - 1,by omega⟩
 have g:n - 1=m:=by omega
 rw [g] at t
 have F:(n:Int) - 1=(m:Int):=by omega
 have r:m<n:=by omega
 have A:0<n:=by omega
 have L:w.cell? ⟨f,d,none⟩=some (.int .i64 (xs.getD 0 0)):=c.cell 0 (by omega)
 have M:w.cell? ⟨f,d+m,none⟩=some (.int .i64 (xs.getD m 0)):=c.cell m r;have O:decide (x<xs.getD 0 0)=false:=decide_eq_false (by omega)
 have N:decide (xs.getD m 0<x)=false:=decide_eq_false (by omega)
 rw [j] at p
 clear c D g u G t h s j;generalize xs.getD 0 0=a at *
 generalize xs.getD m 0=b at *
 generalize (xs.countP fun y=>decide (y<x))=B at *
 generalize xs.contains x=H at *
 rcases C.out with⟨rfl,rfl⟩| ⟨rfl,rfl⟩
 ·go_enter Tryz.func179,Tryz.ntmps179
  go_wp2_with fail
  refine (v.out _ rfl).mono ?_
  rintro e E ⟨rfl,q,rfl⟩
  go_wp2_with fail
  go_ret2
  exact⟨rfl,⟨rfl,rfl,rfl,Nat.le_refl _,fun _ _=>rfl⟩⟩
 ·have K:((k+1:Nat):Int) - 1=(k:Int):=by omega
  generalize ((k+1:Nat):Int)=J at *
  go_enter Tryz.func179,Tryz.ntmps179
  go_wp2_with fail
  refine (v.out _ rfl).mono ?_
  rintro e E ⟨rfl,q,rfl⟩
  go_wp2_with fail
  go_ret2
  exact⟨rfl,⟨rfl,rfl,rfl,Nat.le_refl _,fun _ _=>rfl⟩⟩
theorem nS (kind x k E:Int) (c q:Option Addr) (f d cx r n:Nat) (xs:List Int) (ys:List Nat) (w:World) (ok:OkT kind xs ys) (h:FindO kind xs ys x k E) (l:TFl w c q f d r n xs ys) :
  Calls Tryz.prog 179 #[.slice c xs.length cx,.int .i64 x] w fun e m=>e=.returned (.tuple #[.int .i64 k,.int .i64 E])/\Below w.heap.size w m:=by
 cases h with
 | bad E h s=>
  exfalso
  cases h with
  | ok h=>exact s rfl
  | kind h=>have:=ok.k1;have:=ok.k4;omega
  | len o t h=>have:=ok.lo;have:=ok.hi;have:=ok.len;omega
  | node o t lo hi len K u bad j=>rw [ok.node K u] at bad;cases bad
 | out h p=>exact (yO x c f d cx _ xs w l.x h.lo h.hi p).mono fun e m ⟨a,b⟩=>⟨a,b▸Below.refl _ _⟩
 | at_ h g i k v y=>exact BQ kind x c f d cx _ k xs ys w h rfl l.x g i v
theorem oV {o:Option Nat} (h:NN (cn o)):o=some (cn o):=by
 cases o with
 | none=>exfalso;have:=h.nan;exact absurd this (by decide)
 | some r=>rfl
theorem yP {x y:Nat} (h:NN (sSub x y)):floatBits .sub .f64 x y=some (sSub x y):=oV h
theorem gX {x y:Nat} (h:NN (sDiv x y)):floatBits .quo .f64 x y=some (sDiv x y):=oV h
theorem yQ {x y:Nat} (h:NN (sMul x y)):floatBits .mul .f64 x y=some (sMul x y):=oV h
theorem yR {x y:Nat} (h:NN (sAdd x y)):floatBits .add .f64 x y=some (sAdd x y):=oV h
structure SixF (w:World) (B:Nat) (vx vy:Value) (bx ox b2 oy k j:Nat) (x0 x1:Int) (y0 y1:Nat):Prop where
 t1:w.cell? ⟨B,1,none⟩=some vx
 t2:w.cell? ⟨B,2,none⟩=some vy
 a0:w.cell? ⟨bx,ox+k,none⟩=some (.int .i64 x0)
 a1:w.cell? ⟨bx,ox+j,none⟩=some (.int .i64 x1)
 b0:w.cell? ⟨b2,oy+k,none⟩=some (.float .f64 y0)
 b1:w.cell? ⟨b2,oy+j,none⟩=some (.float .f64 y1)
theorem PM {w wr:World} {kind:Int} {i g:Option Addr} {e d cx c b cy k:Nat} {xs:List Int} {ys:List Nat} (h:TFl w i g e d c b xs ys) (j:ys.length=xs.length) (l:k+1<xs.length) (f:TBox w kind (.slice i xs.length cx) (.slice g ys.length cy) wr) :
  SixF wr w.heap.size (.slice (some ⟨e,d,none⟩) xs.length cx) (.slice (some ⟨c,b,none⟩) xs.length cy) e d c b k (k+1) (xs.getD k 0) (xs.getD (k+1) 0) (ys.getD k 0) (ys.getD (k+1) 0)/\i=some ⟨e,d,none⟩ /\g=some ⟨c,b,none⟩:=by
 obtain rfl:=h.x.at_ (by omega)
 obtain rfl:=h.y.at_ (by omega)
 have a:=h.below f.bl;rw [j] at f
 exact⟨⟨f.t1,f.t2,a.x.cell k (by omega),a.x.cell (k+1) l,a.y.cell k (by omega),a.y.cell (k+1) (by omega)⟩,rfl,rfl⟩
theorem Ka (kind:Int) (j i cx g f cy n k:Nat) (b a:Int) (y0 y1 u h r:Nat) (w w1:World) (l:w.alloc (.cells #[.int .i64 kind,.slice (some ⟨j,i,none⟩) n cx,.slice (some ⟨g,f,none⟩) n cy] 195)=w1) (s:SixF w1 w.heap.size (.slice (some ⟨j,i,none⟩) n cx) (.slice (some ⟨g,f,none⟩) n cy) j i g f k (k+1) b a y0 y1) (c:Below w.heap.size w w1) (p:k+1<n) (hn:n<=1000) (E:0<=b) (A:b<=109572) (y:0<=a) (x:a<=109572) (m:floatBits .sub .f64 y1 y0=some u) (G:floatOfInt .f64 (a - b)=h) (o:floatBits .quo .f64 u h=some r) :
  Calls Tryz.prog 231 #[.agg #[.int .i64 kind,.slice (some ⟨j,i,none⟩) n cx,.slice (some ⟨g,f,none⟩) n cy],.int .i64 (k:Int)] w fun e q=>e=.returned (.float .f64 r)/\Below w.heap.size w q:=by
 have v:IntKind.i64.wrap ((k:Int)+1)=(k:Int)+1:=by rw [IntKind.wrap_i64];omega
 have K:IntKind.i64.wrap (a - b)=a - b:=by rw [IntKind.wrap_i64];omega
 have H:(0:Int)<=(k:Int)+1:=by omega
 have C:(k:Int)+1<(n:Int):=by omega
 have M:(0:Int)<=(k:Int):=by omega
 have D:(k:Int)<(n:Int):=by omega
 have I:=fun w=>run_float_arith (P:=Tryz.prog) w .sub 27 .f64 y1 y0 u m
 have t:=fun w=>run_float_arith (P:=Tryz.prog) w .quo 27 .f64 u h r o
 obtain⟨z,L,B,N,F,J⟩:=s;have d:=hideS c;clear c m o
 go_enter Tryz.func231,Tryz.ntmps231
 go_wp2_with fail
 clear l
 go_quiet (fail)
 go_wp2_with fail
 go_ret
 exact⟨rfl,d.out.os,d.out.tape,d.out.output,d.out.size,d.out.block⟩
theorem Kb (kind:Int) (f d:Option Addr) (n m cx i g cy k:Nat) (xs:List Int) (ys:List Nat) (w:World) (h:OkT kind xs ys) (b:TFl w f d n m i g xs ys) (a:k+1<xs.length) :
  Calls Tryz.prog 231 #[.agg #[.int .i64 kind,.slice f xs.length cx,.slice d ys.length cy],.int .i64 (k:Int)] w fun e p=>e=.returned (.float .f64 (steepB xs ys k))/\Below w.heap.size w p:=by
 obtain⟨o,rfl,rfl⟩:=PM b h.len a (cH w kind (.slice f xs.length cx) (.slice d ys.length cy));have q:=h.len;have j:=ap (h.node k (by omega))
 have l:=ap (h.node (k+1) a);have c:=fT h b.u a;rw [q] at o ⊢
 exact Ka kind n m cx i g cy xs.length k _ _ _ _ _ _ _ w _ rfl o (cH w kind _ _).bl a (by have:=h.hi;omega) j.1 j.2.1 l.1 l.2.1 (yP (DF (aL h b.u a) (aL h b.u (by omega)))) (bF _) (gX c)
theorem yS (xs:List Int) (ys:List Nat):∀ m k,k<=m->(eR xs ys m).getD k 0=if k=0 then steepB xs ys 0 else slB (steepB xs ys (k - 1)) (steepB xs ys k)
 | 0,k,h=>by
  obtain rfl:k=0:=by omega
  rfl
 | m+1,k,h=>by
  rw [iE]
  by_cases a:k<=m
  ·rw [<- yS xs ys m k a];have:=fw xs ys m;simp [List.getD,List.getElem?_append_left (show k<(eR xs ys m).length by omega)]
  ·obtain rfl:k=m+1:=by omega
   rw [if_neg (by omega),Nat.add_sub_cancel]
   have:=fw xs ys m;simp [List.getD,this]
theorem Kc {xs:List Int} {ys:List Nat} {n k:Nat} (e:k<n):(bI xs ys n).getD k 0=if n=1 then 0 else if k=0 then steepB xs ys 0 else if k=n - 1 then steepB xs ys (n - 2) else slB (steepB xs ys (k - 1)) (steepB xs ys k):=by
 unfold bI
 by_cases a:n=1
 ·obtain rfl:k=0:=by omega
  rw [if_pos a,if_pos a];rfl
 ·rw [if_neg a,if_neg a];have d:=fw xs ys (n - 2)
  by_cases b:k=n - 1
  ·rw [if_pos b]
   by_cases c:k=0
   ·omega
   ·rw [if_neg c];simp [List.getD,List.getElem?_append_right (show (eR xs ys (n - 2)).length<=k by omega),show k - (eR xs ys (n - 2)).length=0 by omega]
  ·rw [if_neg b,<- yS xs ys (n - 2) k (by omega)]
   simp [List.getD,List.getElem?_append_left (show k<(eR xs ys (n - 2)).length by omega)]
theorem FN (kind:Int) (b:Option Addr) (cx:Nat) (a:Value) (k:Int) (w:World) :
  Calls Tryz.prog 227 #[.agg #[.int .i64 kind,.slice b 1 cx,a],.int .i64 k] w fun e c=>e=.returned (.float .f64 0)/\Below w.heap.size w c:=by
 have d:=hideS (cH w kind (.slice b 1 cx) a)
 go_enter Tryz.func227,Tryz.ntmps227
 go_wp2_with fail
 go_ret
 exact⟨rfl,d.out.bl⟩
def PN (w:World) (kind:Int) (d b:Value) (n:Nat) (f:Nat->Nat):Prop:=∀ a,Below w.heap.size w a->∀ k,k+1<n->Calls Tryz.prog 231 #[.agg #[.int .i64 kind,d,b],.int .i64 (k:Int)] a fun e c=>e=.returned (.float .f64 (f k))/\Below a.heap.size a c
theorem yT (kind:Int) (d:Option Addr) (cx n:Nat) (c:Value) (g:Nat->Nat) (w:World) (H:Hid (PN w kind (.slice d n cx) c n g)) (hn:2<=n) (j:n<=256) :
  Calls Tryz.prog 227 #[.agg #[.int .i64 kind,.slice d n cx,c],.int .i64 0] w fun e h=>e=.returned (.float .f64 (g 0))/\Below w.heap.size w h:=by
 have i:=hideS (cH w kind (.slice d n cx) c);obtain⟨m,rfl⟩:∃ m,n=m+2:=⟨n - 2,by omega⟩
 have p:((m+2:Nat):Int) - 1=(m:Int)+1:=by omega
 have q:((m:Int)+1==0)=false:=beq_eq_false_iff_ne.2 (by omega)
 have l:Hid (∀ a,Below w.heap.size w a->Calls Tryz.prog 231 #[.agg #[.int .i64 kind,.slice d (m+2) cx,c],.int .i64 0] a fun e h=>e=.returned (.float .f64 (g 0))/\Below a.heap.size a h):=fun a k=>by
  have:=H.out a k 0 (by omega)
  rw [show ((0:Nat):Int)=0 from rfl] at this
  exact this
 clear H
 go_enter Tryz.func227,Tryz.ntmps227
 go_wp2_with fail
 refine (l.out _ i.out.bl).mono ?_
 rintro e o ⟨rfl,b⟩;have f:=hideS (i.out.step b);clear b
 go_wp2_with fail
 go_ret
 exact⟨rfl,f.out.bl⟩
theorem BR (kind:Int) (d:Option Addr) (cx n m:Nat) (c:Value) (g:Nat->Nat) (w:World) (H:Hid (PN w kind (.slice d n cx) c n g)) (i:n=m+2) (h:n<=256) :
  Calls Tryz.prog 227 #[.agg #[.int .i64 kind,.slice d n cx,c],.int .i64 ((m:Int)+1)] w fun e k=>e=.returned (.float .f64 (g m))/\Below w.heap.size w k:=by
 have f:=hideS (cH w kind (.slice d n cx) c);have j:(n:Int) - 1=(m:Int)+1:=by omega
 have v:((m:Int)+1==0)=false:=beq_eq_false_iff_ne.2 (by omega)
 have q:=hideS fun l o=>H.out l o m (by omega)
 have p:((m:Int)+1) - 1=(m:Int):=by omega
 have s:IntKind.i64.wrap ((n:Int) - 1)=(m:Int)+1:=by rw [IntKind.wrap_i64];omega
 have u:IntKind.i64.wrap ((m:Int)+1 - 1)=(m:Int):=by rw [IntKind.wrap_i64];omega
 clear H i j p;generalize (m:Int)+1=r at *
 go_enter Tryz.func227,Tryz.ntmps227
 go_wp2_with fail
 refine (q.out _ f.out.bl).mono ?_
 rintro e t ⟨rfl,a⟩;have b:=hideS (f.out.step a);clear a
 go_wp2_with fail
 go_ret
 exact⟨rfl,b.out.bl⟩
structure SlT (a b s:Nat) (a0 b0 al bl:Bool):Prop where
 p1:(FloatKind.f64.format.order a 0==some .eq)=a0
 p2:(FloatKind.f64.format.order b 0==some .eq)=b0
 p3:(FloatKind.f64.format.order a 0==some .lt)=al
 p4:(FloatKind.f64.format.order b 0==some .lt)=bl
 z:(a0||b0||(al !=bl))=true->s=0
 nz:(a0||b0||(al !=bl))=false->∃ p q t,floatBits .quo .f64 4607182418800017408 a=some p/\floatBits .quo .f64 4607182418800017408 b=some q/\floatBits .add .f64 p q=some t/\floatBits .quo .f64 4611686018427387904 t=some s
theorem PO {a b:Nat} (e:NN a) (d:NN b):∃ a0 w v bl,SlT a b (slB a b) a0 w v bl:=by
 have z:(0:Nat)<18446744073709551616:=by decide
 refine⟨_,_,_,_,rfl,rfl,rfl,rfl,?_,?_⟩
 all_goals
  rw [eU (aU e.lt) (aU z) e.nan (by decide),eU (aU d.lt) (aU z) d.nan (by decide),jK (aU e.lt) (aU z) e.nan (by decide),jK (aU d.lt) (aU z) d.nan (by decide),show ae ((0:Nat):Int)=0 by decide]
 ·intro h;unfold slB;rw [aA (by decide) e.nan,aA (by decide) d.nan,aA e.nan (by decide),aA d.nan (by decide),show ae 0=0 by decide]
  generalize ae (a:Nat)=r at *
  generalize ae (b:Nat)=s at *
  rw [if_neg];intro c;simp only [Bool.or_eq_true,Bool.and_eq_true,decide_eq_true_eq,bne_iff_ne,ne_eq,decide_eq_decide] at c h
  omega
 ·intro h;have l:((ltB 0 (a:Nat)&&ltB 0 (b:Nat))||(ltB (a:Nat) 0&&ltB (b:Nat) 0))=true:=by
   rw [aA (by decide) e.nan,aA (by decide) d.nan,aA e.nan (by decide),aA d.nan (by decide),show ae 0=0 by decide]
   generalize ae (a:Nat)=r at *
   generalize ae (b:Nat)=s at *
   simp only [Bool.or_eq_true,Bool.and_eq_true,decide_eq_true_eq,Bool.or_eq_false_iff,decide_eq_false_iff_not,bne_eq_false_iff_eq,decide_eq_decide] at h ⊢
   omega
  have f:a % 9223372036854775808≠0/\b % 9223372036854775808≠0/\sB a=sB b:=by
   rw [Bool.or_eq_true,Bool.and_eq_true,Bool.and_eq_true] at l
   rcases l with⟨p,q⟩| ⟨p,q⟩
   ·obtain⟨i,j⟩:=iJ e.lt p;obtain⟨k,m⟩:=iJ d.lt q;exact⟨i,k,by rw [j,m]⟩
   ·obtain⟨i,j⟩:=oU e.lt p;obtain⟨k,m⟩:=oU d.lt q;exact⟨i,k,by rw [j,m]⟩
  have g:ag 4607182418800017408:=by unfold ag;decide
  obtain⟨n,x⟩:=qw g (by decide) (by decide) e f.1
  obtain⟨o,u⟩:=qw g (by decide) (by decide) d f.2.1
  have t:=tH n o (by rw [x,u,f.2.2])
  refine⟨_,_,_,gX n,gX o,yR t,?_⟩
  unfold slB;rw [if_pos l];exact gX (Jt t)
theorem FO (kind:Int) (v:Option Addr) (cx n j k a b s:Nat) (a0 E B bl:Bool) (i:Value) (w:World) (S:k=j+1) (y:k+1<n) (K:n<=256) (J:SlT a b s a0 E B bl)
  (z:Hid (∀ g,Below w.heap.size w g->Calls Tryz.prog 231 #[.agg #[.int .i64 kind,.slice v n cx,i],.int .i64 (j:Int)] g fun e u=>e=.returned (.float .f64 a)/\Below g.heap.size g u))
  (I:Hid (∀ g,Below w.heap.size w g->Calls Tryz.prog 231 #[.agg #[.int .i64 kind,.slice v n cx,i],.int .i64 (k:Int)] g fun e u=>e=.returned (.float .f64 b)/\Below g.heap.size g u)) :
  Calls Tryz.prog 227 #[.agg #[.int .i64 kind,.slice v n cx,i],.int .i64 (k:Int)] w fun e u=>e=.returned (.float .f64 s)/\Below w.heap.size w u:=by
 have h:=hideS (cH w kind (.slice v n cx) i);have e1:IntKind.i64.wrap ((n:Int) - 1)=(n:Int) - 1:=by rw [IntKind.wrap_i64];omega
 have e2:((n:Int) - 1==0)=false:=beq_eq_false_iff_ne.2 (by omega)
 have e3:((k:Int)==0)=false:=beq_eq_false_iff_ne.2 (by omega)
 have Y:((k:Int)==(n:Int) - 1)=false:=beq_eq_false_iff_ne.2 (by omega)
 have e5:IntKind.i64.wrap ((k:Int) - 1)=(j:Int):=by rw [IntKind.wrap_i64];omega
 obtain⟨V,t2,t3,X,f,c⟩:=J;have A:=hideS (And.intro f c);clear S y f c;obtain⟨D,r⟩:∃ D,w.alloc (.cells #[.int .i64 kind,.slice v n cx,i] 195)=D:=⟨_,rfl⟩;rw [r] at h
 have L:=h.out.t0;have N:=h.out.t1;have O:=h.out.t2
 go_enter Tryz.func227,Tryz.ntmps227
 go_wp2_with fail
 clear r
 go_region_with (first | (go_at_call_of 231 (Value.int IntKind.i64 (j:Int));refine (z.out _ h.out.bl.drew).mono ?_;rintro e Z ⟨rfl,l⟩;have d:=hideS ((h.out.drewN 1).step l);have Q:=d.out.t0;have R:=d.out.t1;have M:=d.out.t2;clear l) | (go_at_call 231;refine (I.out _ d.out.bl).mono ?_;rintro e W ⟨rfl,x⟩;have o:=hideS (d.out.step x);clear x))
 all_goals
  obtain⟨f,c⟩:=A.out;have m:=hideS o.out.bl;clear h d o z I A L N O Q R M;cases a0 with
  | true=>
   obtain rfl:=f rfl;clear c f
   go_wp2_with fail
   go_ret
   exact⟨rfl,m.out⟩
  | false=>
   cases E with
   | true=>
    obtain rfl:=f rfl;clear c f
    go_wp2_with fail
    go_ret
    exact⟨rfl,m.out⟩
   | false=>
    cases B<;>cases bl
    case false.true=>
     obtain rfl:=f rfl;clear c f
     go_wp2_with fail
     go_ret
     exact⟨rfl,m.out⟩
    case true.false=>
     obtain rfl:=f rfl;clear c f
     go_wp2_with fail
     go_ret
     exact⟨rfl,m.out⟩
    all_goals
     obtain⟨p,q,t,F,H,C,G⟩:=c rfl;have r1:=fun w=>run_float_arith (P:=Tryz.prog) w .quo 27 .f64 _ _ _ F
     have U:=fun w=>run_float_arith (P:=Tryz.prog) w .quo 27 .f64 _ _ _ H
     have r3:=fun w=>run_float_arith (P:=Tryz.prog) w .add 27 .f64 _ _ _ C
     have T:=fun w=>run_float_arith (P:=Tryz.prog) w .quo 27 .f64 _ _ _ G
     clear c f F H C G
     go_wp2_with fail
     go_ret
     exact⟨rfl,m.out⟩
theorem FP (kind:Int) (a d:Option Addr) (r q cx o n cy k:Nat) (xs:List Int) (ys:List Nat) (w:World) (h:OkT kind xs ys) (g:TFl w a d r q o n xs ys) (j:k<xs.length) :
  Calls Tryz.prog 227 #[.agg #[.int .i64 kind,.slice a xs.length cx,.slice d ys.length cy],.int .i64 (k:Int)] w fun e z=>e=.returned (.float .f64 ((bI xs ys xs.length).getD k 0))/\Below w.heap.size w z:=by
 have C:=h.lo;have l:=h.hi;have H:Hid (PN w kind (.slice a xs.length cx) (.slice d ys.length cy) xs.length (steepB xs ys)):=fun b c k j=>Kb kind a d r q cx o n cy k xs ys b h (g.below c) j
 rw [Kc j]
 by_cases f:xs.length=1
 ·rw [if_pos f,f];exact FN kind a cx _ _ w
 ·rw [if_neg f]
  by_cases i:k=0
  ·rw [if_pos i];subst i;exact yT kind a cx _ _ _ w H (by omega) l
  ·rw [if_neg i]
   by_cases p:k=xs.length - 1
   ·rw [if_pos p];obtain⟨m,v⟩:∃ m,xs.length=m+2:=⟨xs.length - 2,by omega⟩
    have y:(k:Int)=(m:Int)+1:=by omega
    have B:xs.length - 2=m:=by omega
    rw [y,B];exact BR kind a cx _ m _ _ w H v l
   ·rw [if_neg p];obtain⟨x,A,t,bl,s⟩:=PO (fT h g.u (k:=k - 1) (by omega)) (fT h g.u (k:=k) (by omega))
    exact FO kind a cx _ (k - 1) k _ _ _ x A t bl _ w (by omega) (by omega) l s (fun b c=>H.out b c (k - 1) (by omega)) (fun b c=>H.out b c k (by omega))
def rh (x:Nat):Bool:=aE (x:Nat)&&ltB 0 (x:Nat)
theorem KG {x:Nat} (h:x<18446744073709551616) (a:ltB 0 (x:Nat)=true):x<9223372036854775808/\ah (x:Nat)=false:=by
 obtain⟨_,b⟩:=iJ h a;unfold sB at b
 refine⟨by have:=of_decide_eq_false b;omega,?_⟩
 unfold ltB at a
 simp only [Bool.and_eq_true,Bool.not_eq_true',decide_eq_true_eq] at a
 exact a.1.2
theorem wI (x:Nat) (w:World) (h:x<18446744073709551616) :
  Calls Tryz.prog 78 #[.float .f64 x] w fun e i=>e=.returned (.bool (rh x))/\i=w:=by
 have c:=ogt h (show (0:Nat)<18446744073709551616 by decide)
 have b:ltB ((0:Nat):Int) (x:Nat)=ltB 0 (x:Nat):=rfl;rw [b] at c
 unfold rh;cases a:ltB 0 (x:Nat) with
 | false=>
  rw [a] at c
  rw [Bool.and_false];clear a h b
  go_enter Tryz.func78,Tryz.ntmps78
  go_wp2
  go_ret
  exact⟨rfl,rfl⟩
 | true=>
  rw [a] at c
  obtain⟨d,f⟩:=KG h a;have hi:=qH f;rw [Nat.mod_eq_of_lt d] at hi
  have H:=hideS fun w=>nh x _ w hi
  rw [Bool.and_true];generalize aE (x:Nat)=g at *
  clear a h b hi d f;cases g
  all_goals
   go_enter Tryz.func78,Tryz.ntmps78
   go_wp2_with (go_at_call 71;refine (H.out _).mono ?_;rintro e j ⟨rfl,rfl⟩)
   go_ret
   exact⟨rfl,rfl⟩
def dyB (base:Int) (a:List Int) (i:Nat):Bool:=decide (a.getD i 0<=dA base a i)||decide (109572<a.getD i 0)
theorem KH (base:Int) (p:Option Addr) (n c:Nat) (w:World) (h:n<1\/255<n) :
  Calls Tryz.prog 51 #[.int .i64 base,.slice p n c] w fun e a=>e=.returned (.bool false)/\a=w:=by
 rcases h with h | h
 ·have b:decide ((n:Int)<1)=true:=decide_eq_true (by omega)
  clear h
  go_enter Tryz.func51,Tryz.ntmps51
  go_wp2
  go_ret
  exact⟨rfl,rfl⟩
 ·have b:decide ((n:Int)<1)=false:=decide_eq_false (by omega)
  have d:decide ((255:Int)<n)=true:=decide_eq_true (by omega)
  clear h
  go_enter Tryz.func51,Tryz.ntmps51
  go_wp2
  go_ret
  exact⟨rfl,rfl⟩
theorem Gj (base:Int) (p:Option Addr) (b off c n K:Nat) (xs:List Int) (w:World) (q:VSrc w p b off n (xV xs)) (hn:1<=n) (u:n<=255) (G:K<=n) (a:∀ i<K,dyB base xs i=false) (d:K<n->dyB base xs K=true) :
  Calls Tryz.prog 51 #[.int .i64 base,.slice p n c] w fun e A=>e=.returned (.bool (decide (n<=K)))/\A=w:=by
 obtain⟨g,h⟩:∃ g,decide (n<=K)=g:=⟨_,rfl⟩;rw [h];have v:Hid (K<n->g=false):=fun F=>by rw [<- h];exact decide_eq_false (by omega)
 have z:Hid (K=n->g=true):=fun F=>by rw [<- h];exact decide_eq_true (by omega)
 clear h;have t:=hideS q;have D:=hideS a;have x:=hideS d;obtain rfl:=q.at_ (by omega)
 have C:decide ((n:Int)<1)=false:=decide_eq_false (by omega)
 have B:decide ((255:Int)<n)=false:=decide_eq_false (by omega)
 clear q a d
 go_enter Tryz.func51,Tryz.ntmps51
 go_wp2_with fail
 clear C B
 go_loop [5,7,19] (fun l _ i=>∃ k:Nat,k<=K/\i=.int .i64 k/\l=.int .i64 (dA base xs k)) (fun _ _ i=>n - (intOf i).toNat)
 case atStart=>exact⟨0,Nat.zero_le _,rfl,rfl⟩
 case round=>
  obtain⟨k,H,rfl,rfl⟩:=hrel
  by_cases m:k<K
  ·have r:k<n:=by omega
   have c1:w.cell? ⟨b,off+k,none⟩=some (.int .i64 (xs.getD k 0)):=t.out.cell k r;have f:=D.out k m;unfold dyB at f
   rw [Bool.or_eq_false_iff] at f
   obtain⟨s,I⟩:=f;have E:=hideS (show dA base xs (k+1)=xs.getD k 0 from rfl)
   generalize dA base xs k=l at *
   generalize xs.getD k 0=y at *
   go_wp2_with fail
   go_round
   case rel=>exact⟨k+1,by omega,by simp,by rw [E.out]⟩
   case measure=>simp [intOf];omega
  ·obtain rfl:k=K:=by omega
   by_cases o:k<n
   ·have c1:w.cell? ⟨b,off+k,none⟩=some (.int .i64 (xs.getD k 0)):=t.out.cell k o;have f:=x.out o;unfold dyB at f
    have j:=hideS (v.out o);generalize dA base xs k=l at *
    generalize xs.getD k 0=y at *
    cases s:decide (y<=l)
    ·rw [s,Bool.false_or] at f
     go_wp2_with fail
     go_ret
     exact⟨by rw [j.out]<;>rfl,rfl⟩
    ·clear f
     go_wp2_with fail
     go_ret
     exact⟨by rw [j.out]<;>rfl,rfl⟩
   ·obtain rfl:k=n:=by omega
    have j:=hideS (z.out rfl)
    go_wp2_with fail
    go_ret
    exact⟨by rw [j.out]<;>rfl,rfl⟩
theorem wJ (p:Option Addr) (b off c n K:Nat) (ys:List Nat) (w:World) (r:VSrc w p b off n (flV ys)) (q:∀ i<n,ys.getD i 0<18446744073709551616) (t:n<=255) (C:K<=n) (a:∀ i<K,rh (ys.getD i 0)=true) (d:K<n->rh (ys.getD K 0)=false) :
  Calls Tryz.prog 52 #[.slice p n c] w fun e m=>e=.returned (.bool (decide (n<=K)))/\m=w:=by
 obtain⟨g,f⟩:∃ g,decide (n<=K)=g:=⟨_,rfl⟩;rw [f];have u:Hid (K<n->g=false):=fun B=>by rw [<- f];exact decide_eq_false (by omega)
 have x:Hid (K=n->g=true):=fun B=>by rw [<- f];exact decide_eq_true (by omega)
 clear f;have s:=hideS r;have z:=hideS a;have v:=hideS d;have A:=hideS q;clear r a d q
 go_enter Tryz.func52,Tryz.ntmps52
 go_wp2_with fail
 go_loop [4,7] (fun _ i=>∃ k:Nat,k<=K/\i=.int .i64 k) (fun _ i=>n - (intOf i).toNat)
 case atStart=>exact⟨0,Nat.zero_le _,rfl⟩
 case round=>
  obtain⟨k,D,rfl⟩:=hrel
  by_cases j:k<n
  ·have c1:w.cell? ⟨b,off+k,none⟩=some (.float .f64 (ys.getD k 0)):=s.out.cell k j;obtain rfl:=s.out.at_ (by omega)
   have h:=hideS fun w=>wI (ys.getD k 0) w (A.out k j)
   by_cases l:k<K
   ·rw [z.out k l] at h
    generalize ys.getD k 0=y at *
    go_wp2_with (go_at_call 78;refine (h.out _).mono ?_;rintro e m ⟨rfl,rfl⟩)
    go_round
    case rel=>exact⟨k+1,by omega,by simp⟩
    case measure=>simp [intOf];omega
   ·obtain rfl:k=K:=by omega
    rw [v.out j] at h
    have o:=hideS (u.out j);generalize ys.getD k 0=y at *
    go_wp2_with (go_at_call 78;refine (h.out _).mono ?_;rintro e m ⟨rfl,rfl⟩)
    go_ret
    exact⟨by rw [o.out]<;>rfl,rfl⟩
  ·obtain rfl:k=n:=by omega
   obtain rfl:K=k:=by omega
   have o:=hideS (x.out rfl)
   go_wp2_with fail
   go_ret
   exact⟨by rw [o.out]<;>rfl,rfl⟩
theorem KI (base:Int) (d:Option Addr) (l k cx:Nat) (xs:List Int):∃ g:Bool,(g=true↔(1<=xs.length/\xs.length<=255/\∀ i<xs.length,dyB base xs i=false))/\∀ w,VSrc w d l k xs.length (xV xs)->Calls Tryz.prog 51 #[.int .i64 base,.slice d xs.length cx] w fun e m=>e=.returned (.bool g)/\m=w:=by
 by_cases n:xs.length<1\/255<xs.length
 ·exact⟨false,⟨fun h=>by simp at h,fun⟨a,b,_⟩=>by omega⟩,fun w _=>KH base d _ cx w n⟩
 ·obtain⟨K,q,j,f⟩:=jw (p:=dyB base xs) xs.length;refine⟨decide (xs.length<=K),⟨fun h=>⟨by omega,by omega,fun i hi=>j i (by have:=of_decide_eq_true h;omega)⟩,fun⟨_,_,h⟩=>decide_eq_true (Classical.byContradiction fun c=>?_)⟩,fun w o=>Gj base d l k cx _ K xs w o (by omega) (by omega) q j f⟩
  have:=f (by omega)
  rw [h K (by omega)] at this
  cases this
theorem zB (d:Option Addr) (j f cy:Nat) (ys:List Nat) (hn:ys.length<=255) (k:∀ i<ys.length,ys.getD i 0<18446744073709551616):∃ g:Bool,(g=true↔∀ i<ys.length,rh (ys.getD i 0)=true)/\∀ w,VSrc w d j f ys.length (flV ys)->Calls Tryz.prog 52 #[.slice d ys.length cy] w fun e n=>e=.returned (.bool g)/\n=w:=by
 obtain⟨K,q,m,l⟩:=jw (p:=fun i=>!rh (ys.getD i 0)) ys.length
 have a:∀ i<K,rh (ys.getD i 0)=true:=fun i hi=>by have:=m i hi;simpa using this
 have b:K<ys.length->rh (ys.getD K 0)=false:=fun hi=>by have:=l hi;simpa using this
 refine⟨decide (ys.length<=K),⟨fun h i hi=>a i (by have:=of_decide_eq_true h;omega),fun h=>decide_eq_true (Classical.byContradiction fun c=>?_)⟩,fun w o=>wJ d j f cy _ K ys w o k hn q a b⟩
 have:=b (by omega)
 rw [h K (by omega)] at this
 cases this
theorem nodC_two {base:Int} {e:List Int} {f:List Nat} {i:Nat}:kR base e f i=false↔dyB base e i=false/\rh (f.getD i 0)=true:=by
 unfold kR dyB rh;generalize aE (f.getD i 0:Nat)=a;generalize ltB 0 (f.getD i 0:Nat)=b;generalize decide (e.getD i 0<=dA base e i)=c;generalize decide (109572<e.getD i 0)=d;cases a<;>cases b<;>cases c<;>cases d<;>decide
theorem sK (base kind:Int) (b f:Value) (w:World) (h:base<0\/109572<base) :
  Calls Tryz.prog 37 #[.agg #[.int .i64 base,.int .i64 kind,b,f]] w fun e g=>e=.returned (.int .i64 51)/\Below w.heap.size w g:=by
 have d:=hideS (bu w base kind b f);rcases (show base<0\/(0<=base/\109572<base) by omega) with a | ⟨a,c⟩
 ·have i:decide (base<0)=true:=decide_eq_true a;clear h a
  go_enter Tryz.func37,Tryz.ntmps37
  go_wp2_with fail
  go_ret
  exact⟨rfl,d.out.bl⟩
 ·have i:decide (base<0)=false:=decide_eq_false (by omega)
  have j:decide (109572<base)=true:=decide_eq_true c;clear h a c
  go_enter Tryz.func37,Tryz.ntmps37
  go_wp2_with fail
  go_ret
  exact⟨rfl,d.out.bl⟩
theorem sL (base kind:Int) (b d:Value) (w:World) (j:0<=base) (m:base<=109572) (h:kind<1\/4<kind) :
  Calls Tryz.prog 37 #[.agg #[.int .i64 base,.int .i64 kind,b,d]] w fun e g=>e=.returned (.int .i64 90)/\Below w.heap.size w g:=by
 have c:=hideS (bu w base kind b d);have l:decide (base<0)=false:=decide_eq_false (by omega)
 have k:decide (109572<base)=false:=decide_eq_false (by omega)
 rcases (show kind<1\/(1<=kind/\4<kind) by omega) with a | ⟨a,f⟩
 ·have i:decide (kind<1)=true:=decide_eq_true a;clear h a
  go_enter Tryz.func37,Tryz.ntmps37
  go_wp2_with fail
  go_ret
  exact⟨rfl,c.out.bl⟩
 ·have i:decide (kind<1)=false:=decide_eq_false (by omega)
  have n:decide (4<kind)=true:=decide_eq_true f;clear h a f
  go_enter Tryz.func37,Tryz.ntmps37
  go_wp2_with fail
  go_ret
  exact⟨rfl,c.out.bl⟩
theorem zC (base kind:Int) (b d cx cy:Nat) (p n:Option Addr) (l o:Bool) (w:World) (t:0<=base) (u:base<=109572) (r:1<=kind) (s:kind<=4)
  (m:Hid (∀ f,Below w.heap.size w f->Calls Tryz.prog 51 #[.int .i64 base,.slice p b cx] f fun e j=>e=.returned (.bool l)/\j=f))
  (k:Hid (l=true->b=d->∀ f,Below w.heap.size w f->Calls Tryz.prog 52 #[.slice n d cy] f fun e j=>e=.returned (.bool o)/\j=f)) :
  Calls Tryz.prog 37 #[.agg #[.int .i64 base,.int .i64 kind,.slice p b cx,.slice n d cy]] w fun e j=>e=.returned (.int .i64 (if l=true/\b=d/\o=true then 0 else 100))/\Below w.heap.size w j:=by
 have a:=hideS (bu w base kind (.slice p b cx) (.slice n d cy));have z:decide (base<0)=false:=decide_eq_false (by omega)
 have y:decide (109572<base)=false:=decide_eq_false (by omega)
 have v:decide (kind<1)=false:=decide_eq_false (by omega)
 have x:decide (4<kind)=false:=decide_eq_false (by omega)
 clear t u r s;cases l with
 | false=>
  rw [if_neg (by simp)]
  clear k
  go_enter Tryz.func37,Tryz.ntmps37
  go_wp2_with (first | (go_at_call 51;refine (m.out _ a.out.bl).mono ?_;rintro e i ⟨rfl,rfl⟩))
  go_ret
  exact⟨rfl,a.out.bl⟩
 | true=>
  by_cases g:b=d
  ·have q:((d:Int) !=(b:Int))=false:=by rw [g];simp
   have h:=hideS (k.out rfl g);clear k;cases o with
   | false=>
    rw [if_neg (by simp)]
    clear g
    go_enter Tryz.func37,Tryz.ntmps37
    go_wp2_with (first | (go_at_call 51;refine (m.out _ a.out.bl).mono ?_;rintro e i ⟨rfl,rfl⟩) | (go_at_call 52;refine (h.out _ a.out.bl).mono ?_;rintro e i ⟨rfl,rfl⟩))
    go_ret
    exact⟨rfl,a.out.bl⟩
   | true=>
    rw [if_pos ⟨rfl,g,rfl⟩];clear g
    go_enter Tryz.func37,Tryz.ntmps37
    go_wp2_with (first | (go_at_call 51;refine (m.out _ a.out.bl).mono ?_;rintro e i ⟨rfl,rfl⟩) | (go_at_call 52;refine (h.out _ a.out.bl).mono ?_;rintro e i ⟨rfl,rfl⟩))
    go_ret
    exact⟨rfl,a.out.bl⟩
  ·have q:((d:Int) !=(b:Int))=true:=by simp;omega
   rw [if_neg (fun c=>g c.2.1)]
   clear k g
   go_enter Tryz.func37,Tryz.ntmps37
   go_wp2_with (first | (go_at_call 51;refine (m.out _ a.out.bl).mono ?_;rintro e i ⟨rfl,rfl⟩))
   go_ret
   exact⟨rfl,a.out.bl⟩
theorem dG (base kind:Int) (z s:Option Addr) (bd R G J L A:Nat) (g:List Int) (d:List Nat) (w:World) (M:TFl w z s bd R J L g d) {E:Int} (r:CurR base kind g d E) :
  Calls Tryz.prog 37 #[.agg #[.int .i64 base,.int .i64 kind,.slice z g.length G,.slice s d.length A]] w fun e v=>e=.returned (.int .i64 E)/\Below w.heap.size w v:=by
 have o:0<=base->base<=109572->1<=kind->kind<=4->∀ E,CurR base kind g d E->(E=0\/E=100)->Calls Tryz.prog 37 #[.agg #[.int .i64 base,.int .i64 kind,.slice z g.length G,.slice s d.length A]] w fun e v=>e=.returned (.int .i64 E)/\Below w.heap.size w v:=fun j k Q S E h r=>by
  obtain⟨F,D,c1⟩:=KI base z bd R G g;have T:∃ t:Bool,(F=true->g.length=d.length->(t=true↔∀ i<d.length,rh (d.getD i 0)=true))/\(F=true->g.length=d.length->∀ w,VSrc w s J L d.length (flV d)->Calls Tryz.prog 52 #[.slice s d.length A] w fun e v=>e=.returned (.bool t)/\v=w):=by
   by_cases V:d.length<=255
   ·obtain⟨t,H,c2⟩:=zB s J L A d V M.f;exact⟨t,fun _ _=>H,fun _ _=>c2⟩
   ·exact⟨false,fun a b=>by have:=(D.1 a).2.1;omega,fun a b=>by have:=(D.1 a).2.1;omega⟩
  obtain⟨t,H,c2⟩:=T;have:=zC base kind g.length d.length G A z s F t w j k Q S (fun N B=>c1 N (M.x.below B)) (fun a b N B=>c2 a b N (M.y.below B))
  refine this.mono fun e v ⟨U,B⟩=>⟨?_,B⟩
  rw [U]
  by_cases C:F=true/\g.length=d.length/\t=true
  ·have ok:OkV base kind g d:=by
    obtain⟨a,b,c⟩:=C;have p:=D.1 a;have q:=(H a b).1 c;exact⟨j,k,Q,S,p.1,p.2.1,b.symm,fun i hi=>nodC_two.2 ⟨p.2.2 i hi,q i (by omega)⟩⟩
   have I:E=0:=by
    cases h with
    | ok h=>rfl
    | base h=>omega
    | kind _ _ h=>omega
    | len _ _ n u h=>have:=ok.lo;have:=ok.hi;have:=ok.len;omega
    | node _ _ n u lo hi len K O l m=>rw [ok.node K O] at l;cases l
   rw [if_pos C,I]
  ·have P:E=100:=by
    rcases r with r | r
    ·exfalso;apply C
     rw [r] at h
     have ok:=ka h;have a:=D.2 ⟨ok.lo,ok.hi,fun i hi=>(nodC_two.1 (ok.node i hi)).1⟩
     exact⟨a,ok.len.symm,(H a ok.len.symm).2 (fun i hi=>(nodC_two.1 (ok.node i (by rw [<- ok.len];exact hi))).2)⟩
    ·exact r
   rw [if_neg C,P]
 cases r with
 | base h=>exact sK base kind _ _ w h
 | kind j k h=>exact sL base kind _ _ w j k h
 | ok h=>exact o h.b0 h.b1 h.k1 h.k4 0 (.ok h) (.inl rfl)
 | len j k n u h=>exact o j k n u 100 (.len j k n u h) (.inr rfl)
 | node j k n u lo hi len K O l m=>exact o j k n u 100 (.node j k n u lo hi len K O l m) (.inr rfl)
theorem Qo (base kind:Int) (b d:Option Addr) (m l cx j i cy:Nat) (xs:List Int) (ys:List Nat) (w:World) (f:TFl w b d m l j i xs ys) (q:ys.length<=17592186043904) :
  Calls Tryz.prog 10 #[.agg #[.int .i64 base,.int .i64 kind,.slice b xs.length cx,.slice d ys.length cy]] w fun e h=>∃ p g c,e=.returned (.agg #[.int .i64 base,.int .i64 kind,.slice b xs.length cx,.slice p ys.length c])/\CSrcD h b p m l g 0 xs ys/\Below w.heap.size w h:=by
 refine (zt base kind j i cx cy xs.length ys.length b d ys w f.y rfl q).mono fun e h ⟨v,r,s,k⟩=>?_
 obtain⟨p,g,c,rfl,a,t,o,n⟩:=bq s rfl;exact⟨p,g,c,r,⟨f.x.below k,⟨a.at_,a.lt,a.cell⟩,f.u⟩,k⟩
structure SmB (w:World) (base kind:Int) (vx vy ux uy:Value) (wr:World):Prop where
 t0:wr.cell? ⟨w.heap.size,0,none⟩=some (.int .i64 base)
 t1:wr.cell? ⟨w.heap.size,1,none⟩=some (.int .i64 kind)
 t2:wr.cell? ⟨w.heap.size,2,none⟩=some vx
 t3:wr.cell? ⟨w.heap.size,3,none⟩=some vy
 d0:wr.cell? ⟨w.heap.size+1,0,none⟩=some (.int .i64 base)
 d1:wr.cell? ⟨w.heap.size+1,1,none⟩=some (.int .i64 kind)
 d2:wr.cell? ⟨w.heap.size+1,2,none⟩=some ux
 d3:wr.cell? ⟨w.heap.size+1,3,none⟩=some uy
 bl:Below w.heap.size w wr
theorem SmB.drewN {w wr:World} {base kind:Int} {c b d a:Value} (h:SmB w base kind c b d a wr) (q:Nat):SmB w base kind c b d a (wr.drewN q):=
 ⟨h.t0,h.t1,h.t2,h.t3,h.d0,h.d1,h.d2,h.d3,⟨h.bl.os,h.bl.tape,h.bl.output,h.bl.size,h.bl.block⟩⟩
theorem TFl.drewN {w:World} {e a:Option Addr} {b g c d:Nat} {xs:List Int} {ys:List Nat} (h:TFl w e a b g c d xs ys) (q:Nat):TFl (w.drewN q) e a b g c d xs ys:=⟨⟨h.x.at_,h.x.lt,h.x.cell⟩,⟨h.y.at_,h.y.lt,h.y.cell⟩,h.f⟩
theorem CSrcD.drewN {w:World} {e g:Option Addr} {bd i a b:Nat} {c:List Int} {j:List Nat} (h:CSrcD w e g bd i a b c j) (q:Nat):CSrcD (w.drewN q) e g bd i a b c j:=⟨⟨h.d.at_,h.d.lt,h.d.cell⟩,⟨h.f.at_,h.f.lt,h.f.cell⟩,h.u⟩
end Go.Proofs.YtfdddijdjpijbaaGreat
