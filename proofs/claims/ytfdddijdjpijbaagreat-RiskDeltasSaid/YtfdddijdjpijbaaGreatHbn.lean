/-  -/
import Derived.Test.YtfdddijdjpijbaaGreatHbl
import Derived.Test.YtfdddijdjpijbaaGreatBShelf
import Derived.Test.YtfdddijdjpijbaaGreatHar
import Derived.Deep.RegionHeld3
import Derived.Laws.FloatArith
import Derived.Test.YtfdddijdjpijbaaGreatHat
import Derived.Test.YtfdddijdjpijbaaGreatHas
import Derived.Test.YtfdddijdjpijbaaGreatHav
import Derived.Deep.QuietTactic
set_option maxHeartbeats 3200000
set_option maxRecDepth 20000
namespace Go.Proofs.YtfdddijdjpijbaaGreat
open Go.RowKit
structure TFl (w:World) (px py:Option Addr) (bx ox b2 oy:Nat) (xs:List Int) (ys:List Nat):Prop where
 x:VSrc w px bx ox xs.length (xV xs)
 y:VSrc w py b2 oy ys.length (flV ys)
 f:∀ i<ys.length,ys.getD i 0<18446744073709551616
theorem TFl.below {w j:World} {b i:Option Addr} {e c d g:Nat} {xs:List Int} {ys:List Nat} (h:TFl w b i e c d g xs ys) (a:Below w.heap.size w j):TFl j b i e c d g xs ys:=⟨h.x.below a,h.y.below a,h.f⟩
theorem TFl.u {w:World} {a g:Option Addr} {d b c e:Nat} {xs:List Int} {ys:List Nat} (h:TFl w a g d b c e xs ys):∀ i<ys.length,U64 (ys.getD i 0:Nat):=fun i hi=>aU (h.f i hi)
theorem jw {p:Nat->Bool} (n:Nat):∃ K≤n,(∀ i<K,p i=false)/\(K<n->p K=true):=by
 by_cases h:∃ i<n,p i=true
 ·obtain⟨k,e,d,b⟩:=eZ n h;exact⟨k,by omega,b,fun _=>d⟩
 ·exact⟨n,Nat.le_refl _,fun i hi=>by
   cases a:p i
   ·rfl
   ·exact absurd ⟨i,hi,a⟩ h,fun c=>absurd c (Nat.lt_irrefl _)⟩
theorem BM (d:Option Addr) (k l cx:Nat) (xs:List Int):∃ g:Bool,(g=true↔(1<=xs.length/\xs.length<=256/\∀ i<xs.length,plB xs i=false))/\∀ w,VSrc w d k l xs.length (xV xs)->Calls Tryz.prog 199 #[.slice d xs.length cx] w fun e o=>e=.returned (.bool g)/\o=w:=by
 by_cases n:xs.length<1\/256<xs.length
 ·exact⟨false,⟨fun h=>by simp at h,fun⟨a,b,_⟩=>by omega⟩,fun w _=>BL d _ cx w n⟩
 ·obtain⟨K,m,f,j⟩:=jw (p:=plB xs) xs.length;refine⟨decide (xs.length<=K),⟨fun h=>⟨by omega,by omega,fun i hi=>f i (by have:=of_decide_eq_true h;omega)⟩,fun⟨_,_,h⟩=>decide_eq_true (Classical.byContradiction fun c=>?_)⟩,fun w q=>yH d k l cx _ K xs w q (by omega) (by omega) m f j⟩
  have:=j (by omega)
  rw [h K (by omega)] at this
  cases this
theorem BN (kind:Int) (a:Option Addr) (j b cy:Nat) (ys:List Nat) (hn:ys.length<=256) (l:∀ i<ys.length,ys.getD i 0<18446744073709551616):∃ g:Bool,(g=true↔∀ i<ys.length,vlB kind ys i=false)/\∀ w,VSrc w a j b ys.length (flV ys)->Calls Tryz.prog 200 #[.int .i64 kind,.slice a ys.length cy] w fun e m=>e=.returned (.bool g)/\m=w:=by
 obtain⟨K,k,d,f⟩:=jw (p:=vlB kind ys) ys.length;refine⟨decide (ys.length<=K),⟨fun h i hi=>d i (by have:=of_decide_eq_true h;omega),fun h=>decide_eq_true (Classical.byContradiction fun c=>?_)⟩,fun w n=>yI kind a j b cy _ K ys w n l hn k d f⟩
 have:=f (by omega)
 rw [h K (by omega)] at this
 cases this
theorem JX (xs:List Int):prv xs 0= -1:=rfl
theorem yJ (xs:List Int) (k:Nat):prv xs (k+1)=xs.getD k 0:=rfl
theorem JY {kind:Int} {xs:List Int} {ys:List Nat} (h:∀ i<xs.length,eO kind xs ys i=false):(∀ i<xs.length,plB xs i=false)/\∀ i<xs.length,vlB kind ys i=false:=by
 refine⟨fun i hi=>?_,fun i hi=>?_⟩
 ·obtain⟨a,b,c,_,_⟩:=ap (h i hi);unfold plB;rw [Bool.or_eq_false_iff,decide_eq_false_iff_not,decide_eq_false_iff_not];refine⟨?_,by omega⟩
  cases i with
  | zero=>show ¬ xs.getD 0 0<=-1;omega
  | succ i=>
   have:=c (by omega)
   show ¬ xs.getD (i+1) 0<=xs.getD i 0
   rw [Nat.add_sub_cancel] at this
   omega
 ·obtain⟨_,_,_,d,e⟩:=ap (h i hi);unfold vlB;rw [d]
  by_cases f:kind=4
  ·rw [e f];simp
  ·rw [decide_eq_false f];rfl
theorem JZ {kind:Int} {xs:List Int} {ys:List Nat} (d:∀ i<xs.length,plB xs i=false) (f:∀ i<xs.length,vlB kind ys i=false):∀ i<xs.length,eO kind xs ys i=false:=fun i hi=>by
 have pos:∀ j,j<xs.length->0<=xs.getD j 0:=fun j=>by
  induction j with
  | zero=>intro c;have:=d 0 c;unfold plB at this;rw [Bool.or_eq_false_iff,decide_eq_false_iff_not,JX] at this;have:=this.1;omega
  | succ j e=>intro c;have:=d _ c;have g:=e (by omega);unfold plB at this;rw [Bool.or_eq_false_iff,decide_eq_false_iff_not,yJ] at this;have:=this.1;omega
 have a:=d i hi;have b:=f i hi;have p:=pos i hi;unfold plB at a
 unfold vlB at b
 rw [Bool.or_eq_false_iff,decide_eq_false_iff_not,decide_eq_false_iff_not] at a
 rw [Bool.or_eq_false_iff] at b
 unfold eO;rw [decide_eq_false (by omega),decide_eq_false a.2,b.1,b.2]
 cases i with
 | zero=>rfl
 | succ i=>
  have:=a.1;rw [yJ] at this
  rw [Nat.add_sub_cancel,decide_eq_false this];simp
theorem Nr (w:World):(binOp .eql 213 .nilFunc .nilFunc).run Tryz.prog w=.ok (.bool true) w:=by kernel_rfl
theorem PK (F:Nat) (w:World):(binOp .eql 213 (.func (.func F) #[] #[]) .nilFunc).run Tryz.prog w=.ok (.bool false) w:=by kernel_rfl
theorem yK (kind:Int) (b c:Value) (w:World) (HK:Hid (∀ d,Calls Tryz.prog 198 #[.int .i64 kind] d fun e a=>e=.returned .nilFunc/\a=d)) :
  Calls Tryz.prog 178 #[.agg #[.int .i64 kind,b,c]] w fun e a=>e=.returned (.tuple #[.nilFunc,.int .i64 90])/\Below w.heap.size w a:=by
 have f:=hideS (cH w kind b c);have h:=Nr
 go_enter Tryz.func178,Tryz.ntmps178
 go_wp2_with (go_at_call 198;refine (HK.out _).mono ?_;rintro e g ⟨rfl,rfl⟩)
 go_ret2
 exact⟨rfl,f.out.bl⟩
theorem FJ (kind:Int) (F g f cx cy:Nat) (p q:Option Addr) (k o:Bool) (w:World) (HK:Hid (∀ a,Calls Tryz.prog 198 #[.int .i64 kind] a fun e i=>e=.returned (.func (.func F) #[] #[])/\i=a))
  (l:Hid (∀ a,Below w.heap.size w a->Calls Tryz.prog 199 #[.slice p g cx] a fun e i=>e=.returned (.bool k)/\i=a))
  (m:Hid (k=true->g=f->∀ a,Below w.heap.size w a->Calls Tryz.prog 200 #[.int .i64 kind,.slice q f cy] a fun e i=>e=.returned (.bool o)/\i=a)) :
  Calls Tryz.prog 178 #[.agg #[.int .i64 kind,.slice p g cx,.slice q f cy]] w fun e i=>e=.returned (if k=true/\g=f/\o=true then .tuple #[.func (.func F) #[] #[],.int .i64 0] else .tuple #[.nilFunc,.int .i64 100])/\Below w.heap.size w i:=by
 have b:=hideS (cH w kind (.slice p g cx) (.slice q f cy));have r:=PK;cases k with
 | false=>
  rw [if_neg (by simp)]
  clear m
  go_enter Tryz.func178,Tryz.ntmps178
  go_wp2_with (first | (go_at_call 198;refine (HK.out _).mono ?_;rintro e d ⟨rfl,rfl⟩) | (go_at_call 199;refine (l.out _ b.out.bl).mono ?_;rintro e d ⟨rfl,rfl⟩))
  go_ret2
  exact⟨rfl,b.out.bl⟩
 | true=>
  by_cases h:g=f
  ·have n:((f:Int) !=(g:Int))=false:=by rw [h];simp
   have j:=hideS (m.out rfl h);clear m;cases o with
   | false=>
    rw [if_neg (by simp)]
    clear h
    go_enter Tryz.func178,Tryz.ntmps178
    go_wp2_with (first | (go_at_call 198;refine (HK.out _).mono ?_;rintro e d ⟨rfl,rfl⟩) | (go_at_call 199;refine (l.out _ b.out.bl).mono ?_;rintro e d ⟨rfl,rfl⟩) | (go_at_call 200;refine (j.out _ b.out.bl).mono ?_;rintro e d ⟨rfl,rfl⟩))
    go_ret2
    exact⟨rfl,b.out.bl⟩
   | true=>
    rw [if_pos ⟨rfl,h,rfl⟩];clear h
    go_enter Tryz.func178,Tryz.ntmps178
    go_wp2_with (first | (go_at_call 198;refine (HK.out _).mono ?_;rintro e d ⟨rfl,rfl⟩) | (go_at_call 199;refine (l.out _ b.out.bl).mono ?_;rintro e d ⟨rfl,rfl⟩) | (go_at_call 200;refine (j.out _ b.out.bl).mono ?_;rintro e d ⟨rfl,rfl⟩))
    go_ret2
    exact⟨rfl,b.out.bl⟩
  ·have n:((f:Int) !=(g:Int))=true:=by simp;omega
   rw [if_neg (fun c=>h c.2.1)]
   clear m h
   go_enter Tryz.func178,Tryz.ntmps178
   go_wp2_with (first | (go_at_call 198;refine (HK.out _).mono ?_;rintro e d ⟨rfl,rfl⟩) | (go_at_call 199;refine (l.out _ b.out.bl).mono ?_;rintro e d ⟨rfl,rfl⟩))
   go_ret2
   exact⟨rfl,b.out.bl⟩
def chF (kind E:Int):Value:=if E=0 then .func (.func (iZ kind)) #[] #[] else .nilFunc
theorem BO (kind E:Int) (u n:Option Addr) (J L cx I F cy:Nat) (xs:List Int) (ys:List Nat) (w:World) (h:TabR kind xs ys E) (H:TFl w u n J L I F xs ys) :
  Calls Tryz.prog 178 #[.agg #[.int .i64 kind,.slice u xs.length cx,.slice n ys.length cy]] w fun e r=>e=.returned (.tuple #[chF kind E,.int .i64 E])/\Below w.heap.size w r:=by
 have j:1<=kind->kind<=4->∀ E,TabR kind xs ys E->(E=0\/E=100)->Calls Tryz.prog 178 #[.agg #[.int .i64 kind,.slice u xs.length cx,.slice n ys.length cy]] w fun e r=>e=.returned (.tuple #[chF kind E,.int .i64 E])/\Below w.heap.size w r:=fun N M E h t=>by
  obtain⟨v,A,c1⟩:=BM u J L cx xs;have O:∃ o:Bool,(v=true->xs.length=ys.length->(o=true↔∀ i<ys.length,vlB kind ys i=false))/\(v=true->xs.length=ys.length->∀ w,VSrc w n I F ys.length (flV ys)->Calls Tryz.prog 200 #[.int .i64 kind,.slice n ys.length cy] w fun e r=>e=.returned (.bool o)/\r=w):=by
   by_cases Q:ys.length<=256
   ·obtain⟨o,z,c2⟩:=BN kind n I F cy ys Q H.f;exact⟨o,fun _ _=>z,fun _ _=>c2⟩
   ·exact⟨false,fun a b=>by have:=(A.1 a).2.1;omega,fun a b=>by have:=(A.1 a).2.1;omega⟩
  obtain⟨o,z,c2⟩:=O;have:=FJ kind (iZ kind) xs.length ys.length cx cy u n v o w (fun l=>qQ kind l N M) (fun l s=>c1 l (H.x.below s)) (fun a b l s=>c2 a b l (H.y.below s))
  refine this.mono fun e r ⟨P,s⟩=>⟨?_,s⟩
  rw [P]
  by_cases B:v=true/\xs.length=ys.length/\o=true
  ·have ok:OkT kind xs ys:=by
    obtain⟨a,b,c⟩:=B;have p:=A.1 a;have q:=(z a b).1 c;exact⟨N,M,p.1,p.2.1,b.symm,JZ p.2.2 (fun i hi=>q i (by omega))⟩
   have C:E=0:=by
    cases h with
    | ok h=>rfl
    | kind h=>omega
    | len m k h=>have:=ok.lo;have:=ok.hi;have:=ok.len;omega
    | node m k lo hi len K G d g=>rw [ok.node K G] at d;cases d
   rw [if_pos B,C];rfl
  ·have D:E=100:=by
    rcases t with t | t
    ·exfalso;apply B
     rw [t] at h
     have ok:=CZ h;obtain⟨p,q⟩:=JY ok.node;have a:=A.2 ⟨ok.lo,ok.hi,p⟩;exact⟨a,ok.len.symm,(z a ok.len.symm).2 (fun i hi=>q i (by rw [<- ok.len];exact hi))⟩
    ·exact t
   rw [if_neg B,D];rfl
 cases h with
 | kind h=>exact yK kind _ _ w (fun l=>qP kind l h)
 | ok h=>exact j h.k1 h.k4 0 (.ok h) (.inl rfl)
 | len m k h=>exact j m k 100 (.len m k h) (.inr rfl)
 | node m k lo hi len K G d g=>exact j m k 100 (.node m k lo hi len K G d g) (.inr rfl)
theorem yL {xs:List Int} {m:Nat} {y:Int} (h:y ∈ xs.take m):∃ j,j<m/\j<xs.length/\xs.getD j 0=y:=by
 obtain⟨j,b,e⟩:=List.mem_iff_getElem.1 h;have a:j<m/\j<xs.length:=by rw [List.length_take] at b;omega
 refine⟨j,a.1,a.2,?_⟩
 rw [<- e,List.getElem_take];simp [List.getD,a.2]
theorem yM {xs:List Int} {m:Nat} {y:Int} (h:y ∈ xs.drop m):∃ j,m<=j/\j<xs.length/\xs.getD j 0=y:=by
 obtain⟨j,b,e⟩:=List.mem_iff_getElem.1 h;have a:m+j<xs.length:=by rw [List.length_drop] at b;omega
 refine⟨m+j,by omega,a,?_⟩
 rw [<- e,List.getElem_drop];simp [List.getD,a]
theorem yN {xs:List Int} {x:Int} {m:Nat} (d:m<=xs.length) (lo:∀ j,j<m->xs.getD j 0<x) (hi:∀ j,m<=j->j<xs.length->¬ xs.getD j 0<x):xs.countP (fun y=>decide (y<x))=m:=by
 have e:xs.countP (fun y=>decide (y<x))=(xs.take m).countP (fun y=>decide (y<x))+(xs.drop m).countP (fun y=>decide (y<x)):=by
  rw [<- List.countP_append,List.take_append_drop]
 rw [e,List.countP_eq_length.2 (fun y a=>?_),List.countP_eq_zero.2 (fun y a=>?_),List.length_take]
 ·omega
 ·obtain⟨j,b,c,rfl⟩:=yM a
  simpa using hi j b c
 ·obtain⟨j,b,c,rfl⟩:=yL a
  simpa using lo j b
theorem FK {kind:Int} {xs:List Int} {ys:List Nat} (h:OkT kind xs ys):xs.Pairwise (·<=·):=by
 rw [List.pairwise_iff_getElem];intro i j hi b a;have:=h.rise a b;simp [List.getD,hi,b] at this
 omega
theorem FM {kind x:Int} {xs:List Int} {ys:List Nat} {k:Nat} (h:OkT kind xs ys) (i:FindR xs x k):(xs.contains x=true/\xs.countP (fun y=>decide (y<x))=k)\/(xs.contains x=false/\xs.countP (fun y=>decide (y<x))=k+1):=by
 have lt:=i.lt;have lo:∀ j,j<k->xs.getD j 0<x:=fun j d=>Int.lt_of_lt_of_le (h.rise d lt) i.le
 have hi:∀ j,k+1<=j->j<xs.length->x<xs.getD j 0:=fun j b a=>by
  have g:=i.gt (by omega)
  by_cases e:j=k+1
  ·rw [e];exact g
  ·exact Int.lt_trans g (h.rise (by omega) a)
 by_cases e:xs.getD k 0=x
 ·refine .inl ⟨?_,yN (by omega) lo (fun j b a=>?_)⟩
  ·rw [List.contains_iff_mem];have:xs.getD k 0=xs[k]:=by simp [List.getD,lt]
   rw [<- e,this];exact List.getElem_mem lt
  ·by_cases l:j=k
   ·rw [l];omega
   ·have:=hi j (by omega) a;omega
 ·refine .inr ⟨?_,yN (by omega) (fun j d=>?_) (fun j b a=>?_)⟩
  ·rw [Bool.eq_false_iff];intro c;rw [List.contains_iff_mem] at c
   obtain⟨j,d,l⟩:=List.mem_iff_getElem.1 c;have f:xs.getD j 0=x:=by rw [<- l];simp [List.getD,d]
   by_cases b:j<k
   ·have:=lo j b;omega
   ·by_cases a:j=k
    ·rw [a] at f;exact e f
    ·have:=hi j (by omega) d;omega
  ·by_cases b:j<k
   ·exact lo j b
   ·have:j=k:=by omega
    rw [this];have:=i.le;omega
  ·have:=hi j b a;omega
theorem BP (kind x:Int) (b a cx:Nat) (xs:List Int) (ys:List Nat) (w:World) (h:OkT kind xs ys) (d:VSrc w (some ⟨b,a,none⟩) b a xs.length (xV xs)) :
  Calls Tryz.prog 201 #[.slice (some ⟨b,a,none⟩) xs.length cx,.int .i64 x] w fun e g=>e=.returned (.tuple #[.int .i64 ((xs.countP fun y=>decide (y<x):Nat):Int),.bool (xs.contains x)])/\∃ q,g=w.drewN q:=by
 have i:=h.hi;have f:(xs.take xs.length).Pairwise (·<=·):=by rw [List.take_length];exact FK h
 have:=Any.slices_BinarySearch_int Tryz.bsL b a xs.length cx xs x w (Nat.le_refl _) (by omega) (fun j c=>d.cell j c) f
 rw [List.take_length] at this
 exact this
theorem yO (x:Int) (k:Option Addr) (g i cx n:Nat) (xs:List Int) (w:World) (d:VSrc w k g i n (xV xs)) (hn:1<=n) (t:n<=256) (j:x<xs.getD 0 0\/xs.getD (n - 1) 0<x) :
  Calls Tryz.prog 179 #[.slice k n cx,.int .i64 x] w fun e s=>e=.returned (.tuple #[.int .i64 0,.int .i64 51])/\s=w:=by
 obtain rfl:=d.at_ (by omega)
 obtain⟨m,q⟩:∃ m,n=m+1:=⟨n - 1,by omega⟩
 have c:n - 1=m:=by omega
 rw [c] at j
 have o:(n:Int) - 1=(m:Int):=by omega
 have f:m<n:=by omega
 have l:0<n:=by omega
 have u:w.cell? ⟨g,i,none⟩=some (.int .i64 (xs.getD 0 0)):=d.cell 0 (by omega)
 have y:w.cell? ⟨g,i+m,none⟩=some (.int .i64 (xs.getD m 0)):=d.cell m f;clear d q c hn;generalize xs.getD 0 0=a at *
 generalize xs.getD m 0=b at *
 rcases (show x<a\/(a<=x/\b<x) by omega) with h | ⟨h,r⟩
 ·have p:decide (x<a)=true:=decide_eq_true h;clear j
  go_enter Tryz.func179,Tryz.ntmps179
  go_wp2_with fail
  go_ret2
  exact⟨rfl,rfl⟩
 ·have p:decide (x<a)=false:=decide_eq_false (by omega)
  have v:decide (b<x)=true:=decide_eq_true r;clear j
  go_enter Tryz.func179,Tryz.ntmps179
  go_wp2_with fail
  go_ret2
  exact⟨rfl,rfl⟩
theorem BQ (kind x:Int) (v:Option Addr) (d g cx n k:Nat) (xs:List Int) (ys:List Nat) (w:World) (h:OkT kind xs ys) (j:xs.length=n) (c:VSrc w v d g n (xV xs)) (A:xs.getD 0 0<=x) (z:x<=xs.getD (n - 1) 0) (p:FindR xs x k) :
  Calls Tryz.prog 179 #[.slice v n cx,.int .i64 x] w fun e r=>e=.returned (.tuple #[.int .i64 (k:Int),.int .i64 0])/\Below w.heap.size w r:=by
 have t:=h.lo;have s:=h.hi;rw [j] at t s
 obtain rfl:=c.at_ (by omega)
 have u:Hid (∀ i,i=w->Calls Tryz.prog 201 #[.slice (some ⟨d,g,none⟩) n cx,.int .i64 x] i fun e r=>e=.returned (.tuple #[.int .i64 ((xs.countP fun y=>decide (y<x):Nat):Int),.bool (xs.contains x)])/\∃ q,r=i.drewN q):=fun i I=>by
  subst I;rw [<- j] at c ⊢
  exact BP kind x d g cx xs ys _ h c
 have E:=hideS (FM h p);have l:=p.lt;obtain⟨m,F⟩:∃ m,n=m+1:=⟨n - 1,by omega⟩
 have f:n - 1=m:=by omega
 rw [f] at z
 have C:(n:Int) - 1=(m:Int):=by omega
 have o:m<n:=by omega
 have B:0<n:=by omega
 have K:w.cell? ⟨d,g,none⟩=some (.int .i64 (xs.getD 0 0)):=c.cell 0 (by omega)
 have M:w.cell? ⟨d,g+m,none⟩=some (.int .i64 (xs.getD m 0)):=c.cell m o;have J:decide (x<xs.getD 0 0)=false:=decide_eq_false (by omega)
 have L:decide (xs.getD m 0<x)=false:=decide_eq_false (by omega)
 rw [j] at l
 clear c F f t A z h p j;generalize xs.getD 0 0=a at *
 generalize xs.getD m 0=b at *
 generalize (xs.countP fun y=>decide (y<x))=G at *
 generalize xs.contains x=D at *
 rcases E.out with⟨rfl,rfl⟩| ⟨rfl,rfl⟩
 ·go_enter Tryz.func179,Tryz.ntmps179
  go_wp2_with fail
  refine (u.out _ rfl).mono ?_
  rintro e H ⟨rfl,q,rfl⟩
  go_wp2_with fail
  go_ret2
  exact⟨rfl,⟨rfl,rfl,rfl,Nat.le_refl _,fun _ _=>rfl⟩⟩
 ·have N:((k+1:Nat):Int) - 1=(k:Int):=by omega
  generalize ((k+1:Nat):Int)=O at *
  go_enter Tryz.func179,Tryz.ntmps179
  go_wp2_with fail
  refine (u.out _ rfl).mono ?_
  rintro e H ⟨rfl,q,rfl⟩
  go_wp2_with fail
  go_ret2
  exact⟨rfl,⟨rfl,rfl,rfl,Nat.le_refl _,fun _ _=>rfl⟩⟩
theorem nS (kind x k E:Int) (c v:Option Addr) (d i cx t o:Nat) (xs:List Int) (ys:List Nat) (w:World) (ok:OkT kind xs ys) (h:FindO kind xs ys x k E) (m:TFl w c v d i t o xs ys) :
  Calls Tryz.prog 179 #[.slice c xs.length cx,.int .i64 x] w fun e l=>e=.returned (.tuple #[.int .i64 k,.int .i64 E])/\Below w.heap.size w l:=by
 cases h with
 | bad E h s=>
  exfalso
  cases h with
  | ok h=>exact s rfl
  | kind h=>have:=ok.k1;have:=ok.k4;omega
  | len q n h=>have:=ok.lo;have:=ok.hi;have:=ok.len;omega
  | node q n lo hi len K p bad j=>rw [ok.node K p] at bad;cases bad
 | out h u=>exact (yO x c d i cx _ xs w m.x h.lo h.hi u).mono fun e l ⟨a,b⟩=>⟨a,b▸Below.refl _ _⟩
 | at_ h f g k r y=>exact BQ kind x c d i cx _ k xs ys w h rfl m.x f g r
theorem oV {o:Option Nat} (h:NN (cn o)):o=some (cn o):=by
 cases o with
 | none=>exfalso;have:=h.nan;exact absurd this (by decide)
 | some r=>rfl
theorem yP {x y:Nat} (h:NN (sSub x y)):floatBits .sub .f64 x y=some (sSub x y):=oV h
theorem gX {x y:Nat} (h:NN (sDiv x y)):floatBits .quo .f64 x y=some (sDiv x y):=oV h
theorem yQ {x y:Nat} (h:NN (sMul x y)):floatBits .mul .f64 x y=some (sMul x y):=oV h
theorem yR {x y:Nat} (h:NN (sAdd x y)):floatBits .add .f64 x y=some (sAdd x y):=oV h
structure SixF (w:World) (B:Nat) (vx vy:Value) (bx ox b2 oy k j:Nat) (x0 x1:Int) (y0 y1:Nat):Prop where
 t1:w.cell? ⟨B,1,none⟩=some vx
 t2:w.cell? ⟨B,2,none⟩=some vy
 a0:w.cell? ⟨bx,ox+k,none⟩=some (.int .i64 x0)
 a1:w.cell? ⟨bx,ox+j,none⟩=some (.int .i64 x1)
 b0:w.cell? ⟨b2,oy+k,none⟩=some (.float .f64 y0)
 b1:w.cell? ⟨b2,oy+j,none⟩=some (.float .f64 y1)
theorem PM {w wr:World} {kind:Int} {g i:Option Addr} {c e cx f b cy k:Nat} {xs:List Int} {ys:List Nat} (h:TFl w g i c e f b xs ys) (j:ys.length=xs.length) (l:k+1<xs.length) (d:TBox w kind (.slice g xs.length cx) (.slice i ys.length cy) wr) :
  SixF wr w.heap.size (.slice (some ⟨c,e,none⟩) xs.length cx) (.slice (some ⟨f,b,none⟩) xs.length cy) c e f b k (k+1) (xs.getD k 0) (xs.getD (k+1) 0) (ys.getD k 0) (ys.getD (k+1) 0)/\g=some ⟨c,e,none⟩ /\i=some ⟨f,b,none⟩:=by
 obtain rfl:=h.x.at_ (by omega)
 obtain rfl:=h.y.at_ (by omega)
 have a:=h.below d.bl;rw [j] at d
 exact⟨⟨d.t1,d.t2,a.x.cell k (by omega),a.x.cell (k+1) l,a.y.cell k (by omega),a.y.cell (k+1) (by omega)⟩,rfl,rfl⟩
theorem Ka (kind:Int) (g i cx j f cy n k:Nat) (a b:Int) (y0 y1 u h r:Nat) (w w1:World) (l:w.alloc (.cells #[.int .i64 kind,.slice (some ⟨g,i,none⟩) n cx,.slice (some ⟨j,f,none⟩) n cy] 195)=w1) (p:SixF w1 w.heap.size (.slice (some ⟨g,i,none⟩) n cx) (.slice (some ⟨j,f,none⟩) n cy) g i j f k (k+1) a b y0 y1) (c:Below w.heap.size w w1) (q:k+1<n) (hn:n<=1000) (t:0<=a) (B:a<=109572) (A:0<=b) (G:b<=109572) (m:floatBits .sub .f64 y1 y0=some u) (J:floatOfInt .f64 (b - a)=h) (o:floatBits .quo .f64 u h=some r) :
  Calls Tryz.prog 231 #[.agg #[.int .i64 kind,.slice (some ⟨g,i,none⟩) n cx,.slice (some ⟨j,f,none⟩) n cy],.int .i64 (k:Int)] w fun e s=>e=.returned (.float .f64 r)/\Below w.heap.size w s:=by
 have K:IntKind.i64.wrap ((k:Int)+1)=(k:Int)+1:=by rw [IntKind.wrap_i64];omega
 have v:IntKind.i64.wrap (b - a)=b - a:=by rw [IntKind.wrap_i64];omega
 have z:(0:Int)<=(k:Int)+1:=by omega
 have I:(k:Int)+1<(n:Int):=by omega
 have C:(0:Int)<=(k:Int):=by omega
 have H:(k:Int)<(n:Int):=by omega
 have E:=fun w=>run_float_arith (P:=Tryz.prog) w .sub 27 .f64 y1 y0 u m
 have D:=fun w=>run_float_arith (P:=Tryz.prog) w .quo 27 .f64 u h r o
 obtain⟨M,L,x,y,F,N⟩:=p;have d:=hideS c;clear c m o
 go_enter Tryz.func231,Tryz.ntmps231
 go_wp2_with fail
 clear l
 go_quiet (fail)
 go_wp2_with fail
 go_ret
 exact⟨rfl,d.out.os,d.out.tape,d.out.output,d.out.size,d.out.block⟩
theorem Kb (kind:Int) (d f:Option Addr) (j n cx o i cy k:Nat) (xs:List Int) (ys:List Nat) (w:World) (h:OkT kind xs ys) (b:TFl w d f j n o i xs ys) (a:k+1<xs.length) :
  Calls Tryz.prog 231 #[.agg #[.int .i64 kind,.slice d xs.length cx,.slice f ys.length cy],.int .i64 (k:Int)] w fun e q=>e=.returned (.float .f64 (steepB xs ys k))/\Below w.heap.size w q:=by
 obtain⟨g,rfl,rfl⟩:=PM b h.len a (cH w kind (.slice d xs.length cx) (.slice f ys.length cy));have p:=h.len;have l:=ap (h.node k (by omega))
 have m:=ap (h.node (k+1) a);have c:=fT h b.u a;rw [p] at g ⊢
 exact Ka kind j n cx o i cy xs.length k _ _ _ _ _ _ _ w _ rfl g (cH w kind _ _).bl a (by have:=h.hi;omega) l.1 l.2.1 m.1 m.2.1 (yP (DF (aL h b.u a) (aL h b.u (by omega)))) (bF _) (gX c)
theorem yS (xs:List Int) (ys:List Nat):∀ m k,k<=m->(eR xs ys m).getD k 0=if k=0 then steepB xs ys 0 else slB (steepB xs ys (k - 1)) (steepB xs ys k)
 | 0,k,h=>by
  obtain rfl:k=0:=by omega
  rfl
 | m+1,k,h=>by
  rw [iE]
  by_cases a:k<=m
  ·rw [<- yS xs ys m k a];have:=fw xs ys m;simp [List.getD,List.getElem?_append_left (show k<(eR xs ys m).length by omega)]
  ·obtain rfl:k=m+1:=by omega
   rw [if_neg (by omega),Nat.add_sub_cancel]
   have:=fw xs ys m;simp [List.getD,this]
theorem Kc {xs:List Int} {ys:List Nat} {n k:Nat} (e:k<n):(bI xs ys n).getD k 0=if n=1 then 0 else if k=0 then steepB xs ys 0 else if k=n - 1 then steepB xs ys (n - 2) else slB (steepB xs ys (k - 1)) (steepB xs ys k):=by
 unfold bI
 by_cases a:n=1
 ·obtain rfl:k=0:=by omega
  rw [if_pos a,if_pos a];rfl
 ·rw [if_neg a,if_neg a];have d:=fw xs ys (n - 2)
  by_cases b:k=n - 1
  ·rw [if_pos b]
   by_cases c:k=0
   ·omega
   ·rw [if_neg c];simp [List.getD,List.getElem?_append_right (show (eR xs ys (n - 2)).length<=k by omega),show k - (eR xs ys (n - 2)).length=0 by omega]
  ·rw [if_neg b,<- yS xs ys (n - 2) k (by omega)]
   simp [List.getD,List.getElem?_append_left (show k<(eR xs ys (n - 2)).length by omega)]
theorem FN (kind:Int) (a:Option Addr) (cx:Nat) (b:Value) (k:Int) (w:World) :
  Calls Tryz.prog 227 #[.agg #[.int .i64 kind,.slice a 1 cx,b],.int .i64 k] w fun e d=>e=.returned (.float .f64 0)/\Below w.heap.size w d:=by
 have c:=hideS (cH w kind (.slice a 1 cx) b)
 go_enter Tryz.func227,Tryz.ntmps227
 go_wp2_with fail
 go_ret
 exact⟨rfl,c.out.bl⟩
def PN (w:World) (kind:Int) (b f:Value) (n:Nat) (c:Nat->Nat):Prop:=∀ a,Below w.heap.size w a->∀ k,k+1<n->Calls Tryz.prog 231 #[.agg #[.int .i64 kind,b,f],.int .i64 (k:Int)] a fun e d=>e=.returned (.float .f64 (c k))/\Below a.heap.size a d
theorem yT (kind:Int) (c:Option Addr) (cx n:Nat) (d:Value) (h:Nat->Nat) (w:World) (H:Hid (PN w kind (.slice c n cx) d n h)) (hn:2<=n) (l:n<=256) :
  Calls Tryz.prog 227 #[.agg #[.int .i64 kind,.slice c n cx,d],.int .i64 0] w fun e g=>e=.returned (.float .f64 (h 0))/\Below w.heap.size w g:=by
 have i:=hideS (cH w kind (.slice c n cx) d);obtain⟨m,rfl⟩:∃ m,n=m+2:=⟨n - 2,by omega⟩
 have q:((m+2:Nat):Int) - 1=(m:Int)+1:=by omega
 have o:((m:Int)+1==0)=false:=beq_eq_false_iff_ne.2 (by omega)
 have j:Hid (∀ a,Below w.heap.size w a->Calls Tryz.prog 231 #[.agg #[.int .i64 kind,.slice c (m+2) cx,d],.int .i64 0] a fun e g=>e=.returned (.float .f64 (h 0))/\Below a.heap.size a g):=fun a k=>by
  have:=H.out a k 0 (by omega)
  rw [show ((0:Nat):Int)=0 from rfl] at this
  exact this
 clear H
 go_enter Tryz.func227,Tryz.ntmps227
 go_wp2_with fail
 refine (j.out _ i.out.bl).mono ?_
 rintro e p ⟨rfl,b⟩;have f:=hideS (i.out.step b);clear b
 go_wp2_with fail
 go_ret
 exact⟨rfl,f.out.bl⟩
theorem BR (kind:Int) (c:Option Addr) (cx n m:Nat) (d:Value) (g:Nat->Nat) (w:World) (H:Hid (PN w kind (.slice c n cx) d n g)) (i:n=m+2) (p:n<=256) :
  Calls Tryz.prog 227 #[.agg #[.int .i64 kind,.slice c n cx,d],.int .i64 ((m:Int)+1)] w fun e o=>e=.returned (.float .f64 (g m))/\Below w.heap.size w o:=by
 have f:=hideS (cH w kind (.slice c n cx) d);have q:(n:Int) - 1=(m:Int)+1:=by omega
 have s:((m:Int)+1==0)=false:=beq_eq_false_iff_ne.2 (by omega)
 have j:=hideS fun h k=>H.out h k m (by omega)
 have l:((m:Int)+1) - 1=(m:Int):=by omega
 have v:IntKind.i64.wrap ((n:Int) - 1)=(m:Int)+1:=by rw [IntKind.wrap_i64];omega
 have u:IntKind.i64.wrap ((m:Int)+1 - 1)=(m:Int):=by rw [IntKind.wrap_i64];omega
 clear H i q l;generalize (m:Int)+1=r at *
 go_enter Tryz.func227,Tryz.ntmps227
 go_wp2_with fail
 refine (j.out _ f.out.bl).mono ?_
 rintro e t ⟨rfl,a⟩;have b:=hideS (f.out.step a);clear a
 go_wp2_with fail
 go_ret
 exact⟨rfl,b.out.bl⟩
structure SlT (a b s:Nat) (a0 b0 al bl:Bool):Prop where
 p1:(FloatKind.f64.format.order a 0==some .eq)=a0
 p2:(FloatKind.f64.format.order b 0==some .eq)=b0
 p3:(FloatKind.f64.format.order a 0==some .lt)=al
 p4:(FloatKind.f64.format.order b 0==some .lt)=bl
 z:(a0||b0||(al !=bl))=true->s=0
 nz:(a0||b0||(al !=bl))=false->∃ p q t,floatBits .quo .f64 4607182418800017408 a=some p/\floatBits .quo .f64 4607182418800017408 b=some q/\floatBits .add .f64 p q=some t/\floatBits .quo .f64 4611686018427387904 t=some s
theorem PO {a b:Nat} (e:NN a) (d:NN b):∃ a0 x v bl,SlT a b (slB a b) a0 x v bl:=by
 have z:(0:Nat)<18446744073709551616:=by decide
 refine⟨_,_,_,_,rfl,rfl,rfl,rfl,?_,?_⟩
 all_goals
  rw [eU (aU e.lt) (aU z) e.nan (by decide),eU (aU d.lt) (aU z) d.nan (by decide),jK (aU e.lt) (aU z) e.nan (by decide),jK (aU d.lt) (aU z) d.nan (by decide),show ae ((0:Nat):Int)=0 by decide]
 ·intro h;unfold slB;rw [aA (by decide) e.nan,aA (by decide) d.nan,aA e.nan (by decide),aA d.nan (by decide),show ae 0=0 by decide]
  generalize ae (a:Nat)=r at *
  generalize ae (b:Nat)=s at *
  rw [if_neg];intro c;simp only [Bool.or_eq_true,Bool.and_eq_true,decide_eq_true_eq,bne_iff_ne,ne_eq,decide_eq_decide] at c h
  omega
 ·intro h;have k:((ltB 0 (a:Nat)&&ltB 0 (b:Nat))||(ltB (a:Nat) 0&&ltB (b:Nat) 0))=true:=by
   rw [aA (by decide) e.nan,aA (by decide) d.nan,aA e.nan (by decide),aA d.nan (by decide),show ae 0=0 by decide]
   generalize ae (a:Nat)=r at *
   generalize ae (b:Nat)=s at *
   simp only [Bool.or_eq_true,Bool.and_eq_true,decide_eq_true_eq,Bool.or_eq_false_iff,decide_eq_false_iff_not,bne_eq_false_iff_eq,decide_eq_decide] at h ⊢
   omega
  have f:a % 9223372036854775808≠0/\b % 9223372036854775808≠0/\sB a=sB b:=by
   rw [Bool.or_eq_true,Bool.and_eq_true,Bool.and_eq_true] at k
   rcases k with⟨p,q⟩| ⟨p,q⟩
   ·obtain⟨l,m⟩:=iJ e.lt p;obtain⟨i,j⟩:=iJ d.lt q;exact⟨l,i,by rw [m,j]⟩
   ·obtain⟨l,m⟩:=oU e.lt p;obtain⟨i,j⟩:=oU d.lt q;exact⟨l,i,by rw [m,j]⟩
  have g:ag 4607182418800017408:=by unfold ag;decide
  obtain⟨t,u⟩:=qw g (by decide) (by decide) e f.1
  obtain⟨o,w⟩:=qw g (by decide) (by decide) d f.2.1
  have n:=tH t o (by rw [u,w,f.2.2])
  refine⟨_,_,_,gX t,gX o,yR n,?_⟩
  unfold slB;rw [if_pos k];exact gX (Jt n)
theorem FO (kind:Int) (v:Option Addr) (cx n j k a b s:Nat) (a0 G C bl:Bool) (x:Value) (w:World) (M:k=j+1) (y:k+1<n) (N:n<=256) (Q:SlT a b s a0 G C bl)
  (I:Hid (∀ g,Below w.heap.size w g->Calls Tryz.prog 231 #[.agg #[.int .i64 kind,.slice v n cx,x],.int .i64 (j:Int)] g fun e u=>e=.returned (.float .f64 a)/\Below g.heap.size g u))
  (E:Hid (∀ g,Below w.heap.size w g->Calls Tryz.prog 231 #[.agg #[.int .i64 kind,.slice v n cx,x],.int .i64 (k:Int)] g fun e u=>e=.returned (.float .f64 b)/\Below g.heap.size g u)) :
  Calls Tryz.prog 227 #[.agg #[.int .i64 kind,.slice v n cx,x],.int .i64 (k:Int)] w fun e u=>e=.returned (.float .f64 s)/\Below w.heap.size w u:=by
 have h:=hideS (cH w kind (.slice v n cx) x);have e1:IntKind.i64.wrap ((n:Int) - 1)=(n:Int) - 1:=by rw [IntKind.wrap_i64];omega
 have V:((n:Int) - 1==0)=false:=beq_eq_false_iff_ne.2 (by omega)
 have Z:((k:Int)==0)=false:=beq_eq_false_iff_ne.2 (by omega)
 have e4:((k:Int)==(n:Int) - 1)=false:=beq_eq_false_iff_ne.2 (by omega)
 have e5:IntKind.i64.wrap ((k:Int) - 1)=(j:Int):=by rw [IntKind.wrap_i64];omega
 obtain⟨t1,t2,t3,Y,f,c⟩:=Q;have D:=hideS (And.intro f c);clear M y f c;obtain⟨F,r⟩:∃ F,w.alloc (.cells #[.int .i64 kind,.slice v n cx,x] 195)=F:=⟨_,rfl⟩;rw [r] at h
 have J:=h.out.t0;have L:=h.out.t1;have O:=h.out.t2
 go_enter Tryz.func227,Tryz.ntmps227
 go_wp2_with fail
 clear r
 go_region_with (first | (go_at_call_of 231 (Value.int IntKind.i64 (j:Int));refine (I.out _ h.out.bl.drew).mono ?_;rintro e w1 ⟨rfl,m⟩;have d:=hideS ((h.out.drewN 1).step m);have S:=d.out.t0;have K:=d.out.t1;have R:=d.out.t2;clear m) | (go_at_call 231;refine (E.out _ d.out.bl).mono ?_;rintro e w2 ⟨rfl,i⟩;have l:=hideS (d.out.step i);clear i))
 all_goals
  obtain⟨f,c⟩:=D.out;have o:=hideS l.out.bl;clear h d l I E D J L O S K R;cases a0 with
  | true=>
   obtain rfl:=f rfl;clear c f
   go_wp2_with fail
   go_ret
   exact⟨rfl,o.out⟩
  | false=>
   cases G with
   | true=>
    obtain rfl:=f rfl;clear c f
    go_wp2_with fail
    go_ret
    exact⟨rfl,o.out⟩
   | false=>
    cases C<;>cases bl
    case false.true=>
     obtain rfl:=f rfl;clear c f
     go_wp2_with fail
     go_ret
     exact⟨rfl,o.out⟩
    case true.false=>
     obtain rfl:=f rfl;clear c f
     go_wp2_with fail
     go_ret
     exact⟨rfl,o.out⟩
    all_goals
     obtain⟨p,q,t,A,H,B,z⟩:=c rfl;have W:=fun w=>run_float_arith (P:=Tryz.prog) w .quo 27 .f64 _ _ _ A
     have X:=fun w=>run_float_arith (P:=Tryz.prog) w .quo 27 .f64 _ _ _ H
     have T:=fun w=>run_float_arith (P:=Tryz.prog) w .add 27 .f64 _ _ _ B
     have U:=fun w=>run_float_arith (P:=Tryz.prog) w .quo 27 .f64 _ _ _ z
     clear c f A H B z
     go_wp2_with fail
     go_ret
     exact⟨rfl,o.out⟩
theorem FP (kind:Int) (a d:Option Addr) (p q cx r n cy k:Nat) (xs:List Int) (ys:List Nat) (w:World) (h:OkT kind xs ys) (l:TFl w a d p q r n xs ys) (j:k<xs.length) :
  Calls Tryz.prog 227 #[.agg #[.int .i64 kind,.slice a xs.length cx,.slice d ys.length cy],.int .i64 (k:Int)] w fun e z=>e=.returned (.float .f64 ((bI xs ys xs.length).getD k 0))/\Below w.heap.size w z:=by
 have C:=h.lo;have g:=h.hi;have H:Hid (PN w kind (.slice a xs.length cx) (.slice d ys.length cy) xs.length (steepB xs ys)):=fun b c k j=>Kb kind a d p q cx r n cy k xs ys b h (l.below c) j
 rw [Kc j]
 by_cases i:xs.length=1
 ·rw [if_pos i,i];exact FN kind a cx _ _ w
 ·rw [if_neg i]
  by_cases f:k=0
  ·rw [if_pos f];subst f;exact yT kind a cx _ _ _ w H (by omega) g
  ·rw [if_neg f]
   by_cases o:k=xs.length - 1
   ·rw [if_pos o];obtain⟨m,v⟩:∃ m,xs.length=m+2:=⟨xs.length - 2,by omega⟩
    have B:(k:Int)=(m:Int)+1:=by omega
    have x:xs.length - 2=m:=by omega
    rw [B,x];exact BR kind a cx _ m _ _ w H v g
   ·rw [if_neg o];obtain⟨s,y,t,bl,A⟩:=PO (fT h l.u (k:=k - 1) (by omega)) (fT h l.u (k:=k) (by omega))
    exact FO kind a cx _ (k - 1) k _ _ _ s y t bl _ w (by omega) (by omega) g A (fun b c=>H.out b c (k - 1) (by omega)) (fun b c=>H.out b c k (by omega))
def rh (x:Nat):Bool:=aE (x:Nat)&&ltB 0 (x:Nat)
theorem KG {x:Nat} (h:x<18446744073709551616) (a:ltB 0 (x:Nat)=true):x<9223372036854775808/\ah (x:Nat)=false:=by
 obtain⟨_,b⟩:=iJ h a;unfold sB at b
 refine⟨by have:=of_decide_eq_false b;omega,?_⟩
 unfold ltB at a
 simp only [Bool.and_eq_true,Bool.not_eq_true',decide_eq_true_eq] at a
 exact a.1.2
theorem wI (x:Nat) (w:World) (h:x<18446744073709551616) :
  Calls Tryz.prog 78 #[.float .f64 x] w fun e i=>e=.returned (.bool (rh x))/\i=w:=by
 have b:=ogt h (show (0:Nat)<18446744073709551616 by decide)
 have c:ltB ((0:Nat):Int) (x:Nat)=ltB 0 (x:Nat):=rfl;rw [c] at b
 unfold rh;cases a:ltB 0 (x:Nat) with
 | false=>
  rw [a] at b
  rw [Bool.and_false];clear a h c
  go_enter Tryz.func78,Tryz.ntmps78
  go_wp2
  go_ret
  exact⟨rfl,rfl⟩
 | true=>
  rw [a] at b
  obtain⟨f,d⟩:=KG h a;have hi:=qH d;rw [Nat.mod_eq_of_lt f] at hi
  have H:=hideS fun w=>nh x _ w hi
  rw [Bool.and_true];generalize aE (x:Nat)=g at *
  clear a h c hi f d;cases g
  all_goals
   go_enter Tryz.func78,Tryz.ntmps78
   go_wp2_with (go_at_call 71;refine (H.out _).mono ?_;rintro e j ⟨rfl,rfl⟩)
   go_ret
   exact⟨rfl,rfl⟩
def dyB (base:Int) (a:List Int) (i:Nat):Bool:=decide (a.getD i 0<=dA base a i)||decide (109572<a.getD i 0)
theorem KH (base:Int) (p:Option Addr) (n c:Nat) (w:World) (h:n<1\/255<n) :
  Calls Tryz.prog 51 #[.int .i64 base,.slice p n c] w fun e a=>e=.returned (.bool false)/\a=w:=by
 rcases h with h | h
 ·have b:decide ((n:Int)<1)=true:=decide_eq_true (by omega)
  clear h
  go_enter Tryz.func51,Tryz.ntmps51
  go_wp2
  go_ret
  exact⟨rfl,rfl⟩
 ·have b:decide ((n:Int)<1)=false:=decide_eq_false (by omega)
  have d:decide ((255:Int)<n)=true:=decide_eq_true (by omega)
  clear h
  go_enter Tryz.func51,Tryz.ntmps51
  go_wp2
  go_ret
  exact⟨rfl,rfl⟩
theorem Gj (base:Int) (p:Option Addr) (b off c n K:Nat) (xs:List Int) (w:World) (r:VSrc w p b off n (xV xs)) (hn:1<=n) (F:n<=255) (H:K<=n) (a:∀ i<K,dyB base xs i=false) (d:K<n->dyB base xs K=true) :
  Calls Tryz.prog 51 #[.int .i64 base,.slice p n c] w fun e D=>e=.returned (.bool (decide (n<=K)))/\D=w:=by
 obtain⟨g,j⟩:∃ g,decide (n<=K)=g:=⟨_,rfl⟩;rw [j];have A:Hid (K<n->g=false):=fun v=>by rw [<- j];exact decide_eq_false (by omega)
 have E:Hid (K=n->g=true):=fun v=>by rw [<- j];exact decide_eq_true (by omega)
 clear j;have s:=hideS r;have z:=hideS a;have B:=hideS d;obtain rfl:=r.at_ (by omega)
 have u:decide ((n:Int)<1)=false:=decide_eq_false (by omega)
 have C:decide ((255:Int)<n)=false:=decide_eq_false (by omega)
 clear r a d
 go_enter Tryz.func51,Tryz.ntmps51
 go_wp2_with fail
 clear u C
 go_loop [5,7,19] (fun l _ i=>∃ k:Nat,k<=K/\i=.int .i64 k/\l=.int .i64 (dA base xs k)) (fun _ _ i=>n - (intOf i).toNat)
 case atStart=>exact⟨0,Nat.zero_le _,rfl,rfl⟩
 case round=>
  obtain⟨k,I,rfl,rfl⟩:=hrel
  by_cases m:k<K
  ·have o:k<n:=by omega
   have c1:w.cell? ⟨b,off+k,none⟩=some (.int .i64 (xs.getD k 0)):=s.out.cell k o;have f:=z.out k m;unfold dyB at f
   rw [Bool.or_eq_false_iff] at f
   obtain⟨t,G⟩:=f;have x:=hideS (show dA base xs (k+1)=xs.getD k 0 from rfl)
   generalize dA base xs k=l at *
   generalize xs.getD k 0=y at *
   go_wp2_with fail
   go_round
   case rel=>exact⟨k+1,by omega,by simp,by rw [x.out]⟩
   case measure=>simp [intOf];omega
  ·obtain rfl:k=K:=by omega
   by_cases q:k<n
   ·have c1:w.cell? ⟨b,off+k,none⟩=some (.int .i64 (xs.getD k 0)):=s.out.cell k q;have f:=B.out q;unfold dyB at f
    have h:=hideS (A.out q);generalize dA base xs k=l at *
    generalize xs.getD k 0=y at *
    cases t:decide (y<=l)
    ·rw [t,Bool.false_or] at f
     go_wp2_with fail
     go_ret
     exact⟨by rw [h.out]<;>rfl,rfl⟩
    ·clear f
     go_wp2_with fail
     go_ret
     exact⟨by rw [h.out]<;>rfl,rfl⟩
   ·obtain rfl:k=n:=by omega
    have h:=hideS (E.out rfl)
    go_wp2_with fail
    go_ret
    exact⟨by rw [h.out]<;>rfl,rfl⟩
theorem wJ (p:Option Addr) (b off c n K:Nat) (ys:List Nat) (w:World) (r:VSrc w p b off n (flV ys)) (s:∀ i<n,ys.getD i 0<18446744073709551616) (B:n<=255) (C:K<=n) (a:∀ i<K,rh (ys.getD i 0)=true) (d:K<n->rh (ys.getD K 0)=false) :
  Calls Tryz.prog 52 #[.slice p n c] w fun e o=>e=.returned (.bool (decide (n<=K)))/\o=w:=by
 obtain⟨g,h⟩:∃ g,decide (n<=K)=g:=⟨_,rfl⟩;rw [h];have x:Hid (K<n->g=false):=fun t=>by rw [<- h];exact decide_eq_false (by omega)
 have A:Hid (K=n->g=true):=fun t=>by rw [<- h];exact decide_eq_true (by omega)
 clear h;have q:=hideS r;have u:=hideS a;have z:=hideS d;have v:=hideS s;clear r a d s
 go_enter Tryz.func52,Tryz.ntmps52
 go_wp2_with fail
 go_loop [4,7] (fun _ i=>∃ k:Nat,k<=K/\i=.int .i64 k) (fun _ i=>n - (intOf i).toNat)
 case atStart=>exact⟨0,Nat.zero_le _,rfl⟩
 case round=>
  obtain⟨k,D,rfl⟩:=hrel
  by_cases f:k<n
  ·have c1:w.cell? ⟨b,off+k,none⟩=some (.float .f64 (ys.getD k 0)):=q.out.cell k f;obtain rfl:=q.out.at_ (by omega)
   have j:=hideS fun w=>wI (ys.getD k 0) w (v.out k f)
   by_cases l:k<K
   ·rw [u.out k l] at j
    generalize ys.getD k 0=y at *
    go_wp2_with (go_at_call 78;refine (j.out _).mono ?_;rintro e o ⟨rfl,rfl⟩)
    go_round
    case rel=>exact⟨k+1,by omega,by simp⟩
    case measure=>simp [intOf];omega
   ·obtain rfl:k=K:=by omega
    rw [z.out f] at j
    have m:=hideS (x.out f);generalize ys.getD k 0=y at *
    go_wp2_with (go_at_call 78;refine (j.out _).mono ?_;rintro e o ⟨rfl,rfl⟩)
    go_ret
    exact⟨by rw [m.out]<;>rfl,rfl⟩
  ·obtain rfl:k=n:=by omega
   obtain rfl:K=k:=by omega
   have m:=hideS (A.out rfl)
   go_wp2_with fail
   go_ret
   exact⟨by rw [m.out]<;>rfl,rfl⟩
theorem KI (base:Int) (d:Option Addr) (k l cx:Nat) (xs:List Int):∃ g:Bool,(g=true↔(1<=xs.length/\xs.length<=255/\∀ i<xs.length,dyB base xs i=false))/\∀ w,VSrc w d k l xs.length (xV xs)->Calls Tryz.prog 51 #[.int .i64 base,.slice d xs.length cx] w fun e o=>e=.returned (.bool g)/\o=w:=by
 by_cases n:xs.length<1\/255<xs.length
 ·exact⟨false,⟨fun h=>by simp at h,fun⟨a,b,_⟩=>by omega⟩,fun w _=>KH base d _ cx w n⟩
 ·obtain⟨K,m,f,j⟩:=jw (p:=dyB base xs) xs.length;refine⟨decide (xs.length<=K),⟨fun h=>⟨by omega,by omega,fun i hi=>f i (by have:=of_decide_eq_true h;omega)⟩,fun⟨_,_,h⟩=>decide_eq_true (Classical.byContradiction fun c=>?_)⟩,fun w q=>Gj base d k l cx _ K xs w q (by omega) (by omega) m f j⟩
  have:=j (by omega)
  rw [h K (by omega)] at this
  cases this
theorem zB (d:Option Addr) (j f cy:Nat) (ys:List Nat) (hn:ys.length<=255) (n:∀ i<ys.length,ys.getD i 0<18446744073709551616):∃ g:Bool,(g=true↔∀ i<ys.length,rh (ys.getD i 0)=true)/\∀ w,VSrc w d j f ys.length (flV ys)->Calls Tryz.prog 52 #[.slice d ys.length cy] w fun e o=>e=.returned (.bool g)/\o=w:=by
 obtain⟨K,k,l,m⟩:=jw (p:=fun i=>!rh (ys.getD i 0)) ys.length
 have b:∀ i<K,rh (ys.getD i 0)=true:=fun i hi=>by have:=l i hi;simpa using this
 have a:K<ys.length->rh (ys.getD K 0)=false:=fun hi=>by have:=m hi;simpa using this
 refine⟨decide (ys.length<=K),⟨fun h i hi=>b i (by have:=of_decide_eq_true h;omega),fun h=>decide_eq_true (Classical.byContradiction fun c=>?_)⟩,fun w q=>wJ d j f cy _ K ys w q n hn k b a⟩
 have:=a (by omega)
 rw [h K (by omega)] at this
 cases this
theorem nodC_two {base:Int} {e:List Int} {f:List Nat} {i:Nat}:kR base e f i=false↔dyB base e i=false/\rh (f.getD i 0)=true:=by
 unfold kR dyB rh;generalize aE (f.getD i 0:Nat)=a;generalize ltB 0 (f.getD i 0:Nat)=b;generalize decide (e.getD i 0<=dA base e i)=c;generalize decide (109572<e.getD i 0)=d;cases a<;>cases b<;>cases c<;>cases d<;>decide
theorem sK (base kind:Int) (b f:Value) (w:World) (h:base<0\/109572<base) :
  Calls Tryz.prog 37 #[.agg #[.int .i64 base,.int .i64 kind,b,f]] w fun e g=>e=.returned (.int .i64 51)/\Below w.heap.size w g:=by
 have c:=hideS (bu w base kind b f);rcases (show base<0\/(0<=base/\109572<base) by omega) with a | ⟨a,d⟩
 ·have i:decide (base<0)=true:=decide_eq_true a;clear h a
  go_enter Tryz.func37,Tryz.ntmps37
  go_wp2_with fail
  go_ret
  exact⟨rfl,c.out.bl⟩
 ·have i:decide (base<0)=false:=decide_eq_false (by omega)
  have j:decide (109572<base)=true:=decide_eq_true d;clear h a d
  go_enter Tryz.func37,Tryz.ntmps37
  go_wp2_with fail
  go_ret
  exact⟨rfl,c.out.bl⟩
theorem sL (base kind:Int) (b f:Value) (w:World) (l:0<=base) (m:base<=109572) (h:kind<1\/4<kind) :
  Calls Tryz.prog 37 #[.agg #[.int .i64 base,.int .i64 kind,b,f]] w fun e i=>e=.returned (.int .i64 90)/\Below w.heap.size w i:=by
 have c:=hideS (bu w base kind b f);have n:decide (base<0)=false:=decide_eq_false (by omega)
 have k:decide (109572<base)=false:=decide_eq_false (by omega)
 rcases (show kind<1\/(1<=kind/\4<kind) by omega) with a | ⟨a,d⟩
 ·have g:decide (kind<1)=true:=decide_eq_true a;clear h a
  go_enter Tryz.func37,Tryz.ntmps37
  go_wp2_with fail
  go_ret
  exact⟨rfl,c.out.bl⟩
 ·have g:decide (kind<1)=false:=decide_eq_false (by omega)
  have j:decide (4<kind)=true:=decide_eq_true d;clear h a d
  go_enter Tryz.func37,Tryz.ntmps37
  go_wp2_with fail
  go_ret
  exact⟨rfl,c.out.bl⟩
theorem zC (base kind:Int) (d b cx cy:Nat) (p q:Option Addr) (k o:Bool) (w:World) (t:0<=base) (u:base<=109572) (s:1<=kind) (r:kind<=4)
  (l:Hid (∀ f,Below w.heap.size w f->Calls Tryz.prog 51 #[.int .i64 base,.slice p d cx] f fun e i=>e=.returned (.bool k)/\i=f))
  (m:Hid (k=true->d=b->∀ f,Below w.heap.size w f->Calls Tryz.prog 52 #[.slice q b cy] f fun e i=>e=.returned (.bool o)/\i=f)) :
  Calls Tryz.prog 37 #[.agg #[.int .i64 base,.int .i64 kind,.slice p d cx,.slice q b cy]] w fun e i=>e=.returned (.int .i64 (if k=true/\d=b/\o=true then 0 else 100))/\Below w.heap.size w i:=by
 have a:=hideS (bu w base kind (.slice p d cx) (.slice q b cy));have v:decide (base<0)=false:=decide_eq_false (by omega)
 have z:decide (109572<base)=false:=decide_eq_false (by omega)
 have x:decide (kind<1)=false:=decide_eq_false (by omega)
 have y:decide (4<kind)=false:=decide_eq_false (by omega)
 clear t u s r;cases k with
 | false=>
  rw [if_neg (by simp)]
  clear m
  go_enter Tryz.func37,Tryz.ntmps37
  go_wp2_with (first | (go_at_call 51;refine (l.out _ a.out.bl).mono ?_;rintro e j ⟨rfl,rfl⟩))
  go_ret
  exact⟨rfl,a.out.bl⟩
 | true=>
  by_cases g:d=b
  ·have n:((b:Int) !=(d:Int))=false:=by rw [g];simp
   have h:=hideS (m.out rfl g);clear m;cases o with
   | false=>
    rw [if_neg (by simp)]
    clear g
    go_enter Tryz.func37,Tryz.ntmps37
    go_wp2_with (first | (go_at_call 51;refine (l.out _ a.out.bl).mono ?_;rintro e j ⟨rfl,rfl⟩) | (go_at_call 52;refine (h.out _ a.out.bl).mono ?_;rintro e j ⟨rfl,rfl⟩))
    go_ret
    exact⟨rfl,a.out.bl⟩
   | true=>
    rw [if_pos ⟨rfl,g,rfl⟩];clear g
    go_enter Tryz.func37,Tryz.ntmps37
    go_wp2_with (first | (go_at_call 51;refine (l.out _ a.out.bl).mono ?_;rintro e j ⟨rfl,rfl⟩) | (go_at_call 52;refine (h.out _ a.out.bl).mono ?_;rintro e j ⟨rfl,rfl⟩))
    go_ret
    exact⟨rfl,a.out.bl⟩
  ·have n:((b:Int) !=(d:Int))=true:=by simp;omega
   rw [if_neg (fun c=>g c.2.1)]
   clear m g
   go_enter Tryz.func37,Tryz.ntmps37
   go_wp2_with (first | (go_at_call 51;refine (l.out _ a.out.bl).mono ?_;rintro e j ⟨rfl,rfl⟩))
   go_ret
   exact⟨rfl,a.out.bl⟩
theorem dG (base kind:Int) (B r:Option Addr) (bd Q D P L z:Nat) (g:List Int) (d:List Nat) (w:World) (O:TFl w B r bd Q P L g d) {E:Int} (u:CurR base kind g d E) :
  Calls Tryz.prog 37 #[.agg #[.int .i64 base,.int .i64 kind,.slice B g.length D,.slice r d.length z]] w fun e v=>e=.returned (.int .i64 E)/\Below w.heap.size w v:=by
 have n:0<=base->base<=109572->1<=kind->kind<=4->∀ E,CurR base kind g d E->(E=0\/E=100)->Calls Tryz.prog 37 #[.agg #[.int .i64 base,.int .i64 kind,.slice B g.length D,.slice r d.length z]] w fun e v=>e=.returned (.int .i64 E)/\Below w.heap.size w v:=fun j k S R E h u=>by
  obtain⟨C,H,c1⟩:=KI base B bd Q D g;have T:∃ t:Bool,(C=true->g.length=d.length->(t=true↔∀ i<d.length,rh (d.getD i 0)=true))/\(C=true->g.length=d.length->∀ w,VSrc w r P L d.length (flV d)->Calls Tryz.prog 52 #[.slice r d.length z] w fun e v=>e=.returned (.bool t)/\v=w):=by
   by_cases V:d.length<=255
   ·obtain⟨t,F,c2⟩:=zB r P L z d V O.f;exact⟨t,fun _ _=>F,fun _ _=>c2⟩
   ·exact⟨false,fun a b=>by have:=(H.1 a).2.1;omega,fun a b=>by have:=(H.1 a).2.1;omega⟩
  obtain⟨t,F,c2⟩:=T;have:=zC base kind g.length d.length D z B r C t w j k S R (fun N A=>c1 N (O.x.below A)) (fun a b N A=>c2 a b N (O.y.below A))
  refine this.mono fun e v ⟨U,A⟩=>⟨?_,A⟩
  rw [U]
  by_cases G:C=true/\g.length=d.length/\t=true
  ·have ok:OkV base kind g d:=by
    obtain⟨a,b,c⟩:=G;have p:=H.1 a;have q:=(F a b).1 c;exact⟨j,k,S,R,p.1,p.2.1,b.symm,fun i hi=>nodC_two.2 ⟨p.2.2 i hi,q i (by omega)⟩⟩
   have I:E=0:=by
    cases h with
    | ok h=>rfl
    | base h=>omega
    | kind _ _ h=>omega
    | len _ _ s o h=>have:=ok.lo;have:=ok.hi;have:=ok.len;omega
    | node _ _ s o lo hi len K M l m=>rw [ok.node K M] at l;cases l
   rw [if_pos G,I]
  ·have J:E=100:=by
    rcases u with u | u
    ·exfalso;apply G
     rw [u] at h
     have ok:=ka h;have a:=H.2 ⟨ok.lo,ok.hi,fun i hi=>(nodC_two.1 (ok.node i hi)).1⟩
     exact⟨a,ok.len.symm,(F a ok.len.symm).2 (fun i hi=>(nodC_two.1 (ok.node i (by rw [<- ok.len];exact hi))).2)⟩
    ·exact u
   rw [if_neg G,J]
 cases u with
 | base h=>exact sK base kind _ _ w h
 | kind j k h=>exact sL base kind _ _ w j k h
 | ok h=>exact n h.b0 h.b1 h.k1 h.k4 0 (.ok h) (.inl rfl)
 | len j k s o h=>exact n j k s o 100 (.len j k s o h) (.inr rfl)
 | node j k s o lo hi len K M l m=>exact n j k s o 100 (.node j k s o lo hi len K M l m) (.inr rfl)
theorem Qo (base kind:Int) (b h:Option Addr) (j l cx m i cy:Nat) (xs:List Int) (ys:List Nat) (w:World) (f:TFl w b h j l m i xs ys) (q:ys.length<=17592186043904) :
  Calls Tryz.prog 10 #[.agg #[.int .i64 base,.int .i64 kind,.slice b xs.length cx,.slice h ys.length cy]] w fun e d=>∃ p g c,e=.returned (.agg #[.int .i64 base,.int .i64 kind,.slice b xs.length cx,.slice p ys.length c])/\CSrcD d b p j l g 0 xs ys/\Below w.heap.size w d:=by
 refine (zt base kind m i cx cy xs.length ys.length b h ys w f.y rfl q).mono fun e d ⟨v,o,s,k⟩=>?_
 obtain⟨p,g,c,rfl,a,t,r,n⟩:=bq s rfl;exact⟨p,g,c,o,⟨f.x.below k,⟨a.at_,a.lt,a.cell⟩,f.u⟩,k⟩
structure SmB (w:World) (base kind:Int) (vx vy ux uy:Value) (wr:World):Prop where
 t0:wr.cell? ⟨w.heap.size,0,none⟩=some (.int .i64 base)
 t1:wr.cell? ⟨w.heap.size,1,none⟩=some (.int .i64 kind)
 t2:wr.cell? ⟨w.heap.size,2,none⟩=some vx
 t3:wr.cell? ⟨w.heap.size,3,none⟩=some vy
 d0:wr.cell? ⟨w.heap.size+1,0,none⟩=some (.int .i64 base)
 d1:wr.cell? ⟨w.heap.size+1,1,none⟩=some (.int .i64 kind)
 d2:wr.cell? ⟨w.heap.size+1,2,none⟩=some ux
 d3:wr.cell? ⟨w.heap.size+1,3,none⟩=some uy
 bl:Below w.heap.size w wr
theorem SmB.drewN {w wr:World} {base kind:Int} {b a d c:Value} (h:SmB w base kind b a d c wr) (q:Nat):SmB w base kind b a d c (wr.drewN q):=
 ⟨h.t0,h.t1,h.t2,h.t3,h.d0,h.d1,h.d2,h.d3,⟨h.bl.os,h.bl.tape,h.bl.output,h.bl.size,h.bl.block⟩⟩
theorem TFl.drewN {w:World} {a g:Option Addr} {d b c e:Nat} {xs:List Int} {ys:List Nat} (h:TFl w a g d b c e xs ys) (q:Nat):TFl (w.drewN q) a g d b c e xs ys:=⟨⟨h.x.at_,h.x.lt,h.x.cell⟩,⟨h.y.at_,h.y.lt,h.y.cell⟩,h.f⟩
theorem CSrcD.drewN {w:World} {b j:Option Addr} {bd e c g:Nat} {a:List Int} {i:List Nat} (h:CSrcD w b j bd e c g a i) (q:Nat):CSrcD (w.drewN q) b j bd e c g a i:=⟨⟨h.d.at_,h.d.lt,h.d.cell⟩,⟨h.f.at_,h.f.lt,h.f.cell⟩,h.u⟩
end Go.Proofs.YtfdddijdjpijbaaGreat
