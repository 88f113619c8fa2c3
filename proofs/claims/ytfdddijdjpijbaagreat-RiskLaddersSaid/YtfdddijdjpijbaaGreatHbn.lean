/-  -/
import Derived.Test.YtfdddijdjpijbaaGreatHbl
import Derived.Test.YtfdddijdjpijbaaGreatBShelf
import Derived.Test.YtfdddijdjpijbaaGreatHar
import Derived.Deep.RegionHeld3
import Derived.Laws.FloatArith
import Derived.Test.YtfdddijdjpijbaaGreatHat
import Derived.Test.YtfdddijdjpijbaaGreatHas
import Derived.Test.YtfdddijdjpijbaaGreatHav
import Derived.Deep.QuietTactic
set_option maxHeartbeats 3200000
set_option maxRecDepth 20000
namespace Go.Proofs.YtfdddijdjpijbaaGreat
open Go.RowKit
structure TFl (w:World) (px py:Option Addr) (bx ox b2 oy:Nat) (xs:List Int) (ys:List Nat):Prop where
 x:VSrc w px bx ox xs.length (xV xs)
 y:VSrc w py b2 oy ys.length (flV ys)
 f:∀ i<ys.length,ys.getD i 0<18446744073709551616
theorem TFl.below {w a:World} {e b:Option Addr} {c d i g:Nat} {xs:List Int} {ys:List Nat} (h:TFl w e b c d i g xs ys) (j:Below w.heap.size w a):TFl a e b c d i g xs ys:=⟨h.x.below j,h.y.below j,h.f⟩
theorem TFl.u {w:World} {d a:Option Addr} {b c g e:Nat} {xs:List Int} {ys:List Nat} (h:TFl w d a b c g e xs ys):∀ i<ys.length,U64 (ys.getD i 0:Nat):=fun i hi=>aU (h.f i hi)
theorem jm {p:Nat->Bool} (n:Nat):∃ K≤n,(∀ i<K,p i=false)/\(K<n->p K=true):=by
 by_cases h:∃ i<n,p i=true
 ·obtain⟨k,e,d,b⟩:=eM n h;exact⟨k,by omega,b,fun _=>d⟩
 ·exact⟨n,Nat.le_refl _,fun i hi=>by
   cases a:p i
   ·rfl
   ·exact absurd ⟨i,hi,a⟩ h,fun c=>absurd c (Nat.lt_irrefl _)⟩
theorem Bk (d:Option Addr) (f k cx:Nat) (xs:List Int):∃ g:Bool,(g=true↔(1<=xs.length/\xs.length<=256/\∀ i<xs.length,plB xs i=false))/\∀ w,VSrc w d f k xs.length (xV xs)->Calls Tryz.prog 199 #[.slice d xs.length cx] w fun e n=>e=.returned (.bool g)/\n=w:=by
 by_cases q:xs.length<1\/256<xs.length
 ·exact⟨false,⟨fun h=>by simp at h,fun⟨a,b,_⟩=>by omega⟩,fun w _=>Bj d _ cx w q⟩
 ·obtain⟨K,o,l,j⟩:=jm (p:=plB xs) xs.length;refine⟨decide (xs.length<=K),⟨fun h=>⟨by omega,by omega,fun i hi=>l i (by have:=of_decide_eq_true h;omega)⟩,fun⟨_,_,h⟩=>decide_eq_true (Classical.byContradiction fun c=>?_)⟩,fun w m=>yg d f k cx _ K xs w m (by omega) (by omega) o l j⟩
  have:=j (by omega)
  rw [h K (by omega)] at this
  cases this
theorem Bm (kind:Int) (a:Option Addr) (f j cy:Nat) (ys:List Nat) (hn:ys.length<=256) (l:∀ i<ys.length,ys.getD i 0<18446744073709551616):∃ g:Bool,(g=true↔∀ i<ys.length,vlB kind ys i=false)/\∀ w,VSrc w a f j ys.length (flV ys)->Calls Tryz.prog 200 #[.int .i64 kind,.slice a ys.length cy] w fun e m=>e=.returned (.bool g)/\m=w:=by
 obtain⟨K,n,d,b⟩:=jm (p:=vlB kind ys) ys.length;refine⟨decide (ys.length<=K),⟨fun h i hi=>d i (by have:=of_decide_eq_true h;omega),fun h=>decide_eq_true (Classical.byContradiction fun c=>?_)⟩,fun w k=>yj kind a f j cy _ K ys w k l hn n d b⟩
 have:=b (by omega)
 rw [h K (by omega)] at this
 cases this
theorem Jt (xs:List Int):prv xs 0= -1:=rfl
theorem yk (xs:List Int) (k:Nat):prv xs (k+1)=xs.getD k 0:=rfl
theorem Ju {kind:Int} {xs:List Int} {ys:List Nat} (h:∀ i<xs.length,eF kind xs ys i=false):(∀ i<xs.length,plB xs i=false)/\∀ i<xs.length,vlB kind ys i=false:=by
 refine⟨fun i hi=>?_,fun i hi=>?_⟩
 ·obtain⟨a,b,c,_,_⟩:=aq (h i hi);unfold plB;rw [Bool.or_eq_false_iff,decide_eq_false_iff_not,decide_eq_false_iff_not];refine⟨?_,by omega⟩
  cases i with
  | zero=>show ¬ xs.getD 0 0<=-1;omega
  | succ i=>
   have:=c (by omega)
   show ¬ xs.getD (i+1) 0<=xs.getD i 0
   rw [Nat.add_sub_cancel] at this
   omega
 ·obtain⟨_,_,_,d,e⟩:=aq (h i hi);unfold vlB;rw [d]
  by_cases f:kind=4
  ·rw [e f];simp
  ·rw [decide_eq_false f];rfl
theorem Jv {kind:Int} {xs:List Int} {ys:List Nat} (c:∀ i<xs.length,plB xs i=false) (e:∀ i<xs.length,vlB kind ys i=false):∀ i<xs.length,eF kind xs ys i=false:=fun i hi=>by
 have pos:∀ j,j<xs.length->0<=xs.getD j 0:=fun j=>by
  induction j with
  | zero=>intro d;have:=c 0 d;unfold plB at this;rw [Bool.or_eq_false_iff,decide_eq_false_iff_not,Jt] at this;have:=this.1;omega
  | succ j f=>intro d;have:=c _ d;have g:=f (by omega);unfold plB at this;rw [Bool.or_eq_false_iff,decide_eq_false_iff_not,yk] at this;have:=this.1;omega
 have a:=c i hi;have b:=e i hi;have p:=pos i hi;unfold plB at a
 unfold vlB at b
 rw [Bool.or_eq_false_iff,decide_eq_false_iff_not,decide_eq_false_iff_not] at a
 rw [Bool.or_eq_false_iff] at b
 unfold eF;rw [decide_eq_false (by omega),decide_eq_false a.2,b.1,b.2]
 cases i with
 | zero=>rfl
 | succ i=>
  have:=a.1;rw [yk] at this
  rw [Nat.add_sub_cancel,decide_eq_false this];simp
theorem MM (w:World):(binOp .eql 213 .nilFunc .nilFunc).run Tryz.prog w=.ok (.bool true) w:=by kernel_rfl
theorem Pg (F:Nat) (w:World):(binOp .eql 213 (.func (.func F) #[] #[]) .nilFunc).run Tryz.prog w=.ok (.bool false) w:=by kernel_rfl
theorem yl (kind:Int) (c d:Value) (w:World) (HK:Hid (∀ b,Calls Tryz.prog 198 #[.int .i64 kind] b fun e a=>e=.returned .nilFunc/\a=b)) :
  Calls Tryz.prog 178 #[.agg #[.int .i64 kind,c,d]] w fun e a=>e=.returned (.tuple #[.nilFunc,.int .i64 90])/\Below w.heap.size w a:=by
 have f:=hideS (cF w kind c d);have g:=MM
 go_enter Tryz.func178,Tryz.ntmps178
 go_wp2_with (go_at_call 198;refine (HK.out _).mono ?_;rintro e h ⟨rfl,rfl⟩)
 go_ret2
 exact⟨rfl,f.out.bl⟩
theorem Fd (kind:Int) (F g f cx cy:Nat) (q n:Option Addr) (l o:Bool) (w:World) (HK:Hid (∀ b,Calls Tryz.prog 198 #[.int .i64 kind] b fun e h=>e=.returned (.func (.func F) #[] #[])/\h=b))
  (k:Hid (∀ b,Below w.heap.size w b->Calls Tryz.prog 199 #[.slice q g cx] b fun e h=>e=.returned (.bool l)/\h=b))
  (m:Hid (l=true->g=f->∀ b,Below w.heap.size w b->Calls Tryz.prog 200 #[.int .i64 kind,.slice n f cy] b fun e h=>e=.returned (.bool o)/\h=b)) :
  Calls Tryz.prog 178 #[.agg #[.int .i64 kind,.slice q g cx,.slice n f cy]] w fun e h=>e=.returned (if l=true/\g=f/\o=true then .tuple #[.func (.func F) #[] #[],.int .i64 0] else .tuple #[.nilFunc,.int .i64 100])/\Below w.heap.size w h:=by
 have a:=hideS (cF w kind (.slice q g cx) (.slice n f cy));have r:=Pg;cases l with
 | false=>
  rw [if_neg (by simp)]
  clear m
  go_enter Tryz.func178,Tryz.ntmps178
  go_wp2_with (first | (go_at_call 198;refine (HK.out _).mono ?_;rintro e d ⟨rfl,rfl⟩) | (go_at_call 199;refine (k.out _ a.out.bl).mono ?_;rintro e d ⟨rfl,rfl⟩))
  go_ret2
  exact⟨rfl,a.out.bl⟩
 | true=>
  by_cases i:g=f
  ·have p:((f:Int) !=(g:Int))=false:=by rw [i];simp
   have j:=hideS (m.out rfl i);clear m;cases o with
   | false=>
    rw [if_neg (by simp)]
    clear i
    go_enter Tryz.func178,Tryz.ntmps178
    go_wp2_with (first | (go_at_call 198;refine (HK.out _).mono ?_;rintro e d ⟨rfl,rfl⟩) | (go_at_call 199;refine (k.out _ a.out.bl).mono ?_;rintro e d ⟨rfl,rfl⟩) | (go_at_call 200;refine (j.out _ a.out.bl).mono ?_;rintro e d ⟨rfl,rfl⟩))
    go_ret2
    exact⟨rfl,a.out.bl⟩
   | true=>
    rw [if_pos ⟨rfl,i,rfl⟩];clear i
    go_enter Tryz.func178,Tryz.ntmps178
    go_wp2_with (first | (go_at_call 198;refine (HK.out _).mono ?_;rintro e d ⟨rfl,rfl⟩) | (go_at_call 199;refine (k.out _ a.out.bl).mono ?_;rintro e d ⟨rfl,rfl⟩) | (go_at_call 200;refine (j.out _ a.out.bl).mono ?_;rintro e d ⟨rfl,rfl⟩))
    go_ret2
    exact⟨rfl,a.out.bl⟩
  ·have p:((f:Int) !=(g:Int))=true:=by simp;omega
   rw [if_neg (fun c=>i c.2.1)]
   clear m i
   go_enter Tryz.func178,Tryz.ntmps178
   go_wp2_with (first | (go_at_call 198;refine (HK.out _).mono ?_;rintro e d ⟨rfl,rfl⟩) | (go_at_call 199;refine (k.out _ a.out.bl).mono ?_;rintro e d ⟨rfl,rfl⟩))
   go_ret2
   exact⟨rfl,a.out.bl⟩
def chF (kind E:Int):Value:=if E=0 then .func (.func (iR kind)) #[] #[] else .nilFunc
theorem Bn (kind E:Int) (u j:Option Addr) (J M cx F I cy:Nat) (xs:List Int) (ys:List Nat) (w:World) (h:TabR kind xs ys E) (D:TFl w u j J M F I xs ys) :
  Calls Tryz.prog 178 #[.agg #[.int .i64 kind,.slice u xs.length cx,.slice j ys.length cy]] w fun e r=>e=.returned (.tuple #[chF kind E,.int .i64 E])/\Below w.heap.size w r:=by
 have o:1<=kind->kind<=4->∀ E,TabR kind xs ys E->(E=0\/E=100)->Calls Tryz.prog 178 #[.agg #[.int .i64 kind,.slice u xs.length cx,.slice j ys.length cy]] w fun e r=>e=.returned (.tuple #[chF kind E,.int .i64 E])/\Below w.heap.size w r:=fun N L E h t=>by
  obtain⟨A,B,c1⟩:=Bk u J M cx xs;have P:∃ k:Bool,(A=true->xs.length=ys.length->(k=true↔∀ i<ys.length,vlB kind ys i=false))/\(A=true->xs.length=ys.length->∀ w,VSrc w j F I ys.length (flV ys)->Calls Tryz.prog 200 #[.int .i64 kind,.slice j ys.length cy] w fun e r=>e=.returned (.bool k)/\r=w):=by
   by_cases O:ys.length<=256
   ·obtain⟨k,z,c2⟩:=Bm kind j F I cy ys O D.f;exact⟨k,fun _ _=>z,fun _ _=>c2⟩
   ·exact⟨false,fun a b=>by have:=(B.1 a).2.1;omega,fun a b=>by have:=(B.1 a).2.1;omega⟩
  obtain⟨k,z,c2⟩:=P;have:=Fd kind (iR kind) xs.length ys.length cx cy u j A k w (fun m=>qD kind m N L) (fun m s=>c1 m (D.x.below s)) (fun a b m s=>c2 a b m (D.y.below s))
  refine this.mono fun e r ⟨Q,s⟩=>⟨?_,s⟩
  rw [Q]
  by_cases v:A=true/\xs.length=ys.length/\k=true
  ·have ok:OkT kind xs ys:=by
    obtain⟨a,b,c⟩:=v;have p:=B.1 a;have q:=(z a b).1 c;exact⟨N,L,p.1,p.2.1,b.symm,Jv p.2.2 (fun i hi=>q i (by omega))⟩
   have H:E=0:=by
    cases h with
    | ok h=>rfl
    | kind h=>omega
    | len n l h=>have:=ok.lo;have:=ok.hi;have:=ok.len;omega
    | node n l lo hi len K G d g=>rw [ok.node K G] at d;cases d
   rw [if_pos v,H];rfl
  ·have C:E=100:=by
    rcases t with t | t
    ·exfalso;apply v
     rw [t] at h
     have ok:=Cz h;obtain⟨p,q⟩:=Ju ok.node;have a:=B.2 ⟨ok.lo,ok.hi,p⟩;exact⟨a,ok.len.symm,(z a ok.len.symm).2 (fun i hi=>q i (by rw [<- ok.len];exact hi))⟩
    ·exact t
   rw [if_neg v,C];rfl
 cases h with
 | kind h=>exact yl kind _ _ w (fun m=>qC kind m h)
 | ok h=>exact o h.k1 h.k4 0 (.ok h) (.inl rfl)
 | len n l h=>exact o n l 100 (.len n l h) (.inr rfl)
 | node n l lo hi len K G d g=>exact o n l 100 (.node n l lo hi len K G d g) (.inr rfl)
theorem ym {xs:List Int} {m:Nat} {y:Int} (h:y ∈ xs.take m):∃ j,j<m/\j<xs.length/\xs.getD j 0=y:=by
 obtain⟨j,b,e⟩:=List.mem_iff_getElem.1 h;have a:j<m/\j<xs.length:=by rw [List.length_take] at b;omega
 refine⟨j,a.1,a.2,?_⟩
 rw [<- e,List.getElem_take];simp [List.getD,a.2]
theorem yo {xs:List Int} {m:Nat} {y:Int} (h:y ∈ xs.drop m):∃ j,m<=j/\j<xs.length/\xs.getD j 0=y:=by
 obtain⟨j,b,e⟩:=List.mem_iff_getElem.1 h;have a:m+j<xs.length:=by rw [List.length_drop] at b;omega
 refine⟨m+j,by omega,a,?_⟩
 rw [<- e,List.getElem_drop];simp [List.getD,a]
theorem yp {xs:List Int} {x:Int} {m:Nat} (d:m<=xs.length) (lo:∀ j,j<m->xs.getD j 0<x) (hi:∀ j,m<=j->j<xs.length->¬ xs.getD j 0<x):xs.countP (fun y=>decide (y<x))=m:=by
 have e:xs.countP (fun y=>decide (y<x))=(xs.take m).countP (fun y=>decide (y<x))+(xs.drop m).countP (fun y=>decide (y<x)):=by
  rw [<- List.countP_append,List.take_append_drop]
 rw [e,List.countP_eq_length.2 (fun y a=>?_),List.countP_eq_zero.2 (fun y a=>?_),List.length_take]
 ·omega
 ·obtain⟨j,b,c,rfl⟩:=yo a
  simpa using hi j b c
 ·obtain⟨j,b,c,rfl⟩:=ym a
  simpa using lo j b
theorem Fe {kind:Int} {xs:List Int} {ys:List Nat} (h:OkT kind xs ys):xs.Pairwise (·<=·):=by
 rw [List.pairwise_iff_getElem];intro i j hi b a;have:=h.rise a b;simp [List.getD,hi,b] at this
 omega
theorem Ff {kind x:Int} {xs:List Int} {ys:List Nat} {k:Nat} (h:OkT kind xs ys) (i:FindR xs x k):(xs.contains x=true/\xs.countP (fun y=>decide (y<x))=k)\/(xs.contains x=false/\xs.countP (fun y=>decide (y<x))=k+1):=by
 have lt:=i.lt;have lo:∀ j,j<k->xs.getD j 0<x:=fun j d=>Int.lt_of_lt_of_le (h.rise d lt) i.le
 have hi:∀ j,k+1<=j->j<xs.length->x<xs.getD j 0:=fun j b a=>by
  have g:=i.gt (by omega)
  by_cases e:j=k+1
  ·rw [e];exact g
  ·exact Int.lt_trans g (h.rise (by omega) a)
 by_cases e:xs.getD k 0=x
 ·refine .inl ⟨?_,yp (by omega) lo (fun j b a=>?_)⟩
  ·rw [List.contains_iff_mem];have:xs.getD k 0=xs[k]:=by simp [List.getD,lt]
   rw [<- e,this];exact List.getElem_mem lt
  ·by_cases l:j=k
   ·rw [l];omega
   ·have:=hi j (by omega) a;omega
 ·refine .inr ⟨?_,yp (by omega) (fun j d=>?_) (fun j b a=>?_)⟩
  ·rw [Bool.eq_false_iff];intro c;rw [List.contains_iff_mem] at c
   obtain⟨j,d,l⟩:=List.mem_iff_getElem.1 c;have f:xs.getD j 0=x:=by rw [<- l];simp [List.getD,d]
   by_cases b:j<k
   ·have:=lo j b;omega
   ·by_cases a:j=k
    ·rw [a] at f;exact e f
    ·have:=hi j (by omega) d;omega
  ·by_cases b:j<k
   ·exact lo j b
   ·have:j=k:=by omega
    rw [this];have:=i.le;omega
  ·have:=hi j b a;omega
theorem Bo (kind x:Int) (a b cx:Nat) (xs:List Int) (ys:List Nat) (w:World) (h:OkT kind xs ys) (d:VSrc w (some ⟨a,b,none⟩) a b xs.length (xV xs)) :
  Calls Tryz.prog 201 #[.slice (some ⟨a,b,none⟩) xs.length cx,.int .i64 x] w fun e c=>e=.returned (.tuple #[.int .i64 ((xs.countP fun y=>decide (y<x):Nat):Int),.bool (xs.contains x)])/\∃ q,c=w.drewN q:=by
 have i:=h.hi;have g:(xs.take xs.length).Pairwise (·<=·):=by rw [List.take_length];exact Fe h
 have:=Any.slices_BinarySearch_int Tryz.bsL a b xs.length cx xs x w (Nat.le_refl _) (by omega) (fun j f=>d.cell j f) g
 rw [List.take_length] at this
 exact this
theorem yq (x:Int) (k:Option Addr) (f g cx n:Nat) (xs:List Int) (w:World) (d:VSrc w k f g n (xV xs)) (hn:1<=n) (l:n<=256) (i:x<xs.getD 0 0\/xs.getD (n - 1) 0<x) :
  Calls Tryz.prog 179 #[.slice k n cx,.int .i64 x] w fun e r=>e=.returned (.tuple #[.int .i64 0,.int .i64 51])/\r=w:=by
 obtain rfl:=d.at_ (by omega)
 obtain⟨m,s⟩:∃ m,n=m+1:=⟨n - 1,by omega⟩
 have c:n - 1=m:=by omega
 rw [c] at i
 have q:(n:Int) - 1=(m:Int):=by omega
 have j:m<n:=by omega
 have p:0<n:=by omega
 have y:w.cell? ⟨f,g,none⟩=some (.int .i64 (xs.getD 0 0)):=d.cell 0 (by omega)
 have u:w.cell? ⟨f,g+m,none⟩=some (.int .i64 (xs.getD m 0)):=d.cell m j;clear d s c hn;generalize xs.getD 0 0=a at *
 generalize xs.getD m 0=b at *
 rcases (show x<a\/(a<=x/\b<x) by omega) with h | ⟨h,t⟩
 ·have o:decide (x<a)=true:=decide_eq_true h;clear i
  go_enter Tryz.func179,Tryz.ntmps179
  go_wp2_with fail
  go_ret2
  exact⟨rfl,rfl⟩
 ·have o:decide (x<a)=false:=decide_eq_false (by omega)
  have v:decide (b<x)=true:=decide_eq_true t;clear i
  go_enter Tryz.func179,Tryz.ntmps179
  go_wp2_with fail
  go_ret2
  exact⟨rfl,rfl⟩
theorem Bp (kind x:Int) (v:Option Addr) (d f cx n k:Nat) (xs:List Int) (ys:List Nat) (w:World) (h:OkT kind xs ys) (j:xs.length=n) (c:VSrc w v d f n (xV xs)) (A:xs.getD 0 0<=x) (z:x<=xs.getD (n - 1) 0) (o:FindR xs x k) :
  Calls Tryz.prog 179 #[.slice v n cx,.int .i64 x] w fun e s=>e=.returned (.tuple #[.int .i64 (k:Int),.int .i64 0])/\Below w.heap.size w s:=by
 have t:=h.lo;have l:=h.hi;rw [j] at t l
 obtain rfl:=c.at_ (by omega)
 have u:Hid (∀ i,i=w->Calls Tryz.prog 201 #[.slice (some ⟨d,f,none⟩) n cx,.int .i64 x] i fun e s=>e=.returned (.tuple #[.int .i64 ((xs.countP fun y=>decide (y<x):Nat):Int),.bool (xs.contains x)])/\∃ q,s=i.drewN q):=fun i E=>by
  subst E;rw [<- j] at c ⊢
  exact Bo kind x d f cx xs ys _ h c
 have G:=hideS (Ff h o);have r:=o.lt;obtain⟨m,I⟩:∃ m,n=m+1:=⟨n - 1,by omega⟩
 have g:n - 1=m:=by omega
 rw [g] at z
 have F:(n:Int) - 1=(m:Int):=by omega
 have p:m<n:=by omega
 have D:0<n:=by omega
 have N:w.cell? ⟨d,f,none⟩=some (.int .i64 (xs.getD 0 0)):=c.cell 0 (by omega)
 have L:w.cell? ⟨d,f+m,none⟩=some (.int .i64 (xs.getD m 0)):=c.cell m p;have J:decide (x<xs.getD 0 0)=false:=decide_eq_false (by omega)
 have M:decide (xs.getD m 0<x)=false:=decide_eq_false (by omega)
 rw [j] at r
 clear c I g t A z h o j;generalize xs.getD 0 0=a at *
 generalize xs.getD m 0=b at *
 generalize (xs.countP fun y=>decide (y<x))=B at *
 generalize xs.contains x=H at *
 rcases G.out with⟨rfl,rfl⟩| ⟨rfl,rfl⟩
 ·go_enter Tryz.func179,Tryz.ntmps179
  go_wp2_with fail
  refine (u.out _ rfl).mono ?_
  rintro e C ⟨rfl,q,rfl⟩
  go_wp2_with fail
  go_ret2
  exact⟨rfl,⟨rfl,rfl,rfl,Nat.le_refl _,fun _ _=>rfl⟩⟩
 ·have K:((k+1:Nat):Int) - 1=(k:Int):=by omega
  generalize ((k+1:Nat):Int)=O at *
  go_enter Tryz.func179,Tryz.ntmps179
  go_wp2_with fail
  refine (u.out _ rfl).mono ?_
  rintro e C ⟨rfl,q,rfl⟩
  go_wp2_with fail
  go_ret2
  exact⟨rfl,⟨rfl,rfl,rfl,Nat.le_refl _,fun _ _=>rfl⟩⟩
theorem nJ (kind x k E:Int) (c p:Option Addr) (d f cx s v:Nat) (xs:List Int) (ys:List Nat) (w:World) (ok:OkT kind xs ys) (h:FindO kind xs ys x k E) (j:TFl w c p d f s v xs ys) :
  Calls Tryz.prog 179 #[.slice c xs.length cx,.int .i64 x] w fun e l=>e=.returned (.tuple #[.int .i64 k,.int .i64 E])/\Below w.heap.size w l:=by
 cases h with
 | bad E h u=>
  exfalso
  cases h with
  | ok h=>exact u rfl
  | kind h=>have:=ok.k1;have:=ok.k4;omega
  | len r q h=>have:=ok.lo;have:=ok.hi;have:=ok.len;omega
  | node r q lo hi len K t bad m=>rw [ok.node K t] at bad;cases bad
 | out h n=>exact (yq x c d f cx _ xs w j.x h.lo h.hi n).mono fun e l ⟨a,b⟩=>⟨a,b▸Below.refl _ _⟩
 | at_ h g i k o y=>exact Bp kind x c d f cx _ k xs ys w h rfl j.x g i o
theorem oI {o:Option Nat} (h:NN (cn o)):o=some (cn o):=by
 cases o with
 | none=>exfalso;have:=h.nan;exact absurd this (by decide)
 | some r=>rfl
theorem yr {x y:Nat} (h:NN (sSub x y)):floatBits .sub .f64 x y=some (sSub x y):=oI h
theorem gL {x y:Nat} (h:NN (sDiv x y)):floatBits .quo .f64 x y=some (sDiv x y):=oI h
theorem yt {x y:Nat} (h:NN (sMul x y)):floatBits .mul .f64 x y=some (sMul x y):=oI h
theorem yu {x y:Nat} (h:NN (sAdd x y)):floatBits .add .f64 x y=some (sAdd x y):=oI h
structure SixF (w:World) (B:Nat) (vx vy:Value) (bx ox b2 oy k j:Nat) (x0 x1:Int) (y0 y1:Nat):Prop where
 t1:w.cell? ⟨B,1,none⟩=some vx
 t2:w.cell? ⟨B,2,none⟩=some vy
 a0:w.cell? ⟨bx,ox+k,none⟩=some (.int .i64 x0)
 a1:w.cell? ⟨bx,ox+j,none⟩=some (.int .i64 x1)
 b0:w.cell? ⟨b2,oy+k,none⟩=some (.float .f64 y0)
 b1:w.cell? ⟨b2,oy+j,none⟩=some (.float .f64 y1)
theorem Ph {w wr:World} {kind:Int} {i g:Option Addr} {b c cx e f cy k:Nat} {xs:List Int} {ys:List Nat} (h:TFl w i g b c e f xs ys) (l:ys.length=xs.length) (j:k+1<xs.length) (d:TBox w kind (.slice i xs.length cx) (.slice g ys.length cy) wr) :
  SixF wr w.heap.size (.slice (some ⟨b,c,none⟩) xs.length cx) (.slice (some ⟨e,f,none⟩) xs.length cy) b c e f k (k+1) (xs.getD k 0) (xs.getD (k+1) 0) (ys.getD k 0) (ys.getD (k+1) 0)/\i=some ⟨b,c,none⟩ /\g=some ⟨e,f,none⟩:=by
 obtain rfl:=h.x.at_ (by omega)
 obtain rfl:=h.y.at_ (by omega)
 have a:=h.below d.bl;rw [l] at d
 exact⟨⟨d.t1,d.t2,a.x.cell k (by omega),a.x.cell (k+1) j,a.y.cell k (by omega),a.y.cell (k+1) (by omega)⟩,rfl,rfl⟩
theorem Jw (kind:Int) (f g cx i j cy n k:Nat) (b a:Int) (y0 y1 u h r:Nat) (w w1:World) (l:w.alloc (.cells #[.int .i64 kind,.slice (some ⟨f,g,none⟩) n cx,.slice (some ⟨i,j,none⟩) n cy] 195)=w1) (p:SixF w1 w.heap.size (.slice (some ⟨f,g,none⟩) n cx) (.slice (some ⟨i,j,none⟩) n cy) f g i j k (k+1) b a y0 y1) (d:Below w.heap.size w w1) (q:k+1<n) (hn:n<=1000) (t:0<=b) (G:b<=109572) (y:0<=a) (M:a<=109572) (o:floatBits .sub .f64 y1 y0=some u) (H:floatOfInt .f64 (a - b)=h) (m:floatBits .quo .f64 u h=some r) :
  Calls Tryz.prog 231 #[.agg #[.int .i64 kind,.slice (some ⟨f,g,none⟩) n cx,.slice (some ⟨i,j,none⟩) n cy],.int .i64 (k:Int)] w fun e s=>e=.returned (.float .f64 r)/\Below w.heap.size w s:=by
 have z:IntKind.i64.wrap ((k:Int)+1)=(k:Int)+1:=by rw [IntKind.wrap_i64];omega
 have L:IntKind.i64.wrap (a - b)=a - b:=by rw [IntKind.wrap_i64];omega
 have I:(0:Int)<=(k:Int)+1:=by omega
 have D:(k:Int)+1<(n:Int):=by omega
 have B:(0:Int)<=(k:Int):=by omega
 have E:(k:Int)<(n:Int):=by omega
 have C:=fun w=>run_float_arith (P:=Tryz.prog) w .sub 27 .f64 y1 y0 u o
 have v:=fun w=>run_float_arith (P:=Tryz.prog) w .quo 27 .f64 u h r m
 obtain⟨x,K,F,J,N,A⟩:=p;have c:=hideS d;clear d o m
 go_enter Tryz.func231,Tryz.ntmps231
 go_wp2_with fail
 clear l
 go_quiet (fail)
 go_wp2_with fail
 go_ret
 exact⟨rfl,c.out.os,c.out.tape,c.out.output,c.out.size,c.out.block⟩
theorem Jx (kind:Int) (f d:Option Addr) (g i cx n o cy k:Nat) (xs:List Int) (ys:List Nat) (w:World) (h:OkT kind xs ys) (b:TFl w f d g i n o xs ys) (a:k+1<xs.length) :
  Calls Tryz.prog 231 #[.agg #[.int .i64 kind,.slice f xs.length cx,.slice d ys.length cy],.int .i64 (k:Int)] w fun e p=>e=.returned (.float .f64 (steepB xs ys k))/\Below w.heap.size w p:=by
 obtain⟨m,rfl,rfl⟩:=Ph b h.len a (cF w kind (.slice f xs.length cx) (.slice d ys.length cy));have q:=h.len;have l:=aq (h.node k (by omega))
 have j:=aq (h.node (k+1) a);have c:=fH h b.u a;rw [q] at m ⊢
 exact Jw kind g i cx n o cy xs.length k _ _ _ _ _ _ _ w _ rfl m (cF w kind _ _).bl a (by have:=h.hi;omega) l.1 l.2.1 j.1 j.2.1 (yr (De (aN h b.u a) (aN h b.u (by omega)))) (bE _) (gL c)
theorem yv (xs:List Int) (ys:List Nat):∀ m k,k<=m->(eG xs ys m).getD k 0=if k=0 then steepB xs ys 0 else slB (steepB xs ys (k - 1)) (steepB xs ys k)
 | 0,k,h=>by
  obtain rfl:k=0:=by omega
  rfl
 | m+1,k,h=>by
  rw [iv]
  by_cases a:k<=m
  ·rw [<- yv xs ys m k a];have:=eS xs ys m;simp [List.getD,List.getElem?_append_left (show k<(eG xs ys m).length by omega)]
  ·obtain rfl:k=m+1:=by omega
   rw [if_neg (by omega),Nat.add_sub_cancel]
   have:=eS xs ys m;simp [List.getD,this]
theorem Jy {xs:List Int} {ys:List Nat} {n k:Nat} (e:k<n):(bG xs ys n).getD k 0=if n=1 then 0 else if k=0 then steepB xs ys 0 else if k=n - 1 then steepB xs ys (n - 2) else slB (steepB xs ys (k - 1)) (steepB xs ys k):=by
 unfold bG
 by_cases a:n=1
 ·obtain rfl:k=0:=by omega
  rw [if_pos a,if_pos a];rfl
 ·rw [if_neg a,if_neg a];have d:=eS xs ys (n - 2)
  by_cases b:k=n - 1
  ·rw [if_pos b]
   by_cases c:k=0
   ·omega
   ·rw [if_neg c];simp [List.getD,List.getElem?_append_right (show (eG xs ys (n - 2)).length<=k by omega),show k - (eG xs ys (n - 2)).length=0 by omega]
  ·rw [if_neg b,<- yv xs ys (n - 2) k (by omega)]
   simp [List.getD,List.getElem?_append_left (show k<(eG xs ys (n - 2)).length by omega)]
theorem Fg (kind:Int) (a:Option Addr) (cx:Nat) (b:Value) (k:Int) (w:World) :
  Calls Tryz.prog 227 #[.agg #[.int .i64 kind,.slice a 1 cx,b],.int .i64 k] w fun e c=>e=.returned (.float .f64 0)/\Below w.heap.size w c:=by
 have d:=hideS (cF w kind (.slice a 1 cx) b)
 go_enter Tryz.func227,Tryz.ntmps227
 go_wp2_with fail
 go_ret
 exact⟨rfl,d.out.bl⟩
def Pi (w:World) (kind:Int) (c f:Value) (n:Nat) (d:Nat->Nat):Prop:=∀ a,Below w.heap.size w a->∀ k,k+1<n->Calls Tryz.prog 231 #[.agg #[.int .i64 kind,c,f],.int .i64 (k:Int)] a fun e b=>e=.returned (.float .f64 (d k))/\Below a.heap.size a b
theorem yw (kind:Int) (d:Option Addr) (cx n:Nat) (c:Value) (f:Nat->Nat) (w:World) (H:Hid (Pi w kind (.slice d n cx) c n f)) (hn:2<=n) (j:n<=256) :
  Calls Tryz.prog 227 #[.agg #[.int .i64 kind,.slice d n cx,c],.int .i64 0] w fun e g=>e=.returned (.float .f64 (f 0))/\Below w.heap.size w g:=by
 have i:=hideS (cF w kind (.slice d n cx) c);obtain⟨m,rfl⟩:∃ m,n=m+2:=⟨n - 2,by omega⟩
 have q:((m+2:Nat):Int) - 1=(m:Int)+1:=by omega
 have p:((m:Int)+1==0)=false:=beq_eq_false_iff_ne.2 (by omega)
 have l:Hid (∀ a,Below w.heap.size w a->Calls Tryz.prog 231 #[.agg #[.int .i64 kind,.slice d (m+2) cx,c],.int .i64 0] a fun e g=>e=.returned (.float .f64 (f 0))/\Below a.heap.size a g):=fun a k=>by
  have:=H.out a k 0 (by omega)
  rw [show ((0:Nat):Int)=0 from rfl] at this
  exact this
 clear H
 go_enter Tryz.func227,Tryz.ntmps227
 go_wp2_with fail
 refine (l.out _ i.out.bl).mono ?_
 rintro e o ⟨rfl,b⟩;have h:=hideS (i.out.step b);clear b
 go_wp2_with fail
 go_ret
 exact⟨rfl,h.out.bl⟩
theorem Br (kind:Int) (d:Option Addr) (cx n m:Nat) (b:Value) (f:Nat->Nat) (w:World) (H:Hid (Pi w kind (.slice d n cx) b n f)) (q:n=m+2) (h:n<=256) :
  Calls Tryz.prog 227 #[.agg #[.int .i64 kind,.slice d n cx,b],.int .i64 ((m:Int)+1)] w fun e o=>e=.returned (.float .f64 (f m))/\Below w.heap.size w o:=by
 have g:=hideS (cF w kind (.slice d n cx) b);have k:(n:Int) - 1=(m:Int)+1:=by omega
 have v:((m:Int)+1==0)=false:=beq_eq_false_iff_ne.2 (by omega)
 have p:=hideS fun j l=>H.out j l m (by omega)
 have i:((m:Int)+1) - 1=(m:Int):=by omega
 have t:IntKind.i64.wrap ((n:Int) - 1)=(m:Int)+1:=by rw [IntKind.wrap_i64];omega
 have u:IntKind.i64.wrap ((m:Int)+1 - 1)=(m:Int):=by rw [IntKind.wrap_i64];omega
 clear H q k i;generalize (m:Int)+1=r at *
 go_enter Tryz.func227,Tryz.ntmps227
 go_wp2_with fail
 refine (p.out _ g.out.bl).mono ?_
 rintro e s ⟨rfl,a⟩;have c:=hideS (g.out.step a);clear a
 go_wp2_with fail
 go_ret
 exact⟨rfl,c.out.bl⟩
structure SlT (a b s:Nat) (a0 b0 al bl:Bool):Prop where
 p1:(FloatKind.f64.format.order a 0==some .eq)=a0
 p2:(FloatKind.f64.format.order b 0==some .eq)=b0
 p3:(FloatKind.f64.format.order a 0==some .lt)=al
 p4:(FloatKind.f64.format.order b 0==some .lt)=bl
 z:(a0||b0||(al !=bl))=true->s=0
 nz:(a0||b0||(al !=bl))=false->∃ p q t,floatBits .quo .f64 4607182418800017408 a=some p/\floatBits .quo .f64 4607182418800017408 b=some q/\floatBits .add .f64 p q=some t/\floatBits .quo .f64 4611686018427387904 t=some s
theorem Pj {a b:Nat} (d:NN a) (e:NN b):∃ a0 x w bl,SlT a b (slB a b) a0 x w bl:=by
 have z:(0:Nat)<18446744073709551616:=by decide
 refine⟨_,_,_,_,rfl,rfl,rfl,rfl,?_,?_⟩
 all_goals
  rw [eI (aU d.lt) (aU z) d.nan (by decide),eI (aU e.lt) (aU z) e.nan (by decide),jB (aU d.lt) (aU z) d.nan (by decide),jB (aU e.lt) (aU z) e.nan (by decide),show ae ((0:Nat):Int)=0 by decide]
 ·intro h;unfold slB;rw [aC (by decide) d.nan,aC (by decide) e.nan,aC d.nan (by decide),aC e.nan (by decide),show ae 0=0 by decide]
  generalize ae (a:Nat)=r at *
  generalize ae (b:Nat)=s at *
  rw [if_neg];intro c;simp only [Bool.or_eq_true,Bool.and_eq_true,decide_eq_true_eq,bne_iff_ne,ne_eq,decide_eq_decide] at c h
  omega
 ·intro h;have m:((ltB 0 (a:Nat)&&ltB 0 (b:Nat))||(ltB (a:Nat) 0&&ltB (b:Nat) 0))=true:=by
   rw [aC (by decide) d.nan,aC (by decide) e.nan,aC d.nan (by decide),aC e.nan (by decide),show ae 0=0 by decide]
   generalize ae (a:Nat)=r at *
   generalize ae (b:Nat)=s at *
   simp only [Bool.or_eq_true,Bool.and_eq_true,decide_eq_true_eq,Bool.or_eq_false_iff,decide_eq_false_iff_not,bne_eq_false_iff_eq,decide_eq_decide] at h ⊢
   omega
  have f:a % 9223372036854775808≠0/\b % 9223372036854775808≠0/\sB a=sB b:=by
   rw [Bool.or_eq_true,Bool.and_eq_true,Bool.and_eq_true] at m
   rcases m with⟨p,q⟩| ⟨p,q⟩
   ·obtain⟨i,j⟩:=iC d.lt p;obtain⟨l,k⟩:=iC e.lt q;exact⟨i,l,by rw [j,k]⟩
   ·obtain⟨i,j⟩:=oG d.lt p;obtain⟨l,k⟩:=oG e.lt q;exact⟨i,l,by rw [j,k]⟩
  have g:af 4607182418800017408:=by unfold af;decide
  obtain⟨n,u⟩:=qe g (by decide) (by decide) d f.1
  obtain⟨o,v⟩:=qe g (by decide) (by decide) e f.2.1
  have t:=tf n o (by rw [u,v,f.2.2])
  refine⟨_,_,_,gL n,gL o,yu t,?_⟩
  unfold slB;rw [if_pos m];exact gL (IO t)
theorem Fh (kind:Int) (v:Option Addr) (cx n j k a b s:Nat) (a0 I H bl:Bool) (m:Value) (w:World) (K:k=j+1) (y:k+1<n) (J:n<=256) (Q:SlT a b s a0 I H bl)
  (G:Hid (∀ g,Below w.heap.size w g->Calls Tryz.prog 231 #[.agg #[.int .i64 kind,.slice v n cx,m],.int .i64 (j:Int)] g fun e o=>e=.returned (.float .f64 a)/\Below g.heap.size g o))
  (E:Hid (∀ g,Below w.heap.size w g->Calls Tryz.prog 231 #[.agg #[.int .i64 kind,.slice v n cx,m],.int .i64 (k:Int)] g fun e o=>e=.returned (.float .f64 b)/\Below g.heap.size g o)) :
  Calls Tryz.prog 227 #[.agg #[.int .i64 kind,.slice v n cx,m],.int .i64 (k:Int)] w fun e o=>e=.returned (.float .f64 s)/\Below w.heap.size w o:=by
 have h:=hideS (cF w kind (.slice v n cx) m);have e1:IntKind.i64.wrap ((n:Int) - 1)=(n:Int) - 1:=by rw [IntKind.wrap_i64];omega
 have e2:((n:Int) - 1==0)=false:=beq_eq_false_iff_ne.2 (by omega)
 have e3:((k:Int)==0)=false:=beq_eq_false_iff_ne.2 (by omega)
 have X:((k:Int)==(n:Int) - 1)=false:=beq_eq_false_iff_ne.2 (by omega)
 have Y:IntKind.i64.wrap ((k:Int) - 1)=(j:Int):=by rw [IntKind.wrap_i64];omega
 obtain⟨U,t2,Z,V,f,c⟩:=Q;have B:=hideS (And.intro f c);clear K y f c;obtain⟨z,i⟩:∃ z,w.alloc (.cells #[.int .i64 kind,.slice v n cx,m] 195)=z:=⟨_,rfl⟩;rw [i] at h
 have O:=h.out.t0;have L:=h.out.t1;have S:=h.out.t2
 go_enter Tryz.func227,Tryz.ntmps227
 go_wp2_with fail
 clear i
 go_region_with (first | (go_at_call_of 231 (Value.int IntKind.i64 (j:Int));refine (G.out _ h.out.bl.drew).mono ?_;rintro e W ⟨rfl,l⟩;have d:=hideS ((h.out.drewN 1).step l);have R:=d.out.t0;have M:=d.out.t1;have N:=d.out.t2;clear l) | (go_at_call 231;refine (E.out _ d.out.bl).mono ?_;rintro e w2 ⟨rfl,x⟩;have r:=hideS (d.out.step x);clear x))
 all_goals
  obtain⟨f,c⟩:=B.out;have u:=hideS r.out.bl;clear h d r G E B O L S R M N;cases a0 with
  | true=>
   obtain rfl:=f rfl;clear c f
   go_wp2_with fail
   go_ret
   exact⟨rfl,u.out⟩
  | false=>
   cases I with
   | true=>
    obtain rfl:=f rfl;clear c f
    go_wp2_with fail
    go_ret
    exact⟨rfl,u.out⟩
   | false=>
    cases H<;>cases bl
    case false.true=>
     obtain rfl:=f rfl;clear c f
     go_wp2_with fail
     go_ret
     exact⟨rfl,u.out⟩
    case true.false=>
     obtain rfl:=f rfl;clear c f
     go_wp2_with fail
     go_ret
     exact⟨rfl,u.out⟩
    all_goals
     obtain⟨p,q,t,D,A,F,C⟩:=c rfl;have r1:=fun w=>run_float_arith (P:=Tryz.prog) w .quo 27 .f64 _ _ _ D
     have T:=fun w=>run_float_arith (P:=Tryz.prog) w .quo 27 .f64 _ _ _ A
     have r3:=fun w=>run_float_arith (P:=Tryz.prog) w .add 27 .f64 _ _ _ F
     have r4:=fun w=>run_float_arith (P:=Tryz.prog) w .quo 27 .f64 _ _ _ C
     clear c f D A F C
     go_wp2_with fail
     go_ret
     exact⟨rfl,u.out⟩
theorem Fi (kind:Int) (a d:Option Addr) (n o cx q r cy k:Nat) (xs:List Int) (ys:List Nat) (w:World) (h:OkT kind xs ys) (l:TFl w a d n o q r xs ys) (g:k<xs.length) :
  Calls Tryz.prog 227 #[.agg #[.int .i64 kind,.slice a xs.length cx,.slice d ys.length cy],.int .i64 (k:Int)] w fun e y=>e=.returned (.float .f64 ((bG xs ys xs.length).getD k 0))/\Below w.heap.size w y:=by
 have C:=h.lo;have i:=h.hi;have H:Hid (Pi w kind (.slice a xs.length cx) (.slice d ys.length cy) xs.length (steepB xs ys)):=fun b c k g=>Jx kind a d n o cx q r cy k xs ys b h (l.below c) g
 rw [Jy g]
 by_cases j:xs.length=1
 ·rw [if_pos j,j];exact Fg kind a cx _ _ w
 ·rw [if_neg j]
  by_cases f:k=0
  ·rw [if_pos f];subst f;exact yw kind a cx _ _ _ w H (by omega) i
  ·rw [if_neg f]
   by_cases p:k=xs.length - 1
   ·rw [if_pos p];obtain⟨m,A⟩:∃ m,xs.length=m+2:=⟨xs.length - 2,by omega⟩
    have x:(k:Int)=(m:Int)+1:=by omega
    have t:xs.length - 2=m:=by omega
    rw [x,t];exact Br kind a cx _ m _ _ w H A i
   ·rw [if_neg p];obtain⟨v,B,z,bl,s⟩:=Pj (fH h l.u (k:=k - 1) (by omega)) (fH h l.u (k:=k) (by omega))
    exact Fh kind a cx _ (k - 1) k _ _ _ v B z bl _ w (by omega) (by omega) i s (fun b c=>H.out b c (k - 1) (by omega)) (fun b c=>H.out b c k (by omega))
def qS (x:Nat):Bool:=aM (x:Nat)&&ltB 0 (x:Nat)
theorem Kb {x:Nat} (h:x<18446744073709551616) (a:ltB 0 (x:Nat)=true):x<9223372036854775808/\ah (x:Nat)=false:=by
 obtain⟨_,b⟩:=iC h a;unfold sB at b
 refine⟨by have:=of_decide_eq_false b;omega,?_⟩
 unfold ltB at a
 simp only [Bool.and_eq_true,Bool.not_eq_true',decide_eq_true_eq] at a
 exact a.1.2
theorem vK (x:Nat) (w:World) (h:x<18446744073709551616) :
  Calls Tryz.prog 78 #[.float .f64 x] w fun e i=>e=.returned (.bool (qS x))/\i=w:=by
 have c:=ogt h (show (0:Nat)<18446744073709551616 by decide)
 have b:ltB ((0:Nat):Int) (x:Nat)=ltB 0 (x:Nat):=rfl;rw [b] at c
 unfold qS;cases a:ltB 0 (x:Nat) with
 | false=>
  rw [a] at c
  rw [Bool.and_false];clear a h b
  go_enter Tryz.func78,Tryz.ntmps78
  go_wp2
  go_ret
  exact⟨rfl,rfl⟩
 | true=>
  rw [a] at c
  obtain⟨f,d⟩:=Kb h a;have hi:=qs d;rw [Nat.mod_eq_of_lt f] at hi
  have H:=hideS fun w=>mS x _ w hi
  rw [Bool.and_true];generalize aM (x:Nat)=g at *
  clear a h b hi f d;cases g
  all_goals
   go_enter Tryz.func78,Tryz.ntmps78
   go_wp2_with (go_at_call 71;refine (H.out _).mono ?_;rintro e j ⟨rfl,rfl⟩)
   go_ret
   exact⟨rfl,rfl⟩
def dyB (base:Int) (a:List Int) (i:Nat):Bool:=decide (a.getD i 0<=du base a i)||decide (109572<a.getD i 0)
theorem Kc (base:Int) (p:Option Addr) (n c:Nat) (w:World) (h:n<1\/255<n) :
  Calls Tryz.prog 51 #[.int .i64 base,.slice p n c] w fun e a=>e=.returned (.bool false)/\a=w:=by
 rcases h with h | h
 ·have b:decide ((n:Int)<1)=true:=decide_eq_true (by omega)
  clear h
  go_enter Tryz.func51,Tryz.ntmps51
  go_wp2
  go_ret
  exact⟨rfl,rfl⟩
 ·have b:decide ((n:Int)<1)=false:=decide_eq_false (by omega)
  have d:decide ((255:Int)<n)=true:=decide_eq_true (by omega)
  clear h
  go_enter Tryz.func51,Tryz.ntmps51
  go_wp2
  go_ret
  exact⟨rfl,rfl⟩
theorem FD (base:Int) (p:Option Addr) (b off c n K:Nat) (xs:List Int) (w:World) (m:VSrc w p b off n (xV xs)) (hn:1<=n) (u:n<=255) (H:K<=n) (a:∀ i<K,dyB base xs i=false) (d:K<n->dyB base xs K=true) :
  Calls Tryz.prog 51 #[.int .i64 base,.slice p n c] w fun e C=>e=.returned (.bool (decide (n<=K)))/\C=w:=by
 obtain⟨g,j⟩:∃ g,decide (n<=K)=g:=⟨_,rfl⟩;rw [j];have z:Hid (K<n->g=false):=fun B=>by rw [<- j];exact decide_eq_false (by omega)
 have D:Hid (K=n->g=true):=fun B=>by rw [<- j];exact decide_eq_true (by omega)
 clear j;have t:=hideS m;have F:=hideS a;have A:=hideS d;obtain rfl:=m.at_ (by omega)
 have v:decide ((n:Int)<1)=false:=decide_eq_false (by omega)
 have E:decide ((255:Int)<n)=false:=decide_eq_false (by omega)
 clear m a d
 go_enter Tryz.func51,Tryz.ntmps51
 go_wp2_with fail
 clear v E
 go_loop [5,7,19] (fun l _ i=>∃ k:Nat,k<=K/\i=.int .i64 k/\l=.int .i64 (du base xs k)) (fun _ _ i=>n - (intOf i).toNat)
 case atStart=>exact⟨0,Nat.zero_le _,rfl,rfl⟩
 case round=>
  obtain⟨k,G,rfl,rfl⟩:=hrel
  by_cases o:k<K
  ·have r:k<n:=by omega
   have c1:w.cell? ⟨b,off+k,none⟩=some (.int .i64 (xs.getD k 0)):=t.out.cell k r;have f:=F.out k o;unfold dyB at f
   rw [Bool.or_eq_false_iff] at f
   obtain⟨s,I⟩:=f;have x:=hideS (show du base xs (k+1)=xs.getD k 0 from rfl)
   generalize du base xs k=l at *
   generalize xs.getD k 0=y at *
   go_wp2_with fail
   go_round
   case rel=>exact⟨k+1,by omega,by simp,by rw [x.out]⟩
   case measure=>simp [intOf];omega
  ·obtain rfl:k=K:=by omega
   by_cases q:k<n
   ·have c1:w.cell? ⟨b,off+k,none⟩=some (.int .i64 (xs.getD k 0)):=t.out.cell k q;have f:=A.out q;unfold dyB at f
    have h:=hideS (z.out q);generalize du base xs k=l at *
    generalize xs.getD k 0=y at *
    cases s:decide (y<=l)
    ·rw [s,Bool.false_or] at f
     go_wp2_with fail
     go_ret
     exact⟨by rw [h.out]<;>rfl,rfl⟩
    ·clear f
     go_wp2_with fail
     go_ret
     exact⟨by rw [h.out]<;>rfl,rfl⟩
   ·obtain rfl:k=n:=by omega
    have h:=hideS (D.out rfl)
    go_wp2_with fail
    go_ret
    exact⟨by rw [h.out]<;>rfl,rfl⟩
theorem vL (p:Option Addr) (b off c n K:Nat) (ys:List Nat) (w:World) (s:VSrc w p b off n (flV ys)) (q:∀ i<n,ys.getD i 0<18446744073709551616) (t:n<=255) (D:K<=n) (a:∀ i<K,qS (ys.getD i 0)=true) (d:K<n->qS (ys.getD K 0)=false) :
  Calls Tryz.prog 52 #[.slice p n c] w fun e o=>e=.returned (.bool (decide (n<=K)))/\o=w:=by
 obtain⟨g,f⟩:∃ g,decide (n<=K)=g:=⟨_,rfl⟩;rw [f];have v:Hid (K<n->g=false):=fun z=>by rw [<- f];exact decide_eq_false (by omega)
 have A:Hid (K=n->g=true):=fun z=>by rw [<- f];exact decide_eq_true (by omega)
 clear f;have r:=hideS s;have B:=hideS a;have x:=hideS d;have u:=hideS q;clear s a d q
 go_enter Tryz.func52,Tryz.ntmps52
 go_wp2_with fail
 go_loop [4,7] (fun _ i=>∃ k:Nat,k<=K/\i=.int .i64 k) (fun _ i=>n - (intOf i).toNat)
 case atStart=>exact⟨0,Nat.zero_le _,rfl⟩
 case round=>
  obtain⟨k,C,rfl⟩:=hrel
  by_cases h:k<n
  ·have c1:w.cell? ⟨b,off+k,none⟩=some (.float .f64 (ys.getD k 0)):=r.out.cell k h;obtain rfl:=r.out.at_ (by omega)
   have j:=hideS fun w=>vK (ys.getD k 0) w (u.out k h)
   by_cases m:k<K
   ·rw [B.out k m] at j
    generalize ys.getD k 0=y at *
    go_wp2_with (go_at_call 78;refine (j.out _).mono ?_;rintro e o ⟨rfl,rfl⟩)
    go_round
    case rel=>exact⟨k+1,by omega,by simp⟩
    case measure=>simp [intOf];omega
   ·obtain rfl:k=K:=by omega
    rw [x.out h] at j
    have l:=hideS (v.out h);generalize ys.getD k 0=y at *
    go_wp2_with (go_at_call 78;refine (j.out _).mono ?_;rintro e o ⟨rfl,rfl⟩)
    go_ret
    exact⟨by rw [l.out]<;>rfl,rfl⟩
  ·obtain rfl:k=n:=by omega
   obtain rfl:K=k:=by omega
   have l:=hideS (A.out rfl)
   go_wp2_with fail
   go_ret
   exact⟨by rw [l.out]<;>rfl,rfl⟩
theorem Kd (base:Int) (d:Option Addr) (f k cx:Nat) (xs:List Int):∃ g:Bool,(g=true↔(1<=xs.length/\xs.length<=255/\∀ i<xs.length,dyB base xs i=false))/\∀ w,VSrc w d f k xs.length (xV xs)->Calls Tryz.prog 51 #[.int .i64 base,.slice d xs.length cx] w fun e n=>e=.returned (.bool g)/\n=w:=by
 by_cases q:xs.length<1\/255<xs.length
 ·exact⟨false,⟨fun h=>by simp at h,fun⟨a,b,_⟩=>by omega⟩,fun w _=>Kc base d _ cx w q⟩
 ·obtain⟨K,o,l,j⟩:=jm (p:=dyB base xs) xs.length;refine⟨decide (xs.length<=K),⟨fun h=>⟨by omega,by omega,fun i hi=>l i (by have:=of_decide_eq_true h;omega)⟩,fun⟨_,_,h⟩=>decide_eq_true (Classical.byContradiction fun c=>?_)⟩,fun w m=>FD base d f k cx _ K xs w m (by omega) (by omega) o l j⟩
  have:=j (by omega)
  rw [h K (by omega)] at this
  cases this
theorem yX (d:Option Addr) (f j cy:Nat) (ys:List Nat) (hn:ys.length<=255) (m:∀ i<ys.length,ys.getD i 0<18446744073709551616):∃ g:Bool,(g=true↔∀ i<ys.length,qS (ys.getD i 0)=true)/\∀ w,VSrc w d f j ys.length (flV ys)->Calls Tryz.prog 52 #[.slice d ys.length cy] w fun e o=>e=.returned (.bool g)/\o=w:=by
 obtain⟨K,q,n,k⟩:=jm (p:=fun i=>!qS (ys.getD i 0)) ys.length
 have a:∀ i<K,qS (ys.getD i 0)=true:=fun i hi=>by have:=n i hi;simpa using this
 have b:K<ys.length->qS (ys.getD K 0)=false:=fun hi=>by have:=k hi;simpa using this
 refine⟨decide (ys.length<=K),⟨fun h i hi=>a i (by have:=of_decide_eq_true h;omega),fun h=>decide_eq_true (Classical.byContradiction fun c=>?_)⟩,fun w l=>vL d f j cy _ K ys w l m hn q a b⟩
 have:=b (by omega)
 rw [h K (by omega)] at this
 cases this
theorem nodC_two {base:Int} {e:List Int} {f:List Nat} {i:Nat}:kM base e f i=false↔dyB base e i=false/\qS (f.getD i 0)=true:=by
 unfold kM dyB qS;generalize aM (f.getD i 0:Nat)=a;generalize ltB 0 (f.getD i 0:Nat)=b;generalize decide (e.getD i 0<=du base e i)=c;generalize decide (109572<e.getD i 0)=d;cases a<;>cases b<;>cases c<;>cases d<;>decide
theorem sk (base kind:Int) (f d:Value) (w:World) (h:base<0\/109572<base) :
  Calls Tryz.prog 37 #[.agg #[.int .i64 base,.int .i64 kind,f,d]] w fun e g=>e=.returned (.int .i64 51)/\Below w.heap.size w g:=by
 have c:=hideS (bH w base kind f d);rcases (show base<0\/(0<=base/\109572<base) by omega) with a | ⟨a,b⟩
 ·have i:decide (base<0)=true:=decide_eq_true a;clear h a
  go_enter Tryz.func37,Tryz.ntmps37
  go_wp2_with fail
  go_ret
  exact⟨rfl,c.out.bl⟩
 ·have i:decide (base<0)=false:=decide_eq_false (by omega)
  have j:decide (109572<base)=true:=decide_eq_true b;clear h a b
  go_enter Tryz.func37,Tryz.ntmps37
  go_wp2_with fail
  go_ret
  exact⟨rfl,c.out.bl⟩
theorem sn (base kind:Int) (f d:Value) (w:World) (m:0<=base) (n:base<=109572) (h:kind<1\/4<kind) :
  Calls Tryz.prog 37 #[.agg #[.int .i64 base,.int .i64 kind,f,d]] w fun e g=>e=.returned (.int .i64 90)/\Below w.heap.size w g:=by
 have c:=hideS (bH w base kind f d);have j:decide (base<0)=false:=decide_eq_false (by omega)
 have l:decide (109572<base)=false:=decide_eq_false (by omega)
 rcases (show kind<1\/(1<=kind/\4<kind) by omega) with a | ⟨a,b⟩
 ·have i:decide (kind<1)=true:=decide_eq_true a;clear h a
  go_enter Tryz.func37,Tryz.ntmps37
  go_wp2_with fail
  go_ret
  exact⟨rfl,c.out.bl⟩
 ·have i:decide (kind<1)=false:=decide_eq_false (by omega)
  have k:decide (4<kind)=true:=decide_eq_true b;clear h a b
  go_enter Tryz.func37,Tryz.ntmps37
  go_wp2_with fail
  go_ret
  exact⟨rfl,c.out.bl⟩
theorem yY (base kind:Int) (d b cx cy:Nat) (q n:Option Addr) (l o:Bool) (w:World) (u:0<=base) (r:base<=109572) (t:1<=kind) (s:kind<=4)
  (k:Hid (∀ f,Below w.heap.size w f->Calls Tryz.prog 51 #[.int .i64 base,.slice q d cx] f fun e j=>e=.returned (.bool l)/\j=f))
  (m:Hid (l=true->d=b->∀ f,Below w.heap.size w f->Calls Tryz.prog 52 #[.slice n b cy] f fun e j=>e=.returned (.bool o)/\j=f)) :
  Calls Tryz.prog 37 #[.agg #[.int .i64 base,.int .i64 kind,.slice q d cx,.slice n b cy]] w fun e j=>e=.returned (.int .i64 (if l=true/\d=b/\o=true then 0 else 100))/\Below w.heap.size w j:=by
 have a:=hideS (bH w base kind (.slice q d cx) (.slice n b cy));have v:decide (base<0)=false:=decide_eq_false (by omega)
 have y:decide (109572<base)=false:=decide_eq_false (by omega)
 have z:decide (kind<1)=false:=decide_eq_false (by omega)
 have x:decide (4<kind)=false:=decide_eq_false (by omega)
 clear u r t s;cases l with
 | false=>
  rw [if_neg (by simp)]
  clear m
  go_enter Tryz.func37,Tryz.ntmps37
  go_wp2_with (first | (go_at_call 51;refine (k.out _ a.out.bl).mono ?_;rintro e h ⟨rfl,rfl⟩))
  go_ret
  exact⟨rfl,a.out.bl⟩
 | true=>
  by_cases g:d=b
  ·have p:((b:Int) !=(d:Int))=false:=by rw [g];simp
   have i:=hideS (m.out rfl g);clear m;cases o with
   | false=>
    rw [if_neg (by simp)]
    clear g
    go_enter Tryz.func37,Tryz.ntmps37
    go_wp2_with (first | (go_at_call 51;refine (k.out _ a.out.bl).mono ?_;rintro e h ⟨rfl,rfl⟩) | (go_at_call 52;refine (i.out _ a.out.bl).mono ?_;rintro e h ⟨rfl,rfl⟩))
    go_ret
    exact⟨rfl,a.out.bl⟩
   | true=>
    rw [if_pos ⟨rfl,g,rfl⟩];clear g
    go_enter Tryz.func37,Tryz.ntmps37
    go_wp2_with (first | (go_at_call 51;refine (k.out _ a.out.bl).mono ?_;rintro e h ⟨rfl,rfl⟩) | (go_at_call 52;refine (i.out _ a.out.bl).mono ?_;rintro e h ⟨rfl,rfl⟩))
    go_ret
    exact⟨rfl,a.out.bl⟩
  ·have p:((b:Int) !=(d:Int))=true:=by simp;omega
   rw [if_neg (fun c=>g c.2.1)]
   clear m g
   go_enter Tryz.func37,Tryz.ntmps37
   go_wp2_with (first | (go_at_call 51;refine (k.out _ a.out.bl).mono ?_;rintro e h ⟨rfl,rfl⟩))
   go_ret
   exact⟨rfl,a.out.bl⟩
theorem dA (base kind:Int) (z o:Option Addr) (bd R F N J A:Nat) (g:List Int) (d:List Nat) (w:World) (M:TFl w z o bd R N J g d) {E:Int} (t:CurR base kind g d E) :
  Calls Tryz.prog 37 #[.agg #[.int .i64 base,.int .i64 kind,.slice z g.length F,.slice o d.length A]] w fun e v=>e=.returned (.int .i64 E)/\Below w.heap.size w v:=by
 have u:0<=base->base<=109572->1<=kind->kind<=4->∀ E,CurR base kind g d E->(E=0\/E=100)->Calls Tryz.prog 37 #[.agg #[.int .i64 base,.int .i64 kind,.slice z g.length F,.slice o d.length A]] w fun e v=>e=.returned (.int .i64 E)/\Below w.heap.size w v:=fun k j S Q E h t=>by
  obtain⟨G,H,c1⟩:=Kd base z bd R F g;have U:∃ n:Bool,(G=true->g.length=d.length->(n=true↔∀ i<d.length,qS (d.getD i 0)=true))/\(G=true->g.length=d.length->∀ w,VSrc w o N J d.length (flV d)->Calls Tryz.prog 52 #[.slice o d.length A] w fun e v=>e=.returned (.bool n)/\v=w):=by
   by_cases T:d.length<=255
   ·obtain⟨n,D,c2⟩:=yX o N J A d T M.f;exact⟨n,fun _ _=>D,fun _ _=>c2⟩
   ·exact⟨false,fun a b=>by have:=(H.1 a).2.1;omega,fun a b=>by have:=(H.1 a).2.1;omega⟩
  obtain⟨n,D,c2⟩:=U;have:=yY base kind g.length d.length F A z o G n w k j S Q (fun L B=>c1 L (M.x.below B)) (fun a b L B=>c2 a b L (M.y.below B))
  refine this.mono fun e v ⟨V,B⟩=>⟨?_,B⟩
  rw [V]
  by_cases C:G=true/\g.length=d.length/\n=true
  ·have ok:OkV base kind g d:=by
    obtain⟨a,b,c⟩:=C;have p:=H.1 a;have q:=(D a b).1 c;exact⟨k,j,S,Q,p.1,p.2.1,b.symm,fun i hi=>nodC_two.2 ⟨p.2.2 i hi,q i (by omega)⟩⟩
   have P:E=0:=by
    cases h with
    | ok h=>rfl
    | base h=>omega
    | kind _ _ h=>omega
    | len _ _ s r h=>have:=ok.lo;have:=ok.hi;have:=ok.len;omega
    | node _ _ s r lo hi len K O l m=>rw [ok.node K O] at l;cases l
   rw [if_pos C,P]
  ·have I:E=100:=by
    rcases t with t | t
    ·exfalso;apply C
     rw [t] at h
     have ok:=jR h;have a:=H.2 ⟨ok.lo,ok.hi,fun i hi=>(nodC_two.1 (ok.node i hi)).1⟩
     exact⟨a,ok.len.symm,(D a ok.len.symm).2 (fun i hi=>(nodC_two.1 (ok.node i (by rw [<- ok.len];exact hi))).2)⟩
    ·exact t
   rw [if_neg C,I]
 cases t with
 | base h=>exact sk base kind _ _ w h
 | kind k j h=>exact sn base kind _ _ w k j h
 | ok h=>exact u h.b0 h.b1 h.k1 h.k4 0 (.ok h) (.inl rfl)
 | len k j s r h=>exact u k j s r 100 (.len k j s r h) (.inr rfl)
 | node k j s r lo hi len K O l m=>exact u k j s r 100 (.node k j s r lo hi len K O l m) (.inr rfl)
theorem PK (base kind:Int) (b d:Option Addr) (i j cx k m cy:Nat) (xs:List Int) (ys:List Nat) (w:World) (f:TFl w b d i j k m xs ys) (n:ys.length<=17592186043904) :
  Calls Tryz.prog 10 #[.agg #[.int .i64 base,.int .i64 kind,.slice b xs.length cx,.slice d ys.length cy]] w fun e h=>∃ p g c,e=.returned (.agg #[.int .i64 base,.int .i64 kind,.slice b xs.length cx,.slice p ys.length c])/\CSrcD h b p i j g 0 xs ys/\Below w.heap.size w h:=by
 refine (yS base kind k m cx cy xs.length ys.length b d ys w f.y rfl n).mono fun e h ⟨v,s,r,l⟩=>?_
 obtain⟨p,g,c,rfl,a,t,o,q⟩:=bq r rfl;exact⟨p,g,c,s,⟨f.x.below l,⟨a.at_,a.lt,a.cell⟩,f.u⟩,l⟩
structure SmB (w:World) (base kind:Int) (vx vy ux uy:Value) (wr:World):Prop where
 t0:wr.cell? ⟨w.heap.size,0,none⟩=some (.int .i64 base)
 t1:wr.cell? ⟨w.heap.size,1,none⟩=some (.int .i64 kind)
 t2:wr.cell? ⟨w.heap.size,2,none⟩=some vx
 t3:wr.cell? ⟨w.heap.size,3,none⟩=some vy
 d0:wr.cell? ⟨w.heap.size+1,0,none⟩=some (.int .i64 base)
 d1:wr.cell? ⟨w.heap.size+1,1,none⟩=some (.int .i64 kind)
 d2:wr.cell? ⟨w.heap.size+1,2,none⟩=some ux
 d3:wr.cell? ⟨w.heap.size+1,3,none⟩=some uy
 bl:Below w.heap.size w wr
theorem SmB.drewN {w wr:World} {base kind:Int} {b c d a:Value} (h:SmB w base kind b c d a wr) (q:Nat):SmB w base kind b c d a (wr.drewN q):=
 ⟨h.t0,h.t1,h.t2,h.t3,h.d0,h.d1,h.d2,h.d3,⟨h.bl.os,h.bl.tape,h.bl.output,h.bl.size,h.bl.block⟩⟩
theorem TFl.drewN {w:World} {d a:Option Addr} {b c g e:Nat} {xs:List Int} {ys:List Nat} (h:TFl w d a b c g e xs ys) (q:Nat):TFl (w.drewN q) d a b c g e xs ys:=⟨⟨h.x.at_,h.x.lt,h.x.cell⟩,⟨h.y.at_,h.y.lt,h.y.cell⟩,h.f⟩
theorem CSrcD.drewN {w:World} {i c:Option Addr} {bd a g b:Nat} {e:List Int} {j:List Nat} (h:CSrcD w i c bd a g b e j) (q:Nat):CSrcD (w.drewN q) i c bd a g b e j:=⟨⟨h.d.at_,h.d.lt,h.d.cell⟩,⟨h.f.at_,h.f.lt,h.f.cell⟩,h.u⟩
end Go.Proofs.YtfdddijdjpijbaaGreat
