/-  -/
import Derived.Test.YtfdddijdjpijbaaGreatHbl
import Derived.Test.YtfdddijdjpijbaaGreatBShelf
import Derived.Test.YtfdddijdjpijbaaGreatHar
import Derived.Deep.RegionHeld3
import Derived.Laws.FloatArith
import Derived.Test.YtfdddijdjpijbaaGreatHat
import Derived.Test.YtfdddijdjpijbaaGreatHas
import Derived.Test.YtfdddijdjpijbaaGreatHav
import Derived.Deep.QuietTactic
set_option maxHeartbeats 3200000
set_option maxRecDepth 20000
namespace Go.Proofs.YtfdddijdjpijbaaGreat
open Go.RowKit
structure TFl (w:World) (px py:Option Addr) (bx ox b2 oy:Nat) (xs:List Int) (ys:List Nat):Prop where
 x:VSrc w px bx ox xs.length (xV xs)
 y:VSrc w py b2 oy ys.length (flV ys)
 f:∀ i<ys.length,ys.getD i 0<18446744073709551616
theorem TFl.below {w b:World} {e j:Option Addr} {i a d g:Nat} {xs:List Int} {ys:List Nat} (h:TFl w e j i a d g xs ys) (c:Below w.heap.size w b):TFl b e j i a d g xs ys:=⟨h.x.below c,h.y.below c,h.f⟩
theorem TFl.u {w:World} {c g:Option Addr} {e a b d:Nat} {xs:List Int} {ys:List Nat} (h:TFl w c g e a b d xs ys):∀ i<ys.length,U64 (ys.getD i 0:Nat):=fun i hi=>aU (h.f i hi)
theorem jm {p:Nat->Bool} (n:Nat):∃ K≤n,(∀ i<K,p i=false)/\(K<n->p K=true):=by
 by_cases h:∃ i<n,p i=true
 ·obtain⟨k,e,a,b⟩:=eM n h;exact⟨k,by omega,b,fun _=>a⟩
 ·exact⟨n,Nat.le_refl _,fun i hi=>by
   cases d:p i
   ·rfl
   ·exact absurd ⟨i,hi,d⟩ h,fun c=>absurd c (Nat.lt_irrefl _)⟩
theorem Bk (d:Option Addr) (j k cx:Nat) (xs:List Int):∃ g:Bool,(g=true↔(1<=xs.length/\xs.length<=256/\∀ i<xs.length,plB xs i=false))/\∀ w,VSrc w d j k xs.length (xV xs)->Calls Tryz.prog 199 #[.slice d xs.length cx] w fun e o=>e=.returned (.bool g)/\o=w:=by
 by_cases q:xs.length<1\/256<xs.length
 ·exact⟨false,⟨fun h=>by simp at h,fun⟨a,b,_⟩=>by omega⟩,fun w _=>Bj d _ cx w q⟩
 ·obtain⟨K,m,l,f⟩:=jm (p:=plB xs) xs.length;refine⟨decide (xs.length<=K),⟨fun h=>⟨by omega,by omega,fun i hi=>l i (by have:=of_decide_eq_true h;omega)⟩,fun⟨_,_,h⟩=>decide_eq_true (Classical.byContradiction fun c=>?_)⟩,fun w n=>yg d j k cx _ K xs w n (by omega) (by omega) m l f⟩
  have:=f (by omega)
  rw [h K (by omega)] at this
  cases this
theorem Bm (kind:Int) (a:Option Addr) (j d cy:Nat) (ys:List Nat) (hn:ys.length<=256) (m:∀ i<ys.length,ys.getD i 0<18446744073709551616):∃ g:Bool,(g=true↔∀ i<ys.length,vlB kind ys i=false)/\∀ w,VSrc w a j d ys.length (flV ys)->Calls Tryz.prog 200 #[.int .i64 kind,.slice a ys.length cy] w fun e n=>e=.returned (.bool g)/\n=w:=by
 obtain⟨K,k,f,b⟩:=jm (p:=vlB kind ys) ys.length;refine⟨decide (ys.length<=K),⟨fun h i hi=>f i (by have:=of_decide_eq_true h;omega),fun h=>decide_eq_true (Classical.byContradiction fun c=>?_)⟩,fun w l=>yj kind a j d cy _ K ys w l m hn k f b⟩
 have:=b (by omega)
 rw [h K (by omega)] at this
 cases this
theorem Jt (xs:List Int):prv xs 0= -1:=rfl
theorem yk (xs:List Int) (k:Nat):prv xs (k+1)=xs.getD k 0:=rfl
theorem Ju {kind:Int} {xs:List Int} {ys:List Nat} (h:∀ i<xs.length,eF kind xs ys i=false):(∀ i<xs.length,plB xs i=false)/\∀ i<xs.length,vlB kind ys i=false:=by
 refine⟨fun i hi=>?_,fun i hi=>?_⟩
 ·obtain⟨a,b,c,_,_⟩:=aq (h i hi);unfold plB;rw [Bool.or_eq_false_iff,decide_eq_false_iff_not,decide_eq_false_iff_not];refine⟨?_,by omega⟩
  cases i with
  | zero=>show ¬ xs.getD 0 0<=-1;omega
  | succ i=>
   have:=c (by omega)
   show ¬ xs.getD (i+1) 0<=xs.getD i 0
   rw [Nat.add_sub_cancel] at this
   omega
 ·obtain⟨_,_,_,d,e⟩:=aq (h i hi);unfold vlB;rw [d]
  by_cases f:kind=4
  ·rw [e f];simp
  ·rw [decide_eq_false f];rfl
theorem Jv {kind:Int} {xs:List Int} {ys:List Nat} (c:∀ i<xs.length,plB xs i=false) (f:∀ i<xs.length,vlB kind ys i=false):∀ i<xs.length,eF kind xs ys i=false:=fun i hi=>by
 have pos:∀ j,j<xs.length->0<=xs.getD j 0:=fun j=>by
  induction j with
  | zero=>intro d;have:=c 0 d;unfold plB at this;rw [Bool.or_eq_false_iff,decide_eq_false_iff_not,Jt] at this;have:=this.1;omega
  | succ j e=>intro d;have:=c _ d;have g:=e (by omega);unfold plB at this;rw [Bool.or_eq_false_iff,decide_eq_false_iff_not,yk] at this;have:=this.1;omega
 have a:=c i hi;have b:=f i hi;have p:=pos i hi;unfold plB at a
 unfold vlB at b
 rw [Bool.or_eq_false_iff,decide_eq_false_iff_not,decide_eq_false_iff_not] at a
 rw [Bool.or_eq_false_iff] at b
 unfold eF;rw [decide_eq_false (by omega),decide_eq_false a.2,b.1,b.2]
 cases i with
 | zero=>rfl
 | succ i=>
  have:=a.1;rw [yk] at this
  rw [Nat.add_sub_cancel,decide_eq_false this];simp
theorem MM (w:World):(binOp .eql 213 .nilFunc .nilFunc).run Tryz.prog w=.ok (.bool true) w:=by kernel_rfl
theorem Pg (F:Nat) (w:World):(binOp .eql 213 (.func (.func F) #[] #[]) .nilFunc).run Tryz.prog w=.ok (.bool false) w:=by kernel_rfl
theorem yl (kind:Int) (c b:Value) (w:World) (HK:Hid (∀ d,Calls Tryz.prog 198 #[.int .i64 kind] d fun e a=>e=.returned .nilFunc/\a=d)) :
  Calls Tryz.prog 178 #[.agg #[.int .i64 kind,c,b]] w fun e a=>e=.returned (.tuple #[.nilFunc,.int .i64 90])/\Below w.heap.size w a:=by
 have f:=hideS (cF w kind c b);have g:=MM
 go_enter Tryz.func178,Tryz.ntmps178
 go_wp2_with (go_at_call 198;refine (HK.out _).mono ?_;rintro e h ⟨rfl,rfl⟩)
 go_ret2
 exact⟨rfl,f.out.bl⟩
theorem Fd (kind:Int) (F f g cx cy:Nat) (q o:Option Addr) (k n:Bool) (w:World) (HK:Hid (∀ b,Calls Tryz.prog 198 #[.int .i64 kind] b fun e h=>e=.returned (.func (.func F) #[] #[])/\h=b))
  (m:Hid (∀ b,Below w.heap.size w b->Calls Tryz.prog 199 #[.slice q f cx] b fun e h=>e=.returned (.bool k)/\h=b))
  (l:Hid (k=true->f=g->∀ b,Below w.heap.size w b->Calls Tryz.prog 200 #[.int .i64 kind,.slice o g cy] b fun e h=>e=.returned (.bool n)/\h=b)) :
  Calls Tryz.prog 178 #[.agg #[.int .i64 kind,.slice q f cx,.slice o g cy]] w fun e h=>e=.returned (if k=true/\f=g/\n=true then .tuple #[.func (.func F) #[] #[],.int .i64 0] else .tuple #[.nilFunc,.int .i64 100])/\Below w.heap.size w h:=by
 have a:=hideS (cF w kind (.slice q f cx) (.slice o g cy));have r:=Pg;cases k with
 | false=>
  rw [if_neg (by simp)]
  clear l
  go_enter Tryz.func178,Tryz.ntmps178
  go_wp2_with (first | (go_at_call 198;refine (HK.out _).mono ?_;rintro e d ⟨rfl,rfl⟩) | (go_at_call 199;refine (m.out _ a.out.bl).mono ?_;rintro e d ⟨rfl,rfl⟩))
  go_ret2
  exact⟨rfl,a.out.bl⟩
 | true=>
  by_cases i:f=g
  ·have p:((g:Int) !=(f:Int))=false:=by rw [i];simp
   have j:=hideS (l.out rfl i);clear l;cases n with
   | false=>
    rw [if_neg (by simp)]
    clear i
    go_enter Tryz.func178,Tryz.ntmps178
    go_wp2_with (first | (go_at_call 198;refine (HK.out _).mono ?_;rintro e d ⟨rfl,rfl⟩) | (go_at_call 199;refine (m.out _ a.out.bl).mono ?_;rintro e d ⟨rfl,rfl⟩) | (go_at_call 200;refine (j.out _ a.out.bl).mono ?_;rintro e d ⟨rfl,rfl⟩))
    go_ret2
    exact⟨rfl,a.out.bl⟩
   | true=>
    rw [if_pos ⟨rfl,i,rfl⟩];clear i
    go_enter Tryz.func178,Tryz.ntmps178
    go_wp2_with (first | (go_at_call 198;refine (HK.out _).mono ?_;rintro e d ⟨rfl,rfl⟩) | (go_at_call 199;refine (m.out _ a.out.bl).mono ?_;rintro e d ⟨rfl,rfl⟩) | (go_at_call 200;refine (j.out _ a.out.bl).mono ?_;rintro e d ⟨rfl,rfl⟩))
    go_ret2
    exact⟨rfl,a.out.bl⟩
  ·have p:((g:Int) !=(f:Int))=true:=by simp;omega
   rw [if_neg (fun c=>i c.2.1)]
   clear l i
   go_enter Tryz.func178,Tryz.ntmps178
   go_wp2_with (first | (go_at_call 198;refine (HK.out _).mono ?_;rintro e d ⟨rfl,rfl⟩) | (go_at_call 199;refine (m.out _ a.out.bl).mono ?_;rintro e d ⟨rfl,rfl⟩))
   go_ret2
   exact⟨rfl,a.out.bl⟩
def chF (kind E:Int):Value:=if E=0 then .func (.func (iR kind)) #[] #[] else .nilFunc
theorem Bn (kind E:Int) (t m:Option Addr) (J L cx I F cy:Nat) (xs:List Int) (ys:List Nat) (w:World) (h:TabR kind xs ys E) (H:TFl w t m J L I F xs ys) :
  Calls Tryz.prog 178 #[.agg #[.int .i64 kind,.slice t xs.length cx,.slice m ys.length cy]] w fun e r=>e=.returned (.tuple #[chF kind E,.int .i64 E])/\Below w.heap.size w r:=by
 have j:1<=kind->kind<=4->∀ E,TabR kind xs ys E->(E=0\/E=100)->Calls Tryz.prog 178 #[.agg #[.int .i64 kind,.slice t xs.length cx,.slice m ys.length cy]] w fun e r=>e=.returned (.tuple #[chF kind E,.int .i64 E])/\Below w.heap.size w r:=fun N M E h u=>by
  obtain⟨z,v,c1⟩:=Bk t J L cx xs;have O:∃ k:Bool,(z=true->xs.length=ys.length->(k=true↔∀ i<ys.length,vlB kind ys i=false))/\(z=true->xs.length=ys.length->∀ w,VSrc w m I F ys.length (flV ys)->Calls Tryz.prog 200 #[.int .i64 kind,.slice m ys.length cy] w fun e r=>e=.returned (.bool k)/\r=w):=by
   by_cases P:ys.length<=256
   ·obtain⟨k,B,c2⟩:=Bm kind m I F cy ys P H.f;exact⟨k,fun _ _=>B,fun _ _=>c2⟩
   ·exact⟨false,fun a b=>by have:=(v.1 a).2.1;omega,fun a b=>by have:=(v.1 a).2.1;omega⟩
  obtain⟨k,B,c2⟩:=O;have:=Fd kind (iR kind) xs.length ys.length cx cy t m z k w (fun o=>qD kind o N M) (fun o s=>c1 o (H.x.below s)) (fun a b o s=>c2 a b o (H.y.below s))
  refine this.mono fun e r ⟨Q,s⟩=>⟨?_,s⟩
  rw [Q]
  by_cases A:z=true/\xs.length=ys.length/\k=true
  ·have ok:OkT kind xs ys:=by
    obtain⟨a,b,c⟩:=A;have p:=v.1 a;have q:=(B a b).1 c;exact⟨N,M,p.1,p.2.1,b.symm,Jv p.2.2 (fun i hi=>q i (by omega))⟩
   have G:E=0:=by
    cases h with
    | ok h=>rfl
    | kind h=>omega
    | len l n h=>have:=ok.lo;have:=ok.hi;have:=ok.len;omega
    | node l n lo hi len K D d g=>rw [ok.node K D] at d;cases d
   rw [if_pos A,G];rfl
  ·have C:E=100:=by
    rcases u with u | u
    ·exfalso;apply A
     rw [u] at h
     have ok:=Cz h;obtain⟨p,q⟩:=Ju ok.node;have a:=v.2 ⟨ok.lo,ok.hi,p⟩;exact⟨a,ok.len.symm,(B a ok.len.symm).2 (fun i hi=>q i (by rw [<- ok.len];exact hi))⟩
    ·exact u
   rw [if_neg A,C];rfl
 cases h with
 | kind h=>exact yl kind _ _ w (fun o=>qC kind o h)
 | ok h=>exact j h.k1 h.k4 0 (.ok h) (.inl rfl)
 | len l n h=>exact j l n 100 (.len l n h) (.inr rfl)
 | node l n lo hi len K D d g=>exact j l n 100 (.node l n lo hi len K D d g) (.inr rfl)
theorem ym {xs:List Int} {m:Nat} {y:Int} (h:y ∈ xs.take m):∃ j,j<m/\j<xs.length/\xs.getD j 0=y:=by
 obtain⟨j,b,e⟩:=List.mem_iff_getElem.1 h;have a:j<m/\j<xs.length:=by rw [List.length_take] at b;omega
 refine⟨j,a.1,a.2,?_⟩
 rw [<- e,List.getElem_take];simp [List.getD,a.2]
theorem yo {xs:List Int} {m:Nat} {y:Int} (h:y ∈ xs.drop m):∃ j,m<=j/\j<xs.length/\xs.getD j 0=y:=by
 obtain⟨j,b,e⟩:=List.mem_iff_getElem.1 h;have a:m+j<xs.length:=by rw [List.length_drop] at b;omega
 refine⟨m+j,by omega,a,?_⟩
 rw [<- e,List.getElem_drop];simp [List.getD,a]
theorem yp {xs:List Int} {x:Int} {m:Nat} (d:m<=xs.length) (lo:∀ j,j<m->xs.getD j 0<x) (hi:∀ j,m<=j->j<xs.length->¬ xs.getD j 0<x):xs.countP (fun y=>decide (y<x))=m:=by
 have e:xs.countP (fun y=>decide (y<x))=(xs.take m).countP (fun y=>decide (y<x))+(xs.drop m).countP (fun y=>decide (y<x)):=by
  rw [<- List.countP_append,List.take_append_drop]
 rw [e,List.countP_eq_length.2 (fun y a=>?_),List.countP_eq_zero.2 (fun y a=>?_),List.length_take]
 ·omega
 ·obtain⟨j,b,c,rfl⟩:=yo a
  simpa using hi j b c
 ·obtain⟨j,b,c,rfl⟩:=ym a
  simpa using lo j b
theorem Fe {kind:Int} {xs:List Int} {ys:List Nat} (h:OkT kind xs ys):xs.Pairwise (·<=·):=by
 rw [List.pairwise_iff_getElem];intro i j hi b a;have:=h.rise a b;simp [List.getD,hi,b] at this
 omega
theorem Ff {kind x:Int} {xs:List Int} {ys:List Nat} {k:Nat} (h:OkT kind xs ys) (i:FindR xs x k):(xs.contains x=true/\xs.countP (fun y=>decide (y<x))=k)\/(xs.contains x=false/\xs.countP (fun y=>decide (y<x))=k+1):=by
 have lt:=i.lt;have lo:∀ j,j<k->xs.getD j 0<x:=fun j d=>Int.lt_of_lt_of_le (h.rise d lt) i.le
 have hi:∀ j,k+1<=j->j<xs.length->x<xs.getD j 0:=fun j b a=>by
  have g:=i.gt (by omega)
  by_cases e:j=k+1
  ·rw [e];exact g
  ·exact Int.lt_trans g (h.rise (by omega) a)
 by_cases e:xs.getD k 0=x
 ·refine .inl ⟨?_,yp (by omega) lo (fun j b a=>?_)⟩
  ·rw [List.contains_iff_mem];have:xs.getD k 0=xs[k]:=by simp [List.getD,lt]
   rw [<- e,this];exact List.getElem_mem lt
  ·by_cases l:j=k
   ·rw [l];omega
   ·have:=hi j (by omega) a;omega
 ·refine .inr ⟨?_,yp (by omega) (fun j d=>?_) (fun j b a=>?_)⟩
  ·rw [Bool.eq_false_iff];intro c;rw [List.contains_iff_mem] at c
   obtain⟨j,d,l⟩:=List.mem_iff_getElem.1 c;have f:xs.getD j 0=x:=by rw [<- l];simp [List.getD,d]
   by_cases b:j<k
   ·have:=lo j b;omega
   ·by_cases a:j=k
    ·rw [a] at f;exact e f
    ·have:=hi j (by omega) d;omega
  ·by_cases b:j<k
   ·exact lo j b
   ·have:j=k:=by omega
    rw [this];have:=i.le;omega
  ·have:=hi j b a;omega
theorem Bo (kind x:Int) (b a cx:Nat) (xs:List Int) (ys:List Nat) (w:World) (h:OkT kind xs ys) (c:VSrc w (some ⟨b,a,none⟩) b a xs.length (xV xs)) :
  Calls Tryz.prog 201 #[.slice (some ⟨b,a,none⟩) xs.length cx,.int .i64 x] w fun e d=>e=.returned (.tuple #[.int .i64 ((xs.countP fun y=>decide (y<x):Nat):Int),.bool (xs.contains x)])/\∃ q,d=w.drewN q:=by
 have i:=h.hi;have f:(xs.take xs.length).Pairwise (·<=·):=by rw [List.take_length];exact Fe h
 have:=Any.slices_BinarySearch_int Tryz.bsL b a xs.length cx xs x w (Nat.le_refl _) (by omega) (fun j g=>c.cell j g) f
 rw [List.take_length] at this
 exact this
theorem yq (x:Int) (k:Option Addr) (f g cx n:Nat) (xs:List Int) (w:World) (d:VSrc w k f g n (xV xs)) (hn:1<=n) (l:n<=256) (j:x<xs.getD 0 0\/xs.getD (n - 1) 0<x) :
  Calls Tryz.prog 179 #[.slice k n cx,.int .i64 x] w fun e q=>e=.returned (.tuple #[.int .i64 0,.int .i64 51])/\q=w:=by
 obtain rfl:=d.at_ (by omega)
 obtain⟨m,o⟩:∃ m,n=m+1:=⟨n - 1,by omega⟩
 have c:n - 1=m:=by omega
 rw [c] at j
 have r:(n:Int) - 1=(m:Int):=by omega
 have i:m<n:=by omega
 have s:0<n:=by omega
 have y:w.cell? ⟨f,g,none⟩=some (.int .i64 (xs.getD 0 0)):=d.cell 0 (by omega)
 have v:w.cell? ⟨f,g+m,none⟩=some (.int .i64 (xs.getD m 0)):=d.cell m i;clear d o c hn;generalize xs.getD 0 0=a at *
 generalize xs.getD m 0=b at *
 rcases (show x<a\/(a<=x/\b<x) by omega) with h | ⟨h,t⟩
 ·have p:decide (x<a)=true:=decide_eq_true h;clear j
  go_enter Tryz.func179,Tryz.ntmps179
  go_wp2_with fail
  go_ret2
  exact⟨rfl,rfl⟩
 ·have p:decide (x<a)=false:=decide_eq_false (by omega)
  have u:decide (b<x)=true:=decide_eq_true t;clear j
  go_enter Tryz.func179,Tryz.ntmps179
  go_wp2_with fail
  go_ret2
  exact⟨rfl,rfl⟩
theorem Bp (kind x:Int) (z:Option Addr) (d f cx n k:Nat) (xs:List Int) (ys:List Nat) (w:World) (h:OkT kind xs ys) (i:xs.length=n) (c:VSrc w z d f n (xV xs)) (E:xs.getD 0 0<=x) (u:x<=xs.getD (n - 1) 0) (p:FindR xs x k) :
  Calls Tryz.prog 179 #[.slice z n cx,.int .i64 x] w fun e o=>e=.returned (.tuple #[.int .i64 (k:Int),.int .i64 0])/\Below w.heap.size w o:=by
 have v:=h.lo;have l:=h.hi;rw [i] at v l
 obtain rfl:=c.at_ (by omega)
 have t:Hid (∀ j,j=w->Calls Tryz.prog 201 #[.slice (some ⟨d,f,none⟩) n cx,.int .i64 x] j fun e o=>e=.returned (.tuple #[.int .i64 ((xs.countP fun y=>decide (y<x):Nat):Int),.bool (xs.contains x)])/\∃ q,o=j.drewN q):=fun j B=>by
  subst B;rw [<- i] at c ⊢
  exact Bo kind x d f cx xs ys _ h c
 have C:=hideS (Ff h p);have s:=p.lt;obtain⟨m,D⟩:∃ m,n=m+1:=⟨n - 1,by omega⟩
 have g:n - 1=m:=by omega
 rw [g] at u
 have G:(n:Int) - 1=(m:Int):=by omega
 have r:m<n:=by omega
 have H:0<n:=by omega
 have L:w.cell? ⟨d,f,none⟩=some (.int .i64 (xs.getD 0 0)):=c.cell 0 (by omega)
 have K:w.cell? ⟨d,f+m,none⟩=some (.int .i64 (xs.getD m 0)):=c.cell m r;have M:decide (x<xs.getD 0 0)=false:=decide_eq_false (by omega)
 have J:decide (xs.getD m 0<x)=false:=decide_eq_false (by omega)
 rw [i] at s
 clear c D g v E u h p i;generalize xs.getD 0 0=a at *
 generalize xs.getD m 0=b at *
 generalize (xs.countP fun y=>decide (y<x))=I at *
 generalize xs.contains x=A at *
 rcases C.out with⟨rfl,rfl⟩| ⟨rfl,rfl⟩
 ·go_enter Tryz.func179,Tryz.ntmps179
  go_wp2_with fail
  refine (t.out _ rfl).mono ?_
  rintro e F ⟨rfl,q,rfl⟩
  go_wp2_with fail
  go_ret2
  exact⟨rfl,⟨rfl,rfl,rfl,Nat.le_refl _,fun _ _=>rfl⟩⟩
 ·have N:((k+1:Nat):Int) - 1=(k:Int):=by omega
  generalize ((k+1:Nat):Int)=O at *
  go_enter Tryz.func179,Tryz.ntmps179
  go_wp2_with fail
  refine (t.out _ rfl).mono ?_
  rintro e F ⟨rfl,q,rfl⟩
  go_wp2_with fail
  go_ret2
  exact⟨rfl,⟨rfl,rfl,rfl,Nat.le_refl _,fun _ _=>rfl⟩⟩
theorem nJ (kind x k E:Int) (c r:Option Addr) (g i cx s o:Nat) (xs:List Int) (ys:List Nat) (w:World) (ok:OkT kind xs ys) (h:FindO kind xs ys x k E) (m:TFl w c r g i s o xs ys) :
  Calls Tryz.prog 179 #[.slice c xs.length cx,.int .i64 x] w fun e l=>e=.returned (.tuple #[.int .i64 k,.int .i64 E])/\Below w.heap.size w l:=by
 cases h with
 | bad E h u=>
  exfalso
  cases h with
  | ok h=>exact u rfl
  | kind h=>have:=ok.k1;have:=ok.k4;omega
  | len p t h=>have:=ok.lo;have:=ok.hi;have:=ok.len;omega
  | node p t lo hi len K n bad j=>rw [ok.node K n] at bad;cases bad
 | out h v=>exact (yq x c g i cx _ xs w m.x h.lo h.hi v).mono fun e l ⟨a,b⟩=>⟨a,b▸Below.refl _ _⟩
 | at_ h f d k q y=>exact Bp kind x c g i cx _ k xs ys w h rfl m.x f d q
theorem oI {o:Option Nat} (h:NN (cn o)):o=some (cn o):=by
 cases o with
 | none=>exfalso;have:=h.nan;exact absurd this (by decide)
 | some r=>rfl
theorem yr {x y:Nat} (h:NN (sSub x y)):floatBits .sub .f64 x y=some (sSub x y):=oI h
theorem gL {x y:Nat} (h:NN (sDiv x y)):floatBits .quo .f64 x y=some (sDiv x y):=oI h
theorem yt {x y:Nat} (h:NN (sMul x y)):floatBits .mul .f64 x y=some (sMul x y):=oI h
theorem yu {x y:Nat} (h:NN (sAdd x y)):floatBits .add .f64 x y=some (sAdd x y):=oI h
structure SixF (w:World) (B:Nat) (vx vy:Value) (bx ox b2 oy k j:Nat) (x0 x1:Int) (y0 y1:Nat):Prop where
 t1:w.cell? ⟨B,1,none⟩=some vx
 t2:w.cell? ⟨B,2,none⟩=some vy
 a0:w.cell? ⟨bx,ox+k,none⟩=some (.int .i64 x0)
 a1:w.cell? ⟨bx,ox+j,none⟩=some (.int .i64 x1)
 b0:w.cell? ⟨b2,oy+k,none⟩=some (.float .f64 y0)
 b1:w.cell? ⟨b2,oy+j,none⟩=some (.float .f64 y1)
theorem Ph {w wr:World} {kind:Int} {i g:Option Addr} {c d cx f b cy k:Nat} {xs:List Int} {ys:List Nat} (h:TFl w i g c d f b xs ys) (j:ys.length=xs.length) (l:k+1<xs.length) (e:TBox w kind (.slice i xs.length cx) (.slice g ys.length cy) wr) :
  SixF wr w.heap.size (.slice (some ⟨c,d,none⟩) xs.length cx) (.slice (some ⟨f,b,none⟩) xs.length cy) c d f b k (k+1) (xs.getD k 0) (xs.getD (k+1) 0) (ys.getD k 0) (ys.getD (k+1) 0)/\i=some ⟨c,d,none⟩ /\g=some ⟨f,b,none⟩:=by
 obtain rfl:=h.x.at_ (by omega)
 obtain rfl:=h.y.at_ (by omega)
 have a:=h.below e.bl;rw [j] at e
 exact⟨⟨e.t1,e.t2,a.x.cell k (by omega),a.x.cell (k+1) l,a.y.cell k (by omega),a.y.cell (k+1) (by omega)⟩,rfl,rfl⟩
theorem Jw (kind:Int) (g i cx j f cy n k:Nat) (a b:Int) (y0 y1 u h r:Nat) (w w1:World) (l:w.alloc (.cells #[.int .i64 kind,.slice (some ⟨g,i,none⟩) n cx,.slice (some ⟨j,f,none⟩) n cy] 195)=w1) (s:SixF w1 w.heap.size (.slice (some ⟨g,i,none⟩) n cx) (.slice (some ⟨j,f,none⟩) n cy) g i j f k (k+1) a b y0 y1) (c:Below w.heap.size w w1) (p:k+1<n) (hn:n<=1000) (D:0<=a) (G:a<=109572) (v:0<=b) (y:b<=109572) (m:floatBits .sub .f64 y1 y0=some u) (z:floatOfInt .f64 (b - a)=h) (o:floatBits .quo .f64 u h=some r) :
  Calls Tryz.prog 231 #[.agg #[.int .i64 kind,.slice (some ⟨g,i,none⟩) n cx,.slice (some ⟨j,f,none⟩) n cy],.int .i64 (k:Int)] w fun e q=>e=.returned (.float .f64 r)/\Below w.heap.size w q:=by
 have H:IntKind.i64.wrap ((k:Int)+1)=(k:Int)+1:=by rw [IntKind.wrap_i64];omega
 have I:IntKind.i64.wrap (b - a)=b - a:=by rw [IntKind.wrap_i64];omega
 have B:(0:Int)<=(k:Int)+1:=by omega
 have C:(k:Int)+1<(n:Int):=by omega
 have M:(0:Int)<=(k:Int):=by omega
 have J:(k:Int)<(n:Int):=by omega
 have K:=fun w=>run_float_arith (P:=Tryz.prog) w .sub 27 .f64 y1 y0 u m
 have x:=fun w=>run_float_arith (P:=Tryz.prog) w .quo 27 .f64 u h r o
 obtain⟨t,A,E,F,N,L⟩:=s;have d:=hideS c;clear c m o
 go_enter Tryz.func231,Tryz.ntmps231
 go_wp2_with fail
 clear l
 go_quiet (fail)
 go_wp2_with fail
 go_ret
 exact⟨rfl,d.out.os,d.out.tape,d.out.output,d.out.size,d.out.block⟩
theorem Jx (kind:Int) (f d:Option Addr) (j l cx m g cy k:Nat) (xs:List Int) (ys:List Nat) (w:World) (h:OkT kind xs ys) (b:TFl w f d j l m g xs ys) (a:k+1<xs.length) :
  Calls Tryz.prog 231 #[.agg #[.int .i64 kind,.slice f xs.length cx,.slice d ys.length cy],.int .i64 (k:Int)] w fun e p=>e=.returned (.float .f64 (steepB xs ys k))/\Below w.heap.size w p:=by
 obtain⟨n,rfl,rfl⟩:=Ph b h.len a (cF w kind (.slice f xs.length cx) (.slice d ys.length cy));have q:=h.len;have i:=aq (h.node k (by omega))
 have o:=aq (h.node (k+1) a);have c:=fH h b.u a;rw [q] at n ⊢
 exact Jw kind j l cx m g cy xs.length k _ _ _ _ _ _ _ w _ rfl n (cF w kind _ _).bl a (by have:=h.hi;omega) i.1 i.2.1 o.1 o.2.1 (yr (De (aN h b.u a) (aN h b.u (by omega)))) (bE _) (gL c)
theorem yv (xs:List Int) (ys:List Nat):∀ m k,k<=m->(eG xs ys m).getD k 0=if k=0 then steepB xs ys 0 else slB (steepB xs ys (k - 1)) (steepB xs ys k)
 | 0,k,h=>by
  obtain rfl:k=0:=by omega
  rfl
 | m+1,k,h=>by
  rw [iv]
  by_cases a:k<=m
  ·rw [<- yv xs ys m k a];have:=eS xs ys m;simp [List.getD,List.getElem?_append_left (show k<(eG xs ys m).length by omega)]
  ·obtain rfl:k=m+1:=by omega
   rw [if_neg (by omega),Nat.add_sub_cancel]
   have:=eS xs ys m;simp [List.getD,this]
theorem Jy {xs:List Int} {ys:List Nat} {n k:Nat} (e:k<n):(bG xs ys n).getD k 0=if n=1 then 0 else if k=0 then steepB xs ys 0 else if k=n - 1 then steepB xs ys (n - 2) else slB (steepB xs ys (k - 1)) (steepB xs ys k):=by
 unfold bG
 by_cases a:n=1
 ·obtain rfl:k=0:=by omega
  rw [if_pos a,if_pos a];rfl
 ·rw [if_neg a,if_neg a];have d:=eS xs ys (n - 2)
  by_cases b:k=n - 1
  ·rw [if_pos b]
   by_cases c:k=0
   ·omega
   ·rw [if_neg c];simp [List.getD,List.getElem?_append_right (show (eG xs ys (n - 2)).length<=k by omega),show k - (eG xs ys (n - 2)).length=0 by omega]
  ·rw [if_neg b,<- yv xs ys (n - 2) k (by omega)]
   simp [List.getD,List.getElem?_append_left (show k<(eG xs ys (n - 2)).length by omega)]
theorem Fg (kind:Int) (b:Option Addr) (cx:Nat) (a:Value) (k:Int) (w:World) :
  Calls Tryz.prog 227 #[.agg #[.int .i64 kind,.slice b 1 cx,a],.int .i64 k] w fun e c=>e=.returned (.float .f64 0)/\Below w.heap.size w c:=by
 have d:=hideS (cF w kind (.slice b 1 cx) a)
 go_enter Tryz.func227,Tryz.ntmps227
 go_wp2_with fail
 go_ret
 exact⟨rfl,d.out.bl⟩
def Pi (w:World) (kind:Int) (f d:Value) (n:Nat) (c:Nat->Nat):Prop:=∀ a,Below w.heap.size w a->∀ k,k+1<n->Calls Tryz.prog 231 #[.agg #[.int .i64 kind,f,d],.int .i64 (k:Int)] a fun e b=>e=.returned (.float .f64 (c k))/\Below a.heap.size a b
theorem yw (kind:Int) (d:Option Addr) (cx n:Nat) (c:Value) (h:Nat->Nat) (w:World) (H:Hid (Pi w kind (.slice d n cx) c n h)) (hn:2<=n) (j:n<=256) :
  Calls Tryz.prog 227 #[.agg #[.int .i64 kind,.slice d n cx,c],.int .i64 0] w fun e g=>e=.returned (.float .f64 (h 0))/\Below w.heap.size w g:=by
 have i:=hideS (cF w kind (.slice d n cx) c);obtain⟨m,rfl⟩:∃ m,n=m+2:=⟨n - 2,by omega⟩
 have o:((m+2:Nat):Int) - 1=(m:Int)+1:=by omega
 have p:((m:Int)+1==0)=false:=beq_eq_false_iff_ne.2 (by omega)
 have k:Hid (∀ a,Below w.heap.size w a->Calls Tryz.prog 231 #[.agg #[.int .i64 kind,.slice d (m+2) cx,c],.int .i64 0] a fun e g=>e=.returned (.float .f64 (h 0))/\Below a.heap.size a g):=fun a l=>by
  have:=H.out a l 0 (by omega)
  rw [show ((0:Nat):Int)=0 from rfl] at this
  exact this
 clear H
 go_enter Tryz.func227,Tryz.ntmps227
 go_wp2_with fail
 refine (k.out _ i.out.bl).mono ?_
 rintro e q ⟨rfl,b⟩;have f:=hideS (i.out.step b);clear b
 go_wp2_with fail
 go_ret
 exact⟨rfl,f.out.bl⟩
theorem Br (kind:Int) (d:Option Addr) (cx n m:Nat) (b:Value) (f:Nat->Nat) (w:World) (H:Hid (Pi w kind (.slice d n cx) b n f)) (k:n=m+2) (h:n<=256) :
  Calls Tryz.prog 227 #[.agg #[.int .i64 kind,.slice d n cx,b],.int .i64 ((m:Int)+1)] w fun e o=>e=.returned (.float .f64 (f m))/\Below w.heap.size w o:=by
 have g:=hideS (cF w kind (.slice d n cx) b);have i:(n:Int) - 1=(m:Int)+1:=by omega
 have u:((m:Int)+1==0)=false:=beq_eq_false_iff_ne.2 (by omega)
 have l:=hideS fun q p=>H.out q p m (by omega)
 have j:((m:Int)+1) - 1=(m:Int):=by omega
 have r:IntKind.i64.wrap ((n:Int) - 1)=(m:Int)+1:=by rw [IntKind.wrap_i64];omega
 have t:IntKind.i64.wrap ((m:Int)+1 - 1)=(m:Int):=by rw [IntKind.wrap_i64];omega
 clear H k i j;generalize (m:Int)+1=s at *
 go_enter Tryz.func227,Tryz.ntmps227
 go_wp2_with fail
 refine (l.out _ g.out.bl).mono ?_
 rintro e v ⟨rfl,a⟩;have c:=hideS (g.out.step a);clear a
 go_wp2_with fail
 go_ret
 exact⟨rfl,c.out.bl⟩
structure SlT (a b s:Nat) (a0 b0 al bl:Bool):Prop where
 p1:(FloatKind.f64.format.order a 0==some .eq)=a0
 p2:(FloatKind.f64.format.order b 0==some .eq)=b0
 p3:(FloatKind.f64.format.order a 0==some .lt)=al
 p4:(FloatKind.f64.format.order b 0==some .lt)=bl
 z:(a0||b0||(al !=bl))=true->s=0
 nz:(a0||b0||(al !=bl))=false->∃ p q t,floatBits .quo .f64 4607182418800017408 a=some p/\floatBits .quo .f64 4607182418800017408 b=some q/\floatBits .add .f64 p q=some t/\floatBits .quo .f64 4611686018427387904 t=some s
theorem Pj {a b:Nat} (d:NN a) (e:NN b):∃ a0 x v bl,SlT a b (slB a b) a0 x v bl:=by
 have z:(0:Nat)<18446744073709551616:=by decide
 refine⟨_,_,_,_,rfl,rfl,rfl,rfl,?_,?_⟩
 all_goals
  rw [eI (aU d.lt) (aU z) d.nan (by decide),eI (aU e.lt) (aU z) e.nan (by decide),jB (aU d.lt) (aU z) d.nan (by decide),jB (aU e.lt) (aU z) e.nan (by decide),show ae ((0:Nat):Int)=0 by decide]
 ·intro h;unfold slB;rw [aC (by decide) d.nan,aC (by decide) e.nan,aC d.nan (by decide),aC e.nan (by decide),show ae 0=0 by decide]
  generalize ae (a:Nat)=r at *
  generalize ae (b:Nat)=s at *
  rw [if_neg];intro c;simp only [Bool.or_eq_true,Bool.and_eq_true,decide_eq_true_eq,bne_iff_ne,ne_eq,decide_eq_decide] at c h
  omega
 ·intro h;have i:((ltB 0 (a:Nat)&&ltB 0 (b:Nat))||(ltB (a:Nat) 0&&ltB (b:Nat) 0))=true:=by
   rw [aC (by decide) d.nan,aC (by decide) e.nan,aC d.nan (by decide),aC e.nan (by decide),show ae 0=0 by decide]
   generalize ae (a:Nat)=r at *
   generalize ae (b:Nat)=s at *
   simp only [Bool.or_eq_true,Bool.and_eq_true,decide_eq_true_eq,Bool.or_eq_false_iff,decide_eq_false_iff_not,bne_eq_false_iff_eq,decide_eq_decide] at h ⊢
   omega
  have f:a % 9223372036854775808≠0/\b % 9223372036854775808≠0/\sB a=sB b:=by
   rw [Bool.or_eq_true,Bool.and_eq_true,Bool.and_eq_true] at i
   rcases i with⟨p,q⟩| ⟨p,q⟩
   ·obtain⟨k,l⟩:=iC d.lt p;obtain⟨j,m⟩:=iC e.lt q;exact⟨k,j,by rw [l,m]⟩
   ·obtain⟨k,l⟩:=oG d.lt p;obtain⟨j,m⟩:=oG e.lt q;exact⟨k,j,by rw [l,m]⟩
  have g:af 4607182418800017408:=by unfold af;decide
  obtain⟨t,w⟩:=qe g (by decide) (by decide) d f.1
  obtain⟨o,u⟩:=qe g (by decide) (by decide) e f.2.1
  have n:=tf t o (by rw [w,u,f.2.2])
  refine⟨_,_,_,gL t,gL o,yu n,?_⟩
  unfold slB;rw [if_pos i];exact gL (IO n)
theorem Fh (kind:Int) (v:Option Addr) (cx n j k a b s:Nat) (a0 H B bl:Bool) (l:Value) (w:World) (Q:k=j+1) (y:k+1<n) (J:n<=256) (S:SlT a b s a0 H B bl)
  (A:Hid (∀ g,Below w.heap.size w g->Calls Tryz.prog 231 #[.agg #[.int .i64 kind,.slice v n cx,l],.int .i64 (j:Int)] g fun e r=>e=.returned (.float .f64 a)/\Below g.heap.size g r))
  (I:Hid (∀ g,Below w.heap.size w g->Calls Tryz.prog 231 #[.agg #[.int .i64 kind,.slice v n cx,l],.int .i64 (k:Int)] g fun e r=>e=.returned (.float .f64 b)/\Below g.heap.size g r)) :
  Calls Tryz.prog 227 #[.agg #[.int .i64 kind,.slice v n cx,l],.int .i64 (k:Int)] w fun e r=>e=.returned (.float .f64 s)/\Below w.heap.size w r:=by
 have h:=hideS (cF w kind (.slice v n cx) l);have V:IntKind.i64.wrap ((n:Int) - 1)=(n:Int) - 1:=by rw [IntKind.wrap_i64];omega
 have e2:((n:Int) - 1==0)=false:=beq_eq_false_iff_ne.2 (by omega)
 have e3:((k:Int)==0)=false:=beq_eq_false_iff_ne.2 (by omega)
 have U:((k:Int)==(n:Int) - 1)=false:=beq_eq_false_iff_ne.2 (by omega)
 have Y:IntKind.i64.wrap ((k:Int) - 1)=(j:Int):=by rw [IntKind.wrap_i64];omega
 obtain⟨T,t2,t3,Z,f,c⟩:=S;have z:=hideS (And.intro f c);clear Q y f c;obtain⟨F,u⟩:∃ F,w.alloc (.cells #[.int .i64 kind,.slice v n cx,l] 195)=F:=⟨_,rfl⟩;rw [u] at h
 have N:=h.out.t0;have L:=h.out.t1;have O:=h.out.t2
 go_enter Tryz.func227,Tryz.ntmps227
 go_wp2_with fail
 clear u
 go_region_with (first | (go_at_call_of 231 (Value.int IntKind.i64 (j:Int));refine (A.out _ h.out.bl.drew).mono ?_;rintro e w1 ⟨rfl,m⟩;have d:=hideS ((h.out.drewN 1).step m);have R:=d.out.t0;have K:=d.out.t1;have M:=d.out.t2;clear m) | (go_at_call 231;refine (I.out _ d.out.bl).mono ?_;rintro e X ⟨rfl,i⟩;have x:=hideS (d.out.step i);clear i))
 all_goals
  obtain⟨f,c⟩:=z.out;have o:=hideS x.out.bl;clear h d x A I z N L O R K M;cases a0 with
  | true=>
   obtain rfl:=f rfl;clear c f
   go_wp2_with fail
   go_ret
   exact⟨rfl,o.out⟩
  | false=>
   cases H with
   | true=>
    obtain rfl:=f rfl;clear c f
    go_wp2_with fail
    go_ret
    exact⟨rfl,o.out⟩
   | false=>
    cases B<;>cases bl
    case false.true=>
     obtain rfl:=f rfl;clear c f
     go_wp2_with fail
     go_ret
     exact⟨rfl,o.out⟩
    case true.false=>
     obtain rfl:=f rfl;clear c f
     go_wp2_with fail
     go_ret
     exact⟨rfl,o.out⟩
    all_goals
     obtain⟨p,q,t,C,G,D,E⟩:=c rfl;have r1:=fun w=>run_float_arith (P:=Tryz.prog) w .quo 27 .f64 _ _ _ C
     have W:=fun w=>run_float_arith (P:=Tryz.prog) w .quo 27 .f64 _ _ _ G
     have r3:=fun w=>run_float_arith (P:=Tryz.prog) w .add 27 .f64 _ _ _ D
     have r4:=fun w=>run_float_arith (P:=Tryz.prog) w .quo 27 .f64 _ _ _ E
     clear c f C G D E
     go_wp2_with fail
     go_ret
     exact⟨rfl,o.out⟩
theorem Fi (kind:Int) (a d:Option Addr) (o p cx q n cy k:Nat) (xs:List Int) (ys:List Nat) (w:World) (h:OkT kind xs ys) (l:TFl w a d o p q n xs ys) (i:k<xs.length) :
  Calls Tryz.prog 227 #[.agg #[.int .i64 kind,.slice a xs.length cx,.slice d ys.length cy],.int .i64 (k:Int)] w fun e x=>e=.returned (.float .f64 ((bG xs ys xs.length).getD k 0))/\Below w.heap.size w x:=by
 have C:=h.lo;have j:=h.hi;have H:Hid (Pi w kind (.slice a xs.length cx) (.slice d ys.length cy) xs.length (steepB xs ys)):=fun c b k i=>Jx kind a d o p cx q n cy k xs ys c h (l.below b) i
 rw [Jy i]
 by_cases g:xs.length=1
 ·rw [if_pos g,g];exact Fg kind a cx _ _ w
 ·rw [if_neg g]
  by_cases f:k=0
  ·rw [if_pos f];subst f;exact yw kind a cx _ _ _ w H (by omega) j
  ·rw [if_neg f]
   by_cases r:k=xs.length - 1
   ·rw [if_pos r];obtain⟨m,t⟩:∃ m,xs.length=m+2:=⟨xs.length - 2,by omega⟩
    have s:(k:Int)=(m:Int)+1:=by omega
    have z:xs.length - 2=m:=by omega
    rw [s,z];exact Br kind a cx _ m _ _ w H t j
   ·rw [if_neg r];obtain⟨y,B,v,bl,A⟩:=Pj (fH h l.u (k:=k - 1) (by omega)) (fH h l.u (k:=k) (by omega))
    exact Fh kind a cx _ (k - 1) k _ _ _ y B v bl _ w (by omega) (by omega) j A (fun c b=>H.out c b (k - 1) (by omega)) (fun c b=>H.out c b k (by omega))
def qS (x:Nat):Bool:=aM (x:Nat)&&ltB 0 (x:Nat)
theorem Kb {x:Nat} (h:x<18446744073709551616) (a:ltB 0 (x:Nat)=true):x<9223372036854775808/\ah (x:Nat)=false:=by
 obtain⟨_,b⟩:=iC h a;unfold sB at b
 refine⟨by have:=of_decide_eq_false b;omega,?_⟩
 unfold ltB at a
 simp only [Bool.and_eq_true,Bool.not_eq_true',decide_eq_true_eq] at a
 exact a.1.2
theorem vK (x:Nat) (w:World) (h:x<18446744073709551616) :
  Calls Tryz.prog 78 #[.float .f64 x] w fun e i=>e=.returned (.bool (qS x))/\i=w:=by
 have c:=ogt h (show (0:Nat)<18446744073709551616 by decide)
 have b:ltB ((0:Nat):Int) (x:Nat)=ltB 0 (x:Nat):=rfl;rw [b] at c
 unfold qS;cases a:ltB 0 (x:Nat) with
 | false=>
  rw [a] at c
  rw [Bool.and_false];clear a h b
  go_enter Tryz.func78,Tryz.ntmps78
  go_wp2
  go_ret
  exact⟨rfl,rfl⟩
 | true=>
  rw [a] at c
  obtain⟨f,d⟩:=Kb h a;have hi:=qs d;rw [Nat.mod_eq_of_lt f] at hi
  have H:=hideS fun w=>mS x _ w hi
  rw [Bool.and_true];generalize aM (x:Nat)=g at *
  clear a h b hi f d;cases g
  all_goals
   go_enter Tryz.func78,Tryz.ntmps78
   go_wp2_with (go_at_call 71;refine (H.out _).mono ?_;rintro e j ⟨rfl,rfl⟩)
   go_ret
   exact⟨rfl,rfl⟩
def dyB (base:Int) (a:List Int) (i:Nat):Bool:=decide (a.getD i 0<=du base a i)||decide (109572<a.getD i 0)
theorem Kc (base:Int) (p:Option Addr) (n c:Nat) (w:World) (h:n<1\/255<n) :
  Calls Tryz.prog 51 #[.int .i64 base,.slice p n c] w fun e a=>e=.returned (.bool false)/\a=w:=by
 rcases h with h | h
 ·have b:decide ((n:Int)<1)=true:=decide_eq_true (by omega)
  clear h
  go_enter Tryz.func51,Tryz.ntmps51
  go_wp2
  go_ret
  exact⟨rfl,rfl⟩
 ·have b:decide ((n:Int)<1)=false:=decide_eq_false (by omega)
  have d:decide ((255:Int)<n)=true:=decide_eq_true (by omega)
  clear h
  go_enter Tryz.func51,Tryz.ntmps51
  go_wp2
  go_ret
  exact⟨rfl,rfl⟩
theorem FD (base:Int) (p:Option Addr) (b off c n K:Nat) (xs:List Int) (w:World) (r:VSrc w p b off n (xV xs)) (hn:1<=n) (x:n<=255) (G:K<=n) (a:∀ i<K,dyB base xs i=false) (d:K<n->dyB base xs K=true) :
  Calls Tryz.prog 51 #[.int .i64 base,.slice p n c] w fun e C=>e=.returned (.bool (decide (n<=K)))/\C=w:=by
 obtain⟨g,h⟩:∃ g,decide (n<=K)=g:=⟨_,rfl⟩;rw [h];have z:Hid (K<n->g=false):=fun D=>by rw [<- h];exact decide_eq_false (by omega)
 have A:Hid (K=n->g=true):=fun D=>by rw [<- h];exact decide_eq_true (by omega)
 clear h;have s:=hideS r;have v:=hideS a;have E:=hideS d;obtain rfl:=r.at_ (by omega)
 have B:decide ((n:Int)<1)=false:=decide_eq_false (by omega)
 have u:decide ((255:Int)<n)=false:=decide_eq_false (by omega)
 clear r a d
 go_enter Tryz.func51,Tryz.ntmps51
 go_wp2_with fail
 clear B u
 go_loop [5,7,19] (fun l _ i=>∃ k:Nat,k<=K/\i=.int .i64 k/\l=.int .i64 (du base xs k)) (fun _ _ i=>n - (intOf i).toNat)
 case atStart=>exact⟨0,Nat.zero_le _,rfl,rfl⟩
 case round=>
  obtain⟨k,H,rfl,rfl⟩:=hrel
  by_cases o:k<K
  ·have m:k<n:=by omega
   have c1:w.cell? ⟨b,off+k,none⟩=some (.int .i64 (xs.getD k 0)):=s.out.cell k m;have f:=v.out k o;unfold dyB at f
   rw [Bool.or_eq_false_iff] at f
   obtain⟨t,I⟩:=f;have F:=hideS (show du base xs (k+1)=xs.getD k 0 from rfl)
   generalize du base xs k=l at *
   generalize xs.getD k 0=y at *
   go_wp2_with fail
   go_round
   case rel=>exact⟨k+1,by omega,by simp,by rw [F.out]⟩
   case measure=>simp [intOf];omega
  ·obtain rfl:k=K:=by omega
   by_cases q:k<n
   ·have c1:w.cell? ⟨b,off+k,none⟩=some (.int .i64 (xs.getD k 0)):=s.out.cell k q;have f:=E.out q;unfold dyB at f
    have j:=hideS (z.out q);generalize du base xs k=l at *
    generalize xs.getD k 0=y at *
    cases t:decide (y<=l)
    ·rw [t,Bool.false_or] at f
     go_wp2_with fail
     go_ret
     exact⟨by rw [j.out]<;>rfl,rfl⟩
    ·clear f
     go_wp2_with fail
     go_ret
     exact⟨by rw [j.out]<;>rfl,rfl⟩
   ·obtain rfl:k=n:=by omega
    have j:=hideS (A.out rfl)
    go_wp2_with fail
    go_ret
    exact⟨by rw [j.out]<;>rfl,rfl⟩
theorem vL (p:Option Addr) (b off c n K:Nat) (ys:List Nat) (w:World) (q:VSrc w p b off n (flV ys)) (r:∀ i<n,ys.getD i 0<18446744073709551616) (u:n<=255) (C:K<=n) (a:∀ i<K,qS (ys.getD i 0)=true) (d:K<n->qS (ys.getD K 0)=false) :
  Calls Tryz.prog 52 #[.slice p n c] w fun e m=>e=.returned (.bool (decide (n<=K)))/\m=w:=by
 obtain⟨g,h⟩:∃ g,decide (n<=K)=g:=⟨_,rfl⟩;rw [h];have v:Hid (K<n->g=false):=fun A=>by rw [<- h];exact decide_eq_false (by omega)
 have x:Hid (K=n->g=true):=fun A=>by rw [<- h];exact decide_eq_true (by omega)
 clear h;have s:=hideS q;have t:=hideS a;have B:=hideS d;have z:=hideS r;clear q a d r
 go_enter Tryz.func52,Tryz.ntmps52
 go_wp2_with fail
 go_loop [4,7] (fun _ i=>∃ k:Nat,k<=K/\i=.int .i64 k) (fun _ i=>n - (intOf i).toNat)
 case atStart=>exact⟨0,Nat.zero_le _,rfl⟩
 case round=>
  obtain⟨k,D,rfl⟩:=hrel
  by_cases j:k<n
  ·have c1:w.cell? ⟨b,off+k,none⟩=some (.float .f64 (ys.getD k 0)):=s.out.cell k j;obtain rfl:=s.out.at_ (by omega)
   have f:=hideS fun w=>vK (ys.getD k 0) w (z.out k j)
   by_cases l:k<K
   ·rw [t.out k l] at f
    generalize ys.getD k 0=y at *
    go_wp2_with (go_at_call 78;refine (f.out _).mono ?_;rintro e m ⟨rfl,rfl⟩)
    go_round
    case rel=>exact⟨k+1,by omega,by simp⟩
    case measure=>simp [intOf];omega
   ·obtain rfl:k=K:=by omega
    rw [B.out j] at f
    have o:=hideS (v.out j);generalize ys.getD k 0=y at *
    go_wp2_with (go_at_call 78;refine (f.out _).mono ?_;rintro e m ⟨rfl,rfl⟩)
    go_ret
    exact⟨by rw [o.out]<;>rfl,rfl⟩
  ·obtain rfl:k=n:=by omega
   obtain rfl:K=k:=by omega
   have o:=hideS (x.out rfl)
   go_wp2_with fail
   go_ret
   exact⟨by rw [o.out]<;>rfl,rfl⟩
theorem Kd (base:Int) (d:Option Addr) (j k cx:Nat) (xs:List Int):∃ g:Bool,(g=true↔(1<=xs.length/\xs.length<=255/\∀ i<xs.length,dyB base xs i=false))/\∀ w,VSrc w d j k xs.length (xV xs)->Calls Tryz.prog 51 #[.int .i64 base,.slice d xs.length cx] w fun e o=>e=.returned (.bool g)/\o=w:=by
 by_cases q:xs.length<1\/255<xs.length
 ·exact⟨false,⟨fun h=>by simp at h,fun⟨a,b,_⟩=>by omega⟩,fun w _=>Kc base d _ cx w q⟩
 ·obtain⟨K,m,l,f⟩:=jm (p:=dyB base xs) xs.length;refine⟨decide (xs.length<=K),⟨fun h=>⟨by omega,by omega,fun i hi=>l i (by have:=of_decide_eq_true h;omega)⟩,fun⟨_,_,h⟩=>decide_eq_true (Classical.byContradiction fun c=>?_)⟩,fun w n=>FD base d j k cx _ K xs w n (by omega) (by omega) m l f⟩
  have:=f (by omega)
  rw [h K (by omega)] at this
  cases this
theorem yX (d:Option Addr) (j f cy:Nat) (ys:List Nat) (hn:ys.length<=255) (n:∀ i<ys.length,ys.getD i 0<18446744073709551616):∃ g:Bool,(g=true↔∀ i<ys.length,qS (ys.getD i 0)=true)/\∀ w,VSrc w d j f ys.length (flV ys)->Calls Tryz.prog 52 #[.slice d ys.length cy] w fun e o=>e=.returned (.bool g)/\o=w:=by
 obtain⟨K,k,q,l⟩:=jm (p:=fun i=>!qS (ys.getD i 0)) ys.length
 have a:∀ i<K,qS (ys.getD i 0)=true:=fun i hi=>by have:=q i hi;simpa using this
 have b:K<ys.length->qS (ys.getD K 0)=false:=fun hi=>by have:=l hi;simpa using this
 refine⟨decide (ys.length<=K),⟨fun h i hi=>a i (by have:=of_decide_eq_true h;omega),fun h=>decide_eq_true (Classical.byContradiction fun c=>?_)⟩,fun w m=>vL d j f cy _ K ys w m n hn k a b⟩
 have:=b (by omega)
 rw [h K (by omega)] at this
 cases this
theorem nodC_two {base:Int} {e:List Int} {f:List Nat} {i:Nat}:kM base e f i=false↔dyB base e i=false/\qS (f.getD i 0)=true:=by
 unfold kM dyB qS;generalize aM (f.getD i 0:Nat)=a;generalize ltB 0 (f.getD i 0:Nat)=b;generalize decide (e.getD i 0<=du base e i)=c;generalize decide (109572<e.getD i 0)=d;cases a<;>cases b<;>cases c<;>cases d<;>decide
theorem sk (base kind:Int) (f b:Value) (w:World) (h:base<0\/109572<base) :
  Calls Tryz.prog 37 #[.agg #[.int .i64 base,.int .i64 kind,f,b]] w fun e g=>e=.returned (.int .i64 51)/\Below w.heap.size w g:=by
 have d:=hideS (bH w base kind f b);rcases (show base<0\/(0<=base/\109572<base) by omega) with a | ⟨a,c⟩
 ·have i:decide (base<0)=true:=decide_eq_true a;clear h a
  go_enter Tryz.func37,Tryz.ntmps37
  go_wp2_with fail
  go_ret
  exact⟨rfl,d.out.bl⟩
 ·have i:decide (base<0)=false:=decide_eq_false (by omega)
  have j:decide (109572<base)=true:=decide_eq_true c;clear h a c
  go_enter Tryz.func37,Tryz.ntmps37
  go_wp2_with fail
  go_ret
  exact⟨rfl,d.out.bl⟩
theorem sn (base kind:Int) (f b:Value) (w:World) (m:0<=base) (j:base<=109572) (h:kind<1\/4<kind) :
  Calls Tryz.prog 37 #[.agg #[.int .i64 base,.int .i64 kind,f,b]] w fun e g=>e=.returned (.int .i64 90)/\Below w.heap.size w g:=by
 have d:=hideS (bH w base kind f b);have n:decide (base<0)=false:=decide_eq_false (by omega)
 have k:decide (109572<base)=false:=decide_eq_false (by omega)
 rcases (show kind<1\/(1<=kind/\4<kind) by omega) with a | ⟨a,c⟩
 ·have i:decide (kind<1)=true:=decide_eq_true a;clear h a
  go_enter Tryz.func37,Tryz.ntmps37
  go_wp2_with fail
  go_ret
  exact⟨rfl,d.out.bl⟩
 ·have i:decide (kind<1)=false:=decide_eq_false (by omega)
  have l:decide (4<kind)=true:=decide_eq_true c;clear h a c
  go_enter Tryz.func37,Tryz.ntmps37
  go_wp2_with fail
  go_ret
  exact⟨rfl,d.out.bl⟩
theorem yY (base kind:Int) (b d cx cy:Nat) (q o:Option Addr) (k n:Bool) (w:World) (u:0<=base) (s:base<=109572) (r:1<=kind) (t:kind<=4)
  (m:Hid (∀ g,Below w.heap.size w g->Calls Tryz.prog 51 #[.int .i64 base,.slice q b cx] g fun e h=>e=.returned (.bool k)/\h=g))
  (l:Hid (k=true->b=d->∀ g,Below w.heap.size w g->Calls Tryz.prog 52 #[.slice o d cy] g fun e h=>e=.returned (.bool n)/\h=g)) :
  Calls Tryz.prog 37 #[.agg #[.int .i64 base,.int .i64 kind,.slice q b cx,.slice o d cy]] w fun e h=>e=.returned (.int .i64 (if k=true/\b=d/\n=true then 0 else 100))/\Below w.heap.size w h:=by
 have a:=hideS (bH w base kind (.slice q b cx) (.slice o d cy));have x:decide (base<0)=false:=decide_eq_false (by omega)
 have v:decide (109572<base)=false:=decide_eq_false (by omega)
 have z:decide (kind<1)=false:=decide_eq_false (by omega)
 have y:decide (4<kind)=false:=decide_eq_false (by omega)
 clear u s r t;cases k with
 | false=>
  rw [if_neg (by simp)]
  clear l
  go_enter Tryz.func37,Tryz.ntmps37
  go_wp2_with (first | (go_at_call 51;refine (m.out _ a.out.bl).mono ?_;rintro e i ⟨rfl,rfl⟩))
  go_ret
  exact⟨rfl,a.out.bl⟩
 | true=>
  by_cases f:b=d
  ·have p:((d:Int) !=(b:Int))=false:=by rw [f];simp
   have j:=hideS (l.out rfl f);clear l;cases n with
   | false=>
    rw [if_neg (by simp)]
    clear f
    go_enter Tryz.func37,Tryz.ntmps37
    go_wp2_with (first | (go_at_call 51;refine (m.out _ a.out.bl).mono ?_;rintro e i ⟨rfl,rfl⟩) | (go_at_call 52;refine (j.out _ a.out.bl).mono ?_;rintro e i ⟨rfl,rfl⟩))
    go_ret
    exact⟨rfl,a.out.bl⟩
   | true=>
    rw [if_pos ⟨rfl,f,rfl⟩];clear f
    go_enter Tryz.func37,Tryz.ntmps37
    go_wp2_with (first | (go_at_call 51;refine (m.out _ a.out.bl).mono ?_;rintro e i ⟨rfl,rfl⟩) | (go_at_call 52;refine (j.out _ a.out.bl).mono ?_;rintro e i ⟨rfl,rfl⟩))
    go_ret
    exact⟨rfl,a.out.bl⟩
  ·have p:((d:Int) !=(b:Int))=true:=by simp;omega
   rw [if_neg (fun c=>f c.2.1)]
   clear l f
   go_enter Tryz.func37,Tryz.ntmps37
   go_wp2_with (first | (go_at_call 51;refine (m.out _ a.out.bl).mono ?_;rintro e i ⟨rfl,rfl⟩))
   go_ret
   exact⟨rfl,a.out.bl⟩
theorem dA (base kind:Int) (B u:Option Addr) (bd Q G O M A:Nat) (g:List Int) (d:List Nat) (w:World) (N:TFl w B u bd Q O M g d) {E:Int} (t:CurR base kind g d E) :
  Calls Tryz.prog 37 #[.agg #[.int .i64 base,.int .i64 kind,.slice B g.length G,.slice u d.length A]] w fun e v=>e=.returned (.int .i64 E)/\Below w.heap.size w v:=by
 have n:0<=base->base<=109572->1<=kind->kind<=4->∀ E,CurR base kind g d E->(E=0\/E=100)->Calls Tryz.prog 37 #[.agg #[.int .i64 base,.int .i64 kind,.slice B g.length G,.slice u d.length A]] w fun e v=>e=.returned (.int .i64 E)/\Below w.heap.size w v:=fun k j S R E h t=>by
  obtain⟨D,C,c1⟩:=Kd base B bd Q G g;have T:∃ o:Bool,(D=true->g.length=d.length->(o=true↔∀ i<d.length,qS (d.getD i 0)=true))/\(D=true->g.length=d.length->∀ w,VSrc w u O M d.length (flV d)->Calls Tryz.prog 52 #[.slice u d.length A] w fun e v=>e=.returned (.bool o)/\v=w):=by
   by_cases U:d.length<=255
   ·obtain⟨o,H,c2⟩:=yX u O M A d U N.f;exact⟨o,fun _ _=>H,fun _ _=>c2⟩
   ·exact⟨false,fun a b=>by have:=(C.1 a).2.1;omega,fun a b=>by have:=(C.1 a).2.1;omega⟩
  obtain⟨o,H,c2⟩:=T;have:=yY base kind g.length d.length G A B u D o w k j S R (fun P z=>c1 P (N.x.below z)) (fun a b P z=>c2 a b P (N.y.below z))
  refine this.mono fun e v ⟨V,z⟩=>⟨?_,z⟩
  rw [V]
  by_cases F:D=true/\g.length=d.length/\o=true
  ·have ok:OkV base kind g d:=by
    obtain⟨a,b,c⟩:=F;have p:=C.1 a;have q:=(H a b).1 c;exact⟨k,j,S,R,p.1,p.2.1,b.symm,fun i hi=>nodC_two.2 ⟨p.2.2 i hi,q i (by omega)⟩⟩
   have L:E=0:=by
    cases h with
    | ok h=>rfl
    | base h=>omega
    | kind _ _ h=>omega
    | len _ _ r s h=>have:=ok.lo;have:=ok.hi;have:=ok.len;omega
    | node _ _ r s lo hi len K J l m=>rw [ok.node K J] at l;cases l
   rw [if_pos F,L]
  ·have I:E=100:=by
    rcases t with t | t
    ·exfalso;apply F
     rw [t] at h
     have ok:=jR h;have a:=C.2 ⟨ok.lo,ok.hi,fun i hi=>(nodC_two.1 (ok.node i hi)).1⟩
     exact⟨a,ok.len.symm,(H a ok.len.symm).2 (fun i hi=>(nodC_two.1 (ok.node i (by rw [<- ok.len];exact hi))).2)⟩
    ·exact t
   rw [if_neg F,I]
 cases t with
 | base h=>exact sk base kind _ _ w h
 | kind k j h=>exact sn base kind _ _ w k j h
 | ok h=>exact n h.b0 h.b1 h.k1 h.k4 0 (.ok h) (.inl rfl)
 | len k j r s h=>exact n k j r s 100 (.len k j r s h) (.inr rfl)
 | node k j r s lo hi len K J l m=>exact n k j r s 100 (.node k j r s lo hi len K J l m) (.inr rfl)
theorem PK (base kind:Int) (b f:Option Addr) (k l cx m j cy:Nat) (xs:List Int) (ys:List Nat) (w:World) (h:TFl w b f k l m j xs ys) (n:ys.length<=17592186043904) :
  Calls Tryz.prog 10 #[.agg #[.int .i64 base,.int .i64 kind,.slice b xs.length cx,.slice f ys.length cy]] w fun e d=>∃ p g c,e=.returned (.agg #[.int .i64 base,.int .i64 kind,.slice b xs.length cx,.slice p ys.length c])/\CSrcD d b p k l g 0 xs ys/\Below w.heap.size w d:=by
 refine (yS base kind m j cx cy xs.length ys.length b f ys w h.y rfl n).mono fun e d ⟨v,s,r,i⟩=>?_
 obtain⟨p,g,c,rfl,a,t,o,q⟩:=bq r rfl;exact⟨p,g,c,s,⟨h.x.below i,⟨a.at_,a.lt,a.cell⟩,h.u⟩,i⟩
structure SmB (w:World) (base kind:Int) (vx vy ux uy:Value) (wr:World):Prop where
 t0:wr.cell? ⟨w.heap.size,0,none⟩=some (.int .i64 base)
 t1:wr.cell? ⟨w.heap.size,1,none⟩=some (.int .i64 kind)
 t2:wr.cell? ⟨w.heap.size,2,none⟩=some vx
 t3:wr.cell? ⟨w.heap.size,3,none⟩=some vy
 d0:wr.cell? ⟨w.heap.size+1,0,none⟩=some (.int .i64 base)
 d1:wr.cell? ⟨w.heap.size+1,1,none⟩=some (.int .i64 kind)
 d2:wr.cell? ⟨w.heap.size+1,2,none⟩=some ux
 d3:wr.cell? ⟨w.heap.size+1,3,none⟩=some uy
 bl:Below w.heap.size w wr
theorem SmB.drewN {w wr:World} {base kind:Int} {d a c b:Value} (h:SmB w base kind d a c b wr) (q:Nat):SmB w base kind d a c b (wr.drewN q):=
 ⟨h.t0,h.t1,h.t2,h.t3,h.d0,h.d1,h.d2,h.d3,⟨h.bl.os,h.bl.tape,h.bl.output,h.bl.size,h.bl.block⟩⟩
theorem TFl.drewN {w:World} {c g:Option Addr} {e a b d:Nat} {xs:List Int} {ys:List Nat} (h:TFl w c g e a b d xs ys) (q:Nat):TFl (w.drewN q) c g e a b d xs ys:=⟨⟨h.x.at_,h.x.lt,h.x.cell⟩,⟨h.y.at_,h.y.lt,h.y.cell⟩,h.f⟩
theorem CSrcD.drewN {w:World} {g e:Option Addr} {bd a c j:Nat} {b:List Int} {i:List Nat} (h:CSrcD w g e bd a c j b i) (q:Nat):CSrcD (w.drewN q) g e bd a c j b i:=⟨⟨h.d.at_,h.d.lt,h.d.cell⟩,⟨h.f.at_,h.f.lt,h.f.cell⟩,h.u⟩
end Go.Proofs.YtfdddijdjpijbaaGreat
