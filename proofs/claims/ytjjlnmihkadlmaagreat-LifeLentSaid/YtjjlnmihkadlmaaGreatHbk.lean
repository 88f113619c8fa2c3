/-  -/
import Derived.Test.YtjjlnmihkadlmaaGreatHbj
import Derived.Test.YtjjlnmihkadlmaaGreatBShelf
import Derived.Test.YtjjlnmihkadlmaaGreatHam
import Derived.Deep.RegionHeld3
import Derived.Laws.FloatArith
import Derived.Test.YtjjlnmihkadlmaaGreatHan
import Derived.Test.YtjjlnmihkadlmaaGreatHaq
import Derived.Test.YtjjlnmihkadlmaaGreatHal
import Derived.Test.YtjjlnmihkadlmaaGreatHba
namespace Go.Proofs.YtjjlnmihkadlmaaGreat
open Go.RowKit

structure TFl (w:World) (px py:Option Addr) (bx ox b2 oy:Nat) (xs:List Int) (ys:List Nat):Prop where
 x:VSrc w px bx ox xs.length (xV xs)
 y:VSrc w py b2 oy ys.length (flV ys)
 f:∀ i<ys.length,ys.getD i 0<18446744073709551616
theorem TFl.below {w w':World} {px py:Option Addr} {bx ox b2 oy:Nat} {xs:List Int} {ys:List Nat} (h:TFl w px py bx ox b2 oy xs ys) (hb:Below w.heap.size w w'):TFl w' px py bx ox b2 oy xs ys:=⟨h.x.below hb,h.y.below hb,h.f⟩
theorem TFl.u {w:World} {px py:Option Addr} {bx ox b2 oy:Nat} {xs:List Int} {ys:List Nat} (h:TFl w px py bx ox b2 oy xs ys):∀ i<ys.length,U64 (ys.getD i 0:Nat):=fun i hi=>bB (h.f i hi)
theorem jz {p:Nat→Bool} (n:Nat):∃ K≤n,(∀ i<K,p i=false)∧(K<n→p K=true):=by
 by_cases h:∃ i<n,p i=true
 ·obtain⟨k,hk,h1,h2⟩:=cU n h
  exact⟨k,by omega,h2,fun _=>h1⟩
 ·exact⟨n,Nat.le_refl _,fun i hi=>by
   cases hc:p i
   ·rfl
   ·exact absurd ⟨i,hi,hc⟩ h,fun c=>absurd c (Nat.lt_irrefl _)⟩
theorem vV (px:Option Addr) (bx ox cx:Nat) (xs:List Int):∃ g:Bool,(g=true↔(1≤xs.length∧xs.length≤256∧∀ i<xs.length,plB xs i=false))∧∀ w,VSrc w px bx ox xs.length (xV xs)→Calls Tryz.prog 158 #[.slice px xs.length cx] w fun e w'=>e=.returned (.bool g)∧w'=w:=by
 by_cases hl:xs.length<1∨256<xs.length
 ·exact⟨false,⟨fun h=>by simp at h,fun⟨a,b,_⟩=>by omega⟩,fun w _=>vU px _ cx w hl⟩
 ·obtain⟨K,hK,h1,h2⟩:=jz (p:=plB xs) xs.length
  refine⟨decide (xs.length≤K),⟨fun h=>⟨by omega,by omega,fun i hi=>h1 i (by have:=of_decide_eq_true h;omega)⟩,fun⟨_,_,h⟩=>decide_eq_true (Classical.byContradiction fun c=>?_)⟩,fun w hw=>tf px bx ox cx _ K xs w hw (by omega) (by omega) hK h1 h2⟩
  have:=h2 (by omega)
  rw [h K (by omega)] at this
  cases this
theorem vW (kind:Int) (py:Option Addr) (b2 oy cy:Nat) (ys:List Nat) (hn:ys.length≤256) (hf:∀ i<ys.length,ys.getD i 0<18446744073709551616):∃ g:Bool,(g=true↔∀ i<ys.length,vlB kind ys i=false)∧∀ w,VSrc w py b2 oy ys.length (flV ys)→Calls Tryz.prog 159 #[.int .i64 kind,.slice py ys.length cy] w fun e w'=>e=.returned (.bool g)∧w'=w:=by
 obtain⟨K,hK,h1,h2⟩:=jz (p:=vlB kind ys) ys.length
 refine⟨decide (ys.length≤K),⟨fun h i hi=>h1 i (by have:=of_decide_eq_true h;omega),fun h=>decide_eq_true (Classical.byContradiction fun c=>?_)⟩,fun w hw=>th kind py b2 oy cy _ K ys w hw hf hn hK h1 h2⟩
 have:=h2 (by omega)
 rw [h K (by omega)] at this
 cases this
theorem CM (xs:List Int):prv xs 0= -1:=rfl
theorem tj (xs:List Int) (k:Nat):prv xs (k+1)=xs.getD k 0:=rfl
theorem CN {kind:Int} {xs:List Int} {ys:List Nat} (h:∀ i<xs.length,fX kind xs ys i=false):(∀ i<xs.length,plB xs i=false)∧∀ i<xs.length,vlB kind ys i=false:=by
 refine⟨fun i hi=>?_,fun i hi=>?_⟩
 ·obtain⟨a,b,c,_,_⟩:=az (h i hi)
  unfold plB
  rw [Bool.or_eq_false_iff,decide_eq_false_iff_not,decide_eq_false_iff_not]
  refine⟨?_,by omega⟩
  cases i with
  | zero=>show ¬ xs.getD 0 0≤-1;omega
  | succ i=>
   have:=c (by omega)
   show ¬ xs.getD (i+1) 0≤xs.getD i 0
   rw [Nat.add_sub_cancel] at this
   omega
 ·obtain⟨_,_,_,d,e⟩:=az (h i hi)
  unfold vlB
  rw [d]
  by_cases hk:kind=4
  ·rw [e hk];simp
  ·rw [decide_eq_false hk];rfl
theorem CO {kind:Int} {xs:List Int} {ys:List Nat} (h1:∀ i<xs.length,plB xs i=false) (h2:∀ i<xs.length,vlB kind ys i=false):∀ i<xs.length,fX kind xs ys i=false:=fun i hi=>by
 have pos:∀ j,j<xs.length→0≤xs.getD j 0:=fun j=>by
  induction j with
  | zero=>intro hj;have:=h1 0 hj;unfold plB at this;rw [Bool.or_eq_false_iff,decide_eq_false_iff_not,CM] at this;have:=this.1;omega
  | succ j ih=>intro hj;have:=h1 _ hj;have h0:=ih (by omega);unfold plB at this;rw [Bool.or_eq_false_iff,decide_eq_false_iff_not,tj] at this;have:=this.1;omega
 have a:=h1 i hi
 have b:=h2 i hi
 have p:=pos i hi
 unfold plB at a
 unfold vlB at b
 rw [Bool.or_eq_false_iff,decide_eq_false_iff_not,decide_eq_false_iff_not] at a
 rw [Bool.or_eq_false_iff] at b
 unfold fX
 rw [decide_eq_false (by omega),decide_eq_false a.2,b.1,b.2]
 cases i with
 | zero=>rfl
 | succ i=>
  have:=a.1
  rw [tj] at this
  rw [Nat.add_sub_cancel,decide_eq_false this];simp

theorem EY (w:World):(binOp .eql 183 .nilFunc .nilFunc).run Tryz.prog w=.ok (.bool true) w:=by kernel_rfl
theorem Gt (F:Nat) (w:World):(binOp .eql 183 (.func (.func F) #[] #[]) .nilFunc).run Tryz.prog w=.ok (.bool false) w:=by kernel_rfl
set_option maxRecDepth 20000 in
set_option maxHeartbeats 800000 in
theorem tl (kind:Int) (v1 v2:Value) (w:World) (HK:Hid (∀ wx,Calls Tryz.prog 157 #[.int .i64 kind] wx fun e w'=>e=.returned .nilFunc∧w'=wx)) :
  Calls Tryz.prog 118 #[.agg #[.int .i64 kind,v1,v2]] w fun e w'=>e=.returned (.tuple #[.nilFunc,.int .i64 90])∧Below w.heap.size w w':=by
 have HB:=hideS (bY w kind v1 v2)
 have hq:=EY
 go_enter Tryz.func118,Tryz.ntmps118
 go_wp2_with (go_at_call 157;refine (HK.out _).mono ?_;rintro e w1 ⟨rfl,rfl⟩)
 go_ret2
 exact⟨rfl,HB.out.bl⟩
set_option maxRecDepth 20000 in
set_option maxHeartbeats 1600000 in
theorem zp (kind:Int) (F lx ly cx cy:Nat) (px py:Option Addr) (g1 g2:Bool) (w:World) (HK:Hid (∀ wx,Calls Tryz.prog 157 #[.int .i64 kind] wx fun e w'=>e=.returned (.func (.func F) #[] #[])∧w'=wx))
  (HP:Hid (∀ wx,Below w.heap.size w wx→Calls Tryz.prog 158 #[.slice px lx cx] wx fun e w'=>e=.returned (.bool g1)∧w'=wx))
  (HV:Hid (g1=true→lx=ly→∀ wx,Below w.heap.size w wx→Calls Tryz.prog 159 #[.int .i64 kind,.slice py ly cy] wx fun e w'=>e=.returned (.bool g2)∧w'=wx)) :
  Calls Tryz.prog 118 #[.agg #[.int .i64 kind,.slice px lx cx,.slice py ly cy]] w fun e w'=>e=.returned (if g1=true∧lx=ly∧g2=true then .tuple #[.func (.func F) #[] #[],.int .i64 0] else .tuple #[.nilFunc,.int .i64 100])∧Below w.heap.size w w':=by
 have HB:=hideS (bY w kind (.slice px lx cx) (.slice py ly cy))
 have hq:=Gt
 cases g1 with
 | false=>
  rw [if_neg (by simp)]
  clear HV
  go_enter Tryz.func118,Tryz.ntmps118
  go_wp2_with (first | (go_at_call 157;refine (HK.out _).mono ?_;rintro e w1 ⟨rfl,rfl⟩) | (go_at_call 158;refine (HP.out _ HB.out.bl).mono ?_;rintro e w1 ⟨rfl,rfl⟩))
  go_ret2
  exact⟨rfl,HB.out.bl⟩
 | true=>
  by_cases hl:lx=ly
  ·have hne:((ly:Int) !=(lx:Int))=false:=by rw [hl];simp
   have HV':=hideS (HV.out rfl hl)
   clear HV
   cases g2 with
   | false=>
    rw [if_neg (by simp)]
    clear hl
    go_enter Tryz.func118,Tryz.ntmps118
    go_wp2_with (first | (go_at_call 157;refine (HK.out _).mono ?_;rintro e w1 ⟨rfl,rfl⟩) | (go_at_call 158;refine (HP.out _ HB.out.bl).mono ?_;rintro e w1 ⟨rfl,rfl⟩) | (go_at_call 159;refine (HV'.out _ HB.out.bl).mono ?_;rintro e w1 ⟨rfl,rfl⟩))
    go_ret2
    exact⟨rfl,HB.out.bl⟩
   | true=>
    rw [if_pos ⟨rfl,hl,rfl⟩]
    clear hl
    go_enter Tryz.func118,Tryz.ntmps118
    go_wp2_with (first | (go_at_call 157;refine (HK.out _).mono ?_;rintro e w1 ⟨rfl,rfl⟩) | (go_at_call 158;refine (HP.out _ HB.out.bl).mono ?_;rintro e w1 ⟨rfl,rfl⟩) | (go_at_call 159;refine (HV'.out _ HB.out.bl).mono ?_;rintro e w1 ⟨rfl,rfl⟩))
    go_ret2
    exact⟨rfl,HB.out.bl⟩
  ·have hne:((ly:Int) !=(lx:Int))=true:=by simp;omega
   rw [if_neg (fun c=>hl c.2.1)]
   clear HV hl
   go_enter Tryz.func118,Tryz.ntmps118
   go_wp2_with (first | (go_at_call 157;refine (HK.out _).mono ?_;rintro e w1 ⟨rfl,rfl⟩) | (go_at_call 158;refine (HP.out _ HB.out.bl).mono ?_;rintro e w1 ⟨rfl,rfl⟩))
   go_ret2
   exact⟨rfl,HB.out.bl⟩
def chF (kind E:Int):Value:=if E=0 then .func (.func (fT kind)) #[] #[] else .nilFunc
theorem vZ (kind E:Int) (px py:Option Addr) (bx ox cx b2 oy cy:Nat) (xs:List Int) (ys:List Nat) (w:World) (h:TabR kind xs ys E) (hs:TFl w px py bx ox b2 oy xs ys) :
  Calls Tryz.prog 118 #[.agg #[.int .i64 kind,.slice px xs.length cx,.slice py ys.length cy]] w fun e w'=>e=.returned (.tuple #[chF kind E,.int .i64 E])∧Below w.heap.size w w':=by
 have key:1≤kind→kind≤4→∀ E,TabR kind xs ys E→(E=0∨E=100)→Calls Tryz.prog 118 #[.agg #[.int .i64 kind,.slice px xs.length cx,.slice py ys.length cy]] w fun e w'=>e=.returned (.tuple #[chF kind E,.int .i64 E])∧Below w.heap.size w w':=fun k1 k4 E h hE=>by
  obtain⟨g1,e1,c1⟩:=vV px bx ox cx xs
  have hv:∃ g2:Bool,(g1=true→xs.length=ys.length→(g2=true↔∀ i<ys.length,vlB kind ys i=false))∧(g1=true→xs.length=ys.length→∀ w,VSrc w py b2 oy ys.length (flV ys)→Calls Tryz.prog 159 #[.int .i64 kind,.slice py ys.length cy] w fun e w'=>e=.returned (.bool g2)∧w'=w):=by
   by_cases hl:ys.length≤256
   ·obtain⟨g2,e2,c2⟩:=vW kind py b2 oy cy ys hl hs.f
    exact⟨g2,fun _ _=>e2,fun _ _=>c2⟩
   ·exact⟨false,fun a b=>by have:=(e1.1 a).2.1;omega,fun a b=>by have:=(e1.1 a).2.1;omega⟩
  obtain⟨g2,e2,c2⟩:=hv
  have:=zp kind (fT kind) xs.length ys.length cx cy px py g1 g2 w (fun wx=>mN kind wx k1 k4) (fun wx hb=>c1 wx (hs.x.below hb)) (fun a b wx hb=>c2 a b wx (hs.y.below hb))
  refine this.mono fun e w' ⟨he,hb⟩=>⟨?_,hb⟩
  rw [he]
  by_cases hg:g1=true∧xs.length=ys.length∧g2=true
  ·have ok:OkT kind xs ys:=by
    obtain⟨a,b,c⟩:=hg
    have p:=e1.1 a
    have q:=(e2 a b).1 c
    exact⟨k1,k4,p.1,p.2.1,b.symm,CO p.2.2 (fun i hi=>q i (by omega))⟩
   have hE0:E=0:=by
    cases h with
    | ok h=>rfl
    | kind h=>omega
    | len h1 h4 h=>have:=ok.lo;have:=ok.hi;have:=ok.len;omega
    | node h1 h4 lo hi len K hK bad fine=>rw [ok.node K hK] at bad;cases bad
   rw [if_pos hg,hE0];rfl
  ·have hE1:E=100:=by
    rcases hE with hE | hE
    ·exfalso;apply hg
     rw [hE] at h
     have ok:=wQ h
     obtain⟨p,q⟩:=CN ok.node
     have a:=e1.2 ⟨ok.lo,ok.hi,p⟩
     exact⟨a,ok.len.symm,(e2 a ok.len.symm).2 (fun i hi=>q i (by rw [← ok.len];exact hi))⟩
    ·exact hE
   rw [if_neg hg,hE1];rfl
 cases h with
 | kind h=>exact tl kind _ _ w (fun wx=>mM kind wx h)
 | ok h=>exact key h.k1 h.k4 0 (.ok h) (.inl rfl)
 | len h1 h4 h=>exact key h1 h4 100 (.len h1 h4 h) (.inr rfl)
 | node h1 h4 lo hi len K hK bad fine=>exact key h1 h4 100 (.node h1 h4 lo hi len K hK bad fine) (.inr rfl)

end Go.Proofs.YtjjlnmihkadlmaaGreat
namespace Go.Proofs.YtjjlnmihkadlmaaGreat
open Go.RowKit

theorem to {xs:List Int} {m:Nat} {y:Int} (h:y ∈ xs.take m):∃ j,j<m∧j<xs.length∧xs.getD j 0=y:=by
 obtain⟨j,hj,e⟩:=List.mem_iff_getElem.1 h
 have hj':j<m∧j<xs.length:=by rw [List.length_take] at hj;omega
 refine⟨j,hj'.1,hj'.2,?_⟩
 rw [← e,List.getElem_take];simp [List.getD,hj'.2]
theorem tp {xs:List Int} {m:Nat} {y:Int} (h:y ∈ xs.drop m):∃ j,m≤j∧j<xs.length∧xs.getD j 0=y:=by
 obtain⟨j,hj,e⟩:=List.mem_iff_getElem.1 h
 have hj':m+j<xs.length:=by rw [List.length_drop] at hj;omega
 refine⟨m+j,by omega,hj',?_⟩
 rw [← e,List.getElem_drop];simp [List.getD,hj']
theorem tq {xs:List Int} {x:Int} {m:Nat} (hm:m≤xs.length) (lo:∀ j,j<m→xs.getD j 0<x) (hi:∀ j,m≤j→j<xs.length→¬ xs.getD j 0<x):xs.countP (fun y=>decide (y<x))=m:=by
 have e:xs.countP (fun y=>decide (y<x))=(xs.take m).countP (fun y=>decide (y<x))+(xs.drop m).countP (fun y=>decide (y<x)):=by
  rw [← List.countP_append,List.take_append_drop]
 rw [e,List.countP_eq_length.2 (fun y hy=>?_),List.countP_eq_zero.2 (fun y hy=>?_),List.length_take]
 ·omega
 ·obtain⟨j,h1,h2,rfl⟩:=tp hy
  simpa using hi j h1 h2
 ·obtain⟨j,h1,h2,rfl⟩:=to hy
  simpa using lo j h1
theorem zq {kind:Int} {xs:List Int} {ys:List Nat} (h:OkT kind xs ys):xs.Pairwise (·≤·):=by
 rw [List.pairwise_iff_getElem]
 intro i j hi hj hij
 have:=h.rise hij hj
 simp [List.getD,hi,hj] at this
 omega
theorem zr {kind x:Int} {xs:List Int} {ys:List Nat} {k:Nat} (h:OkT kind xs ys) (hk:FindR xs x k):(xs.contains x=true∧xs.countP (fun y=>decide (y<x))=k)∨(xs.contains x=false∧xs.countP (fun y=>decide (y<x))=k+1):=by
 have lt:=hk.lt
 have lo:∀ j,j<k→xs.getD j 0<x:=fun j hj=>Int.lt_of_lt_of_le (h.rise hj lt) hk.le
 have hi:∀ j,k+1≤j→j<xs.length→x<xs.getD j 0:=fun j h1 h2=>by
  have g:=hk.gt (by omega)
  by_cases e:j=k+1
  ·rw [e];exact g
  ·exact Int.lt_trans g (h.rise (by omega) h2)
 by_cases e:xs.getD k 0=x
 ·refine .inl ⟨?_,tq (by omega) lo (fun j h1 h2=>?_)⟩
  ·rw [List.contains_iff_mem]
   have:xs.getD k 0=xs[k]:=by simp [List.getD,lt]
   rw [← e,this];exact List.getElem_mem lt
  ·by_cases ej:j=k
   ·rw [ej];omega
   ·have:=hi j (by omega) h2;omega
 ·refine .inr ⟨?_,tq (by omega) (fun j hj=>?_) (fun j h1 h2=>?_)⟩
  ·rw [Bool.eq_false_iff]
   intro c
   rw [List.contains_iff_mem] at c
   obtain⟨j,hj,ej⟩:=List.mem_iff_getElem.1 c
   have ej':xs.getD j 0=x:=by rw [← ej];simp [List.getD,hj]
   by_cases h1:j<k
   ·have:=lo j h1;omega
   ·by_cases h2:j=k
    ·rw [h2] at ej';exact e ej'
    ·have:=hi j (by omega) hj;omega
  ·by_cases h1:j<k
   ·exact lo j h1
   ·have:j=k:=by omega
    rw [this];have:=hk.le;omega
  ·have:=hi j h1 h2;omega
theorem wc (kind x:Int) (bx ox cx:Nat) (xs:List Int) (ys:List Nat) (w:World) (h:OkT kind xs ys) (hX:VSrc w (some ⟨bx,ox,none⟩) bx ox xs.length (xV xs)) :
  Calls Tryz.prog 160 #[.slice (some ⟨bx,ox,none⟩) xs.length cx,.int .i64 x] w fun e w'=>e=.returned (.tuple #[.int .i64 ((xs.countP fun y=>decide (y<x):Nat):Int),.bool (xs.contains x)])∧∃ q,w'=w.drewN q:=by
 have hl:=h.hi
 have hs:(xs.take xs.length).Pairwise (·≤·):=by rw [List.take_length];exact zq h
 have:=Any.slices_BinarySearch_int Tryz.bsL bx ox xs.length cx xs x w (Nat.le_refl _) (by omega) (fun j hj=>hX.cell j hj) hs
 rw [List.take_length] at this
 exact this

set_option maxHeartbeats 1600000 in
theorem tr (x:Int) (px:Option Addr) (bx ox cx n:Nat) (xs:List Int) (w:World) (hX:VSrc w px bx ox n (xV xs)) (hn:1≤n) (hn':n≤256) (hx:x<xs.getD 0 0∨xs.getD (n - 1) 0<x) :
  Calls Tryz.prog 119 #[.slice px n cx,.int .i64 x] w fun e w'=>e=.returned (.tuple #[.int .i64 0,.int .i64 51])∧w'=w:=by
 obtain rfl:=hX.at_ (by omega)
 obtain⟨m,hm⟩:∃ m,n=m+1:=⟨n - 1,by omega⟩
 have hm1:n - 1=m:=by omega
 rw [hm1] at hx
 have hnm:(n:Int) - 1=(m:Int):=by omega
 have hmn:m<n:=by omega
 have h0n:0<n:=by omega
 have e0:w.cell? ⟨bx,ox,none⟩=some (.int .i64 (xs.getD 0 0)):=hX.cell 0 (by omega)
 have e1:w.cell? ⟨bx,ox+m,none⟩=some (.int .i64 (xs.getD m 0)):=hX.cell m hmn
 clear hX hm hm1 hn
 generalize xs.getD 0 0=a at *
 generalize xs.getD m 0=b at *
 rcases (show x<a∨(a≤x∧b<x) by omega) with h | ⟨h,h'⟩
 ·have d1:decide (x<a)=true:=decide_eq_true h
  clear hx
  go_enter Tryz.func119,Tryz.ntmps119
  go_wp2_with fail
  go_ret2
  exact⟨rfl,rfl⟩
 ·have d1:decide (x<a)=false:=decide_eq_false (by omega)
  have d2:decide (b<x)=true:=decide_eq_true h'
  clear hx
  go_enter Tryz.func119,Tryz.ntmps119
  go_wp2_with fail
  go_ret2
  exact⟨rfl,rfl⟩

set_option maxHeartbeats 1600000 in
theorem we (kind x:Int) (px:Option Addr) (bx ox cx n k:Nat) (xs:List Int) (ys:List Nat) (w:World) (h:OkT kind xs ys) (hl:xs.length=n) (hX:VSrc w px bx ox n (xV xs)) (h0:xs.getD 0 0≤x) (h9:x≤xs.getD (n - 1) 0) (hk:FindR xs x k) :
  Calls Tryz.prog 119 #[.slice px n cx,.int .i64 x] w fun e w'=>e=.returned (.tuple #[.int .i64 (k:Int),.int .i64 0])∧Below w.heap.size w w':=by
 have hn:=h.lo
 have hn':=h.hi
 rw [hl] at hn hn'
 obtain rfl:=hX.at_ (by omega)
 have HS:Hid (∀ wx,wx=w→Calls Tryz.prog 160 #[.slice (some ⟨bx,ox,none⟩) n cx,.int .i64 x] wx fun e w'=>e=.returned (.tuple #[.int .i64 ((xs.countP fun y=>decide (y<x):Nat):Int),.bool (xs.contains x)])∧∃ q,w'=wx.drewN q):=fun wx hw=>by
  subst hw
  rw [← hl] at hX ⊢
  exact wc kind x bx ox cx xs ys _ h hX
 have HT:=hideS (zr h hk)
 have hkl:=hk.lt
 obtain⟨m,hm⟩:∃ m,n=m+1:=⟨n - 1,by omega⟩
 have hm1:n - 1=m:=by omega
 rw [hm1] at h9
 have hnm:(n:Int) - 1=(m:Int):=by omega
 have hmn:m<n:=by omega
 have h0n:0<n:=by omega
 have e0:w.cell? ⟨bx,ox,none⟩=some (.int .i64 (xs.getD 0 0)):=hX.cell 0 (by omega)
 have e1:w.cell? ⟨bx,ox+m,none⟩=some (.int .i64 (xs.getD m 0)):=hX.cell m hmn
 have d1:decide (x<xs.getD 0 0)=false:=decide_eq_false (by omega)
 have d2:decide (xs.getD m 0<x)=false:=decide_eq_false (by omega)
 rw [hl] at hkl
 clear hX hm hm1 hn h0 h9 h hk hl
 generalize xs.getD 0 0=a at *
 generalize xs.getD m 0=b at *
 generalize (xs.countP fun y=>decide (y<x))=cnt at *
 generalize xs.contains x=fnd at *
 rcases HT.out with⟨rfl,rfl⟩| ⟨rfl,rfl⟩
 ·go_enter Tryz.func119,Tryz.ntmps119
  go_wp2_with fail
  refine (HS.out _ rfl).mono ?_
  rintro e w1 ⟨rfl,q,rfl⟩
  go_wp2_with fail
  go_ret2
  exact⟨rfl,⟨rfl,rfl,rfl,Nat.le_refl _,fun _ _=>rfl⟩⟩
 ·have f1:((k+1:Nat):Int) - 1=(k:Int):=by omega
  generalize ((k+1:Nat):Int)=k1 at *
  go_enter Tryz.func119,Tryz.ntmps119
  go_wp2_with fail
  refine (HS.out _ rfl).mono ?_
  rintro e w1 ⟨rfl,q,rfl⟩
  go_wp2_with fail
  go_ret2
  exact⟨rfl,⟨rfl,rfl,rfl,Nat.le_refl _,fun _ _=>rfl⟩⟩

theorem kG (kind x k E:Int) (px py:Option Addr) (bx ox cx b2 oy:Nat) (xs:List Int) (ys:List Nat) (w:World) (ok:OkT kind xs ys) (h:FindO kind xs ys x k E) (hs:TFl w px py bx ox b2 oy xs ys) :
  Calls Tryz.prog 119 #[.slice px xs.length cx,.int .i64 x] w fun e w'=>e=.returned (.tuple #[.int .i64 k,.int .i64 E])∧Below w.heap.size w w':=by
 cases h with
 | bad E h hE=>
  exfalso
  cases h with
  | ok h=>exact hE rfl
  | kind h=>have:=ok.k1;have:=ok.k4;omega
  | len h1 h4 h=>have:=ok.lo;have:=ok.hi;have:=ok.len;omega
  | node h1 h4 lo hi len K hK bad fine=>rw [ok.node K hK] at bad;cases bad
 | out h hx=>exact (tr x px bx ox cx _ xs w hs.x h.lo h.hi hx).mono fun e w' ⟨a,b⟩=>⟨a,b▸Below.refl _ _⟩
 | at_ h hlo hhi k hk hj=>exact we kind x px bx ox cx _ k xs ys w h rfl hs.x hlo hhi hk
end Go.Proofs.YtjjlnmihkadlmaaGreat
namespace Go.Proofs.YtjjlnmihkadlmaaGreat
open Go.RowKit

theorem lc {o:Option Nat} (h:NN (cn o)):o=some (cn o):=by
 cases o with
 | none=>exfalso;have:=h.nan;exact absurd this (by decide)
 | some r=>rfl
theorem tt {x y:Nat} (h:NN (lW x y)):floatBits .sub .f64 x y=some (lW x y):=lc h
theorem fc {x y:Nat} (h:NN (cR x y)):floatBits .quo .f64 x y=some (cR x y):=lc h
theorem tu {x y:Nat} (h:NN (nL x y)):floatBits .mul .f64 x y=some (nL x y):=lc h
theorem tv {x y:Nat} (h:NN (iF x y)):floatBits .add .f64 x y=some (iF x y):=lc h
structure SixF (w:World) (B:Nat) (vx vy:Value) (bx ox b2 oy k j:Nat) (x0 x1:Int) (y0 y1:Nat):Prop where
 t1:w.cell? ⟨B,1,none⟩=some vx
 t2:w.cell? ⟨B,2,none⟩=some vy
 a0:w.cell? ⟨bx,ox+k,none⟩=some (.int .i64 x0)
 a1:w.cell? ⟨bx,ox+j,none⟩=some (.int .i64 x1)
 b0:w.cell? ⟨b2,oy+k,none⟩=some (.float .f64 y0)
 b1:w.cell? ⟨b2,oy+j,none⟩=some (.float .f64 y1)
theorem Gu {w wr:World} {kind:Int} {px py:Option Addr} {bx ox cx b2 oy cy k:Nat} {xs:List Int} {ys:List Nat} (hs:TFl w px py bx ox b2 oy xs ys) (hl:ys.length=xs.length) (hk:k+1<xs.length) (hB:TBox w kind (.slice px xs.length cx) (.slice py ys.length cy) wr) :
  SixF wr w.heap.size (.slice (some ⟨bx,ox,none⟩) xs.length cx) (.slice (some ⟨b2,oy,none⟩) xs.length cy) bx ox b2 oy k (k+1) (xs.getD k 0) (xs.getD (k+1) 0) (ys.getD k 0) (ys.getD (k+1) 0)∧px=some ⟨bx,ox,none⟩ ∧py=some ⟨b2,oy,none⟩:=by
 obtain rfl:=hs.x.at_ (by omega)
 obtain rfl:=hs.y.at_ (by omega)
 have hs':=hs.below hB.bl
 rw [hl] at hB
 exact⟨⟨hB.t1,hB.t2,hs'.x.cell k (by omega),hs'.x.cell (k+1) hk,hs'.y.cell k (by omega),hs'.y.cell (k+1) (by omega)⟩,rfl,rfl⟩

set_option maxHeartbeats 1600000 in
theorem CP (kind:Int) (bx ox cx b2 oy cy n k:Nat) (x0 x1:Int) (y0 y1 u h r:Nat) (w w1:World) (hw1:w.alloc (.cells #[.int .i64 kind,.slice (some ⟨bx,ox,none⟩) n cx,.slice (some ⟨b2,oy,none⟩) n cy] 148)=w1) (hS:SixF w1 w.heap.size (.slice (some ⟨bx,ox,none⟩) n cx) (.slice (some ⟨b2,oy,none⟩) n cy) bx ox b2 oy k (k+1) x0 x1 y0 y1) (hbl:Below w.heap.size w w1) (hjn:k+1<n) (hn:n≤1000) (h0:0≤x0) (h1:x0≤109572) (h2:0≤x1) (h3:x1≤109572) (q1:floatBits .sub .f64 y1 y0=some u) (qf:floatOfInt .f64 (x1 - x0)=h) (q2:floatBits .quo .f64 u h=some r) :
  Calls Tryz.prog 206 #[.agg #[.int .i64 kind,.slice (some ⟨bx,ox,none⟩) n cx,.slice (some ⟨b2,oy,none⟩) n cy],.int .i64 (k:Int)] w fun e w'=>e=.returned (.float .f64 r)∧Below w.heap.size w w':=by
 have f1:IntKind.i64.wrap ((k:Int)+1)=(k:Int)+1:=by rw [IntKind.wrap_i64];omega
 have f2:IntKind.i64.wrap (x1 - x0)=x1 - x0:=by rw [IntKind.wrap_i64];omega
 have g1:(0:Int)≤(k:Int)+1:=by omega
 have g2:(k:Int)+1<(n:Int):=by omega
 have g3:(0:Int)≤(k:Int):=by omega
 have g4:(k:Int)<(n:Int):=by omega
 have r1:=fun w=>run_float_arith (P:=Tryz.prog) w .sub 54 .f64 y1 y0 u q1
 have r2:=fun w=>run_float_arith (P:=Tryz.prog) w .quo 54 .f64 u h r q2
 obtain⟨t1,t2,a0,a1,b0,b1⟩:=hS
 have HB:=hideS hbl
 clear hbl q1 q2
 go_enter Tryz.func206,Tryz.ntmps206
 go_wp2_with fail
 clear hw1
 go_quiet (fail)
 go_wp2_with fail
 go_ret
 exact⟨rfl,HB.out.os,HB.out.tape,HB.out.output,HB.out.size,HB.out.block⟩
theorem CQ (kind:Int) (px py:Option Addr) (bx ox cx b2 oy cy k:Nat) (xs:List Int) (ys:List Nat) (w:World) (h:OkT kind xs ys) (hs:TFl w px py bx ox b2 oy xs ys) (hk:k+1<xs.length) :
  Calls Tryz.prog 206 #[.agg #[.int .i64 kind,.slice px xs.length cx,.slice py ys.length cy],.int .i64 (k:Int)] w fun e w'=>e=.returned (.float .f64 (bF xs ys k))∧Below w.heap.size w w':=by
 obtain⟨hS,rfl,rfl⟩:=Gu hs h.len hk (bY w kind (.slice px xs.length cx) (.slice py ys.length cy))
 have hl:=h.len
 have n0:=az (h.node k (by omega))
 have n1:=az (h.node (k+1) hk)
 have hst:=dX h hs.u hk
 rw [hl] at hS ⊢
 exact CP kind bx ox cx b2 oy cy xs.length k _ _ _ _ _ _ _ w _ rfl hS (bY w kind _ _).bl hk (by have:=h.hi;omega) n0.1 n0.2.1 n1.1 n1.2.1 (tt (xr (aE h hs.u hk) (aE h hs.u (by omega)))) (be _) (fc hst)

theorem tw (xs:List Int) (ys:List Nat):∀ m k,k≤m→(eS xs ys m).getD k 0=if k=0 then bF xs ys 0 else slB (bF xs ys (k - 1)) (bF xs ys k)
 | 0,k,h=>by
  obtain rfl:k=0:=by omega
  rfl
 | m+1,k,h=>by
  rw [lX]
  by_cases hk:k≤m
  ·rw [← tw xs ys m k hk]
   have:=gR xs ys m
   simp [List.getD,List.getElem?_append_left (show k<(eS xs ys m).length by omega)]
  ·obtain rfl:k=m+1:=by omega
   rw [if_neg (by omega),Nat.add_sub_cancel]
   have:=gR xs ys m
   simp [List.getD,this]
theorem CR {xs:List Int} {ys:List Nat} {n k:Nat} (hk:k<n):(dB xs ys n).getD k 0=if n=1 then 0 else if k=0 then bF xs ys 0 else if k=n - 1 then bF xs ys (n - 2) else slB (bF xs ys (k - 1)) (bF xs ys k):=by
 unfold dB
 by_cases h1:n=1
 ·obtain rfl:k=0:=by omega
  rw [if_pos h1,if_pos h1];rfl
 ·rw [if_neg h1,if_neg h1]
  have hl:=gR xs ys (n - 2)
  by_cases he:k=n - 1
  ·rw [if_pos he]
   by_cases h0:k=0
   ·omega
   ·rw [if_neg h0]
    simp [List.getD,List.getElem?_append_right (show (eS xs ys (n - 2)).length≤k by omega),show k - (eS xs ys (n - 2)).length=0 by omega]
  ·rw [if_neg he,← tw xs ys (n - 2) k (by omega)]
   simp [List.getD,List.getElem?_append_left (show k<(eS xs ys (n - 2)).length by omega)]

set_option maxRecDepth 20000 in
set_option maxHeartbeats 800000 in
theorem zt (kind:Int) (px:Option Addr) (cx:Nat) (v2:Value) (k:Int) (w:World) :
  Calls Tryz.prog 198 #[.agg #[.int .i64 kind,.slice px 1 cx,v2],.int .i64 k] w fun e w'=>e=.returned (.float .f64 0)∧Below w.heap.size w w':=by
 have HB:=hideS (bY w kind (.slice px 1 cx) v2)
 go_enter Tryz.func198,Tryz.ntmps198
 go_wp2_with fail
 go_ret
 exact⟨rfl,HB.out.bl⟩
def Gv (w:World) (kind:Int) (v1 v2:Value) (n:Nat) (st:Nat→Nat):Prop:=∀ wx,Below w.heap.size w wx→∀ k,k+1<n→Calls Tryz.prog 206 #[.agg #[.int .i64 kind,v1,v2],.int .i64 (k:Int)] wx fun e w'=>e=.returned (.float .f64 (st k))∧Below wx.heap.size wx w'
set_option maxRecDepth 20000 in
set_option maxHeartbeats 800000 in
theorem tx (kind:Int) (px:Option Addr) (cx n:Nat) (v2:Value) (st:Nat→Nat) (w:World) (H:Hid (Gv w kind (.slice px n cx) v2 n st)) (hn:2≤n) (hn':n≤256) :
  Calls Tryz.prog 198 #[.agg #[.int .i64 kind,.slice px n cx,v2],.int .i64 0] w fun e w'=>e=.returned (.float .f64 (st 0))∧Below w.heap.size w w':=by
 have HB:=hideS (bY w kind (.slice px n cx) v2)
 obtain⟨m,rfl⟩:∃ m,n=m+2:=⟨n - 2,by omega⟩
 have e1:((m+2:Nat):Int) - 1=(m:Int)+1:=by omega
 have e2:((m:Int)+1==0)=false:=beq_eq_false_iff_ne.2 (by omega)
 have HR:Hid (∀ wx,Below w.heap.size w wx→Calls Tryz.prog 206 #[.agg #[.int .i64 kind,.slice px (m+2) cx,v2],.int .i64 0] wx fun e w'=>e=.returned (.float .f64 (st 0))∧Below wx.heap.size wx w'):=fun wx hb=>by
  have:=H.out wx hb 0 (by omega)
  rw [show ((0:Nat):Int)=0 from rfl] at this
  exact this
 clear H
 go_enter Tryz.func198,Tryz.ntmps198
 go_wp2_with fail
 refine (HR.out _ HB.out.bl).mono ?_
 rintro e w1 ⟨rfl,hb1⟩
 have HB1:=hideS (HB.out.step hb1)
 clear hb1
 go_wp2_with fail
 go_ret
 exact⟨rfl,HB1.out.bl⟩
set_option maxRecDepth 20000 in
set_option maxHeartbeats 800000 in
theorem wg (kind:Int) (px:Option Addr) (cx n m:Nat) (v2:Value) (st:Nat→Nat) (w:World) (H:Hid (Gv w kind (.slice px n cx) v2 n st)) (hm:n=m+2) (hn':n≤256) :
  Calls Tryz.prog 198 #[.agg #[.int .i64 kind,.slice px n cx,v2],.int .i64 ((m:Int)+1)] w fun e w'=>e=.returned (.float .f64 (st m))∧Below w.heap.size w w':=by
 have HB:=hideS (bY w kind (.slice px n cx) v2)
 have e1:(n:Int) - 1=(m:Int)+1:=by omega
 have e2:((m:Int)+1==0)=false:=beq_eq_false_iff_ne.2 (by omega)
 have HR:=hideS fun wx hb=>H.out wx hb m (by omega)
 have e3:((m:Int)+1) - 1=(m:Int):=by omega
 have e4:IntKind.i64.wrap ((n:Int) - 1)=(m:Int)+1:=by rw [IntKind.wrap_i64];omega
 have e5:IntKind.i64.wrap ((m:Int)+1 - 1)=(m:Int):=by rw [IntKind.wrap_i64];omega
 clear H hm e1 e3
 generalize (m:Int)+1=m1 at *
 go_enter Tryz.func198,Tryz.ntmps198
 go_wp2_with fail
 refine (HR.out _ HB.out.bl).mono ?_
 rintro e w1 ⟨rfl,hb1⟩
 have HB1:=hideS (HB.out.step hb1)
 clear hb1
 go_wp2_with fail
 go_ret
 exact⟨rfl,HB1.out.bl⟩
structure SlT (a b s:Nat) (a0 b0 al bl:Bool):Prop where
 p1:(FloatKind.f64.format.order a 0==some .eq)=a0
 p2:(FloatKind.f64.format.order b 0==some .eq)=b0
 p3:(FloatKind.f64.format.order a 0==some .lt)=al
 p4:(FloatKind.f64.format.order b 0==some .lt)=bl
 z:(a0||b0||(al !=bl))=true→s=0
 nz:(a0||b0||(al !=bl))=false→∃ p q t,floatBits .quo .f64 4607182418800017408 a=some p∧floatBits .quo .f64 4607182418800017408 b=some q∧floatBits .add .f64 p q=some t∧floatBits .quo .f64 4611686018427387904 t=some s
theorem Gw {a b:Nat} (ha:NN a) (hb:NN b):∃ a0 b0 al bl,SlT a b (slB a b) a0 b0 al bl:=by
 have z:(0:Nat)<18446744073709551616:=by decide
 refine⟨_,_,_,_,rfl,rfl,rfl,rfl,?_,?_⟩
 all_goals
  rw [eg (bB ha.lt) (bB z) ha.nan (by decide),eg (bB hb.lt) (bB z) hb.nan (by decide),iU (bB ha.lt) (bB z) ha.nan (by decide),iU (bB hb.lt) (bB z) hb.nan (by decide),show ae ((0:Nat):Int)=0 by decide]
 ·intro h
  unfold slB
  rw [ax (by decide) ha.nan,ax (by decide) hb.nan,ax ha.nan (by decide),ax hb.nan (by decide),show ae 0=0 by decide]
  generalize ae (a:Nat)=r at *
  generalize ae (b:Nat)=s at *
  rw [if_neg]
  intro c
  simp only [Bool.or_eq_true,Bool.and_eq_true,decide_eq_true_eq,bne_iff_ne,ne_eq,decide_eq_decide] at c h
  omega
 ·intro h
  have hc:((ltB 0 (a:Nat)&&ltB 0 (b:Nat))||(ltB (a:Nat) 0&&ltB (b:Nat) 0))=true:=by
   rw [ax (by decide) ha.nan,ax (by decide) hb.nan,ax ha.nan (by decide),ax hb.nan (by decide),show ae 0=0 by decide]
   generalize ae (a:Nat)=r at *
   generalize ae (b:Nat)=s at *
   simp only [Bool.or_eq_true,Bool.and_eq_true,decide_eq_true_eq,Bool.or_eq_false_iff,decide_eq_false_iff_not,bne_eq_false_iff_eq,decide_eq_decide] at h ⊢
   omega
  have hsg:a % 9223372036854775808≠0∧b % 9223372036854775808≠0∧sB a=sB b:=by
   rw [Bool.or_eq_true,Bool.and_eq_true,Bool.and_eq_true] at hc
   rcases hc with⟨p,q⟩| ⟨p,q⟩
   ·obtain⟨p1,p2⟩:=fO ha.lt p
    obtain⟨q1,q2⟩:=fO hb.lt q
    exact⟨p1,q1,by rw [p2,q2]⟩
   ·obtain⟨p1,p2⟩:=kZ ha.lt p
    obtain⟨q1,q2⟩:=kZ hb.lt q
    exact⟨p1,q1,by rw [p2,q2]⟩
  have one:af 4607182418800017408:=by unfold af;decide
  obtain⟨n1,s1⟩:=mu one (by decide) (by decide) ha hsg.1
  obtain⟨n2,s2⟩:=mu one (by decide) (by decide) hb hsg.2.1
  have n3:=oL n1 n2 (by rw [s1,s2,hsg.2.2])
  refine⟨_,_,_,fc n1,fc n2,tv n3,?_⟩
  unfold slB
  rw [if_pos hc]
  exact fc (Ci n3)

set_option maxRecDepth 20000 in
set_option maxHeartbeats 3200000 in
theorem zw (kind:Int) (px:Option Addr) (cx n j k a b s:Nat) (a0 b0 al bl:Bool) (v2:Value) (w:World) (hk:k=j+1) (hkn:k+1<n) (hn':n≤256) (hT:SlT a b s a0 b0 al bl)
  (HA:Hid (∀ wx,Below w.heap.size w wx→Calls Tryz.prog 206 #[.agg #[.int .i64 kind,.slice px n cx,v2],.int .i64 (j:Int)] wx fun e w'=>e=.returned (.float .f64 a)∧Below wx.heap.size wx w'))
  (HC:Hid (∀ wx,Below w.heap.size w wx→Calls Tryz.prog 206 #[.agg #[.int .i64 kind,.slice px n cx,v2],.int .i64 (k:Int)] wx fun e w'=>e=.returned (.float .f64 b)∧Below wx.heap.size wx w')) :
  Calls Tryz.prog 198 #[.agg #[.int .i64 kind,.slice px n cx,v2],.int .i64 (k:Int)] w fun e w'=>e=.returned (.float .f64 s)∧Below w.heap.size w w':=by
 have HB:=hideS (bY w kind (.slice px n cx) v2)
 have e1:IntKind.i64.wrap ((n:Int) - 1)=(n:Int) - 1:=by rw [IntKind.wrap_i64];omega
 have e2:((n:Int) - 1==0)=false:=beq_eq_false_iff_ne.2 (by omega)
 have e3:((k:Int)==0)=false:=beq_eq_false_iff_ne.2 (by omega)
 have e4:((k:Int)==(n:Int) - 1)=false:=beq_eq_false_iff_ne.2 (by omega)
 have e5:IntKind.i64.wrap ((k:Int) - 1)=(j:Int):=by rw [IntKind.wrap_i64];omega
 obtain⟨t1,t2,t3,t4,hz,hnz⟩:=hT
 have HT:=hideS (And.intro hz hnz)
 clear hk hkn hz hnz
 obtain⟨w0,hw0⟩:∃ w0,w.alloc (.cells #[.int .i64 kind,.slice px n cx,v2] 148)=w0:=⟨_,rfl⟩
 rw [hw0] at HB
 have u0:=HB.out.t0
 have u1:=HB.out.t1
 have u2:=HB.out.t2
 go_enter Tryz.func198,Tryz.ntmps198
 go_wp2_with fail
 clear hw0
 go_region_with (first | (go_at_call_of 206 (Value.int IntKind.i64 (j:Int));refine (HA.out _ HB.out.bl.drew).mono ?_;rintro e w1 ⟨rfl,hb1⟩;have HB1:=hideS ((HB.out.drewN 1).step hb1);have u3:=HB1.out.t0;have u4:=HB1.out.t1;have u5:=HB1.out.t2;clear hb1) | (go_at_call 206;refine (HC.out _ HB1.out.bl).mono ?_;rintro e w2 ⟨rfl,hb2⟩;have HB2:=hideS (HB1.out.step hb2);clear hb2))
 all_goals
  obtain⟨hz,hnz⟩:=HT.out
  have HL:=hideS HB2.out.bl
  clear HB HB1 HB2 HA HC HT u0 u1 u2 u3 u4 u5
  cases a0 with
  | true=>
   obtain rfl:=hz rfl
   clear hnz hz
   go_wp2_with fail
   go_ret
   exact⟨rfl,HL.out⟩
  | false=>
   cases b0 with
   | true=>
    obtain rfl:=hz rfl
    clear hnz hz
    go_wp2_with fail
    go_ret
    exact⟨rfl,HL.out⟩
   | false=>
    cases al<;>cases bl
    case false.true=>
     obtain rfl:=hz rfl
     clear hnz hz
     go_wp2_with fail
     go_ret
     exact⟨rfl,HL.out⟩
    case true.false=>
     obtain rfl:=hz rfl
     clear hnz hz
     go_wp2_with fail
     go_ret
     exact⟨rfl,HL.out⟩
    all_goals
     obtain⟨p,q,t,q1,q2,q3,q4⟩:=hnz rfl
     have r1:=fun w=>run_float_arith (P:=Tryz.prog) w .quo 54 .f64 _ _ _ q1
     have r2:=fun w=>run_float_arith (P:=Tryz.prog) w .quo 54 .f64 _ _ _ q2
     have r3:=fun w=>run_float_arith (P:=Tryz.prog) w .add 54 .f64 _ _ _ q3
     have r4:=fun w=>run_float_arith (P:=Tryz.prog) w .quo 54 .f64 _ _ _ q4
     clear hnz hz q1 q2 q3 q4
     go_wp2_with fail
     go_ret
     exact⟨rfl,HL.out⟩
theorem zA (kind:Int) (px py:Option Addr) (bx ox cx b2 oy cy k:Nat) (xs:List Int) (ys:List Nat) (w:World) (h:OkT kind xs ys) (hs:TFl w px py bx ox b2 oy xs ys) (hk:k<xs.length) :
  Calls Tryz.prog 198 #[.agg #[.int .i64 kind,.slice px xs.length cx,.slice py ys.length cy],.int .i64 (k:Int)] w fun e w'=>e=.returned (.float .f64 ((dB xs ys xs.length).getD k 0))∧Below w.heap.size w w':=by
 have hl:=h.lo
 have hh:=h.hi
 have H:Hid (Gv w kind (.slice px xs.length cx) (.slice py ys.length cy) xs.length (bF xs ys)):=fun wx hb k hk=>CQ kind px py bx ox cx b2 oy cy k xs ys wx h (hs.below hb) hk
 rw [CR hk]
 by_cases h1:xs.length=1
 ·rw [if_pos h1,h1]
  exact zt kind px cx _ _ w
 ·rw [if_neg h1]
  by_cases h0:k=0
  ·rw [if_pos h0]
   subst h0
   exact tx kind px cx _ _ _ w H (by omega) hh
  ·rw [if_neg h0]
   by_cases he:k=xs.length - 1
   ·rw [if_pos he]
    obtain⟨m,hm⟩:∃ m,xs.length=m+2:=⟨xs.length - 2,by omega⟩
    have e1:(k:Int)=(m:Int)+1:=by omega
    have e2:xs.length - 2=m:=by omega
    rw [e1,e2]
    exact wg kind px cx _ m _ _ w H hm hh
   ·rw [if_neg he]
    obtain⟨a0,b0,al,bl,hT⟩:=Gw (dX h hs.u (k:=k - 1) (by omega)) (dX h hs.u (k:=k) (by omega))
    exact zw kind px cx _ (k - 1) k _ _ _ a0 b0 al bl _ w (by omega) (by omega) hh hT (fun wx hb=>H.out wx hb (k - 1) (by omega)) (fun wx hb=>H.out wx hb k (by omega))
end Go.Proofs.YtjjlnmihkadlmaaGreat
namespace Go.Proofs.YtjjlnmihkadlmaaGreat
open Go.RowKit

def jE (x:Nat):Bool:=bL (x:Nat)&&ltB 0 (x:Nat)
theorem tT {x:Nat} (h:x<18446744073709551616) (hp:ltB 0 (x:Nat)=true):x<9223372036854775808∧ag (x:Nat)=false:=by
 obtain⟨_,h2⟩:=fO h hp
 unfold sB at h2
 refine⟨by have:=of_decide_eq_false h2;omega,?_⟩
 unfold ltB at hp
 simp only [Bool.and_eq_true,Bool.not_eq_true',decide_eq_true_eq] at hp
 exact hp.1.2
set_option maxHeartbeats 800000 in
theorem qQ (x:Nat) (w:World) (h:x<18446744073709551616) :
  Calls Tryz.prog 117 #[.float .f64 x] w fun e w'=>e=.returned (.bool (jE x))∧w'=w:=by
 have hg:=ogt h (show (0:Nat)<18446744073709551616 by decide)
 have e0:ltB ((0:Nat):Int) (x:Nat)=ltB 0 (x:Nat):=rfl
 rw [e0] at hg
 unfold jE
 cases hp:ltB 0 (x:Nat) with
 | false=>
  rw [hp] at hg
  rw [Bool.and_false]
  clear hp h e0
  go_enter Tryz.func117,Tryz.ntmps117
  go_wp2
  go_ret
  exact⟨rfl,rfl⟩
 | true=>
  rw [hp] at hg
  obtain⟨hx,hn⟩:=tT h hp
  have hi:=pG hn
  rw [Nat.mod_eq_of_lt hx] at hi
  have H:=hideS fun w=>fa x _ w hi
  rw [Bool.and_true]
  generalize bL (x:Nat)=g at *
  clear hp h e0 hi hx hn
  cases g
  all_goals
   go_enter Tryz.func117,Tryz.ntmps117
   go_wp2_with (go_at_call 61;refine (H.out _).mono ?_;rintro e w1 ⟨rfl,rfl⟩)
   go_ret
   exact⟨rfl,rfl⟩

def dyB (base:Int) (ds:List Int) (i:Nat):Bool:=decide (ds.getD i 0≤eG base ds i)||decide (109572<ds.getD i 0)
set_option maxHeartbeats 800000 in
theorem Di (base:Int) (p:Option Addr) (n c:Nat) (w:World) (h:n<1∨255<n) :
  Calls Tryz.prog 76 #[.int .i64 base,.slice p n c] w fun e w'=>e=.returned (.bool false)∧w'=w:=by
 rcases h with h | h
 ·have d1:decide ((n:Int)<1)=true:=decide_eq_true (by omega)
  clear h
  go_enter Tryz.func76,Tryz.ntmps76
  go_wp2
  go_ret
  exact⟨rfl,rfl⟩
 ·have d1:decide ((n:Int)<1)=false:=decide_eq_false (by omega)
  have d2:decide ((255:Int)<n)=true:=decide_eq_true (by omega)
  clear h
  go_enter Tryz.func76,Tryz.ntmps76
  go_wp2
  go_ret
  exact⟨rfl,rfl⟩
set_option maxHeartbeats 1600000 in
theorem zR (base:Int) (p:Option Addr) (b off c n K:Nat) (xs:List Int) (w:World) (hX:VSrc w p b off n (xV xs)) (hn:1≤n) (hn':n≤255) (hK:K≤n) (fine:∀ i<K,dyB base xs i=false) (bad:K<n→dyB base xs K=true) :
  Calls Tryz.prog 76 #[.int .i64 base,.slice p n c] w fun e w'=>e=.returned (.bool (decide (n≤K)))∧w'=w:=by
 obtain⟨g,hg⟩:∃ g,decide (n≤K)=g:=⟨_,rfl⟩
 rw [hg]
 have G0:Hid (K<n→g=false):=fun hh=>by rw [← hg];exact decide_eq_false (by omega)
 have G1:Hid (K=n→g=true):=fun hh=>by rw [← hg];exact decide_eq_true (by omega)
 clear hg
 have HX:=hideS hX
 have HF:=hideS fine
 have HB:=hideS bad
 obtain rfl:=hX.at_ (by omega)
 have d1:decide ((n:Int)<1)=false:=decide_eq_false (by omega)
 have d2:decide ((255:Int)<n)=false:=decide_eq_false (by omega)
 clear hX fine bad
 go_enter Tryz.func76,Tryz.ntmps76
 go_wp2_with fail
 clear d1 d2
 go_loop [5,7,19] (fun l _ i=>∃ k:Nat,k≤K∧i=.int .i64 k∧l=.int .i64 (eG base xs k)) (fun _ _ i=>n - (intOf i).toNat)
 case atStart=>exact⟨0,Nat.zero_le _,rfl,rfl⟩
 case round=>
  obtain⟨k,hk,rfl,rfl⟩:=hrel
  by_cases hkK:k<K
  ·have hkn:k<n:=by omega
   have c1:w.cell? ⟨b,off+k,none⟩=some (.int .i64 (xs.getD k 0)):=HX.out.cell k hkn
   have f:=HF.out k hkK
   unfold dyB at f
   rw [Bool.or_eq_false_iff] at f
   obtain⟨f1,f2⟩:=f
   have HP:=hideS (show eG base xs (k+1)=xs.getD k 0 from rfl)
   generalize eG base xs k=l at *
   generalize xs.getD k 0=y at *
   go_wp2_with fail
   go_round
   case rel=>exact⟨k+1,by omega,by simp,by rw [HP.out]⟩
   case measure=>simp [intOf];omega
  ·obtain rfl:k=K:=by omega
   by_cases hl:k<n
   ·have c1:w.cell? ⟨b,off+k,none⟩=some (.int .i64 (xs.getD k 0)):=HX.out.cell k hl
    have f:=HB.out hl
    unfold dyB at f
    have HG:=hideS (G0.out hl)
    generalize eG base xs k=l at *
    generalize xs.getD k 0=y at *
    cases f1:decide (y≤l)
    ·rw [f1,Bool.false_or] at f
     go_wp2_with fail
     go_ret
     exact⟨by rw [HG.out]<;>rfl,rfl⟩
    ·clear f
     go_wp2_with fail
     go_ret
     exact⟨by rw [HG.out]<;>rfl,rfl⟩
   ·obtain rfl:k=n:=by omega
    have HG:=hideS (G1.out rfl)
    go_wp2_with fail
    go_ret
    exact⟨by rw [HG.out]<;>rfl,rfl⟩
set_option maxHeartbeats 1600000 in
theorem qS (p:Option Addr) (b off c n K:Nat) (ys:List Nat) (w:World) (hY:VSrc w p b off n (flV ys)) (hf:∀ i<n,ys.getD i 0<18446744073709551616) (hn':n≤255) (hK:K≤n) (fine:∀ i<K,jE (ys.getD i 0)=true) (bad:K<n→jE (ys.getD K 0)=false) :
  Calls Tryz.prog 77 #[.slice p n c] w fun e w'=>e=.returned (.bool (decide (n≤K)))∧w'=w:=by
 obtain⟨g,hg⟩:∃ g,decide (n≤K)=g:=⟨_,rfl⟩
 rw [hg]
 have G0:Hid (K<n→g=false):=fun hh=>by rw [← hg];exact decide_eq_false (by omega)
 have G1:Hid (K=n→g=true):=fun hh=>by rw [← hg];exact decide_eq_true (by omega)
 clear hg
 have HX:=hideS hY
 have HF:=hideS fine
 have HB:=hideS bad
 have HU:=hideS hf
 clear hY fine bad hf
 go_enter Tryz.func77,Tryz.ntmps77
 go_wp2_with fail
 go_loop [4,7] (fun _ i=>∃ k:Nat,k≤K∧i=.int .i64 k) (fun _ i=>n - (intOf i).toNat)
 case atStart=>exact⟨0,Nat.zero_le _,rfl⟩
 case round=>
  obtain⟨k,hk,rfl⟩:=hrel
  by_cases hl:k<n
  ·have c1:w.cell? ⟨b,off+k,none⟩=some (.float .f64 (ys.getD k 0)):=HX.out.cell k hl
   obtain rfl:=HX.out.at_ (by omega)
   have H1:=hideS fun w=>qQ (ys.getD k 0) w (HU.out k hl)
   by_cases hkK:k<K
   ·rw [HF.out k hkK] at H1
    generalize ys.getD k 0=y at *
    go_wp2_with (go_at_call 117;refine (H1.out _).mono ?_;rintro e w' ⟨rfl,rfl⟩)
    go_round
    case rel=>exact⟨k+1,by omega,by simp⟩
    case measure=>simp [intOf];omega
   ·obtain rfl:k=K:=by omega
    rw [HB.out hl] at H1
    have HG:=hideS (G0.out hl)
    generalize ys.getD k 0=y at *
    go_wp2_with (go_at_call 117;refine (H1.out _).mono ?_;rintro e w' ⟨rfl,rfl⟩)
    go_ret
    exact⟨by rw [HG.out]<;>rfl,rfl⟩
  ·obtain rfl:k=n:=by omega
   obtain rfl:K=k:=by omega
   have HG:=hideS (G1.out rfl)
   go_wp2_with fail
   go_ret
   exact⟨by rw [HG.out]<;>rfl,rfl⟩
theorem Dj (base:Int) (px:Option Addr) (bx ox cx:Nat) (xs:List Int):∃ g:Bool,(g=true↔(1≤xs.length∧xs.length≤255∧∀ i<xs.length,dyB base xs i=false))∧∀ w,VSrc w px bx ox xs.length (xV xs)→Calls Tryz.prog 76 #[.int .i64 base,.slice px xs.length cx] w fun e w'=>e=.returned (.bool g)∧w'=w:=by
 by_cases hl:xs.length<1∨255<xs.length
 ·exact⟨false,⟨fun h=>by simp at h,fun⟨a,b,_⟩=>by omega⟩,fun w _=>Di base px _ cx w hl⟩
 ·obtain⟨K,hK,h1,h2⟩:=jz (p:=dyB base xs) xs.length
  refine⟨decide (xs.length≤K),⟨fun h=>⟨by omega,by omega,fun i hi=>h1 i (by have:=of_decide_eq_true h;omega)⟩,fun⟨_,_,h⟩=>decide_eq_true (Classical.byContradiction fun c=>?_)⟩,fun w hw=>zR base px bx ox cx _ K xs w hw (by omega) (by omega) hK h1 h2⟩
  have:=h2 (by omega)
  rw [h K (by omega)] at this
  cases this
theorem tU (py:Option Addr) (b2 oy cy:Nat) (ys:List Nat) (hn:ys.length≤255) (hf:∀ i<ys.length,ys.getD i 0<18446744073709551616):∃ g:Bool,(g=true↔∀ i<ys.length,jE (ys.getD i 0)=true)∧∀ w,VSrc w py b2 oy ys.length (flV ys)→Calls Tryz.prog 77 #[.slice py ys.length cy] w fun e w'=>e=.returned (.bool g)∧w'=w:=by
 obtain⟨K,hK,h1,h2⟩:=jz (p:=fun i=>!jE (ys.getD i 0)) ys.length
 have h1':∀ i<K,jE (ys.getD i 0)=true:=fun i hi=>by have:=h1 i hi;simpa using this
 have h2':K<ys.length→jE (ys.getD K 0)=false:=fun hi=>by have:=h2 hi;simpa using this
 refine⟨decide (ys.length≤K),⟨fun h i hi=>h1' i (by have:=of_decide_eq_true h;omega),fun h=>decide_eq_true (Classical.byContradiction fun c=>?_)⟩,fun w hw=>qS py b2 oy cy _ K ys w hw hf hn hK h1' h2'⟩
 have:=h2' (by omega)
 rw [h K (by omega)] at this
 cases this
theorem nodC_two {base:Int} {ds:List Int} {fs:List Nat} {i:Nat}:qK base ds fs i=false↔dyB base ds i=false∧jE (fs.getD i 0)=true:=by
 unfold qK dyB jE
 generalize bL (fs.getD i 0:Nat)=a
 generalize ltB 0 (fs.getD i 0:Nat)=b
 generalize decide (ds.getD i 0≤eG base ds i)=c
 generalize decide (109572<ds.getD i 0)=d
 cases a<;>cases b<;>cases c<;>cases d<;>decide

set_option maxRecDepth 20000 in
set_option maxHeartbeats 800000 in
theorem nP (base kind:Int) (vd vf:Value) (w:World) (h:base<0∨109572<base) :
  Calls Tryz.prog 34 #[.agg #[.int .i64 base,.int .i64 kind,vd,vf]] w fun e w'=>e=.returned (.int .i64 51)∧Below w.heap.size w w':=by
 have HB:=hideS (du w base kind vd vf)
 rcases (show base<0∨(0≤base∧109572<base) by omega) with h1 | ⟨h1,h2⟩
 ·have d1:decide (base<0)=true:=decide_eq_true h1
  clear h h1
  go_enter Tryz.func34,Tryz.ntmps34
  go_wp2_with fail
  go_ret
  exact⟨rfl,HB.out.bl⟩
 ·have d1:decide (base<0)=false:=decide_eq_false (by omega)
  have d2:decide (109572<base)=true:=decide_eq_true h2
  clear h h1 h2
  go_enter Tryz.func34,Tryz.ntmps34
  go_wp2_with fail
  go_ret
  exact⟨rfl,HB.out.bl⟩
set_option maxRecDepth 20000 in
set_option maxHeartbeats 800000 in
theorem nQ (base kind:Int) (vd vf:Value) (w:World) (b0:0≤base) (b1:base≤109572) (h:kind<1∨4<kind) :
  Calls Tryz.prog 34 #[.agg #[.int .i64 base,.int .i64 kind,vd,vf]] w fun e w'=>e=.returned (.int .i64 90)∧Below w.heap.size w w':=by
 have HB:=hideS (du w base kind vd vf)
 have d1:decide (base<0)=false:=decide_eq_false (by omega)
 have d2:decide (109572<base)=false:=decide_eq_false (by omega)
 rcases (show kind<1∨(1≤kind∧4<kind) by omega) with h1 | ⟨h1,h2⟩
 ·have d3:decide (kind<1)=true:=decide_eq_true h1
  clear h h1
  go_enter Tryz.func34,Tryz.ntmps34
  go_wp2_with fail
  go_ret
  exact⟨rfl,HB.out.bl⟩
 ·have d3:decide (kind<1)=false:=decide_eq_false (by omega)
  have d4:decide (4<kind)=true:=decide_eq_true h2
  clear h h1 h2
  go_enter Tryz.func34,Tryz.ntmps34
  go_wp2_with fail
  go_ret
  exact⟨rfl,HB.out.bl⟩
set_option maxRecDepth 20000 in
set_option maxHeartbeats 1600000 in
theorem tV (base kind:Int) (lx ly cx cy:Nat) (px py:Option Addr) (g1 g2:Bool) (w:World) (b0:0≤base) (b1:base≤109572) (h1:1≤kind) (h4:kind≤4)
  (HP:Hid (∀ wx,Below w.heap.size w wx→Calls Tryz.prog 76 #[.int .i64 base,.slice px lx cx] wx fun e w'=>e=.returned (.bool g1)∧w'=wx))
  (HV:Hid (g1=true→lx=ly→∀ wx,Below w.heap.size w wx→Calls Tryz.prog 77 #[.slice py ly cy] wx fun e w'=>e=.returned (.bool g2)∧w'=wx)) :
  Calls Tryz.prog 34 #[.agg #[.int .i64 base,.int .i64 kind,.slice px lx cx,.slice py ly cy]] w fun e w'=>e=.returned (.int .i64 (if g1=true∧lx=ly∧g2=true then 0 else 100))∧Below w.heap.size w w':=by
 have HB:=hideS (du w base kind (.slice px lx cx) (.slice py ly cy))
 have d1:decide (base<0)=false:=decide_eq_false (by omega)
 have d2:decide (109572<base)=false:=decide_eq_false (by omega)
 have d3:decide (kind<1)=false:=decide_eq_false (by omega)
 have d4:decide (4<kind)=false:=decide_eq_false (by omega)
 clear b0 b1 h1 h4
 cases g1 with
 | false=>
  rw [if_neg (by simp)]
  clear HV
  go_enter Tryz.func34,Tryz.ntmps34
  go_wp2_with (first | (go_at_call 76;refine (HP.out _ HB.out.bl).mono ?_;rintro e w1 ⟨rfl,rfl⟩))
  go_ret
  exact⟨rfl,HB.out.bl⟩
 | true=>
  by_cases hl:lx=ly
  ·have hne:((ly:Int) !=(lx:Int))=false:=by rw [hl];simp
   have HV':=hideS (HV.out rfl hl)
   clear HV
   cases g2 with
   | false=>
    rw [if_neg (by simp)]
    clear hl
    go_enter Tryz.func34,Tryz.ntmps34
    go_wp2_with (first | (go_at_call 76;refine (HP.out _ HB.out.bl).mono ?_;rintro e w1 ⟨rfl,rfl⟩) | (go_at_call 77;refine (HV'.out _ HB.out.bl).mono ?_;rintro e w1 ⟨rfl,rfl⟩))
    go_ret
    exact⟨rfl,HB.out.bl⟩
   | true=>
    rw [if_pos ⟨rfl,hl,rfl⟩]
    clear hl
    go_enter Tryz.func34,Tryz.ntmps34
    go_wp2_with (first | (go_at_call 76;refine (HP.out _ HB.out.bl).mono ?_;rintro e w1 ⟨rfl,rfl⟩) | (go_at_call 77;refine (HV'.out _ HB.out.bl).mono ?_;rintro e w1 ⟨rfl,rfl⟩))
    go_ret
    exact⟨rfl,HB.out.bl⟩
  ·have hne:((ly:Int) !=(lx:Int))=true:=by simp;omega
   rw [if_neg (fun c=>hl c.2.1)]
   clear HV hl
   go_enter Tryz.func34,Tryz.ntmps34
   go_wp2_with (first | (go_at_call 76;refine (HP.out _ HB.out.bl).mono ?_;rintro e w1 ⟨rfl,rfl⟩))
   go_ret
   exact⟨rfl,HB.out.bl⟩
theorem dD (base kind:Int) (pd pf:Option Addr) (bd od cd b2 o2 cf:Nat) (ds:List Int) (fs:List Nat) (w:World) (hs:TFl w pd pf bd od b2 o2 ds fs) {E:Int} (hE:CurR base kind ds fs E) :
  Calls Tryz.prog 34 #[.agg #[.int .i64 base,.int .i64 kind,.slice pd ds.length cd,.slice pf fs.length cf]] w fun e w'=>e=.returned (.int .i64 E)∧Below w.heap.size w w':=by
 have key:0≤base→base≤109572→1≤kind→kind≤4→∀ E,CurR base kind ds fs E→(E=0∨E=100)→Calls Tryz.prog 34 #[.agg #[.int .i64 base,.int .i64 kind,.slice pd ds.length cd,.slice pf fs.length cf]] w fun e w'=>e=.returned (.int .i64 E)∧Below w.heap.size w w':=fun b0 b1 k1 k4 E h hE=>by
  obtain⟨g1,e1,c1⟩:=Dj base pd bd od cd ds
  have hv:∃ g2:Bool,(g1=true→ds.length=fs.length→(g2=true↔∀ i<fs.length,jE (fs.getD i 0)=true))∧(g1=true→ds.length=fs.length→∀ w,VSrc w pf b2 o2 fs.length (flV fs)→Calls Tryz.prog 77 #[.slice pf fs.length cf] w fun e w'=>e=.returned (.bool g2)∧w'=w):=by
   by_cases hl:fs.length≤255
   ·obtain⟨g2,e2,c2⟩:=tU pf b2 o2 cf fs hl hs.f
    exact⟨g2,fun _ _=>e2,fun _ _=>c2⟩
   ·exact⟨false,fun a b=>by have:=(e1.1 a).2.1;omega,fun a b=>by have:=(e1.1 a).2.1;omega⟩
  obtain⟨g2,e2,c2⟩:=hv
  have:=tV base kind ds.length fs.length cd cf pd pf g1 g2 w b0 b1 k1 k4 (fun wx hb=>c1 wx (hs.x.below hb)) (fun a b wx hb=>c2 a b wx (hs.y.below hb))
  refine this.mono fun e w' ⟨he,hb⟩=>⟨?_,hb⟩
  rw [he]
  by_cases hg:g1=true∧ds.length=fs.length∧g2=true
  ·have ok:OkV base kind ds fs:=by
    obtain⟨a,b,c⟩:=hg
    have p:=e1.1 a
    have q:=(e2 a b).1 c
    exact⟨b0,b1,k1,k4,p.1,p.2.1,b.symm,fun i hi=>nodC_two.2 ⟨p.2.2 i hi,q i (by omega)⟩⟩
   have hE0:E=0:=by
    cases h with
    | ok h=>rfl
    | base h=>omega
    | kind _ _ h=>omega
    | len _ _ h1 h4 h=>have:=ok.lo;have:=ok.hi;have:=ok.len;omega
    | node _ _ h1 h4 lo hi len K hK bad fine=>rw [ok.node K hK] at bad;cases bad
   rw [if_pos hg,hE0]
  ·have hE1:E=100:=by
    rcases hE with hE | hE
    ·exfalso;apply hg
     rw [hE] at h
     have ok:=jB h
     have a:=e1.2 ⟨ok.lo,ok.hi,fun i hi=>(nodC_two.1 (ok.node i hi)).1⟩
     exact⟨a,ok.len.symm,(e2 a ok.len.symm).2 (fun i hi=>(nodC_two.1 (ok.node i (by rw [← ok.len];exact hi))).2)⟩
    ·exact hE
   rw [if_neg hg,hE1]
 cases hE with
 | base h=>exact nP base kind _ _ w h
 | kind b0 b1 h=>exact nQ base kind _ _ w b0 b1 h
 | ok h=>exact key h.b0 h.b1 h.k1 h.k4 0 (.ok h) (.inl rfl)
 | len b0 b1 h1 h4 h=>exact key b0 b1 h1 h4 100 (.len b0 b1 h1 h4 h) (.inr rfl)
 | node b0 b1 h1 h4 lo hi len K hK bad fine=>exact key b0 b1 h1 h4 100 (.node b0 b1 h1 h4 lo hi len K hK bad fine) (.inr rfl)
end Go.Proofs.YtjjlnmihkadlmaaGreat
namespace Go.Proofs.YtjjlnmihkadlmaaGreat
open Go.RowKit

set_option maxRecDepth 20000 in
set_option maxHeartbeats 800000 in
theorem tW (base kind E:Int) (vd vf:Value) (w:World) (hE:E≠0) (HC:Hid (∀ wx,Below w.heap.size w wx→Calls Tryz.prog 34 #[.agg #[.int .i64 base,.int .i64 kind,vd,vf]] wx fun e w'=>e=.returned (.int .i64 E)∧Below wx.heap.size wx w')) :
  Calls Tryz.prog 60 #[.agg #[.int .i64 base,.int .i64 kind,vd,vf]] w fun e w'=>e=.returned (.tuple #[.int .i64 0,.int .i64 E])∧Below w.heap.size w w':=by
 have HB:=hideS (du w base kind vd vf)
 have d1:(E !=0)=true:=bne_iff_ne.2 hE
 clear hE
 go_enter Tryz.func60,Tryz.ntmps60
 go_wp2_with (go_at_call 34;refine (HC.out _ HB.out.bl).mono ?_;rintro e w2 ⟨rfl,hb2⟩;have HB2:=hideS (HB.out.step hb2);clear hb2)
 go_ret2
 exact⟨rfl,HB2.out.bl⟩
set_option maxRecDepth 20000 in
set_option maxHeartbeats 800000 in
theorem wu (base kind:Int) (pd:Option Addr) (bd od cd n:Nat) (ds:List Int) (vf:Value) (w:World) (hX:VSrc w pd bd od n (xV ds)) (hn:1≤n) (hn':n≤255) (HC:Hid (∀ wx,Below w.heap.size w wx→Calls Tryz.prog 34 #[.agg #[.int .i64 base,.int .i64 kind,.slice pd n cd,vf]] wx fun e w'=>e=.returned (.int .i64 0)∧Below wx.heap.size wx w')) :
  Calls Tryz.prog 60 #[.agg #[.int .i64 base,.int .i64 kind,.slice pd n cd,vf]] w fun e w'=>e=.returned (.tuple #[.int .i64 (ds.getD (n - 1) 0),.int .i64 0])∧Below w.heap.size w w':=by
 have HB:=hideS (du w base kind (.slice pd n cd) vf)
 have HX:=hideS hX
 obtain rfl:=hX.at_ (by omega)
 obtain⟨j,rfl⟩:∃ j,n=j+1:=⟨n - 1,by omega⟩
 rw [Nat.add_sub_cancel]
 have hj1:((j+1:Nat):Int) - 1=(j:Int):=by omega
 have hj2:j<j+1:=by omega
 clear hX
 go_enter Tryz.func60,Tryz.ntmps60
 go_wp2_with (go_at_call 34;refine (HC.out _ HB.out.bl).mono ?_;rintro e w2 ⟨rfl,hb2⟩;have HB2:=hideS (HB.out.step hb2);have q2:=HB2.out.t2;have hc:w2.cell? ⟨bd,od+j,none⟩=some (.int .i64 (ds.getD j 0)):=(HX.out.below HB2.out.bl).cell j (by omega);clear hb2)
 go_ret2
 exact⟨rfl,HB2.out.bl⟩
theorem tX (base kind:Int) (pd pf:Option Addr) (bd od cd b2 o2 cf:Nat) (ds:List Int) (fs:List Nat) (w:World) (hS:TFl w pd pf bd od b2 o2 ds fs) {E:Int} (hE:CurR base kind ds fs E) :
  Calls Tryz.prog 60 #[.agg #[.int .i64 base,.int .i64 kind,.slice pd ds.length cd,.slice pf fs.length cf]] w fun e w'=>e=.returned (.tuple #[.int .i64 (Dk ds E),.int .i64 E])∧Below w.heap.size w w':=by
 have HC:Hid (∀ wx,Below w.heap.size w wx→Calls Tryz.prog 34 #[.agg #[.int .i64 base,.int .i64 kind,.slice pd ds.length cd,.slice pf fs.length cf]] wx fun e w'=>e=.returned (.int .i64 E)∧Below wx.heap.size wx w'):=fun wx hb=>dD base kind pd pf bd od cd b2 o2 cf ds fs wx (hS.below hb) hE
 unfold Dk
 by_cases h:E=0
 ·subst h
  have hk:=jB hE
  rw [if_pos rfl]
  exact wu base kind pd bd od cd ds.length ds _ w hS.x hk.lo hk.hi HC
 ·rw [if_neg h]
  exact tW base kind E _ _ w h HC
end Go.Proofs.YtjjlnmihkadlmaaGreat
namespace Go.Proofs.YtjjlnmihkadlmaaGreat
open Go.RowKit

end Go.Proofs.YtjjlnmihkadlmaaGreat
namespace Go.Proofs.YtjjlnmihkadlmaaGreat
open Go.RowKit

theorem bV {t:TypeId} {w:World} {base n:Nat} {v:Value} {xs:List Value} (h:w.ownsRow base t 1 v n xs):∃ q c,v=.slice q n c:=by
 rcases h.2 with⟨rfl,rfl⟩| ⟨g,cap,cur,rfl,_⟩
 ·exact⟨none,0,rfl⟩
 ·exact⟨_,_,rfl⟩
theorem pm {t t':TypeId} {w:World} {b b' n m:Nat} {v v':Value} {xs ys:List Value} (h:w.ownsRow b t 1 v n xs) (h':w.ownsRow b' t' 1 v' m ys) (ht:t≠t'):∀ g,v.ownBlock=some g→v'.ownBlock≠some g:=fun g e e'=>by
 rcases h.2 with⟨rfl,_⟩| ⟨k,cap,cur,rfl,hk,hgg,_⟩
 ·cases e
 ·rcases h'.2 with⟨rfl,_⟩| ⟨k',cap',cur',rfl,hk',hgg',_⟩
  ·cases e'
  ·have e1:k=g:=by simpa [Value.ownBlock] using e
   have e2:k'=g:=by simpa [Value.ownBlock] using e'
   subst e1
   subst e2
   rw [hgg] at hgg'
   injection hgg' with hgg'
   injection hgg' with _ hh
   exact ht hh
theorem xK {t:TypeId} {w w':World} {base n:Nat} {v:Value} {r:Option Nat} {xs:List Value} (h:w.ownsRow base t 1 v n xs) (hw:w.grownBy w' r) (hne:∀ g,v.ownBlock=some g→r≠some g):w'.ownsRow base t 1 v n xs:=by
 refine⟨h.1,?_⟩
 rcases h.2 with hn | ⟨j,cap,cur,rfl,hk,hgg,rest⟩
 ·exact .inl hn
 ·exact .inr ⟨j,cap,cur,rfl,hk,by rw [hw.block j (Array.getElem?_eq_some_iff.1 hgg).1 (fun c=>hne j (by simp [Value.ownBlock]) c.symm)];exact hgg,rest⟩
end Go.Proofs.YtjjlnmihkadlmaaGreat
