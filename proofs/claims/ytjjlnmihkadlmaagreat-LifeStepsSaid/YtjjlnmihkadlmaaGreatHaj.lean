/-  -/
import Derived.Test.YtjjlnmihkadlmaaGreatHah
import Derived.Test.YtjjlnmihkadlmaaGreatHad
import Derived.BigQuiet
import Derived.Test.YtjjlnmihkadlmaaGreatHac
import Derived.LoopTactic
namespace Go.Proofs.YtjjlnmihkadlmaaGreat
open Go.RowKit

theorem gh (x:Int) (k:Int) (w:World) (h0:0≤x) (h1:x≤18446744073709551615) (hk:Hid (64 - (Lib.bitLen x.toNat:Int)=k)) :
  Calls Tryz.prog 115 #[.int .u64 x] w fun e w'=>e=.returned (.int .i64 k)∧w'=w:=by
 rw [← hk.out];exact Tryz.bits_LeadingZeros64 x w h0 h1

end Go.Proofs.YtjjlnmihkadlmaaGreat
namespace Go.Proofs.YtjjlnmihkadlmaaGreat
open Go.RowKit

theorem ae {p:Prop} (h:p):Hid p:=h
theorem tL {p:Prop} (h:Hid p):p:=h

def RowIs (w:World) (g n M:Nat):Prop:=∀ i,i<n→w.cell? ⟨g,i,none⟩=some (.int .u64 (dgt M i:Int))

theorem nH {g a b c:Nat} (h:a=b):Ending.returned (.slice (some ⟨g,0,none⟩) a c)=.returned (.slice (some ⟨g,0,none⟩) b c):=by rw [h]

set_option maxHeartbeats 400000 in
theorem ct (g n c M:Nat) (w:World) (hrow:RowIs w g n M) (hM:M<2^(32*n)) (hn:n≤c) (hb:n≤4611686018427387904) :
  Calls Tryz.prog 162 #[.slice (some ⟨g,0,none⟩) n c] w fun e w'=>e=.returned (.slice (some ⟨g,0,none⟩) (nd M) c)∧w'=w:=by
 have HR:=ae hrow
 have HM:=ae hM
 clear hrow hM
 go_enter Tryz.func162,Tryz.ntmps162
 go_wp2
 go_loop [3] (fun t=>∃ k:Nat,k≤n∧t=.int .i64 k∧Hid (M<2^(32*k))) (fun t=>(intOf t).toNat)
 case atStart=>exact⟨n,Nat.le_refl _,rfl,HM⟩
 case round=>
  obtain⟨k,hk,rfl,HK⟩:=hrel
  cases k with
  | zero=>
   go_wp2
   go_ret
   exact⟨nH (by have h1:=HK.out;rw [Nat.mul_zero,Nat.pow_zero] at h1;rw [show M=0 by omega];rfl),rfl⟩
  | succ j=>
   have hc:=tL HR j (by omega)
   by_cases h0:dgt M j=0
   ·rw [h0] at hc
    go_wp2
    go_round
    case rel=>exact⟨j,by omega,rfl,xn HK.out h0⟩
    case measure=>simp [intOf]
   ·have H0:=ae h0
    have h1:((dgt M j:Int)==0)=false:=by simpa using h0
    clear h0
    generalize (dgt M j:Int)=q at h1 hc
    go_wp2
    go_ret
    exact⟨nH (zW HK.out H0.out).symm,rfl⟩

def DN (w:World) (v:Value) (N:Nat):Prop:=
 (N=0∧∃ p c,v=.slice p 0 c)∨(N≠0∧∃ g c,v=.slice (some ⟨g,0,none⟩) (nd N) c∧nd N≤c∧g<w.heap.size∧RowIs w g (nd N) N)

theorem RowIs.mono {w:World} {g n m M:Nat} (h:RowIs w g n M) (hm:m≤n):RowIs w g m M:=fun i hi=>h i (by omega)
theorem RowIs.below {w w':World} {g n M:Nat} (h:RowIs w g n M) (hg:g<w.heap.size) (hb:Below w.heap.size w w'):RowIs w' g n M:=
 fun i hi=>(hb.cell (p:=⟨g,i,none⟩) hg).trans (h i hi)
theorem DN.below {w w':World} {v:Value} {N:Nat} (h:DN w v N) (hb:Below w.heap.size w w'):DN w' v N:=by
 rcases h with h | ⟨h0,g,c,hv,hc,hg,hr⟩
 ·exact Or.inl h
 ·exact Or.inr ⟨h0,g,c,hv,hc,Nat.lt_of_lt_of_le hg hb.size,hr.below hg hb⟩
theorem jW {w:World} {g c n M:Nat} (hr:RowIs w g n M) (hM:M<2^(32*n)) (hc:n≤c) (hg:g<w.heap.size):DN w (.slice (some ⟨g,0,none⟩) (nd M) c) M:=by
 by_cases h0:M=0
 ·exact Or.inl ⟨h0,some ⟨g,0,none⟩,c,by rw [h0];rfl⟩
 ·have:=cO hM
  exact Or.inr ⟨h0,g,c,rfl,by omega,hg,hr.mono this⟩

theorem CU (n:Nat) (w:World) (h:n<18446744073709551616):RowIs (w.alloc (.cells #[.int .u64 ((n:Int) % 4294967296),.int .u64 ((n:Int) / 4294967296)] 57)) w.heap.size 2 n:=by
 intro i hi
 have e0:(dgt n 0:Int)=(n:Int) % 4294967296:=by unfold dgt;rw [Nat.mul_zero,Nat.pow_zero,Nat.div_one];omega
 have e1:(dgt n 1:Int)=(n:Int) / 4294967296:=by unfold dgt;rw [show (2:Nat)^(32*1)=4294967296 from rfl];omega
 match i,hi with
 | 0,_=>rw [e0];simp
 | 1,_=>rw [e1];simp

def From (B:Nat) (v:Value):Prop:=∀ a l c,v=.slice (some a) l c→B≤a.block
theorem kS (B:Nat):From B (.slice none 0 0):=fun a l c h=>by cases h
theorem eS (B g l c:Nat) (h:B≤g):From B (.slice (some ⟨g,0,none⟩) l c):=fun a l' c' e=>by cases e;exact h
theorem DN.set {w:World} {v:Value} {N B:Nat} (h:DN w v N) (hf:From B v) {a:Addr} (ha:a.block<B) (x:Value):DN (w.setCell a x) v N:=by
 rcases h with h | ⟨h0,g,c,rfl,hc,hg,hr⟩
 ·exact Or.inl h
 ·have:=hf _ _ _ rfl
  refine Or.inr ⟨h0,g,c,rfl,hc,by simpa using hg,fun i hi=>?_⟩
  exact (World.cell?_of_block (a:=⟨g,i,none⟩) (Below.heap_setCell w a x g (by have h9:B≤g:=this;omega))).trans (hr i hi)

set_option maxHeartbeats 400000 in
theorem tM (n:Nat) (w:World) (h:n<18446744073709551616) :
  Calls Tryz.prog 128 #[.int .u64 n] w fun e w'=>∃ v,e=.returned v∧DN w' v n∧From w.heap.size v∧Below w.heap.size w w':=by
 have HR:=ae (CU n w h)
 have HD:=ae (jW HR.out (by omega) (Nat.le_refl 2) (by simp))
 go_enter Tryz.func128,Tryz.ntmps128
 go_wp2_with fail
 refine (ct _ 2 2 n _ HR.out (by omega) (Nat.le_refl 2) (by omega)).mono ?_
 rintro e w' ⟨rfl,rfl⟩
 go_wp2_with fail
 go_ret
 exact⟨_,rfl,HD.out,eS _ _ _ _ (Nat.le_refl _),(Below.refl _ _).alloc (Nat.le_refl _) _⟩
theorem gn (u:Int) (n:Nat) (w:World) (hu:Hid (u=n)) (h:n<18446744073709551616) :
  Calls Tryz.prog 128 #[.int .u64 u] w fun e w'=>∃ v,e=.returned v∧DN w' v n∧From w.heap.size v∧Below w.heap.size w w':=by
 rw [hu.out];exact tM n w h

theorem CV {x:Nat} (h:x<18446744073709551616):bl x≤64:=by
 unfold bl
 by_cases h0:x=0
 ·rw [if_pos h0];omega
 ·rw [if_neg h0];have:=(Nat.log2_lt h0).2 (show x<2^64 from h);omega

set_option maxHeartbeats 400000 in
theorem len_nil (p:Option Addr) (c:Nat) (w:World) :
  Calls Tryz.prog 145 #[.slice p 0 c] w fun e w'=>e=.returned (.int .i64 0)∧w'=w:=by
 go_enter Tryz.func145,Tryz.ntmps145
 go_wp2
 go_ret
 exact⟨rfl,rfl⟩

set_option maxHeartbeats 400000 in
theorem CW (g n c N:Nat) (w:World) (hN:N≠0) (hn:Hid (n+1=nd N)) (hb:n≤100000000) (hcell:w.cell? ⟨g,n,none⟩=some (.int .u64 (dgt N n:Int))) :
  Calls Tryz.prog 145 #[.slice (some ⟨g,0,none⟩) (n+1:Nat) c] w fun e w'=>e=.returned (.int .i64 (bl N:Int))∧w'=w:=by
 have HB:Hid (bl N=32*n+bl (dgt N n)):=by
  have:=EF hN
  rw [← hn.out,Nat.add_sub_cancel] at this;exact this
 have hd:=aR N n
 generalize dgt N n=d at hcell HB hd
 rw [HB.out]
 clear HB
 go_enter Tryz.func145,Tryz.ntmps145
 go_wp2
 go_loop [3,4] (fun s t=>∃ a x:Nat,s=.int .i64 a∧t=.int .u64 x∧x<4294967296∧Hid (a+bl x=32*n+bl d)) (fun _ t=>(intOf t).toNat)
 case atStart=>exact⟨32*n,d,by go_num,rfl,hd,rfl⟩
 case round=>
  obtain⟨a,x,rfl,rfl,hx,HA⟩:=hrel
  have ha:a≤3200000064:=by
   have h1:=HA.out
   have h2:bl d≤64:=CV (by omega)
   omega
  by_cases h0:x=0
  ·subst h0
   go_wp2
   go_ret
   exact⟨bL (by have:=HA.out;rw [show bl 0=0 from rfl] at this;omega),rfl⟩
  ·have HB:=ae (CS h0)
   have h1:0<x:=by omega
   clear h0
   go_wp2
   go_round
   case rel=>exact⟨a+1,x / 2,by go_num,by go_num,by omega,by have h2:=HA.out;rw [HB.out] at h2;show _=_;omega⟩
   case measure=>simp [intOf];omega

theorem ky (v:Value) (N:Nat) (w:World) (h:DN w v N) (hb:nd N≤100000000) :
  Calls Tryz.prog 145 #[v] w fun e w'=>e=.returned (.int .i64 (bl N:Int))∧w'=w:=by
 rcases h with⟨h0,p,c,rfl⟩| ⟨h0,g,c,rfl,hc,hg,hr⟩
 ·rw [h0];exact len_nil p c w
 ·have h1:=dc h0
  obtain⟨n,hn⟩:∃ n,n+1=nd N:=⟨nd N - 1,by omega⟩
  rw [← hn]
  exact CW g n c N w h0 hn (by omega) (hr n (by omega))

set_option maxHeartbeats 400000 in
theorem jy (p:Option Addr) (n c:Nat) (i:Int) (w:World) (hi:i<0∨(n:Int)≤i) :
  Calls Tryz.prog 161 #[.slice p n c,.int .i64 i] w fun e w'=>e=.returned (.int .u64 0)∧w'=w:=by
 by_cases h:i<0
 ·go_enter Tryz.func161,Tryz.ntmps161
  go_wp2
  go_ret
  exact⟨rfl,rfl⟩
 ·have h2:(n:Int)≤i:=by omega
  go_enter Tryz.func161,Tryz.ntmps161
  go_wp2
  go_ret
  exact⟨rfl,rfl⟩

set_option maxHeartbeats 400000 in
theorem qT (g n c k:Nat) (q:Int) (w:World) (hk:k<n) (hcell:w.cell? ⟨g,k,none⟩=some (.int .u64 q)) :
  Calls Tryz.prog 161 #[.slice (some ⟨g,0,none⟩) n c,.int .i64 k] w fun e w'=>e=.returned (.int .u64 q)∧w'=w:=by
 go_enter Tryz.func161,Tryz.ntmps161
 go_wp2
 go_ret
 exact⟨rfl,rfl⟩

theorem gp (v:Value) (N k:Nat) (w:World) (h:DN w v N) :
  Calls Tryz.prog 161 #[v,.int .i64 k] w fun e w'=>e=.returned (.int .u64 (dgt N k:Int))∧w'=w:=by
 rcases h with⟨h0,p,c,rfl⟩| ⟨h0,g,c,rfl,hc,hg,hr⟩
 ·rw [h0,qS];exact jy p 0 c k w (by omega)
 ·by_cases hk:k<nd N
  ·exact qT g (nd N) c k _ w hk (hr k hk)
  ·rw [zV (by omega)];exact jy _ _ c k w (by omega)

end Go.Proofs.YtjjlnmihkadlmaaGreat
namespace Go.Proofs.YtjjlnmihkadlmaaGreat
open Go.RowKit

theorem Af {E:Int} (h0:0≤E) (h1:E≤18446744073709551615):bits .and .u64 E 1=E % 2:=and_one_u64 E h0 h1

def fO (kept lost:Int):Int:=if 9223372036854775808<lost∨(lost=9223372036854775808∧kept % 2=1) then kept+1 else kept

set_option maxHeartbeats 400000 in
theorem kW (u drop kept lost:Int) (w:World) (hd0:1≤drop) (hd:drop≤64) (hk0:0≤kept) (hk1:kept<9223372036854775808)
  (hk:u / 2^drop.toNat=kept) (hl:IntKind.u64.wrap (u*2^(64 - drop).toNat)=lost) :
  Calls Tryz.prog 182 #[.int .u64 u,.int .i64 drop] w fun e w'=>e=.returned (.int .u64 (fO kept lost))∧∃ n,w'=w.drewN n:=by
 have ha:bits .and .u64 kept 1=kept % 2:=Af hk0 (by omega)
 rcases Int.lt_trichotomy lost 9223372036854775808 with h1 | h1 | h1
 ·rw [show fO kept lost=kept by unfold fO;rw [if_neg (by omega)]]
  go_enter Tryz.func182,Tryz.ntmps182
  go_wp2
  go_quiet (fail)
  go_wp2
  go_ret
  exact⟨rfl,_,rfl⟩
 ·by_cases h2:kept % 2=1
  ·rw [show fO kept lost=kept+1 by unfold fO;rw [if_pos (by omega)]]
   have h3:(kept % 2==1)=true:=by simpa using h2
   clear h2
   go_enter Tryz.func182,Tryz.ntmps182
   go_wp2
   go_quiet (fail)
   go_wp2
   go_ret
   exact⟨rfl,_,rfl⟩
  ·rw [show fO kept lost=kept by unfold fO;rw [if_neg (by omega)]]
   have h3:(kept % 2==1)=false:=by simpa using h2
   clear h2
   go_enter Tryz.func182,Tryz.ntmps182
   go_wp2
   go_quiet (fail)
   go_wp2
   go_ret
   exact⟨rfl,_,rfl⟩
 ·rw [show fO kept lost=kept+1 by unfold fO;rw [if_pos (by omega)]]
  go_enter Tryz.func182,Tryz.ntmps182
  go_wp2
  go_quiet (fail)
  go_wp2
  go_ret
  exact⟨rfl,_,rfl⟩

theorem CZ {u d:Nat} (hd:d≤64):IntKind.u64.wrap ((u:Int)*2^(64 - (d:Int)).toNat)=((u % 2^d*2^(64 - d):Nat):Int):=by
 rw [IntKind.wrap_u64,show (64 - (d:Int)).toNat=64 - d by omega]
 have e:((u:Int)*2^(64 - d))=((u*2^(64 - d):Nat):Int):=by rw [Int.natCast_mul,Int.natCast_pow];rfl
 rw [e]
 have h64:(18446744073709551616:Nat)=2^d*2^(64 - d):=by rw [← Nat.pow_add,show d+(64 - d)=64 by omega]
 rw [show (18446744073709551616:Int)=((2^d*2^(64 - d):Nat):Int) by rw [← h64];rfl,← Int.natCast_emod,Nat.mul_mod_mul_right]
theorem Da {u d:Nat}:(u:Int) / 2^((d:Int)).toNat=((u / 2^d:Nat):Int):=by
 rw [Int.toNat_natCast,Int.natCast_ediv,Int.natCast_pow];rfl
theorem xr {u d:Nat} (hd:d≤64) (hd0:1≤d):fO ((u / 2^d:Nat):Int) ((u % 2^d*2^(64 - d):Nat):Int)=(rne u d:Int):=by
 unfold fO rne
 have hp:0<2^(64 - d):=Nat.two_pow_pos _
 have h63:(9223372036854775808:Nat)*2=2^d*2^(64 - d):=by rw [← Nat.pow_add,show d+(64 - d)=64 by omega]
 have f1:(9223372036854775808:Int)<((u % 2^d*2^(64 - d):Nat):Int)↔2^d<2*(u % 2^d):=by
  rw [← Nat.mul_lt_mul_right hp,Nat.mul_assoc];omega
 have f2:((u % 2^d*2^(64 - d):Nat):Int)=(9223372036854775808:Int)↔2^d=2*(u % 2^d):=by
  constructor
  ·intro h;apply Nat.eq_of_mul_eq_mul_right hp;rw [Nat.mul_assoc];omega
  ·intro h
   have:2^d*2^(64 - d)=2*(u % 2^d)*2^(64 - d):=congrArg (·*2^(64 - d)) h
   rw [Nat.mul_assoc] at this;omega
 have f3:((u / 2^d:Nat):Int) % 2=1↔u / 2^d % 2=1:=by omega
 simp only [f1,f2,f3]
 split<;>omega

theorem mL (u d:Nat) (w:World) (h:u<18446744073709551616) (hd0:1≤d) (hd:d≤64) :
  Calls Tryz.prog 182 #[.int .u64 u,.int .i64 d] w fun e w'=>e=.returned (.int .u64 (rne u d))∧∃ n,w'=w.drewN n:=by
 rw [← xr hd hd0]
 refine kW u d _ _ w (by omega) (by omega) (Int.natCast_nonneg _) ?_ Da (CZ hd)
 have:u / 2^d≤u / 2^1:=Nat.div_le_div_left (Nat.pow_le_pow_right (by decide) hd0) (by decide)
 omega

set_option maxHeartbeats 400000 in
theorem mM (u drop:Int) (w:World) (hd:64<drop) :
  Calls Tryz.prog 182 #[.int .u64 u,.int .i64 drop] w fun e w'=>e=.returned (.int .u64 0)∧∃ n,w'=w.drewN n:=by
 go_enter Tryz.func182,Tryz.ntmps182
 go_wp2
 go_ret
 exact⟨rfl,0,rfl⟩

theorem gV (u drop:Int) (v:Nat) (w:World) (h0:0≤u) (h:u<18446744073709551616) (hd0:1≤drop) (hv:Hid (v=rne u.toNat drop.toNat)) :
  Calls Tryz.prog 182 #[.int .u64 u,.int .i64 drop] w fun e w'=>e=.returned (.int .u64 v)∧∃ n,w'=w.drewN n:=by
 rw [hv.out]
 obtain⟨a,rfl⟩:=Int.eq_ofNat_of_zero_le h0
 obtain⟨d,rfl⟩:=Int.eq_ofNat_of_zero_le (show 0≤drop by omega)
 rw [Int.toNat_natCast,Int.toNat_natCast]
 by_cases hd:d≤64
 ·exact mL a d w (by omega) (by omega) hd
 ·have e:rne a d=0:=el (by
   have:(2:Nat)^65≤2^d:=Nat.pow_le_pow_right (by decide) (by omega)
   omega)
  rw [e];exact mM a d w (by omega)

theorem pg (s q:Int) (w:World) (h0:0≤s) (h:s<18446744073709551616) (hq:Hid ((rne s.toNat 11:Int)=q)) :
  Calls Tryz.prog 182 #[.int .u64 s,.int .i64 11] w fun e w'=>e=.returned (.int .u64 q)∧∃ n,w'=w.drewN n:=by
 rw [← hq.out];exact gV s 11 (rne s.toNat 11) w h0 h (by omega) rfl

set_option maxHeartbeats 400000 in
theorem Ah (u e:Int) (w:World) (h:1023<e) :
  Calls Tryz.prog 156 #[.int .u64 u,.int .i64 e] w fun x w'=>x=.returned (.int .u64 9218868437227405312)∧∃ n,w'=w.drewN n:=by
 go_enter Tryz.func156,Tryz.ntmps156
 go_wp2_with fail
 go_ret
 exact⟨rfl,0,rfl⟩

set_option maxHeartbeats 400000 in
theorem Ai (u e:Int) (w:World) (h:e< -1139) :
  Calls Tryz.prog 156 #[.int .u64 u,.int .i64 e] w fun x w'=>x=.returned (.int .u64 0)∧∃ n,w'=w.drewN n:=by
 go_enter Tryz.func156,Tryz.ntmps156
 go_wp2_with fail
 go_ret
 exact⟨rfl,0,rfl⟩

set_option maxHeartbeats 400000 in
theorem Aj (u e ld s:Int) (v:Nat) (w:World) (h0:0≤u) (h1:u≤18446744073709551615) (he:e≤1023) (he': -1139≤e) (hl0:0≤ld) (hl1:ld≤63)
  (hl:Hid (64 - (Lib.bitLen u.toNat:Int)=ld)) (hs:IntKind.u64.wrap (u*2^ld.toNat)=s) (hs0:0≤s) (hs1:s<18446744073709551616)
  (hv:Hid (e+63 - ld≤1023→v=if e+63 - ld< -1022 then rne s.toNat (-1074 - e+ld).toNat else (e+63 - ld+1022).toNat*4503599627370496+rne s.toNat 11))
  (hv':Hid (1023<e+63 - ld→v=9218868437227405312)) :
  Calls Tryz.prog 156 #[.int .u64 u,.int .i64 e] w fun x w'=>x=.returned (.int .u64 v)∧∃ n,w'=w.drewN n:=by
 by_cases ht:1023<e+63 - ld
 ·rw [hv'.out ht]
  go_enter Tryz.func156,Tryz.ntmps156
  go_wp2_with (go_at_call 115;refine (gh _ ld _ h0 h1 hl).mono ?_;rintro x w' ⟨rfl,rfl⟩)
  go_ret
  exact⟨rfl,0,rfl⟩
 ·by_cases ht2:e+63 - ld< -1022
  ·have e1:=hv.out (by omega)
   rw [if_pos ht2] at e1
   have HE:Hid (v=rne s.toNat (-1011 - (e+63 - ld)).toNat):=by
    show _=_;rw [e1,show (-1074 - e+ld).toNat=(-1011 - (e+63 - ld)).toNat by omega]
   clear e1
   go_enter Tryz.func156,Tryz.ntmps156
   go_wp2_with (go_at_call 115;refine (gh _ ld _ h0 h1 hl).mono ?_;rintro x w' ⟨rfl,rfl⟩)
   refine (gV _ _ v _ hs0 hs1 (by omega) HE).mono ?_
   rintro x w' ⟨rfl,nq,rfl⟩
   go_wp2_with fail
   go_ret
   exact⟨rfl,_,rfl⟩
  ·have e1:=hv.out (by omega)
   rw [if_neg ht2] at e1
   have HE:Hid ((v:Int)=(e+63 - ld+1022)*4503599627370496+(rne s.toNat 11:Int)):=by show _=_;rw [e1];omega
   have HB:(rne s.toNat 11:Int)≤9007199254740992:=by
    have:=oW (n:=s.toNat) (d:=11) (c:=9007199254740992) (by omega)
    omega
   have HB0:0≤(rne s.toNat 11:Int):=by omega
   clear e1
   rw [HE.out]
   generalize hq:(rne s.toNat 11:Int)=q at HB HB0
   have HQ:Hid ((rne s.toNat 11:Int)=q):=hq
   clear hq
   go_enter Tryz.func156,Tryz.ntmps156
   go_wp2_with (first | (go_at_call 115;refine (gh _ ld _ h0 h1 hl).mono ?_;rintro x w' ⟨rfl,rfl⟩) | (go_at_call 182;refine (pg _ q _ hs0 hs1 HQ).mono ?_;rintro x w' ⟨rfl,nq,rfl⟩))
   go_ret
   exact⟨rfl,_,rfl⟩


theorem Ak (u:Nat) (e:Int) (w:World) (h0:u≠0) (h:u<18446744073709551616) :
  Calls Tryz.prog 156 #[.int .u64 u,.int .i64 e] w fun x w'=>x=.returned (.int .u64 (nearR u e))∧∃ n,w'=w.drewN n:=by
 have hl:u.log2<64:=(Nat.log2_lt h0).2 h
 by_cases h1:1023<e
 ·rw [gl h0 (by omega)];exact Ah u e w h1
 by_cases h2:e< -1139
 ·rw [fK h h2];exact Ai u e w h2
 have ht:=oV h0 h
 refine Aj u e (63 - u.log2:Int) ((u*2^(63 - u.log2):Nat):Int) (nearR u e) w (by omega) (by omega) (by omega) (by omega) (by omega) (by omega) ?_ ?_ (Int.natCast_nonneg _) (by omega) ?_ ?_
 ·show _=_
  rw [Int.toNat_natCast,fJ h0 h];omega
 ·rw [IntKind.wrap_u64,show ((63:Int) - (u.log2:Int)).toNat=63 - u.log2 by omega]
  have e1:((u:Int)*2^(63 - u.log2))=((u*2^(63 - u.log2):Nat):Int):=by rw [Int.natCast_mul,Int.natCast_pow];rfl
  rw [e1];omega
 ·intro h3
  rw [Int.toNat_natCast]
  by_cases h4:e+63 - (63 - (u.log2:Int))< -1022
  ·rw [if_pos h4,xm h0 h (by omega),show (-1074 - e+(63 - (u.log2:Int))).toNat=(-1011 - e - (u.log2:Int)).toNat by omega]
  ·rw [if_neg h4,iF h0 h (by omega) (by omega),show (e+63 - (63 - (u.log2:Int))+1022).toNat=(e+u.log2+1022).toNat by omega]
 ·intro h3
  exact gl h0 (by omega)

theorem vW (u e q:Int) (w:World) (h0:0<u) (h:u<18446744073709551616) (hq:Hid ((nearR u.toNat e:Int)=q)) :
  Calls Tryz.prog 156 #[.int .u64 u,.int .i64 e] w fun x w'=>x=.returned (.int .u64 q)∧∃ n,w'=w.drewN n:=by
 rw [← hq.out]
 obtain⟨a,rfl⟩:=Int.eq_ofNat_of_zero_le (show 0≤u by omega)
 rw [Int.toNat_natCast]
 exact Ak a e w (by omega) (by omega)
theorem fP (u:Nat) (e:Int):nearR u e≤9218868437227405312:=Nat.min_le_right _ _

def aE (m e:Int):Nat:=if m=0 then 0 else if m<0 then 9223372036854775808+nearR m.natAbs e else nearR m.natAbs e

set_option maxHeartbeats 400000 in
theorem xt (e:Int) (w:World) :
  Calls Tryz.prog 116 #[.int .i64 0,.int .i64 e] w fun x w'=>x=.returned (.float .f64 0)∧∃ n,w'=w.drewN n:=by
 go_enter Tryz.func116,Tryz.ntmps116
 go_wp2_with fail
 go_ret
 exact⟨rfl,0,rfl⟩

set_option maxHeartbeats 400000 in
theorem Al (m e q:Int) (w:World) (h0:0<m) (h:m≤9223372036854775807) (hq:Hid ((nearR m.toNat e:Int)=q)) :
  Calls Tryz.prog 116 #[.int .i64 m,.int .i64 e] w fun x w'=>x=.returned (.float .f64 q.toNat)∧∃ n,w'=w.drewN n:=by
 have hm:(m==0)=false:=by simp;omega
 have hm':decide (m<0)=false:=by simp;omega
 go_enter Tryz.func116,Tryz.ntmps116
 go_wp2_with (first | (go_at_call 156;refine (vW _ _ q _ h0 (by omega) hq).mono ?_;rintro x w' ⟨rfl,nq,rfl⟩) | (go_at_call 155;refine (oN _ _).mono ?_;rintro x w' ⟨rfl,rfl⟩))
 go_ret
 exact⟨rfl,_,rfl⟩

set_option maxHeartbeats 400000 in
theorem Am (m a e q:Int) (w:World) (h0:m<0) (h: -9223372036854775808≤m) (hq:Hid ((nearR a.toNat e:Int)=q)) (ha:IntKind.u64.wrap (-IntKind.u64.wrap m)=a) (ha0:0<a) (ha1:a<18446744073709551616) (hq0:0≤q) (hq1:q<9223372036854775808) :
  Calls Tryz.prog 116 #[.int .i64 m,.int .i64 e] w fun x w'=>x=.returned (.float .f64 (9223372036854775808+q).toNat)∧∃ n,w'=w.drewN n:=by
 have hm:(m==0)=false:=by simp;omega
 go_enter Tryz.func116,Tryz.ntmps116
 go_wp2_with (first | (go_at_call 156;refine (vW _ _ q _ ha0 ha1 hq).mono ?_;rintro x w' ⟨rfl,nq,rfl⟩) | (go_at_call 155;refine (oO _ _ hq0 hq1).mono ?_;rintro x w' ⟨rfl,rfl⟩))
 go_ret
 exact⟨rfl,_,rfl⟩

theorem bB (m e:Int) (w:World) (h0: -9223372036854775808≤m) (h1:m≤9223372036854775807) :
  Calls Tryz.prog 116 #[.int .i64 m,.int .i64 e] w fun x w'=>x=.returned (.float .f64 (aE m e))∧∃ n,w'=w.drewN n:=by
 unfold aE
 by_cases hz:m=0
 ·subst hz;rw [if_pos rfl];exact xt e w
 rw [if_neg hz]
 by_cases hn:m<0
 ·rw [if_pos hn]
  have hb:=fP m.natAbs e
  have:=Am m (-m) e (nearR m.natAbs e) w hn h0 (by show _=_;rw [show (-m).toNat=m.natAbs by omega]) (by rw [IntKind.wrap_u64,IntKind.wrap_u64];omega) (by omega) (by omega) (Int.natCast_nonneg _) (by omega)
  rw [show (9223372036854775808+(nearR m.natAbs e:Int)).toNat=9223372036854775808+nearR m.natAbs e by omega] at this
  exact this
 ·rw [if_neg hn]
  have:=Al m e (nearR m.natAbs e) w (by omega) h1 (by show _=_;rw [show m.toNat=m.natAbs by omega])
  rw [Int.toNat_natCast] at this
  exact this
end Go.Proofs.YtjjlnmihkadlmaaGreat
namespace Go.Proofs.YtjjlnmihkadlmaaGreat
open Go.RowKit

theorem kX {z:Int} (h0:0≤z) (h:z<18446744073709551616):bits .and .u64 z 4503599627370495=z % 4503599627370496:=by
 obtain⟨b,rfl⟩:=Int.eq_ofNat_of_zero_le h0
 have:=bits_and_u64_nat b 4503599627370495 (by omega) (by decide)
 rw [show ((4503599627370495:Nat):Int)=4503599627370495 from rfl] at this
 rw [this]
 have e:=Nat.and_two_pow_sub_one_eq_mod b 52
 rw [show (2:Nat)^52 - 1=4503599627370495 from rfl,show (2:Nat)^52=4503599627370496 from rfl] at e
 rw [e];omega
theorem xu {z:Int} (h0:0≤z) (h:z<4503599627370496):bits .or .u64 z 4503599627370496=4503599627370496+z:=by
 obtain⟨b,rfl⟩:=Int.eq_ofNat_of_zero_le h0
 have:=bits_or_u64_nat b 4503599627370496 (by omega) (by decide)
 rw [show ((4503599627370496:Nat):Int)=4503599627370496 from rfl] at this
 rw [this]
 have h2:=Nat.two_pow_add_eq_or_of_lt (i:=52) (b:=b) (by omega) 1
 rw [Nat.or_comm,show (4503599627370496:Nat)=2^52*1 from rfl,← h2]
 omega

def fE (z:Int):Int:=if z<4503599627370496 then z else 4503599627370496+z % 4503599627370496
def iI (z:Int):Int:=if z<4503599627370496 then -1074 else z / 4503599627370496 - 1075
def aI (u:Int):Bool:=decide (szI u<9218868437227405312)
def aC (u:Int):Int:=if aI u then (if sgB u then -fE (szI u) else fE (szI u)) else 0
def aJ (u:Int):Int:=if aI u&&decide (szI u≠0) then iI (szI u) else 0

set_option maxHeartbeats 400000 in
theorem An (b:Nat) (u:Int) (w:World) (hu:Hid (u=b)) (h:U64 u) (h1:9218868437227405312≤szI u) :
  Calls Tryz.prog 67 #[.float .f64 b] w fun e w'=>e=.returned (.tuple #[.int .i64 0,.int .i64 0,.bool false])∧w'=w:=by
 go_enter Tryz.func67,Tryz.ntmps67
 go_wp2_with (go_at_call 104;refine (iw _ _ _ hu h).mono ?_;rintro e w' ⟨rfl,rfl⟩)
 go_ret3
 exact⟨rfl,rfl⟩

set_option maxHeartbeats 400000 in
theorem tR (b:Nat) (u:Int) (w:World) (hu:Hid (u=b)) (h:U64 u) (h1:szI u=0) :
  Calls Tryz.prog 67 #[.float .f64 b] w fun e w'=>e=.returned (.tuple #[.int .i64 0,.int .i64 0,.bool true])∧w'=w:=by
 go_enter Tryz.func67,Tryz.ntmps67
 go_wp2_with (go_at_call 104;refine (iw _ _ _ hu h).mono ?_;rintro e w' ⟨rfl,rfl⟩)
 go_ret3
 exact⟨rfl,rfl⟩

set_option maxHeartbeats 400000 in
theorem xv (b:Nat) (u:Int) (w:World) (hu:Hid (u=b)) (h:U64 u) (h1:0<szI u) (h2:szI u<4503599627370496) :
  Calls Tryz.prog 67 #[.float .f64 b] w fun e w'=>e=.returned (.tuple #[.int .i64 (if sgB u then -szI u else szI u),.int .i64 (-1074),.bool true])∧w'=w:=by
 cases hs:sgB u
 all_goals
  simp only [Bool.false_eq_true,if_true,if_false]
  go_enter Tryz.func67,Tryz.ntmps67
  go_wp2_with (first | (go_at_call 104;refine (iw _ _ _ hu h).mono ?_;rintro e w' ⟨rfl,rfl⟩) | (go_at_call 105;refine (nw _ _ _ hu h).mono ?_;rintro e w' ⟨rfl,rfl⟩))
  go_ret3
  exact⟨rfl,rfl⟩

set_option maxHeartbeats 400000 in
theorem ph (b:Nat) (u m:Int) (w:World) (hu:Hid (u=b)) (h:U64 u) (h1:4503599627370496≤szI u) (h2:szI u<9218868437227405312)
  (hm:bits .or .u64 (bits .and .u64 (szI u) 4503599627370495) 4503599627370496=m) (hm0:4503599627370496≤m) (hm1:m<9007199254740992) :
  Calls Tryz.prog 67 #[.float .f64 b] w fun e w'=>e=.returned (.tuple #[.int .i64 (if sgB u then -m else m),.int .i64 (szI u / 4503599627370496 - 1+ -1074),.bool true])∧w'=w:=by
 cases hs:sgB u
 all_goals
  simp only [Bool.false_eq_true,if_true,if_false]
  go_enter Tryz.func67,Tryz.ntmps67
  go_wp2_with (first | (go_at_call 104;refine (iw _ _ _ hu h).mono ?_;rintro e w' ⟨rfl,rfl⟩) | (go_at_call 105;refine (nw _ _ _ hu h).mono ?_;rintro e w' ⟨rfl,rfl⟩))
  go_ret3
  exact⟨rfl,rfl⟩

theorem dA (b:Nat) (u:Int) (w:World) (hu:Hid (u=b)) (h:U64 u) :
  Calls Tryz.prog 67 #[.float .f64 b] w fun e w'=>e=.returned (.tuple #[.int .i64 (aC u),.int .i64 (aJ u),.bool (aI u)])∧w'=w:=by
 have hlo:=oL u
 have hhi:=ED u
 by_cases h1:szI u<9218868437227405312
 ·have e1:aI u=true:=by simp [aI,h1]
  by_cases h2:szI u=0
  ·have e2:aC u=0:=by unfold aC fE;rw [h2];simp
   have e3:aJ u=0:=by unfold aJ;rw [h2];simp
   rw [e1,e2,e3];exact tR b u w hu h h2
  ·by_cases h3:szI u<4503599627370496
   ·have e2:aC u=if sgB u then -szI u else szI u:=by unfold aC fE;rw [e1,if_pos h3];rfl
    have e3:aJ u= -1074:=by unfold aJ iI;simp [e1,h2,h3]
    rw [e1,e2,e3];exact xv b u w hu h (by omega) h3
   ·have e2:aC u=if sgB u then -(4503599627370496+szI u % 4503599627370496) else 4503599627370496+szI u % 4503599627370496:=by unfold aC fE;rw [e1,if_neg h3];rfl
    have e3:aJ u=szI u / 4503599627370496 - 1+ -1074:=by unfold aJ iI;simp [e1,h2,h3];omega
    rw [e1,e2,e3]
    exact ph b u _ w hu h (by omega) h1 (by rw [kX hlo (by omega),xu (by omega) (by omega)]) (by omega) (by omega)
 ·have e1:aI u=false:=by simp [aI,h1]
  have e2:aC u=0:=by simp [aC,e1]
  have e3:aJ u=0:=by simp [aJ,e1]
  rw [e1,e2,e3];exact An b u w hu h (by omega)
end Go.Proofs.YtjjlnmihkadlmaaGreat
namespace Go.Proofs.YtjjlnmihkadlmaaGreat

def bP (M s:Nat) (more:Bool):Nat:=if M % 2^s=0∧more=false then M / 2^s else if M / 2^s % 2=1 then M / 2^s else M / 2^s+1
theorem As {M s:Nat} (h:s≤M.log2) (h0:M≠0):(M / 2^s).log2=M.log2 - s∧M / 2^s≠0:=by
 have a:=Nat.log2_self_le h0
 have b:M<2^(M.log2+1):=Nat.lt_log2_self
 have hp:=Nat.two_pow_pos s
 have e1:2^(M.log2 - s)≤M / 2^s:=(Nat.le_div_iff_mul_le hp).2 (by rw [← Nat.pow_add];rw [show M.log2 - s+s=M.log2 by omega];exact a)
 have e2:M / 2^s<2^(M.log2 - s+1):=(Nat.div_lt_iff_lt_mul hp).2 (by rw [← Nat.pow_add];rw [show M.log2 - s+1+s=M.log2+1 by omega];exact b)
 have h1:M / 2^s≠0:=by have:=Nat.two_pow_pos (M.log2 - s);omega
 exact⟨(Nat.log2_eq_iff h1).2 ⟨e1,e2⟩,h1⟩
theorem cH {M s:Nat} (more:Bool) (h:s≤M.log2) (h0:M≠0):(bP M s more).log2=M.log2 - s∧bP M s more≠0:=by
 obtain⟨h1,h2⟩:=As h h0
 unfold bP
 split
 ·exact⟨h1,h2⟩
 ·split
  ·exact⟨h1,h2⟩
  ·rename_i ho
   have a:=Nat.log2_self_le h2
   have b:M / 2^s<2^((M / 2^s).log2+1):=Nat.lt_log2_self
   rw [h1] at a b
   refine⟨(Nat.log2_eq_iff (by omega)).2 ⟨by omega,?_⟩,by omega⟩
   have:(2:Nat)^(M.log2 - s+1)=2*2^(M.log2 - s):=by rw [Nat.pow_succ,Nat.mul_comm]
   omega
theorem ro {M s:Nat} {p:Int} (h0:M≠0) (h:s+60≤M.log2):nearR (bP M s false) (s+p)=nearR M p:=by
 obtain⟨h1,_⟩:=cH false (show s≤M.log2 by omega) h0
 have hL:ak (bP M s false) (s+p)=ak M p:=by
  unfold ak;rw [h1];congr 1;omega
 have hL2:(s:Int)+p+8≤ak M p:=by unfold ak;omega
 unfold nearR
 rw [hL]
 obtain⟨d,hd⟩:∃ d:Nat,ak M p=s+p+d:=⟨(ak M p - (s+p)).toNat,by omega⟩
 have e1:((s:Int)+p - ak M p).toNat=0:=by omega
 have e2:(p - ak M p).toNat=0:=by omega
 have e3:(ak M p - (s+p)).toNat=d:=by omega
 have e4:(ak M p - p).toNat=d+s:=by omega
 rw [e1,e2,e3,e4,Nat.pow_zero,Nat.mul_one,Nat.mul_one]
 have hs:bP M s false=(if M % 2^s=0 then M / 2^s else (if M / 2^s % 2=1 then M / 2^s else M / 2^s+1)):=by unfold bP;simp only [and_true]
 rw [hs,lk (by omega)]
theorem aY {M:Nat} (h0:M≠0) (k:Nat) (p:Int):nearR (M*2^k) (p - k)=nearR M p:=by
 have hlog:(M*2^k).log2=M.log2+k:=by
  have a:=Nat.log2_self_le h0
  have b:M<2^(M.log2+1):=Nat.lt_log2_self
  have hp:=Nat.two_pow_pos k
  refine (Nat.log2_eq_iff (by have:=Nat.mul_pos (show 0<M by omega) hp;omega)).2 ⟨?_,?_⟩
  ·rw [Nat.pow_add];exact Nat.mul_le_mul_right _ a
  ·rw [show M.log2+k+1=(M.log2+1)+k by omega,Nat.pow_add];exact Nat.mul_lt_mul_of_pos_right b hp
 have hL:ak (M*2^k) (p - k)=ak M p:=by unfold ak;rw [hlog];congr 1;omega
 unfold nearR
 rw [hL]
 generalize ak M p=L
 congr 2
 by_cases hc:p≤L
 ·have e1:(p - (k:Int) - L).toNat=0:=by omega
  have e2:(p - L).toNat=0:=by omega
  have e3:(L - (p - (k:Int))).toNat=(L - p).toNat+k:=by omega
  rw [e1,e2,e3,Nat.pow_zero,Nat.mul_one,Nat.mul_one,cE]
 ·obtain⟨q,hq⟩:∃ q:Nat,p=L+q:=⟨(p - L).toNat,by omega⟩
  have e2:(p - L).toNat=q:=by omega
  have e4:(L - p).toNat=0:=by omega
  rw [e2,e4,dx]
  by_cases hk:k≤q
  ·have e1:(p - (k:Int) - L).toNat=q - k:=by omega
   have e3:(L - (p - (k:Int))).toNat=0:=by omega
   rw [e1,e3,dx,Nat.mul_assoc,← Nat.pow_add];congr 2;omega
  ·have e1:(p - (k:Int) - L).toNat=0:=by omega
   have e3:(L - (p - (k:Int))).toNat=0+(k - q):=by omega
   rw [e1,e3,Nat.pow_zero,Nat.mul_one,show M*2^k=(M*2^q)*2^(k - q) by rw [Nat.mul_assoc,← Nat.pow_add];congr 2;omega,cE,dx]

def mant (M:Nat) (more:Bool):Nat:=if M=0 then (if more then 1 else 0) else bP (M*2^64) (M.log2+3) more
def gS (M:Nat):Int:=if M=0 then -2210 else (M.log2:Int) - 2209
def sgM (neg:Bool) (m:Nat):Int:=if neg then -(m:Int) else (m:Int)
theorem bZ {M:Nat} (h0:M≠0) (k:Nat):(M*2^k).log2=M.log2+k:=by
 have a:=Nat.log2_self_le h0
 have b:M<2^(M.log2+1):=Nat.lt_log2_self
 have hp:=Nat.two_pow_pos k
 refine (Nat.log2_eq_iff (by have:=Nat.mul_pos (show 0<M by omega) hp;omega)).2 ⟨?_,?_⟩
 ·rw [Nat.pow_add];exact Nat.mul_le_mul_right _ a
 ·rw [show M.log2+k+1=(M.log2+1)+k by omega,Nat.pow_add];exact Nat.mul_lt_mul_of_pos_right b hp
theorem tY {M:Nat} (h0:M≠0):nearR (mant M false) (gS M)=nearR M (-2148):=by
 have hp:=Nat.two_pow_pos 64
 have h1:M*2^64≠0:=by have:=Nat.mul_pos (show 0<M by omega) hp;omega
 unfold mant gS
 rw [if_neg h0,if_neg h0,show (M.log2:Int) - 2209=((M.log2+3:Nat):Int)+(-2148 - (64:Nat)) by omega,ro h1 (by rw [bZ h0];omega),aY h0]
theorem Di (M:Nat) (more:Bool):mant M more<2^62:=by
 unfold mant
 split
 ·split<;>decide
 ·rename_i h0
  have hp:=Nat.two_pow_pos 64
  have h1:M*2^64≠0:=by have:=Nat.mul_pos (show 0<M by omega) hp;omega
  obtain⟨h2,h3⟩:=cH more (show M.log2+3≤(M*2^64).log2 by rw [bZ h0];omega) h1
  have:bP (M*2^64) (M.log2+3) more<2^((bP (M*2^64) (M.log2+3) more).log2+1):=Nat.lt_log2_self
  rw [h2,bZ h0,show M.log2+64 - (M.log2+3)+1=62 by omega] at this
  exact this
def iO (N:Int):Nat:=aE N (-2148)
theorem xG (N:Int):aE (sgM (decide (N<0)) (mant N.natAbs false)) (gS N.natAbs)=iO N:=by
 unfold iO
 by_cases h0:N=0
 ·subst h0;decide
 ·have h1:N.natAbs≠0:=by omega
  have hp:=Nat.two_pow_pos 64
  have h2:N.natAbs*2^64≠0:=by have:=Nat.mul_pos (show 0<N.natAbs by omega) hp;omega
  have h3:mant N.natAbs false≠0:=by
   unfold mant;rw [if_neg h1]
   exact (cH false (by rw [bZ h1];omega) h2).2
  have h4:=tY h1
  unfold aE sgM
  by_cases hn:N<0
  ·simp only [hn,decide_true,if_true]
   rw [if_neg (by omega),if_pos (by omega),if_neg h0,show (-(mant N.natAbs false:Int)).natAbs=mant N.natAbs false by omega,h4]
  ·simp only [hn,decide_false,Bool.false_eq_true,if_false]
   rw [if_neg (by omega),if_neg (by omega),if_neg h0,show ((mant N.natAbs false:Nat):Int).natAbs=mant N.natAbs false by omega,h4]

theorem ll {x y ld:Nat} (hx:x≠0) (hxf:x<18446744073709551616) (hy:y<18446744073709551616) (hld:ld=63 - x.log2) :
  x*2^ld<18446744073709551616∧(x*2^ld)||| (y / 2^(64 - ld))=x*2^ld+y / 2^(64 - ld)∧x*2^ld+y / 2^(64 - ld)<18446744073709551616∧ld≤63:=by
 have h1:x*2^ld<18446744073709551616:=by rw [hld];exact oV hx hxf
 have h2:=tX (hi:=x) (show ld<64 by omega) hy
 rw [Nat.mod_eq_of_lt h1] at h2
 refine⟨h1,h2,?_,by omega⟩
 rw [← h2]
 exact Nat.or_lt_two_pow (n:=64) h1 (Nat.lt_of_le_of_lt (Nat.div_le_self _ _) hy)
theorem xH {x y ld T R M:Nat} {more:Bool} (hx:x≠0) (hxf:x<18446744073709551616) (hld:ld=63 - x.log2) (hM:M*2^64=(x*18446744073709551616+y)*2^(64*T)+R*2^64) (hR:R*2^64<2^(64*T)) (hyf:y<18446744073709551616) :
  mant M more=(if (more=true∨R≠0)∨(x*2^ld+y / 2^(64 - ld)) % 4≠0∨y*2^ld % 18446744073709551616≠0 then (if (x*2^ld+y / 2^(64 - ld)) / 4 % 2=1 then (x*2^ld+y / 2^(64 - ld)) / 4 else (x*2^ld+y / 2^(64 - ld)) / 4+1) else (x*2^ld+y / 2^(64 - ld)) / 4)∧gS M=64*(T:Int) - ld+2+ -2148:=by
 have e64:(2:Nat)^64=18446744073709551616:=rfl
 rw [e64] at hM hR
 have hxl:x.log2<64:=(Nat.log2_lt hx).2 hxf
 have hl:ld≤63:=by omega
 have eW:(18446744073709551616:Nat)=2^ld*2^(64 - ld):=by rw [← Nat.pow_add,show ld+(64 - ld)=64 by omega]
 obtain⟨Z,hZ⟩:∃ Z,Z=x*18446744073709551616+y:=⟨_,rfl⟩
 rw [← hZ] at hM
 have hp:=Nat.two_pow_pos (64 - ld)
 have hZd:Z / 2^(64 - ld)=x*2^ld+y / 2^(64 - ld):=by
  rw [hZ,eW,← Nat.mul_assoc,Nat.add_comm,Nat.add_mul_div_right _ _ hp,Nat.add_comm]
 have hZm:Z % 2^(64 - ld)=y % 2^(64 - ld):=by
  rw [hZ,eW,← Nat.mul_assoc,Nat.add_comm,Nat.add_mul_mod_self_right]
 have hM0:M≠0:=by
  intro e
  rw [e,Nat.zero_mul] at hM
  have h1:0<Z*2^(64*T):=Nat.mul_pos (by omega) (Nat.two_pow_pos _)
  omega
 have hlogM:M.log2+3=64*T+(66 - ld):=by
  have h1:=bZ hM0 64
  rw [e64] at h1
  have h2:(M*18446744073709551616).log2=x.log2+64+64*T:=by
   have a:=Nat.log2_self_le hx
   have b:x<2^(x.log2+1):=Nat.lt_log2_self
   have b2:x+1≤2^(x.log2+1):=b
   have hz1:2^(x.log2+64)≤Z:=by
    rw [Nat.pow_add,hZ,e64]
    exact Nat.le_trans (Nat.mul_le_mul_right _ a) (Nat.le_add_right _ _)
   have hz2:Z+1≤2^(x.log2+1+64):=by
    rw [Nat.pow_add,hZ,e64]
    refine Nat.le_trans ?_ (Nat.mul_le_mul_right 18446744073709551616 b2)
    rw [Nat.add_mul,Nat.one_mul,Nat.add_assoc]
    exact Nat.add_le_add_left (Nat.succ_le_of_lt hyf) _
   clear e64
   have hT:=Nat.two_pow_pos (64*T)
   refine (Nat.log2_eq_iff ?_).2 ⟨?_,?_⟩
   ·have:=Nat.mul_pos (show 0<M by omega) (show 0<18446744073709551616 by decide);omega
   ·rw [hM,Nat.pow_add];have:=Nat.mul_le_mul_right (2^(64*T)) hz1;omega
   ·rw [hM,show x.log2+64+64*T+1=(x.log2+1+64)+64*T by omega,Nat.pow_add]
    have:=Nat.mul_le_mul_right (2^(64*T)) hz2
    rw [Nat.add_mul,Nat.one_mul] at this
    omega
  omega
 have hs:M*18446744073709551616 / 2^(M.log2+3)=(x*2^ld+y / 2^(64 - ld)) / 4:=by
  rw [hlogM,Nat.pow_add,← Nat.div_div_eq_div_mul,hM,Nat.add_comm (Z*_),Nat.add_mul_div_right _ _ (Nat.two_pow_pos _),Nat.div_eq_of_lt hR,Nat.zero_add,show 66 - ld=(64 - ld)+2 by omega,Nat.pow_add,← Nat.div_div_eq_div_mul,hZd]
 have hm:M*18446744073709551616 % 2^(M.log2+3)=0↔(R=0∧(x*2^ld+y / 2^(64 - ld)) % 4=0∧y*2^ld % 18446744073709551616=0):=by
  rw [hlogM,Nat.pow_add,Nat.mod_mul]
  have e1:M*18446744073709551616 % 2^(64*T)=R*18446744073709551616:=by rw [hM,Nat.add_comm (Z*_),Nat.add_mul_mod_self_right,Nat.mod_eq_of_lt hR]
  have e2:M*18446744073709551616 / 2^(64*T)=Z:=by rw [hM,Nat.add_comm (Z*_),Nat.add_mul_div_right _ _ (Nat.two_pow_pos _),Nat.div_eq_of_lt hR,Nat.zero_add]
  rw [e1,e2,show 66 - ld=(64 - ld)+2 by omega,Nat.pow_add,Nat.mod_mul,hZm,hZd]
  have e3:y*2^ld % 18446744073709551616=(y % 2^(64 - ld))*2^ld:=by
   rw [eW,Nat.mul_comm y,Nat.mul_mod_mul_left,Nat.mul_comm]
  rw [e3]
  have hp1:=Nat.two_pow_pos ld
  have hp2:=Nat.two_pow_pos (64*T)
  generalize y % 2^(64 - ld)=r
  generalize (x*2^ld+y / 2^(64 - ld))=win
  rw [show (2:Nat)^2=4 from rfl]
  constructor
  ·intro h
   obtain⟨h1,h2⟩:=Nat.add_eq_zero_iff.1 h
   have h1':R=0:=by
    rcases Nat.mul_eq_zero.1 h1 with h3 | h3
    ·exact h3
    ·exact absurd h3 (by decide)
   rcases Nat.mul_eq_zero.1 h2 with h3 | h3
   ·exact absurd h3 (Nat.ne_of_gt hp2)
   ·obtain⟨h4,h5⟩:=Nat.add_eq_zero_iff.1 h3
    rcases Nat.mul_eq_zero.1 h5 with h6 | h6
    ·exact absurd h6 (Nat.ne_of_gt hp)
    ·exact⟨h1',h6,by rw [h4,Nat.zero_mul]⟩
  ·rintro⟨rfl,h2,h3⟩
   rcases Nat.mul_eq_zero.1 h3 with h4 | h4
   ·rw [h4,h2];simp
   ·exact absurd h4 (Nat.ne_of_gt hp1)
 refine⟨?_,?_⟩
 ·unfold mant bP
  rw [if_neg hM0,e64,hs]
  by_cases hc:M*18446744073709551616 % 2^(M.log2+3)=0∧more=false
  ·rw [if_pos hc]
   obtain⟨h1,h2,h3⟩:=hm.1 hc.1
   have h4:¬ ((more=true∨R≠0)∨(x*2^ld+y / 2^(64 - ld)) % 4≠0∨y*2^ld % 18446744073709551616≠0):=by
    rw [hc.2];simp [h1,h2,h3]
   rw [if_neg h4]
  ·rw [if_neg hc]
   have h4:(more=true∨R≠0)∨(x*2^ld+y / 2^(64 - ld)) % 4≠0∨y*2^ld % 18446744073709551616≠0:=by
    by_cases h5:more=true
    ·exact Or.inl (Or.inl h5)
    ·by_cases h6:R=0
     ·by_cases h7:(x*2^ld+y / 2^(64 - ld)) % 4=0
      ·refine Or.inr (Or.inr fun h8=>hc ⟨hm.2 ⟨h6,h7,h8⟩,by simpa using h5⟩)
      ·exact Or.inr (Or.inl h7)
     ·exact Or.inl (Or.inr h6)
   rw [if_pos h4]
 ·unfold gS
  rw [if_neg hM0];omega
end Go.Proofs.YtjjlnmihkadlmaaGreat
namespace Go.Proofs.YtjjlnmihkadlmaaGreat

def vI (b:Nat):Int:=if b / 9223372036854775808 % 2==1 then -(V (b % 9223372036854775808):Int) else (V (b % 9223372036854775808):Int)
def sgZ (s:Bool) (n:Nat):Int:=if s then -(n:Int) else (n:Int)
theorem pt (s:Bool) (n k:Nat):sgZ s (n*k)=sgZ s n*k:=by
 unfold sgZ;cases s<;>simp [Int.neg_mul]
theorem nL (s:Bool) (m k:Nat):Ieee.signed s m k=sgZ s (m*2^k):=by
 unfold Ieee.signed sgZ;rw [Nat.shiftLeft_eq]
theorem gA (r:Nat):Ieee.double.word true r=9223372036854775808+r:=rfl
theorem ia (r:Nat):Ieee.double.word false r=r:=rfl
def fR (s t:Bool) (T:Int):Nat:=if T=0 then (if s&&t then 9223372036854775808 else 0) else aE T (-1074)
theorem nM (s t:Bool) (m n p q:Nat) :
  ((Ieee.Datum.number s m (-1074+(p:Int))).sum (.number t n (-1074+(q:Int)))).map Ieee.double.write=some (fR s t (sgZ s (m*2^p)+sgZ t (n*2^q))):=by
 obtain⟨e,he⟩:∃ e,min p q=e:=⟨_,rfl⟩
 have hb:min (-1074+(p:Int)) (-1074+(q:Int))= -1074+(e:Int):=by omega
 have h1:(-1074+(p:Int) - (-1074+(e:Int))).toNat=p - e:=by omega
 have h2:(-1074+(q:Int) - (-1074+(e:Int))).toNat=q - e:=by omega
 obtain⟨T,hT⟩:∃ T,sgZ s (m*2^(p - e))+sgZ t (n*2^(q - e))=T:=⟨_,rfl⟩
 have hTT:sgZ s (m*2^p)+sgZ t (n*2^q)=T*((2^e:Nat):Int):=by
  rw [← hT,Int.add_mul,← pt,← pt,Nat.mul_assoc,Nat.mul_assoc,← Nat.pow_add,← Nat.pow_add,show p - e+e=p by omega,show q - e+e=q by omega]
 have key:((Ieee.Datum.number s m (-1074+(p:Int))).sum (.number t n (-1074+(q:Int)))).map Ieee.double.write=some (Ieee.double.nearest (if T=0 then s&&t else decide (T<0)) T.natAbs (-1074+(e:Int))):=by
  show some (Ieee.double.write (.number (if Ieee.signed s m (-1074+(p:Int) - min (-1074+(p:Int)) (-1074+(q:Int))).toNat+Ieee.signed t n (-1074+(q:Int) - min (-1074+(p:Int)) (-1074+(q:Int))).toNat=0 then s&&t else decide (Ieee.signed s m (-1074+(p:Int) - min (-1074+(p:Int)) (-1074+(q:Int))).toNat+Ieee.signed t n (-1074+(q:Int) - min (-1074+(p:Int)) (-1074+(q:Int))).toNat<0)) (Ieee.signed s m (-1074+(p:Int) - min (-1074+(p:Int)) (-1074+(q:Int))).toNat+Ieee.signed t n (-1074+(q:Int) - min (-1074+(p:Int)) (-1074+(q:Int))).toNat).natAbs (min (-1074+(p:Int)) (-1074+(q:Int)))))=_
  rw [hb,h1,h2,nL,nL,hT]
  rfl
 rw [key,hTT]
 have hp:(0:Int)<((2^e:Nat):Int):=by have:=Nat.two_pow_pos e;omega
 unfold fR
 by_cases h0:T=0
 ·subst h0
  rw [if_pos rfl,Int.zero_mul,if_pos rfl]
  show some (Ieee.double.nearest (s&&t) 0 _)=_
  rw [bN]
  cases s<;>cases t<;>rfl
 ·rw [if_neg h0]
  have h3:T*((2^e:Nat):Int)≠0:=Int.mul_ne_zero h0 (by omega)
  rw [if_neg h3,bF _ (by omega)]
  have h4:nearR (T*((2^e:Nat):Int)).natAbs (-1074)=nearR T.natAbs (-1074+(e:Int)):=by
   have:=aY (M:=T.natAbs) (by omega) e (-1074+(e:Int))
   rw [show -1074+(e:Int) - (e:Int)= -1074 by omega] at this
   rw [Int.natAbs_mul,Int.natAbs_natCast];exact this
  unfold aE
  rw [if_neg h3,h4]
  have h5:T*((2^e:Nat):Int)<0↔T<0:=by
   constructor
   ·intro h
    by_cases h6:T<0
    ·exact h6
    ·have:=Int.mul_nonneg (by omega:0≤T) (by omega:(0:Int)≤((2^e:Nat):Int));omega
   ·intro h;exact Int.mul_neg_of_neg_of_pos h hp
  by_cases h6:T<0
  ·rw [if_pos (h5.2 h6)]
   simp only [h6,decide_true]
   rw [gA]
  ·rw [if_neg (fun h=>h6 (h5.1 h))]
   simp only [h6,decide_false]
   rw [ia]
theorem nN (b:Nat):vI b=sgZ (b / 9223372036854775808 % 2==1) (mg (b % 9223372036854775808)*2^pl (b % 9223372036854775808)):=rfl
theorem iP {x y:Nat} (hx:x % 9223372036854775808<9218868437227405312) (hy:y % 9223372036854775808<9218868437227405312) :
  floatBits .add .f64 x y=some (fR (x / 9223372036854775808 % 2==1) (y / 9223372036854775808 % 2==1) (vI x+vI y)):=by
 show ((Ieee.double.read x).sum (Ieee.double.read y)).map Ieee.double.write=_
 rw [ar hx,ar hy,nM,nN,nN]
theorem pw {x y:Nat} (hx:x % 9223372036854775808<9218868437227405312) (hy:y % 9223372036854775808<9218868437227405312) :
  floatBits .sub .f64 x y=some (fR (x / 9223372036854775808 % 2==1) (!(y / 9223372036854775808 % 2==1)) (vI x - vI y)):=by
 show ((Ieee.double.read x).sum (Ieee.double.read y).opposite).map Ieee.double.write=_
 rw [ar hx,ar hy]
 show ((Ieee.Datum.number _ _ _).sum (Ieee.Datum.number _ _ _)).map Ieee.double.write=_
 rw [nM,nN,nN,Int.sub_eq_add_neg]
 congr 3
 unfold sgZ
 cases (y / 9223372036854775808 % 2==1)<;>simp

def fi (m:Int):Nat:=aE m 0
theorem Dj {K:Nat} (hK:K=1074):V 4845873199050653696=9007199254740992*2^K:=by
 have h1:mg 4845873199050653696=4503599627370496:=by decide
 have h2:pl 4845873199050653696=K+1:=by rw [hK];decide
 unfold V
 rw [h1,h2,Nat.pow_succ];omega
theorem Au {m l k:Nat} (hl:m.log2=l) (hl2:l≤52) (hk:m*2^(52 - l)=k) (hk2:k<9007199254740992):nearR m 0=(l+1022)*4503599627370496+k:=by
 have hL:ak m 0=(l:Int) - 52:=by unfold ak;rw [hl];omega
 have e1:(0 - ak m 0).toNat=52 - l:=by rw [hL];omega
 have e2:(ak m 0 - 0).toNat=0:=by rw [hL];omega
 have e3:(ak m 0+1074).toNat=l+1022:=by rw [hL];omega
 unfold nearR
 rw [e1,e2,e3,hk,dx]
 exact Nat.min_eq_left (by omega)
theorem FX {l k:Nat} (hk1:4503599627370496≤k) (hk2:k<9007199254740992):mg ((l+1022)*4503599627370496+k)=k∧pl ((l+1022)*4503599627370496+k)=l+1022:=by
 unfold mg pl
 rw [if_neg (by omega)]
 omega
theorem Dk {m K:Nat} (hK:K=1074) (h0:0<m) (h:m≤9007199254740992):V (nearR m 0)=m*2^K∧nearR m 0<9218868437227405312:=by
 have hlog:m.log2≤53:=by
  have:m.log2<54:=(Nat.log2_lt (by omega)).2 (by omega)
  omega
 have a:=Nat.log2_self_le (show m≠0 by omega)
 have b:m<2^(m.log2+1):=Nat.lt_log2_self
 by_cases h53:m.log2=53
 ·have hm:m=9007199254740992:=by rw [h53] at a;omega
  subst hm
  have e:nearR 9007199254740992 0=4845873199050653696:=by decide
  rw [e]
  exact⟨Dj hK,by decide⟩
 ·obtain⟨l,hl⟩:∃ l,m.log2=l:=⟨_,rfl⟩
  rw [hl] at a b hlog h53
  have hl2:l≤52:=by omega
  obtain⟨k,hk⟩:∃ k,m*2^(52 - l)=k:=⟨_,rfl⟩
  have hk1:4503599627370496≤k:=by
   have:=Nat.mul_le_mul_right (2^(52 - l)) a
   rw [← Nat.pow_add,show l+(52 - l)=52 by omega,hk] at this;exact this
  have hk2:k<9007199254740992:=by
   have:=Nat.mul_lt_mul_of_pos_right b (Nat.two_pow_pos (52 - l))
   rw [← Nat.pow_add,show l+1+(52 - l)=53 by omega,hk] at this;exact this
  rw [Au hl hl2 hk hk2]
  obtain⟨hmg,hpl⟩:=FX (l:=l) hk1 hk2
  refine⟨?_,by omega⟩
  unfold V
  rw [hmg,hpl,← hk,Nat.mul_assoc,← Nat.pow_add,show 52 - l+(l+1022)=K by omega]
theorem lm {m:Int} {K:Nat} (hK:K=1074) (h1: -9007199254740992≤m) (h2:m≤9007199254740992):vI (fi m)=m*((2^K:Nat):Int)∧fi m % 9223372036854775808<9218868437227405312∧(fi m / 9223372036854775808 % 2==1)=decide (m<0)∧fi m<18446744073709551616:=by
 unfold fi aE
 by_cases h0:m=0
 ·subst h0;exact⟨by simp [vI,bg],by decide,by decide,by decide⟩
 ·rw [if_neg h0]
  obtain⟨a,b⟩:=Dk (m:=m.natAbs) hK (by omega) (by omega)
  by_cases hn:m<0
  ·rw [if_pos hn]
   have e1:(9223372036854775808+nearR m.natAbs 0) % 9223372036854775808=nearR m.natAbs 0:=by omega
   have e2:(9223372036854775808+nearR m.natAbs 0) / 9223372036854775808 % 2=1:=by omega
   refine⟨?_,by omega,by rw [e2];simp [hn],by omega⟩
   unfold vI
   rw [e1,e2,a]
   simp only [beq_self_eq_true,if_true,Int.natCast_mul]
   rw [← Int.neg_mul]
   congr 1;omega
  ·rw [if_neg hn]
   have e1:nearR m.natAbs 0 % 9223372036854775808=nearR m.natAbs 0:=by omega
   have e2:nearR m.natAbs 0 / 9223372036854775808 % 2=0:=by omega
   refine⟨?_,by omega,by rw [e2];simp [hn],by omega⟩
   unfold vI
   rw [e1,e2,a]
   simp only [show ((0:Nat)==1)=false from rfl,Bool.false_eq_true,if_false,Int.natCast_mul]
   congr 1;omega
end Go.Proofs.YtjjlnmihkadlmaaGreat
namespace Go.Proofs.YtjjlnmihkadlmaaGreat

def wrd (s:Bool) (r:Nat):Nat:=if s then 9223372036854775808+r else r
theorem eV (s:Bool) (r:Nat):Ieee.double.word s r=wrd s r:=by cases s<;>rfl
def sB (x:Nat):Bool:=x / 9223372036854775808 % 2==1
def aV (x:Nat):Nat:=V (x % 9223372036854775808)
def af (x:Nat):Prop:=x % 9223372036854775808<9218868437227405312
def mulR (s:Bool) (T:Nat):Nat:=if T=0 then wrd s 0 else wrd s (nearR T (-2148))
theorem xI (s:Bool) (m n p q:Nat) :
  Ieee.double.nearest s (m*n) (-1074+(p:Int)+(-1074+(q:Int)))=mulR s (m*2^p*(n*2^q)):=by
 have e:m*2^p*(n*2^q)=m*n*2^(p+q):=by rw [Nat.pow_add,Nat.mul_mul_mul_comm]
 rw [e]
 unfold mulR
 by_cases h0:m*n=0
 ·rw [h0,Nat.zero_mul,if_pos rfl,bN,eV]
 ·have hp:=Nat.two_pow_pos (p+q)
  have h1:m*n*2^(p+q)≠0:=by have:=Nat.mul_pos (show 0<m*n by omega) hp;omega
  rw [if_neg h1,bF _ h0,eV]
  have:=aY h0 (p+q) (-1074+(p:Int)+(-1074+(q:Int)))
  rw [← this]
  congr 2
  omega
theorem gB {x y:Nat} (hx:af x) (hy:af y):floatBits .mul .f64 x y=some (mulR (sB x^^sB y) (aV x*aV y)):=by
 show ((Ieee.double.read x).product (Ieee.double.read y)).map Ieee.double.write=_
 rw [ar hx,ar hy]
 show some (Ieee.double.nearest (_^^_) _ _)=_
 rw [xI];rfl

theorem Av {n n' d:Nat} (h:n≤n'):rne n d≤rne n' d:=by
 have h1:n / 2^d≤n' / 2^d:=Nat.div_le_div_right h
 rcases Nat.lt_or_eq_of_le h1 with h2 | h2
 ·have:=zU n d
  have h3:n' / 2^d≤rne n' d:=by unfold rne;exact Nat.le_add_right _ _
  omega
 ·have e1:=Nat.div_add_mod n (2^d)
  have e2:=Nat.div_add_mod n' (2^d)
  rw [h2] at e1
  have h3:n % 2^d≤n' % 2^d:=by omega
  unfold rne
  rw [h2]
  by_cases hc:2^d<2*(n % 2^d)∨(2^d=2*(n % 2^d)∧n' / 2^d % 2=1)
  ·rw [if_pos hc,if_pos (by omega)];exact Nat.le_refl _
  ·rw [if_neg hc];omega
theorem Dl {m n:Nat} (h:m≤n):m.log2≤n.log2:=by
 by_cases h0:m=0
 ·subst h0;simp
 ·by_cases hc:n.log2<m.log2
  ·have a:=Nat.log2_self_le h0
   have b:n<2^(n.log2+1):=Nat.lt_log2_self
   have:2^(n.log2+1)≤2^m.log2:=Nat.pow_le_pow_right (by decide) hc
   omega
  ·omega
def ka (M:Nat) (e:Int):Nat:=rne (M*2^(e - ak M e).toNat) (ak M e - e).toNat
theorem Dm {M:Nat} {e:Int}:ka M e≤9007199254740992:=by
 unfold ka
 have hl:e+M.log2 - 52≤ak M e:=by unfold ak;omega
 generalize ak M e=L at hl
 have b:M<2^(M.log2+1):=Nat.lt_log2_self
 generalize M.log2=l at b hl
 refine oW ?_
 have h1:M*2^(e - L).toNat<2^(l+1)*2^(e - L).toNat:=Nat.mul_lt_mul_of_pos_right b (Nat.two_pow_pos _)
 refine Nat.lt_of_lt_of_le h1 ?_
 rw [show (9007199254740992:Nat)=2^53 from rfl,← Nat.pow_add,← Nat.pow_add]
 exact Nat.pow_le_pow_right (by decide) (by omega)
theorem Dn {M:Nat} {e:Int} (h0:M≠0) (h: -1074<ak M e):4503599627370496≤ka M e:=by
 unfold ka
 have hl:e+M.log2 - 52=ak M e:=by unfold ak at *;omega
 generalize ak M e=L at hl h
 have a:=Nat.log2_self_le h0
 generalize M.log2=l at a hl
 refine Nat.le_trans ?_ (Nat.le_add_right _ _)
 rw [Nat.le_div_iff_mul_le (Nat.two_pow_pos _),show (4503599627370496:Nat)=2^52 from rfl,← Nat.pow_add]
 refine Nat.le_trans ?_ (Nat.mul_le_mul_right _ a)
 rw [← Nat.pow_add]
 exact Nat.pow_le_pow_right (by decide) (by omega)
theorem ib (M:Nat) (e:Int):nearR M e=min ((ak M e+1074).toNat*4503599627370496+ka M e) 9218868437227405312:=rfl
theorem Aw {a c c' I:Nat} (h:c≤c'):min (a+c) I≤min (a+c') I:=by omega
theorem Ax {a a' c c' I:Nat} (h:a+1≤a') (h1:c≤9007199254740992) (h2:4503599627370496≤c'):min (a*4503599627370496+c) I≤min (a'*4503599627370496+c') I:=by omega
theorem bH {M M':Nat} (e:Int) (h:M≤M'):nearR M e≤nearR M' e:=by
 have hl:=Dl h
 have hL:ak M e≤ak M' e:=by unfold ak;omega
 have hb: -1074≤ak M e:=by unfold ak;omega
 rw [ib,ib]
 by_cases hc:ak M e=ak M' e
 ·have:ka M e≤ka M' e:=by
   unfold ka
   rw [hc]
   exact Av (Nat.mul_le_mul_right _ h)
  rw [hc];exact Aw this
 ·have h0:M'≠0:=by
   intro h0;subst h0
   have:M=0:=by omega
   subst this;exact hc rfl
  have h1:=Dm (M:=M) (e:=e)
  have h2:=Dn (M:=M') (e:=e) h0 (by omega)
  have h3:(ak M e+1074).toNat+1≤(ak M' e+1074).toNat:=by omega
  exact Ax h3 h1 h2
theorem ic {e:Int} (h:e≤-1022):nearR 0 e=0:=by
 have hl:ak 0 e= -1074:=by unfold ak;simp;omega
 unfold nearR
 rw [hl,Nat.zero_mul,el (by have:=Nat.two_pow_pos (-1074 - e).toNat;omega)];rfl
theorem kB {r:Nat} (h:r<9218868437227405312) (k:Nat):nearR (V r*2^k) (-1074 - (k:Int))=r:=by
 by_cases h0:r=0
 ·subst h0;rw [bg,Nat.zero_mul,ic (by omega)]
 ·have hm:mg r≠0:=by
   unfold mg;split<;>omega
  have:=aY hm (pl r+k) (-1074+(pl r:Int))
  rw [kR (by omega) h] at this
  have e1:V r*2^k=mg r*2^(pl r+k):=by unfold V;rw [Nat.mul_assoc,← Nat.pow_add]
  have e2:(-1074 - (k:Int))= -1074+(pl r:Int) - ((pl r+k:Nat):Int):=by omega
  rw [e1,e2];exact this
theorem pA {T r k:Nat} (h:r<9218868437227405312) (hT:T≤V r*2^k):nearR T (-1074 - (k:Int))≤r:=by
 have:=bH (-1074 - (k:Int)) hT
 rwa [kB h] at this
theorem wi {T r k:Nat} (h:r<9218868437227405312) (hT:V r*2^k≤T):r≤nearR T (-1074 - (k:Int)):=by
 have:=bH (-1074 - (k:Int)) hT
 rwa [kB h] at this

def Rep (A:Int):Prop:=∃ r,r<9218868437227405312∧A.natAbs=V r
theorem Rep.neg {A:Int} (h:Rep A):Rep (-A):=by obtain⟨r,a,b⟩:=h;exact⟨r,a,by rw [Int.natAbs_neg];exact b⟩
theorem Ay:Rep 0:=⟨0,by decide,by rw [bg];rfl⟩
def rI (k:Nat) (T:Int):Int:=if T<0 then -(V (nearR T.natAbs (-1074 - (k:Int))):Int) else (V (nearR T.natAbs (-1074 - (k:Int))):Int)
def tZ (k:Nat) (T:Int):Prop:=nearR T.natAbs (-1074 - (k:Int))<9218868437227405312
theorem bj (A:Int) (k:Nat):(A*((2^k:Nat):Int)).natAbs=A.natAbs*2^k:=by rw [Int.natAbs_mul,Int.natAbs_natCast]
theorem iQ {k:Nat} {T B:Int} (hB:Rep B) (h:T≤B*((2^k:Nat):Int)):rI k T≤B:=by
 obtain⟨r,hr,e⟩:=hB
 have hp:(0:Int)<((2^k:Nat):Int):=by have:=Nat.two_pow_pos k;omega
 have hn:=bj B k
 unfold rI
 by_cases hT:T<0
 ·rw [if_pos hT]
  by_cases hb:B<0
  ·have hb2:B*((2^k:Nat):Int)<0:=Int.mul_neg_of_neg_of_pos hb hp
   have:=wi (T:=T.natAbs) hr (k:=k) (by rw [← e,← hn];omega)
   have:=xh this
   omega
  ·omega
 ·rw [if_neg hT]
  have hb:0≤B:=by
   by_cases hb:B<0
   ·have hb2:B*((2^k:Nat):Int)<0:=Int.mul_neg_of_neg_of_pos hb hp
    omega
   ·omega
  have hb2:0≤B*((2^k:Nat):Int):=Int.mul_nonneg hb (by omega)
  have:=pA (T:=T.natAbs) hr (k:=k) (by rw [← e,← hn];omega)
  have:=xh this
  omega
theorem EM (k:Nat) (T:Int):rI k (-T)= -rI k T:=by
 unfold rI
 by_cases h0:T=0
 ·subst h0
  have:V (nearR (0:Int).natAbs (-1074 - (k:Int)))=0:=by rw [Int.natAbs_zero,ic (by omega),bg]
  simp only [Int.neg_zero,this];simp
 ·rw [Int.natAbs_neg]
  by_cases h:T<0
  ·rw [if_pos h,if_neg (by omega)];omega
  ·rw [if_neg h,if_pos (by omega)]
theorem lp {k:Nat} {T A:Int} (hA:Rep A) (h:A*((2^k:Nat):Int)≤T):A≤rI k T:=by
 have:=iQ (k:=k) (T:=-T) hA.neg (by rw [Int.neg_mul];omega)
 rw [EM] at this;omega
theorem uc {k:Nat} {T A B:Int} (hA:Rep A) (hB:Rep B) (h1:A*((2^k:Nat):Int)≤T) (h2:T≤B*((2^k:Nat):Int)):tZ k T:=by
 unfold tZ
 have hp:(0:Int)<((2^k:Nat):Int):=by have:=Nat.two_pow_pos k;omega
 by_cases hT:T<0
 ·obtain⟨r,hr,e⟩:=hA
  have hn:=bj A k
  have:=pA (T:=T.natAbs) hr (k:=k) (by rw [← e,← hn];omega)
  omega
 ·obtain⟨r,hr,e⟩:=hB
  have hn:=bj B k
  have:=pA (T:=T.natAbs) hr (k:=k) (by rw [← e,← hn];omega)
  omega
end Go.Proofs.YtjjlnmihkadlmaaGreat
namespace Go.Proofs.YtjjlnmihkadlmaaGreat

theorem eZ (x:Nat):vI x=sgZ (sB x) (aV x):=rfl
theorem rp {a:Int} {K:Nat} (hK:K=1074) (h1: -9007199254740992≤a) (h2:a≤9007199254740992):aV (fi a)=a.natAbs*2^K∧sB (fi a)=decide (a<0)∧af (fi a)∧fi a<18446744073709551616:=by
 obtain⟨b1,b2,b3,b4⟩:=lm hK h1 h2
 refine⟨?_,b3,b2,b4⟩
 have h3:(vI (fi a)).natAbs=aV (fi a):=by
  rw [eZ];unfold sgZ;cases sB (fi a)<;>simp
 rw [← h3,b1,bj]
def P2 (k:Int):Nat:=nearR 1 k
theorem Ey {k:Int} (h1: -1022≤k) (h2:k≤1023):P2 k=(k+1023).toNat*4503599627370496:=by
 unfold P2
 have hl:Nat.log2 1=0:=by decide
 rw [iF (by decide) (by decide) (by rw [hl];omega) (by rw [hl];omega),hl,show rne (1*2^(63 - 0)) 11=4503599627370496 by decide]
 omega
theorem Az {k:Int} (h1: -1022≤k) (h2:k≤1023):af (P2 k)∧sB (P2 k)=false∧P2 k<9218868437227405312∧mg (P2 k % 9223372036854775808)=4503599627370496∧pl (P2 k % 9223372036854775808)=(k+1022).toNat:=by
 rw [Ey h1 h2]
 obtain⟨n,hn⟩:∃ n:Nat,(k+1023).toNat=n:=⟨_,rfl⟩
 have hk:k=(n:Int) - 1023:=by omega
 subst hk
 rw [hn]
 have hn1:1≤n:=by omega
 have hn2:n≤2046:=by omega
 have e:n*4503599627370496 % 9223372036854775808=n*4503599627370496:=by omega
 refine⟨by unfold af;omega,?_,by omega,?_,?_⟩
 ·unfold sB;rw [show n*4503599627370496 / 9223372036854775808=0 by omega];rfl
 ·rw [e];unfold mg;rw [if_neg (by omega)];omega
 ·rw [e];unfold pl;omega
theorem EN {a b:Nat} (h:52+a=b):4503599627370496*2^a=2^b:=by
 subst h
 have:=Nat.pow_add 2 52 a
 rw [this]
theorem FY {k:Int} (h1: -1022≤k) (h2:k≤1023):aV (P2 k)=2^(k+1074).toNat:=by
 obtain⟨_,_,_,a,b⟩:=Az h1 h2
 unfold aV V
 rw [a,b]
 exact EN (by omega)
theorem Dp:P2 0=4607182418800017408:=by rw [Ey (by decide) (by decide)];rfl
theorem EO:fi 1=4607182418800017408:=by
 show aE 1 0=_
 exact Dp
end Go.Proofs.YtjjlnmihkadlmaaGreat
namespace Go.Proofs.YtjjlnmihkadlmaaGreat

def fu (T p:Int):Int:=if T=0 then 0 else if T<0 then -(nearR T.natAbs p:Int) else (nearR T.natAbs p:Int)
theorem eF (M:Nat) (p:Int):nearR M p≤9218868437227405312:=Nat.min_le_right _ _
theorem dG {T T':Int} (p:Int) (h:T≤T'):fu T p≤fu T' p:=by
 unfold fu
 by_cases h0:T=0
 ·rw [if_pos h0]
  by_cases h1:T'=0
  ·rw [if_pos h1];omega
  ·rw [if_neg h1,if_neg (by omega)];omega
 ·rw [if_neg h0]
  by_cases h1:T'=0
  ·rw [if_pos h1,if_pos (by omega)];omega
  ·rw [if_neg h1]
   by_cases s:T<0
   ·rw [if_pos s]
    by_cases s':T'<0
    ·rw [if_pos s']
     have:=bH p (show T'.natAbs≤T.natAbs by omega)
     omega
    ·rw [if_neg s'];omega
   ·rw [if_neg s,if_neg (by omega)]
    have:=bH p (show T.natAbs≤T'.natAbs by omega)
    omega
theorem pL (T p:Int):fu (-T) p= -fu T p:=by
 unfold fu
 by_cases h0:T=0
 ·rw [if_pos h0,if_pos (by omega)];rfl
 ·rw [if_neg h0,if_neg (by omega),Int.natAbs_neg]
  by_cases s:T<0
  ·rw [if_pos s,if_neg (by omega)];omega
  ·rw [if_neg s,if_pos (by omega)]
def RkW (r:Nat) (k:Int):Prop:=aa (r:Int)=k∧r<18446744073709551616∧ag (r:Int)=false
theorem ir {r:Nat} (h:r≤9218868437227405312):RkW r (r:Int):=by
 have hn:ag (r:Int)=false:=by unfold ag szI;rw [decide_eq_false_iff_not];omega
 have hs:sgB (r:Int)=false:=by unfold sgB;rw [decide_eq_false_iff_not];omega
 refine⟨?_,by omega,hn⟩
 rw [rank_pos hn hs]
 unfold szI
 omega
theorem uF {r q:Nat} (h:r≤9218868437227405312) (hq:q=9223372036854775808+r):RkW q (-(r:Int)):=by
 have hn:ag (q:Int)=false:=by unfold ag szI;rw [decide_eq_false_iff_not];omega
 have hs:sgB (q:Int)=true:=by unfold sgB;rw [decide_eq_true_iff];omega
 refine⟨?_,by omega,hn⟩
 unfold aa
 rw [hn,hs]
 simp only [Bool.false_eq_true,if_false,if_true]
 unfold szI
 omega
theorem wL:RkW 0 0:=ir (r:=0) (by omega)
theorem Bf:RkW 9223372036854775808 0:=uF (r:=0) (by omega) (by omega)
theorem pM {s:Bool} {r:Nat} (h:r≤9218868437227405312):RkW (wrd s r) (sgZ s r):=by
 unfold wrd sgZ
 cases s
 ·simp only [Bool.false_eq_true,if_false];exact ir h
 ·simp only [if_true];exact uF h rfl
theorem yc (T p:Int):RkW (aE T p) (fu T p):=by
 unfold aE fu
 by_cases h0:T=0
 ·rw [if_pos h0,if_pos h0];exact wL
 ·rw [if_neg h0,if_neg h0]
  have hr:=eF T.natAbs p
  generalize nearR T.natAbs p=r at *
  by_cases s:T<0
  ·rw [if_pos s,if_pos s]
   exact uF hr rfl
  ·rw [if_neg s,if_neg s]
   exact ir hr
theorem nX (s t:Bool) (T:Int):RkW (fR s t T) (fu T (-1074)):=by
 unfold fR
 by_cases h0:T=0
 ·have e:fu T (-1074)=0:=by unfold fu;rw [if_pos h0]
  rw [if_pos h0,e]
  cases hs:(s&&t)
  ·simp only [Bool.false_eq_true,if_false];exact wL
  ·simp only [if_true];exact Bf
 ·rw [if_neg h0];exact yc T _
theorem yd (s:Bool) (T:Nat):RkW (mulR s T) (fu (sgZ s T) (-2148)):=by
 unfold mulR
 by_cases h0:T=0
 ·have e0:sgZ s T=0:=by unfold sgZ;rw [h0];cases s<;>simp
  have e:fu (sgZ s T) (-2148)=0:=by unfold fu;rw [if_pos e0]
  rw [if_pos h0,e]
  have:=pM (s:=s) (r:=0) (by omega)
  have e2:sgZ s 0=0:=by unfold sgZ;cases s<;>simp
  rw [e2] at this
  exact this
 ·rw [if_neg h0]
  have hr:=eF T (-2148)
  have hw:=pM (s:=s) hr
  have e:fu (sgZ s T) (-2148)=sgZ s (nearR T (-2148)):=by
   unfold fu sgZ
   generalize hM:nearR T (-2148)=M
   cases s
   ·simp only [Bool.false_eq_true,if_false]
    rw [if_neg (by omega),if_neg (by omega),Int.natAbs_natCast,hM]
   ·simp only [if_true]
    rw [if_neg (by omega),if_pos (by omega),Int.natAbs_neg,Int.natAbs_natCast,hM]
  rw [e]
  exact hw
theorem nY (x:Nat):vI x=sgZ (sB x) (aV x):=rfl
theorem ye (s t:Bool) (m n:Nat):sgZ s m*sgZ t n=sgZ (s^^t) (m*n):=by
 unfold sgZ
 cases s<;>cases t<;>simp [Int.neg_mul,Int.mul_neg]
theorem dH {x y:Nat} (hx:af x) (hy:af y):∃ r,floatBits .add .f64 x y=some r∧RkW r (fu (vI x+vI y) (-1074)):=⟨_,iP hx hy,nX _ _ _⟩
theorem rW {x y:Nat} (hx:af x) (hy:af y):∃ r,floatBits .sub .f64 x y=some r∧RkW r (fu (vI x - vI y) (-1074)):=⟨_,pw hx hy,nX _ _ _⟩
theorem lO {x y:Nat} (hx:af x) (hy:af y):∃ r,floatBits .mul .f64 x y=some r∧RkW r (fu (vI x*vI y) (-2148)):=by
 refine⟨_,gB hx hy,?_⟩
 rw [nY x,nY y,ye]
 exact yd _ _
theorem gE {x:Nat} (h:af x):ag (x:Int)=false:=by unfold af at h;unfold ag szI;rw [decide_eq_false_iff_not];omega
theorem kn {a b:Nat} (ha:af a) (hb:af b) (ha2:a<18446744073709551616) (hb2:b<18446744073709551616):aa a<aa b↔vI a<vI b:=by
 rw [← bA ha2 (gE ha),← bA hb2 (gE hb)]
 have e1:vI a=sgZ (a / 9223372036854775808 % 2==1) (V (a % 9223372036854775808)):=rfl
 have e2:vI b=sgZ (b / 9223372036854775808 % 2==1) (V (b % 9223372036854775808)):=rfl
 rw [e1,e2]
 generalize a % 9223372036854775808=r at *
 generalize b % 9223372036854775808=s at *
 generalize (a / 9223372036854775808 % 2==1)=p at *
 generalize (b / 9223372036854775808 % 2==1)=q at *
 have h1:=bR (r:=r) (s:=s)
 have h2:=bR (r:=s) (s:=r)
 have h3:=bR (r:=0) (s:=s)
 have h4:=bR (r:=0) (s:=r)
 rw [bg] at h3 h4
 unfold sgn sgZ
 cases p<;>cases q<;>simp only [Bool.false_eq_true,if_true,if_false] at* <;>omega
theorem bI {a b:Nat} (ha:af a) (hb:af b) (ha2:a<18446744073709551616) (hb2:b<18446744073709551616):aa a≤aa b↔vI a≤vI b:=by
 have:=kn hb ha hb2 ha2
 omega
theorem rX {r:Nat} {k:Int} (h:RkW r k) (h0: -9218868437227405312<k) (h1:k<9218868437227405312):af r:=by
 obtain⟨e,h2,hn⟩:=h
 rw [← bA h2 hn] at e
 unfold af
 unfold sgn at e
 generalize (r / 9223372036854775808 % 2==1)=p at *
 cases p<;>simp only [Bool.false_eq_true,if_true,if_false] at e<;>omega
end Go.Proofs.YtjjlnmihkadlmaaGreat
namespace Go.Proofs.YtjjlnmihkadlmaaGreat

end Go.Proofs.YtjjlnmihkadlmaaGreat
