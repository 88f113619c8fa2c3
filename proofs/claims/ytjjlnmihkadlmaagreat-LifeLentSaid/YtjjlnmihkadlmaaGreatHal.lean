/-  -/
import Derived.Test.YtjjlnmihkadlmaaGreatHaj
import Derived.Test.YtjjlnmihkadlmaaGreatHad
import Derived.BigQuiet
import Derived.Test.YtjjlnmihkadlmaaGreatHac
import Derived.LoopTactic
namespace Go.Proofs.YtjjlnmihkadlmaaGreat
open Go.RowKit

theorem gD (x:Int) (k:Int) (w:World) (h0:0≤x) (h1:x≤18446744073709551615) (hk:Hid (64 - (Lib.bitLen x.toNat:Int)=k)) :
  Calls Tryz.prog 115 #[.int .u64 x] w fun e w'=>e=.returned (.int .i64 k)∧w'=w:=by
 rw [← hk.out];exact Tryz.bits_LeadingZeros64 x w h0 h1

end Go.Proofs.YtjjlnmihkadlmaaGreat
namespace Go.Proofs.YtjjlnmihkadlmaaGreat
open Go.RowKit

theorem aa {p:Prop} (h:p):Hid p:=h
theorem uA {p:Prop} (h:Hid p):p:=h

def RowIs (w:World) (g n M:Nat):Prop:=∀ i,i<n→w.cell? ⟨g,i,none⟩=some (.int .u64 (dgt M i:Int))

theorem og {g a b c:Nat} (h:a=b):Ending.returned (.slice (some ⟨g,0,none⟩) a c)=.returned (.slice (some ⟨g,0,none⟩) b c):=by rw [h]

set_option maxHeartbeats 400000 in
theorem cN (g n c M:Nat) (w:World) (hrow:RowIs w g n M) (hM:M<2^(32*n)) (hn:n≤c) (hb:n≤4611686018427387904) :
  Calls Tryz.prog 162 #[.slice (some ⟨g,0,none⟩) n c] w fun e w'=>e=.returned (.slice (some ⟨g,0,none⟩) (nd M) c)∧w'=w:=by
 have HR:=aa hrow
 have HM:=aa hM
 clear hrow hM
 go_enter Tryz.func162,Tryz.ntmps162
 go_wp2
 go_loop [3] (fun t=>∃ k:Nat,k≤n∧t=.int .i64 k∧Hid (M<2^(32*k))) (fun t=>(intOf t).toNat)
 case atStart=>exact⟨n,Nat.le_refl _,rfl,HM⟩
 case round=>
  obtain⟨k,hk,rfl,HK⟩:=hrel
  cases k with
  | zero=>
   go_wp2
   go_ret
   exact⟨og (by have h1:=HK.out;rw [Nat.mul_zero,Nat.pow_zero] at h1;rw [show M=0 by omega];rfl),rfl⟩
  | succ j=>
   have hc:=uA HR j (by omega)
   by_cases h0:dgt M j=0
   ·rw [h0] at hc
    go_wp2
    go_round
    case rel=>exact⟨j,by omega,rfl,xU HK.out h0⟩
    case measure=>simp [intOf]
   ·have H0:=aa h0
    have h1:((dgt M j:Int)==0)=false:=by simpa using h0
    clear h0
    generalize (dgt M j:Int)=q at h1 hc
    go_wp2
    go_ret
    exact⟨og (AJ HK.out H0.out).symm,rfl⟩

def DN (w:World) (v:Value) (N:Nat):Prop:=
 (N=0∧∃ p c,v=.slice p 0 c)∨(N≠0∧∃ g c,v=.slice (some ⟨g,0,none⟩) (nd N) c∧nd N≤c∧g<w.heap.size∧RowIs w g (nd N) N)

theorem RowIs.mono {w:World} {g n m M:Nat} (h:RowIs w g n M) (hm:m≤n):RowIs w g m M:=fun i hi=>h i (by omega)
theorem RowIs.below {w w':World} {g n M:Nat} (h:RowIs w g n M) (hg:g<w.heap.size) (hb:Below w.heap.size w w'):RowIs w' g n M:=
 fun i hi=>(hb.cell (p:=⟨g,i,none⟩) hg).trans (h i hi)
theorem DN.below {w w':World} {v:Value} {N:Nat} (h:DN w v N) (hb:Below w.heap.size w w'):DN w' v N:=by
 rcases h with h | ⟨h0,g,c,hv,hc,hg,hr⟩
 ·exact Or.inl h
 ·exact Or.inr ⟨h0,g,c,hv,hc,Nat.lt_of_lt_of_le hg hb.size,hr.below hg hb⟩
theorem kq {w:World} {g c n M:Nat} (hr:RowIs w g n M) (hM:M<2^(32*n)) (hc:n≤c) (hg:g<w.heap.size):DN w (.slice (some ⟨g,0,none⟩) (nd M) c) M:=by
 by_cases h0:M=0
 ·exact Or.inl ⟨h0,some ⟨g,0,none⟩,c,by rw [h0];rfl⟩
 ·have:=ct hM
  exact Or.inr ⟨h0,g,c,rfl,by omega,hg,hr.mono this⟩

theorem DM (n:Nat) (w:World) (h:n<18446744073709551616):RowIs (w.alloc (.cells #[.int .u64 ((n:Int) % 4294967296),.int .u64 ((n:Int) / 4294967296)] 57)) w.heap.size 2 n:=by
 intro i hi
 have e0:(dgt n 0:Int)=(n:Int) % 4294967296:=by unfold dgt;rw [Nat.mul_zero,Nat.pow_zero,Nat.div_one];omega
 have e1:(dgt n 1:Int)=(n:Int) / 4294967296:=by unfold dgt;rw [show (2:Nat)^(32*1)=4294967296 from rfl];omega
 match i,hi with
 | 0,_=>rw [e0];simp
 | 1,_=>rw [e1];simp

def From (B:Nat) (v:Value):Prop:=∀ a l c,v=.slice (some a) l c→B≤a.block
theorem iY (B:Nat):From B (.slice none 0 0):=fun a l c h=>by cases h
theorem ft (B g l c:Nat) (h:B≤g):From B (.slice (some ⟨g,0,none⟩) l c):=fun a l' c' e=>by cases e;exact h
theorem DN.set {w:World} {v:Value} {N B:Nat} (h:DN w v N) (hf:From B v) {a:Addr} (ha:a.block<B) (x:Value):DN (w.setCell a x) v N:=by
 rcases h with h | ⟨h0,g,c,rfl,hc,hg,hr⟩
 ·exact Or.inl h
 ·have:=hf _ _ _ rfl
  refine Or.inr ⟨h0,g,c,rfl,hc,by simpa using hg,fun i hi=>?_⟩
  exact (World.cell?_of_block (a:=⟨g,i,none⟩) (Below.heap_setCell w a x g (by have h9:B≤g:=this;omega))).trans (hr i hi)

set_option maxHeartbeats 400000 in
theorem uB (n:Nat) (w:World) (h:n<18446744073709551616) :
  Calls Tryz.prog 128 #[.int .u64 n] w fun e w'=>∃ v,e=.returned v∧DN w' v n∧From w.heap.size v∧Below w.heap.size w w':=by
 have HR:=aa (DM n w h)
 have HD:=aa (kq HR.out (by omega) (Nat.le_refl 2) (by simp))
 go_enter Tryz.func128,Tryz.ntmps128
 go_wp2_with fail
 refine (cN _ 2 2 n _ HR.out (by omega) (Nat.le_refl 2) (by omega)).mono ?_
 rintro e w' ⟨rfl,rfl⟩
 go_wp2_with fail
 go_ret
 exact⟨_,rfl,HD.out,ft _ _ _ _ (Nat.le_refl _),(Below.refl _ _).alloc (Nat.le_refl _) _⟩
theorem gI (u:Int) (n:Nat) (w:World) (hu:Hid (u=n)) (h:n<18446744073709551616) :
  Calls Tryz.prog 128 #[.int .u64 u] w fun e w'=>∃ v,e=.returned v∧DN w' v n∧From w.heap.size v∧Below w.heap.size w w':=by
 rw [hu.out];exact uB n w h

theorem DO {x:Nat} (h:x<18446744073709551616):bl x≤64:=by
 unfold bl
 by_cases h0:x=0
 ·rw [if_pos h0];omega
 ·rw [if_neg h0];have:=(Nat.log2_lt h0).2 (show x<2^64 from h);omega

set_option maxHeartbeats 400000 in
theorem len_nil (p:Option Addr) (c:Nat) (w:World) :
  Calls Tryz.prog 145 #[.slice p 0 c] w fun e w'=>e=.returned (.int .i64 0)∧w'=w:=by
 go_enter Tryz.func145,Tryz.ntmps145
 go_wp2
 go_ret
 exact⟨rfl,rfl⟩

set_option maxHeartbeats 400000 in
theorem DP (g n c N:Nat) (w:World) (hN:N≠0) (hn:Hid (n+1=nd N)) (hb:n≤100000000) (hcell:w.cell? ⟨g,n,none⟩=some (.int .u64 (dgt N n:Int))) :
  Calls Tryz.prog 145 #[.slice (some ⟨g,0,none⟩) (n+1:Nat) c] w fun e w'=>e=.returned (.int .i64 (bl N:Int))∧w'=w:=by
 have HB:Hid (bl N=32*n+bl (dgt N n)):=by
  have:=FI hN
  rw [← hn.out,Nat.add_sub_cancel] at this;exact this
 have hd:=aX N n
 generalize dgt N n=d at hcell HB hd
 rw [HB.out]
 clear HB
 go_enter Tryz.func145,Tryz.ntmps145
 go_wp2
 go_loop [3,4] (fun s t=>∃ a x:Nat,s=.int .i64 a∧t=.int .u64 x∧x<4294967296∧Hid (a+bl x=32*n+bl d)) (fun _ t=>(intOf t).toNat)
 case atStart=>exact⟨32*n,d,by go_num,rfl,hd,rfl⟩
 case round=>
  obtain⟨a,x,rfl,rfl,hx,HA⟩:=hrel
  have ha:a≤3200000064:=by
   have h1:=HA.out
   have h2:bl d≤64:=DO (by omega)
   omega
  by_cases h0:x=0
  ·subst h0
   go_wp2
   go_ret
   exact⟨bW (by have:=HA.out;rw [show bl 0=0 from rfl] at this;omega),rfl⟩
  ·have HB:=aa (DK h0)
   have h1:0<x:=by omega
   clear h0
   go_wp2
   go_round
   case rel=>exact⟨a+1,x / 2,by go_num,by go_num,by omega,by have h2:=HA.out;rw [HB.out] at h2;show _=_;omega⟩
   case measure=>simp [intOf];omega

theorem kS (v:Value) (N:Nat) (w:World) (h:DN w v N) (hb:nd N≤100000000) :
  Calls Tryz.prog 145 #[v] w fun e w'=>e=.returned (.int .i64 (bl N:Int))∧w'=w:=by
 rcases h with⟨h0,p,c,rfl⟩| ⟨h0,g,c,rfl,hc,hg,hr⟩
 ·rw [h0];exact len_nil p c w
 ·have h1:=dw h0
  obtain⟨n,hn⟩:∃ n,n+1=nd N:=⟨nd N - 1,by omega⟩
  rw [← hn]
  exact DP g n c N w h0 hn (by omega) (hr n (by omega))

set_option maxHeartbeats 400000 in
theorem jM (p:Option Addr) (n c:Nat) (i:Int) (w:World) (hi:i<0∨(n:Int)≤i) :
  Calls Tryz.prog 161 #[.slice p n c,.int .i64 i] w fun e w'=>e=.returned (.int .u64 0)∧w'=w:=by
 by_cases h:i<0
 ·go_enter Tryz.func161,Tryz.ntmps161
  go_wp2
  go_ret
  exact⟨rfl,rfl⟩
 ·have h2:(n:Int)≤i:=by omega
  go_enter Tryz.func161,Tryz.ntmps161
  go_wp2
  go_ret
  exact⟨rfl,rfl⟩

set_option maxHeartbeats 400000 in
theorem rE (g n c k:Nat) (q:Int) (w:World) (hk:k<n) (hcell:w.cell? ⟨g,k,none⟩=some (.int .u64 q)) :
  Calls Tryz.prog 161 #[.slice (some ⟨g,0,none⟩) n c,.int .i64 k] w fun e w'=>e=.returned (.int .u64 q)∧w'=w:=by
 go_enter Tryz.func161,Tryz.ntmps161
 go_wp2
 go_ret
 exact⟨rfl,rfl⟩

theorem gJ (v:Value) (N k:Nat) (w:World) (h:DN w v N) :
  Calls Tryz.prog 161 #[v,.int .i64 k] w fun e w'=>e=.returned (.int .u64 (dgt N k:Int))∧w'=w:=by
 rcases h with⟨h0,p,c,rfl⟩| ⟨h0,g,c,rfl,hc,hg,hr⟩
 ·rw [h0,rD];exact jM p 0 c k w (by omega)
 ·by_cases hk:k<nd N
  ·exact rE g (nd N) c k _ w hk (hr k hk)
  ·rw [AI (by omega)];exact jM _ _ c k w (by omega)

end Go.Proofs.YtjjlnmihkadlmaaGreat
namespace Go.Proofs.YtjjlnmihkadlmaaGreat
open Go.RowKit

theorem AS {E:Int} (h0:0≤E) (h1:E≤18446744073709551615):bits .and .u64 E 1=E % 2:=and_one_u64 E h0 h1

def gg (kept lost:Int):Int:=if 9223372036854775808<lost∨(lost=9223372036854775808∧kept % 2=1) then kept+1 else kept

set_option maxHeartbeats 400000 in
theorem lz (u drop kept lost:Int) (w:World) (hd0:1≤drop) (hd:drop≤64) (hk0:0≤kept) (hk1:kept<9223372036854775808)
  (hk:u / 2^drop.toNat=kept) (hl:IntKind.u64.wrap (u*2^(64 - drop).toNat)=lost) :
  Calls Tryz.prog 182 #[.int .u64 u,.int .i64 drop] w fun e w'=>e=.returned (.int .u64 (gg kept lost))∧∃ n,w'=w.drewN n:=by
 have ha:bits .and .u64 kept 1=kept % 2:=AS hk0 (by omega)
 rcases Int.lt_trichotomy lost 9223372036854775808 with h1 | h1 | h1
 ·rw [show gg kept lost=kept by unfold gg;rw [if_neg (by omega)]]
  go_enter Tryz.func182,Tryz.ntmps182
  go_wp2
  go_quiet (fail)
  go_wp2
  go_ret
  exact⟨rfl,_,rfl⟩
 ·by_cases h2:kept % 2=1
  ·rw [show gg kept lost=kept+1 by unfold gg;rw [if_pos (by omega)]]
   have h3:(kept % 2==1)=true:=by simpa using h2
   clear h2
   go_enter Tryz.func182,Tryz.ntmps182
   go_wp2
   go_quiet (fail)
   go_wp2
   go_ret
   exact⟨rfl,_,rfl⟩
  ·rw [show gg kept lost=kept by unfold gg;rw [if_neg (by omega)]]
   have h3:(kept % 2==1)=false:=by simpa using h2
   clear h2
   go_enter Tryz.func182,Tryz.ntmps182
   go_wp2
   go_quiet (fail)
   go_wp2
   go_ret
   exact⟨rfl,_,rfl⟩
 ·rw [show gg kept lost=kept+1 by unfold gg;rw [if_pos (by omega)]]
  go_enter Tryz.func182,Tryz.ntmps182
  go_wp2
  go_quiet (fail)
  go_wp2
  go_ret
  exact⟨rfl,_,rfl⟩

theorem DS {u d:Nat} (hd:d≤64):IntKind.u64.wrap ((u:Int)*2^(64 - (d:Int)).toNat)=((u % 2^d*2^(64 - d):Nat):Int):=by
 rw [IntKind.wrap_u64,show (64 - (d:Int)).toNat=64 - d by omega]
 have e:((u:Int)*2^(64 - d))=((u*2^(64 - d):Nat):Int):=by rw [Int.natCast_mul,Int.natCast_pow];rfl
 rw [e]
 have h64:(18446744073709551616:Nat)=2^d*2^(64 - d):=by rw [← Nat.pow_add,show d+(64 - d)=64 by omega]
 rw [show (18446744073709551616:Int)=((2^d*2^(64 - d):Nat):Int) by rw [← h64];rfl,← Int.natCast_emod,Nat.mul_mod_mul_right]
theorem DT {u d:Nat}:(u:Int) / 2^((d:Int)).toNat=((u / 2^d:Nat):Int):=by
 rw [Int.toNat_natCast,Int.natCast_ediv,Int.natCast_pow];rfl
theorem xZ {u d:Nat} (hd:d≤64) (hd0:1≤d):gg ((u / 2^d:Nat):Int) ((u % 2^d*2^(64 - d):Nat):Int)=(rne u d:Int):=by
 unfold gg rne
 have hp:0<2^(64 - d):=Nat.two_pow_pos _
 have h63:(9223372036854775808:Nat)*2=2^d*2^(64 - d):=by rw [← Nat.pow_add,show d+(64 - d)=64 by omega]
 have f1:(9223372036854775808:Int)<((u % 2^d*2^(64 - d):Nat):Int)↔2^d<2*(u % 2^d):=by
  rw [← Nat.mul_lt_mul_right hp,Nat.mul_assoc];omega
 have f2:((u % 2^d*2^(64 - d):Nat):Int)=(9223372036854775808:Int)↔2^d=2*(u % 2^d):=by
  constructor
  ·intro h;apply Nat.eq_of_mul_eq_mul_right hp;rw [Nat.mul_assoc];omega
  ·intro h
   have:2^d*2^(64 - d)=2*(u % 2^d)*2^(64 - d):=congrArg (·*2^(64 - d)) h
   rw [Nat.mul_assoc] at this;omega
 have f3:((u / 2^d:Nat):Int) % 2=1↔u / 2^d % 2=1:=by omega
 simp only [f1,f2,f3]
 split<;>omega

theorem nB (u d:Nat) (w:World) (h:u<18446744073709551616) (hd0:1≤d) (hd:d≤64) :
  Calls Tryz.prog 182 #[.int .u64 u,.int .i64 d] w fun e w'=>e=.returned (.int .u64 (rne u d))∧∃ n,w'=w.drewN n:=by
 rw [← xZ hd hd0]
 refine lz u d _ _ w (by omega) (by omega) (Int.natCast_nonneg _) ?_ DT (DS hd)
 have:u / 2^d≤u / 2^1:=Nat.div_le_div_left (Nat.pow_le_pow_right (by decide) hd0) (by decide)
 omega

set_option maxHeartbeats 400000 in
theorem nC (u drop:Int) (w:World) (hd:64<drop) :
  Calls Tryz.prog 182 #[.int .u64 u,.int .i64 drop] w fun e w'=>e=.returned (.int .u64 0)∧∃ n,w'=w.drewN n:=by
 go_enter Tryz.func182,Tryz.ntmps182
 go_wp2
 go_ret
 exact⟨rfl,0,rfl⟩

theorem ig (u drop:Int) (v:Nat) (w:World) (h0:0≤u) (h:u<18446744073709551616) (hd0:1≤drop) (hv:Hid (v=rne u.toNat drop.toNat)) :
  Calls Tryz.prog 182 #[.int .u64 u,.int .i64 drop] w fun e w'=>e=.returned (.int .u64 v)∧∃ n,w'=w.drewN n:=by
 rw [hv.out]
 obtain⟨a,rfl⟩:=Int.eq_ofNat_of_zero_le h0
 obtain⟨d,rfl⟩:=Int.eq_ofNat_of_zero_le (show 0≤drop by omega)
 rw [Int.toNat_natCast,Int.toNat_natCast]
 by_cases hd:d≤64
 ·exact nB a d w (by omega) (by omega) hd
 ·have e:rne a d=0:=eL (by
   have:(2:Nat)^65≤2^d:=Nat.pow_le_pow_right (by decide) (by omega)
   omega)
  rw [e];exact nC a d w (by omega)

theorem pR (s q:Int) (w:World) (h0:0≤s) (h:s<18446744073709551616) (hq:Hid ((rne s.toNat 11:Int)=q)) :
  Calls Tryz.prog 182 #[.int .u64 s,.int .i64 11] w fun e w'=>e=.returned (.int .u64 q)∧∃ n,w'=w.drewN n:=by
 rw [← hq.out];exact ig s 11 (rne s.toNat 11) w h0 h (by omega) rfl

set_option maxHeartbeats 400000 in
theorem AT (u e:Int) (w:World) (h:1023<e) :
  Calls Tryz.prog 156 #[.int .u64 u,.int .i64 e] w fun x w'=>x=.returned (.int .u64 9218868437227405312)∧∃ n,w'=w.drewN n:=by
 go_enter Tryz.func156,Tryz.ntmps156
 go_wp2_with fail
 go_ret
 exact⟨rfl,0,rfl⟩

set_option maxHeartbeats 400000 in
theorem AU (u e:Int) (w:World) (h:e< -1139) :
  Calls Tryz.prog 156 #[.int .u64 u,.int .i64 e] w fun x w'=>x=.returned (.int .u64 0)∧∃ n,w'=w.drewN n:=by
 go_enter Tryz.func156,Tryz.ntmps156
 go_wp2_with fail
 go_ret
 exact⟨rfl,0,rfl⟩

set_option maxHeartbeats 400000 in
theorem AW (u e ld s:Int) (v:Nat) (w:World) (h0:0≤u) (h1:u≤18446744073709551615) (he:e≤1023) (he': -1139≤e) (hl0:0≤ld) (hl1:ld≤63)
  (hl:Hid (64 - (Lib.bitLen u.toNat:Int)=ld)) (hs:IntKind.u64.wrap (u*2^ld.toNat)=s) (hs0:0≤s) (hs1:s<18446744073709551616)
  (hv:Hid (e+63 - ld≤1023→v=if e+63 - ld< -1022 then rne s.toNat (-1074 - e+ld).toNat else (e+63 - ld+1022).toNat*4503599627370496+rne s.toNat 11))
  (hv':Hid (1023<e+63 - ld→v=9218868437227405312)) :
  Calls Tryz.prog 156 #[.int .u64 u,.int .i64 e] w fun x w'=>x=.returned (.int .u64 v)∧∃ n,w'=w.drewN n:=by
 by_cases ht:1023<e+63 - ld
 ·rw [hv'.out ht]
  go_enter Tryz.func156,Tryz.ntmps156
  go_wp2_with (go_at_call 115;refine (gD _ ld _ h0 h1 hl).mono ?_;rintro x w' ⟨rfl,rfl⟩)
  go_ret
  exact⟨rfl,0,rfl⟩
 ·by_cases ht2:e+63 - ld< -1022
  ·have e1:=hv.out (by omega)
   rw [if_pos ht2] at e1
   have HE:Hid (v=rne s.toNat (-1011 - (e+63 - ld)).toNat):=by
    show _=_;rw [e1,show (-1074 - e+ld).toNat=(-1011 - (e+63 - ld)).toNat by omega]
   clear e1
   go_enter Tryz.func156,Tryz.ntmps156
   go_wp2_with (go_at_call 115;refine (gD _ ld _ h0 h1 hl).mono ?_;rintro x w' ⟨rfl,rfl⟩)
   refine (ig _ _ v _ hs0 hs1 (by omega) HE).mono ?_
   rintro x w' ⟨rfl,nq,rfl⟩
   go_wp2_with fail
   go_ret
   exact⟨rfl,_,rfl⟩
  ·have e1:=hv.out (by omega)
   rw [if_neg ht2] at e1
   have HE:Hid ((v:Int)=(e+63 - ld+1022)*4503599627370496+(rne s.toNat 11:Int)):=by show _=_;rw [e1];omega
   have HB:(rne s.toNat 11:Int)≤9007199254740992:=by
    have:=pL (n:=s.toNat) (d:=11) (c:=9007199254740992) (by omega)
    omega
   have HB0:0≤(rne s.toNat 11:Int):=by omega
   clear e1
   rw [HE.out]
   generalize hq:(rne s.toNat 11:Int)=q at HB HB0
   have HQ:Hid ((rne s.toNat 11:Int)=q):=hq
   clear hq
   go_enter Tryz.func156,Tryz.ntmps156
   go_wp2_with (first | (go_at_call 115;refine (gD _ ld _ h0 h1 hl).mono ?_;rintro x w' ⟨rfl,rfl⟩) | (go_at_call 182;refine (pR _ q _ hs0 hs1 HQ).mono ?_;rintro x w' ⟨rfl,nq,rfl⟩))
   go_ret
   exact⟨rfl,_,rfl⟩


theorem AX (u:Nat) (e:Int) (w:World) (h0:u≠0) (h:u<18446744073709551616) :
  Calls Tryz.prog 156 #[.int .u64 u,.int .i64 e] w fun x w'=>x=.returned (.int .u64 (nearR u e))∧∃ n,w'=w.drewN n:=by
 have hl:u.log2<64:=(Nat.log2_lt h0).2 h
 by_cases h1:1023<e
 ·rw [gH h0 (by omega)];exact AT u e w h1
 by_cases h2:e< -1139
 ·rw [fZ h h2];exact AU u e w h2
 have ht:=pK h0 h
 refine AW u e (63 - u.log2:Int) ((u*2^(63 - u.log2):Nat):Int) (nearR u e) w (by omega) (by omega) (by omega) (by omega) (by omega) (by omega) ?_ ?_ (Int.natCast_nonneg _) (by omega) ?_ ?_
 ·show _=_
  rw [Int.toNat_natCast,fY h0 h];omega
 ·rw [IntKind.wrap_u64,show ((63:Int) - (u.log2:Int)).toNat=63 - u.log2 by omega]
  have e1:((u:Int)*2^(63 - u.log2))=((u*2^(63 - u.log2):Nat):Int):=by rw [Int.natCast_mul,Int.natCast_pow];rfl
  rw [e1];omega
 ·intro h3
  rw [Int.toNat_natCast]
  by_cases h4:e+63 - (63 - (u.log2:Int))< -1022
  ·rw [if_pos h4,xT h0 h (by omega),show (-1074 - e+(63 - (u.log2:Int))).toNat=(-1011 - e - (u.log2:Int)).toNat by omega]
  ·rw [if_neg h4,iX h0 h (by omega) (by omega),show (e+63 - (63 - (u.log2:Int))+1022).toNat=(e+u.log2+1022).toNat by omega]
 ·intro h3
  exact gH h0 (by omega)

theorem wU (u e q:Int) (w:World) (h0:0<u) (h:u<18446744073709551616) (hq:Hid ((nearR u.toNat e:Int)=q)) :
  Calls Tryz.prog 156 #[.int .u64 u,.int .i64 e] w fun x w'=>x=.returned (.int .u64 q)∧∃ n,w'=w.drewN n:=by
 rw [← hq.out]
 obtain⟨a,rfl⟩:=Int.eq_ofNat_of_zero_le (show 0≤u by omega)
 rw [Int.toNat_natCast]
 exact AX a e w (by omega) (by omega)
theorem gh (u:Nat) (e:Int):nearR u e≤9218868437227405312:=Nat.min_le_right _ _

def aG (m e:Int):Nat:=if m=0 then 0 else if m<0 then 9223372036854775808+nearR m.natAbs e else nearR m.natAbs e

set_option maxHeartbeats 400000 in
theorem ya (e:Int) (w:World) :
  Calls Tryz.prog 116 #[.int .i64 0,.int .i64 e] w fun x w'=>x=.returned (.float .f64 0)∧∃ n,w'=w.drewN n:=by
 go_enter Tryz.func116,Tryz.ntmps116
 go_wp2_with fail
 go_ret
 exact⟨rfl,0,rfl⟩

set_option maxHeartbeats 400000 in
theorem AY (m e q:Int) (w:World) (h0:0<m) (h:m≤9223372036854775807) (hq:Hid ((nearR m.toNat e:Int)=q)) :
  Calls Tryz.prog 116 #[.int .i64 m,.int .i64 e] w fun x w'=>x=.returned (.float .f64 q.toNat)∧∃ n,w'=w.drewN n:=by
 have hm:(m==0)=false:=by simp;omega
 have hm':decide (m<0)=false:=by simp;omega
 go_enter Tryz.func116,Tryz.ntmps116
 go_wp2_with (first | (go_at_call 156;refine (wU _ _ q _ h0 (by omega) hq).mono ?_;rintro x w' ⟨rfl,nq,rfl⟩) | (go_at_call 155;refine (pC _ _).mono ?_;rintro x w' ⟨rfl,rfl⟩))
 go_ret
 exact⟨rfl,_,rfl⟩

set_option maxHeartbeats 400000 in
theorem AZ (m a e q:Int) (w:World) (h0:m<0) (h: -9223372036854775808≤m) (hq:Hid ((nearR a.toNat e:Int)=q)) (ha:IntKind.u64.wrap (-IntKind.u64.wrap m)=a) (ha0:0<a) (ha1:a<18446744073709551616) (hq0:0≤q) (hq1:q<9223372036854775808) :
  Calls Tryz.prog 116 #[.int .i64 m,.int .i64 e] w fun x w'=>x=.returned (.float .f64 (9223372036854775808+q).toNat)∧∃ n,w'=w.drewN n:=by
 have hm:(m==0)=false:=by simp;omega
 go_enter Tryz.func116,Tryz.ntmps116
 go_wp2_with (first | (go_at_call 156;refine (wU _ _ q _ ha0 ha1 hq).mono ?_;rintro x w' ⟨rfl,nq,rfl⟩) | (go_at_call 155;refine (pD _ _ hq0 hq1).mono ?_;rintro x w' ⟨rfl,rfl⟩))
 go_ret
 exact⟨rfl,_,rfl⟩

theorem bM (m e:Int) (w:World) (h0: -9223372036854775808≤m) (h1:m≤9223372036854775807) :
  Calls Tryz.prog 116 #[.int .i64 m,.int .i64 e] w fun x w'=>x=.returned (.float .f64 (aG m e))∧∃ n,w'=w.drewN n:=by
 unfold aG
 by_cases hz:m=0
 ·subst hz;rw [if_pos rfl];exact ya e w
 rw [if_neg hz]
 by_cases hn:m<0
 ·rw [if_pos hn]
  have hb:=gh m.natAbs e
  have:=AZ m (-m) e (nearR m.natAbs e) w hn h0 (by show _=_;rw [show (-m).toNat=m.natAbs by omega]) (by rw [IntKind.wrap_u64,IntKind.wrap_u64];omega) (by omega) (by omega) (Int.natCast_nonneg _) (by omega)
  rw [show (9223372036854775808+(nearR m.natAbs e:Int)).toNat=9223372036854775808+nearR m.natAbs e by omega] at this
  exact this
 ·rw [if_neg hn]
  have:=AY m e (nearR m.natAbs e) w (by omega) h1 (by show _=_;rw [show m.toNat=m.natAbs by omega])
  rw [Int.toNat_natCast] at this
  exact this
end Go.Proofs.YtjjlnmihkadlmaaGreat
namespace Go.Proofs.YtjjlnmihkadlmaaGreat
open Go.RowKit

theorem lA {z:Int} (h0:0≤z) (h:z<18446744073709551616):bits .and .u64 z 4503599627370495=z % 4503599627370496:=by
 obtain⟨b,rfl⟩:=Int.eq_ofNat_of_zero_le h0
 have:=bits_and_u64_nat b 4503599627370495 (by omega) (by decide)
 rw [show ((4503599627370495:Nat):Int)=4503599627370495 from rfl] at this
 rw [this]
 have e:=Nat.and_two_pow_sub_one_eq_mod b 52
 rw [show (2:Nat)^52 - 1=4503599627370495 from rfl,show (2:Nat)^52=4503599627370496 from rfl] at e
 rw [e];omega
theorem yb {z:Int} (h0:0≤z) (h:z<4503599627370496):bits .or .u64 z 4503599627370496=4503599627370496+z:=by
 obtain⟨b,rfl⟩:=Int.eq_ofNat_of_zero_le h0
 have:=bits_or_u64_nat b 4503599627370496 (by omega) (by decide)
 rw [show ((4503599627370496:Nat):Int)=4503599627370496 from rfl] at this
 rw [this]
 have h2:=Nat.two_pow_add_eq_or_of_lt (i:=52) (b:=b) (by omega) 1
 rw [Nat.or_comm,show (4503599627370496:Nat)=2^52*1 from rfl,← h2]
 omega

def eB (z:Int):Int:=if z<4503599627370496 then z else 4503599627370496+z % 4503599627370496
def ir (z:Int):Int:=if z<4503599627370496 then -1074 else z / 4503599627370496 - 1075
def aD (u:Int):Bool:=decide (szI u<9218868437227405312)
def aC (u:Int):Int:=if aD u then (if sgB u then -eB (szI u) else eB (szI u)) else 0
def aP (u:Int):Int:=if aD u&&decide (szI u≠0) then ir (szI u) else 0

set_option maxHeartbeats 400000 in
theorem Bb (b:Nat) (u:Int) (w:World) (hu:Hid (u=b)) (h:U64 u) (h1:9218868437227405312≤szI u) :
  Calls Tryz.prog 67 #[.float .f64 b] w fun e w'=>e=.returned (.tuple #[.int .i64 0,.int .i64 0,.bool false])∧w'=w:=by
 go_enter Tryz.func67,Tryz.ntmps67
 go_wp2_with (go_at_call 104;refine (iQ _ _ _ hu h).mono ?_;rintro e w' ⟨rfl,rfl⟩)
 go_ret3
 exact⟨rfl,rfl⟩

set_option maxHeartbeats 400000 in
theorem uG (b:Nat) (u:Int) (w:World) (hu:Hid (u=b)) (h:U64 u) (h1:szI u=0) :
  Calls Tryz.prog 67 #[.float .f64 b] w fun e w'=>e=.returned (.tuple #[.int .i64 0,.int .i64 0,.bool true])∧w'=w:=by
 go_enter Tryz.func67,Tryz.ntmps67
 go_wp2_with (go_at_call 104;refine (iQ _ _ _ hu h).mono ?_;rintro e w' ⟨rfl,rfl⟩)
 go_ret3
 exact⟨rfl,rfl⟩

set_option maxHeartbeats 400000 in
theorem yc (b:Nat) (u:Int) (w:World) (hu:Hid (u=b)) (h:U64 u) (h1:0<szI u) (h2:szI u<4503599627370496) :
  Calls Tryz.prog 67 #[.float .f64 b] w fun e w'=>e=.returned (.tuple #[.int .i64 (if sgB u then -szI u else szI u),.int .i64 (-1074),.bool true])∧w'=w:=by
 cases hs:sgB u
 all_goals
  simp only [Bool.false_eq_true,if_true,if_false]
  go_enter Tryz.func67,Tryz.ntmps67
  go_wp2_with (first | (go_at_call 104;refine (iQ _ _ _ hu h).mono ?_;rintro e w' ⟨rfl,rfl⟩) | (go_at_call 105;refine (nX _ _ _ hu h).mono ?_;rintro e w' ⟨rfl,rfl⟩))
  go_ret3
  exact⟨rfl,rfl⟩

set_option maxHeartbeats 400000 in
theorem pS (b:Nat) (u m:Int) (w:World) (hu:Hid (u=b)) (h:U64 u) (h1:4503599627370496≤szI u) (h2:szI u<9218868437227405312)
  (hm:bits .or .u64 (bits .and .u64 (szI u) 4503599627370495) 4503599627370496=m) (hm0:4503599627370496≤m) (hm1:m<9007199254740992) :
  Calls Tryz.prog 67 #[.float .f64 b] w fun e w'=>e=.returned (.tuple #[.int .i64 (if sgB u then -m else m),.int .i64 (szI u / 4503599627370496 - 1+ -1074),.bool true])∧w'=w:=by
 cases hs:sgB u
 all_goals
  simp only [Bool.false_eq_true,if_true,if_false]
  go_enter Tryz.func67,Tryz.ntmps67
  go_wp2_with (first | (go_at_call 104;refine (iQ _ _ _ hu h).mono ?_;rintro e w' ⟨rfl,rfl⟩) | (go_at_call 105;refine (nX _ _ _ hu h).mono ?_;rintro e w' ⟨rfl,rfl⟩))
  go_ret3
  exact⟨rfl,rfl⟩

theorem dO (b:Nat) (u:Int) (w:World) (hu:Hid (u=b)) (h:U64 u) :
  Calls Tryz.prog 67 #[.float .f64 b] w fun e w'=>e=.returned (.tuple #[.int .i64 (aC u),.int .i64 (aP u),.bool (aD u)])∧w'=w:=by
 have hlo:=pA u
 have hhi:=FG u
 by_cases h1:szI u<9218868437227405312
 ·have e1:aD u=true:=by simp [aD,h1]
  by_cases h2:szI u=0
  ·have e2:aC u=0:=by unfold aC eB;rw [h2];simp
   have e3:aP u=0:=by unfold aP;rw [h2];simp
   rw [e1,e2,e3];exact uG b u w hu h h2
  ·by_cases h3:szI u<4503599627370496
   ·have e2:aC u=if sgB u then -szI u else szI u:=by unfold aC eB;rw [e1,if_pos h3];rfl
    have e3:aP u= -1074:=by unfold aP ir;simp [e1,h2,h3]
    rw [e1,e2,e3];exact yc b u w hu h (by omega) h3
   ·have e2:aC u=if sgB u then -(4503599627370496+szI u % 4503599627370496) else 4503599627370496+szI u % 4503599627370496:=by unfold aC eB;rw [e1,if_neg h3];rfl
    have e3:aP u=szI u / 4503599627370496 - 1+ -1074:=by unfold aP ir;simp [e1,h2,h3];omega
    rw [e1,e2,e3]
    exact pS b u _ w hu h (by omega) h1 (by rw [lA hlo (by omega),yb (by omega) (by omega)]) (by omega) (by omega)
 ·have e1:aD u=false:=by simp [aD,h1]
  have e2:aC u=0:=by simp [aC,e1]
  have e3:aP u=0:=by simp [aP,e1]
  rw [e1,e2,e3];exact Bb b u w hu h (by omega)
end Go.Proofs.YtjjlnmihkadlmaaGreat
namespace Go.Proofs.YtjjlnmihkadlmaaGreat

def bZ (M s:Nat) (more:Bool):Nat:=if M % 2^s=0∧more=false then M / 2^s else if M / 2^s % 2=1 then M / 2^s else M / 2^s+1
theorem Bh {M s:Nat} (h:s≤M.log2) (h0:M≠0):(M / 2^s).log2=M.log2 - s∧M / 2^s≠0:=by
 have a:=Nat.log2_self_le h0
 have b:M<2^(M.log2+1):=Nat.lt_log2_self
 have hp:=Nat.two_pow_pos s
 have e1:2^(M.log2 - s)≤M / 2^s:=(Nat.le_div_iff_mul_le hp).2 (by rw [← Nat.pow_add];rw [show M.log2 - s+s=M.log2 by omega];exact a)
 have e2:M / 2^s<2^(M.log2 - s+1):=(Nat.div_lt_iff_lt_mul hp).2 (by rw [← Nat.pow_add];rw [show M.log2 - s+1+s=M.log2+1 by omega];exact b)
 have h1:M / 2^s≠0:=by have:=Nat.two_pow_pos (M.log2 - s);omega
 exact⟨(Nat.log2_eq_iff h1).2 ⟨e1,e2⟩,h1⟩
theorem cY {M s:Nat} (more:Bool) (h:s≤M.log2) (h0:M≠0):(bZ M s more).log2=M.log2 - s∧bZ M s more≠0:=by
 obtain⟨h1,h2⟩:=Bh h h0
 unfold bZ
 split
 ·exact⟨h1,h2⟩
 ·split
  ·exact⟨h1,h2⟩
  ·rename_i ho
   have a:=Nat.log2_self_le h2
   have b:M / 2^s<2^((M / 2^s).log2+1):=Nat.lt_log2_self
   rw [h1] at a b
   refine⟨(Nat.log2_eq_iff (by omega)).2 ⟨by omega,?_⟩,by omega⟩
   have:(2:Nat)^(M.log2 - s+1)=2*2^(M.log2 - s):=by rw [Nat.pow_succ,Nat.mul_comm]
   omega
theorem rV {M s:Nat} {p:Int} (h0:M≠0) (h:s+60≤M.log2):nearR (bZ M s false) (s+p)=nearR M p:=by
 obtain⟨h1,_⟩:=cY false (show s≤M.log2 by omega) h0
 have hL:ao (bZ M s false) (s+p)=ao M p:=by
  unfold ao;rw [h1];congr 1;omega
 have hL2:(s:Int)+p+8≤ao M p:=by unfold ao;omega
 unfold nearR
 rw [hL]
 obtain⟨d,hd⟩:∃ d:Nat,ao M p=s+p+d:=⟨(ao M p - (s+p)).toNat,by omega⟩
 have e1:((s:Int)+p - ao M p).toNat=0:=by omega
 have e2:(p - ao M p).toNat=0:=by omega
 have e3:(ao M p - (s+p)).toNat=d:=by omega
 have e4:(ao M p - p).toNat=d+s:=by omega
 rw [e1,e2,e3,e4,Nat.pow_zero,Nat.mul_one,Nat.mul_one]
 have hs:bZ M s false=(if M % 2^s=0 then M / 2^s else (if M / 2^s % 2=1 then M / 2^s else M / 2^s+1)):=by unfold bZ;simp only [and_true]
 rw [hs,lJ (by omega)]
theorem bn {M:Nat} (h0:M≠0) (k:Nat) (p:Int):nearR (M*2^k) (p - k)=nearR M p:=by
 have hlog:(M*2^k).log2=M.log2+k:=by
  have a:=Nat.log2_self_le h0
  have b:M<2^(M.log2+1):=Nat.lt_log2_self
  have hp:=Nat.two_pow_pos k
  refine (Nat.log2_eq_iff (by have:=Nat.mul_pos (show 0<M by omega) hp;omega)).2 ⟨?_,?_⟩
  ·rw [Nat.pow_add];exact Nat.mul_le_mul_right _ a
  ·rw [show M.log2+k+1=(M.log2+1)+k by omega,Nat.pow_add];exact Nat.mul_lt_mul_of_pos_right b hp
 have hL:ao (M*2^k) (p - k)=ao M p:=by unfold ao;rw [hlog];congr 1;omega
 unfold nearR
 rw [hL]
 generalize ao M p=L
 congr 2
 by_cases hc:p≤L
 ·have e1:(p - (k:Int) - L).toNat=0:=by omega
  have e2:(p - L).toNat=0:=by omega
  have e3:(L - (p - (k:Int))).toNat=(L - p).toNat+k:=by omega
  rw [e1,e2,e3,Nat.pow_zero,Nat.mul_one,Nat.mul_one,cV]
 ·obtain⟨q,hq⟩:∃ q:Nat,p=L+q:=⟨(p - L).toNat,by omega⟩
  have e2:(p - L).toNat=q:=by omega
  have e4:(L - p).toNat=0:=by omega
  rw [e2,e4,dL]
  by_cases hk:k≤q
  ·have e1:(p - (k:Int) - L).toNat=q - k:=by omega
   have e3:(L - (p - (k:Int))).toNat=0:=by omega
   rw [e1,e3,dL,Nat.mul_assoc,← Nat.pow_add];congr 2;omega
  ·have e1:(p - (k:Int) - L).toNat=0:=by omega
   have e3:(L - (p - (k:Int))).toNat=0+(k - q):=by omega
   rw [e1,e3,Nat.pow_zero,Nat.mul_one,show M*2^k=(M*2^q)*2^(k - q) by rw [Nat.mul_assoc,← Nat.pow_add];congr 2;omega,cV,dL]

def mant (M:Nat) (more:Bool):Nat:=if M=0 then (if more then 1 else 0) else bZ (M*2^64) (M.log2+3) more
def ib (M:Nat):Int:=if M=0 then -2210 else (M.log2:Int) - 2209
def sgM (neg:Bool) (m:Nat):Int:=if neg then -(m:Int) else (m:Int)
theorem cH {M:Nat} (h0:M≠0) (k:Nat):(M*2^k).log2=M.log2+k:=by
 have a:=Nat.log2_self_le h0
 have b:M<2^(M.log2+1):=Nat.lt_log2_self
 have hp:=Nat.two_pow_pos k
 refine (Nat.log2_eq_iff (by have:=Nat.mul_pos (show 0<M by omega) hp;omega)).2 ⟨?_,?_⟩
 ·rw [Nat.pow_add];exact Nat.mul_le_mul_right _ a
 ·rw [show M.log2+k+1=(M.log2+1)+k by omega,Nat.pow_add];exact Nat.mul_lt_mul_of_pos_right b hp
theorem uO {M:Nat} (h0:M≠0):nearR (mant M false) (ib M)=nearR M (-2148):=by
 have hp:=Nat.two_pow_pos 64
 have h1:M*2^64≠0:=by have:=Nat.mul_pos (show 0<M by omega) hp;omega
 unfold mant ib
 rw [if_neg h0,if_neg h0,show (M.log2:Int) - 2209=((M.log2+3:Nat):Int)+(-2148 - (64:Nat)) by omega,rV h1 (by rw [cH h0];omega),bn h0]
theorem Ec (M:Nat) (more:Bool):mant M more<2^62:=by
 unfold mant
 split
 ·split<;>decide
 ·rename_i h0
  have hp:=Nat.two_pow_pos 64
  have h1:M*2^64≠0:=by have:=Nat.mul_pos (show 0<M by omega) hp;omega
  obtain⟨h2,h3⟩:=cY more (show M.log2+3≤(M*2^64).log2 by rw [cH h0];omega) h1
  have:bZ (M*2^64) (M.log2+3) more<2^((bZ (M*2^64) (M.log2+3) more).log2+1):=Nat.lt_log2_self
  rw [h2,cH h0,show M.log2+64 - (M.log2+3)+1=62 by omega] at this
  exact this
def jR (N:Int):Nat:=aG N (-2148)
theorem yq (N:Int):aG (sgM (decide (N<0)) (mant N.natAbs false)) (ib N.natAbs)=jR N:=by
 unfold jR
 by_cases h0:N=0
 ·subst h0;decide
 ·have h1:N.natAbs≠0:=by omega
  have hp:=Nat.two_pow_pos 64
  have h2:N.natAbs*2^64≠0:=by have:=Nat.mul_pos (show 0<N.natAbs by omega) hp;omega
  have h3:mant N.natAbs false≠0:=by
   unfold mant;rw [if_neg h1]
   exact (cY false (by rw [cH h1];omega) h2).2
  have h4:=uO h1
  unfold aG sgM
  by_cases hn:N<0
  ·simp only [hn,decide_true,if_true]
   rw [if_neg (by omega),if_pos (by omega),if_neg h0,show (-(mant N.natAbs false:Int)).natAbs=mant N.natAbs false by omega,h4]
  ·simp only [hn,decide_false,Bool.false_eq_true,if_false]
   rw [if_neg (by omega),if_neg (by omega),if_neg h0,show ((mant N.natAbs false:Nat):Int).natAbs=mant N.natAbs false by omega,h4]

theorem lK {x y ld:Nat} (hx:x≠0) (hxf:x<18446744073709551616) (hy:y<18446744073709551616) (hld:ld=63 - x.log2) :
  x*2^ld<18446744073709551616∧(x*2^ld)||| (y / 2^(64 - ld))=x*2^ld+y / 2^(64 - ld)∧x*2^ld+y / 2^(64 - ld)<18446744073709551616∧ld≤63:=by
 have h1:x*2^ld<18446744073709551616:=by rw [hld];exact pK hx hxf
 have h2:=uN (hi:=x) (show ld<64 by omega) hy
 rw [Nat.mod_eq_of_lt h1] at h2
 refine⟨h1,h2,?_,by omega⟩
 rw [← h2]
 exact Nat.or_lt_two_pow (n:=64) h1 (Nat.lt_of_le_of_lt (Nat.div_le_self _ _) hy)
theorem yr {x y ld T R M:Nat} {more:Bool} (hx:x≠0) (hxf:x<18446744073709551616) (hld:ld=63 - x.log2) (hM:M*2^64=(x*18446744073709551616+y)*2^(64*T)+R*2^64) (hR:R*2^64<2^(64*T)) (hyf:y<18446744073709551616) :
  mant M more=(if (more=true∨R≠0)∨(x*2^ld+y / 2^(64 - ld)) % 4≠0∨y*2^ld % 18446744073709551616≠0 then (if (x*2^ld+y / 2^(64 - ld)) / 4 % 2=1 then (x*2^ld+y / 2^(64 - ld)) / 4 else (x*2^ld+y / 2^(64 - ld)) / 4+1) else (x*2^ld+y / 2^(64 - ld)) / 4)∧ib M=64*(T:Int) - ld+2+ -2148:=by
 have e64:(2:Nat)^64=18446744073709551616:=rfl
 rw [e64] at hM hR
 have hxl:x.log2<64:=(Nat.log2_lt hx).2 hxf
 have hl:ld≤63:=by omega
 have eW:(18446744073709551616:Nat)=2^ld*2^(64 - ld):=by rw [← Nat.pow_add,show ld+(64 - ld)=64 by omega]
 obtain⟨Z,hZ⟩:∃ Z,Z=x*18446744073709551616+y:=⟨_,rfl⟩
 rw [← hZ] at hM
 have hp:=Nat.two_pow_pos (64 - ld)
 have hZd:Z / 2^(64 - ld)=x*2^ld+y / 2^(64 - ld):=by
  rw [hZ,eW,← Nat.mul_assoc,Nat.add_comm,Nat.add_mul_div_right _ _ hp,Nat.add_comm]
 have hZm:Z % 2^(64 - ld)=y % 2^(64 - ld):=by
  rw [hZ,eW,← Nat.mul_assoc,Nat.add_comm,Nat.add_mul_mod_self_right]
 have hM0:M≠0:=by
  intro e
  rw [e,Nat.zero_mul] at hM
  have h1:0<Z*2^(64*T):=Nat.mul_pos (by omega) (Nat.two_pow_pos _)
  omega
 have hlogM:M.log2+3=64*T+(66 - ld):=by
  have h1:=cH hM0 64
  rw [e64] at h1
  have h2:(M*18446744073709551616).log2=x.log2+64+64*T:=by
   have a:=Nat.log2_self_le hx
   have b:x<2^(x.log2+1):=Nat.lt_log2_self
   have b2:x+1≤2^(x.log2+1):=b
   have hz1:2^(x.log2+64)≤Z:=by
    rw [Nat.pow_add,hZ,e64]
    exact Nat.le_trans (Nat.mul_le_mul_right _ a) (Nat.le_add_right _ _)
   have hz2:Z+1≤2^(x.log2+1+64):=by
    rw [Nat.pow_add,hZ,e64]
    refine Nat.le_trans ?_ (Nat.mul_le_mul_right 18446744073709551616 b2)
    rw [Nat.add_mul,Nat.one_mul,Nat.add_assoc]
    exact Nat.add_le_add_left (Nat.succ_le_of_lt hyf) _
   clear e64
   have hT:=Nat.two_pow_pos (64*T)
   refine (Nat.log2_eq_iff ?_).2 ⟨?_,?_⟩
   ·have:=Nat.mul_pos (show 0<M by omega) (show 0<18446744073709551616 by decide);omega
   ·rw [hM,Nat.pow_add];have:=Nat.mul_le_mul_right (2^(64*T)) hz1;omega
   ·rw [hM,show x.log2+64+64*T+1=(x.log2+1+64)+64*T by omega,Nat.pow_add]
    have:=Nat.mul_le_mul_right (2^(64*T)) hz2
    rw [Nat.add_mul,Nat.one_mul] at this
    omega
  omega
 have hs:M*18446744073709551616 / 2^(M.log2+3)=(x*2^ld+y / 2^(64 - ld)) / 4:=by
  rw [hlogM,Nat.pow_add,← Nat.div_div_eq_div_mul,hM,Nat.add_comm (Z*_),Nat.add_mul_div_right _ _ (Nat.two_pow_pos _),Nat.div_eq_of_lt hR,Nat.zero_add,show 66 - ld=(64 - ld)+2 by omega,Nat.pow_add,← Nat.div_div_eq_div_mul,hZd]
 have hm:M*18446744073709551616 % 2^(M.log2+3)=0↔(R=0∧(x*2^ld+y / 2^(64 - ld)) % 4=0∧y*2^ld % 18446744073709551616=0):=by
  rw [hlogM,Nat.pow_add,Nat.mod_mul]
  have e1:M*18446744073709551616 % 2^(64*T)=R*18446744073709551616:=by rw [hM,Nat.add_comm (Z*_),Nat.add_mul_mod_self_right,Nat.mod_eq_of_lt hR]
  have e2:M*18446744073709551616 / 2^(64*T)=Z:=by rw [hM,Nat.add_comm (Z*_),Nat.add_mul_div_right _ _ (Nat.two_pow_pos _),Nat.div_eq_of_lt hR,Nat.zero_add]
  rw [e1,e2,show 66 - ld=(64 - ld)+2 by omega,Nat.pow_add,Nat.mod_mul,hZm,hZd]
  have e3:y*2^ld % 18446744073709551616=(y % 2^(64 - ld))*2^ld:=by
   rw [eW,Nat.mul_comm y,Nat.mul_mod_mul_left,Nat.mul_comm]
  rw [e3]
  have hp1:=Nat.two_pow_pos ld
  have hp2:=Nat.two_pow_pos (64*T)
  generalize y % 2^(64 - ld)=r
  generalize (x*2^ld+y / 2^(64 - ld))=win
  rw [show (2:Nat)^2=4 from rfl]
  constructor
  ·intro h
   obtain⟨h1,h2⟩:=Nat.add_eq_zero_iff.1 h
   have h1':R=0:=by
    rcases Nat.mul_eq_zero.1 h1 with h3 | h3
    ·exact h3
    ·exact absurd h3 (by decide)
   rcases Nat.mul_eq_zero.1 h2 with h3 | h3
   ·exact absurd h3 (Nat.ne_of_gt hp2)
   ·obtain⟨h4,h5⟩:=Nat.add_eq_zero_iff.1 h3
    rcases Nat.mul_eq_zero.1 h5 with h6 | h6
    ·exact absurd h6 (Nat.ne_of_gt hp)
    ·exact⟨h1',h6,by rw [h4,Nat.zero_mul]⟩
  ·rintro⟨rfl,h2,h3⟩
   rcases Nat.mul_eq_zero.1 h3 with h4 | h4
   ·rw [h4,h2];simp
   ·exact absurd h4 (Nat.ne_of_gt hp1)
 refine⟨?_,?_⟩
 ·unfold mant bZ
  rw [if_neg hM0,e64,hs]
  by_cases hc:M*18446744073709551616 % 2^(M.log2+3)=0∧more=false
  ·rw [if_pos hc]
   obtain⟨h1,h2,h3⟩:=hm.1 hc.1
   have h4:¬ ((more=true∨R≠0)∨(x*2^ld+y / 2^(64 - ld)) % 4≠0∨y*2^ld % 18446744073709551616≠0):=by
    rw [hc.2];simp [h1,h2,h3]
   rw [if_neg h4]
  ·rw [if_neg hc]
   have h4:(more=true∨R≠0)∨(x*2^ld+y / 2^(64 - ld)) % 4≠0∨y*2^ld % 18446744073709551616≠0:=by
    by_cases h5:more=true
    ·exact Or.inl (Or.inl h5)
    ·by_cases h6:R=0
     ·by_cases h7:(x*2^ld+y / 2^(64 - ld)) % 4=0
      ·refine Or.inr (Or.inr fun h8=>hc ⟨hm.2 ⟨h6,h7,h8⟩,by simpa using h5⟩)
      ·exact Or.inr (Or.inl h7)
     ·exact Or.inl (Or.inr h6)
   rw [if_pos h4]
 ·unfold ib
  rw [if_neg hM0];omega
end Go.Proofs.YtjjlnmihkadlmaaGreat
namespace Go.Proofs.YtjjlnmihkadlmaaGreat

def vI (b:Nat):Int:=if b / 9223372036854775808 % 2==1 then -(V (b % 9223372036854775808):Int) else (V (b % 9223372036854775808):Int)
def sgZ (s:Bool) (n:Nat):Int:=if s then -(n:Int) else (n:Int)
theorem pW (s:Bool) (n k:Nat):sgZ s (n*k)=sgZ s n*k:=by
 unfold sgZ;cases s<;>simp [Int.neg_mul]
theorem ot (s:Bool) (m k:Nat):Ieee.signed s m k=sgZ s (m*2^k):=by
 unfold Ieee.signed sgZ;rw [Nat.shiftLeft_eq]
theorem gO (r:Nat):Ieee.double.word true r=9223372036854775808+r:=rfl
theorem iu (r:Nat):Ieee.double.word false r=r:=rfl
def gl (s t:Bool) (T:Int):Nat:=if T=0 then (if s&&t then 9223372036854775808 else 0) else aG T (-1074)
theorem ou (s t:Bool) (m n p q:Nat) :
  ((Ieee.Datum.number s m (-1074+(p:Int))).sum (.number t n (-1074+(q:Int)))).map Ieee.double.write=some (gl s t (sgZ s (m*2^p)+sgZ t (n*2^q))):=by
 obtain⟨e,he⟩:∃ e,min p q=e:=⟨_,rfl⟩
 have hb:min (-1074+(p:Int)) (-1074+(q:Int))= -1074+(e:Int):=by omega
 have h1:(-1074+(p:Int) - (-1074+(e:Int))).toNat=p - e:=by omega
 have h2:(-1074+(q:Int) - (-1074+(e:Int))).toNat=q - e:=by omega
 obtain⟨T,hT⟩:∃ T,sgZ s (m*2^(p - e))+sgZ t (n*2^(q - e))=T:=⟨_,rfl⟩
 have hTT:sgZ s (m*2^p)+sgZ t (n*2^q)=T*((2^e:Nat):Int):=by
  rw [← hT,Int.add_mul,← pW,← pW,Nat.mul_assoc,Nat.mul_assoc,← Nat.pow_add,← Nat.pow_add,show p - e+e=p by omega,show q - e+e=q by omega]
 have key:((Ieee.Datum.number s m (-1074+(p:Int))).sum (.number t n (-1074+(q:Int)))).map Ieee.double.write=some (Ieee.double.nearest (if T=0 then s&&t else decide (T<0)) T.natAbs (-1074+(e:Int))):=by
  show some (Ieee.double.write (.number (if Ieee.signed s m (-1074+(p:Int) - min (-1074+(p:Int)) (-1074+(q:Int))).toNat+Ieee.signed t n (-1074+(q:Int) - min (-1074+(p:Int)) (-1074+(q:Int))).toNat=0 then s&&t else decide (Ieee.signed s m (-1074+(p:Int) - min (-1074+(p:Int)) (-1074+(q:Int))).toNat+Ieee.signed t n (-1074+(q:Int) - min (-1074+(p:Int)) (-1074+(q:Int))).toNat<0)) (Ieee.signed s m (-1074+(p:Int) - min (-1074+(p:Int)) (-1074+(q:Int))).toNat+Ieee.signed t n (-1074+(q:Int) - min (-1074+(p:Int)) (-1074+(q:Int))).toNat).natAbs (min (-1074+(p:Int)) (-1074+(q:Int)))))=_
  rw [hb,h1,h2,ot,ot,hT]
  rfl
 rw [key,hTT]
 have hp:(0:Int)<((2^e:Nat):Int):=by have:=Nat.two_pow_pos e;omega
 unfold gl
 by_cases h0:T=0
 ·subst h0
  rw [if_pos rfl,Int.zero_mul,if_pos rfl]
  show some (Ieee.double.nearest (s&&t) 0 _)=_
  rw [bX]
  cases s<;>cases t<;>rfl
 ·rw [if_neg h0]
  have h3:T*((2^e:Nat):Int)≠0:=Int.mul_ne_zero h0 (by omega)
  rw [if_neg h3,bQ _ (by omega)]
  have h4:nearR (T*((2^e:Nat):Int)).natAbs (-1074)=nearR T.natAbs (-1074+(e:Int)):=by
   have:=bn (M:=T.natAbs) (by omega) e (-1074+(e:Int))
   rw [show -1074+(e:Int) - (e:Int)= -1074 by omega] at this
   rw [Int.natAbs_mul,Int.natAbs_natCast];exact this
  unfold aG
  rw [if_neg h3,h4]
  have h5:T*((2^e:Nat):Int)<0↔T<0:=by
   constructor
   ·intro h
    by_cases h6:T<0
    ·exact h6
    ·have:=Int.mul_nonneg (by omega:0≤T) (by omega:(0:Int)≤((2^e:Nat):Int));omega
   ·intro h;exact Int.mul_neg_of_neg_of_pos h hp
  by_cases h6:T<0
  ·rw [if_pos (h5.2 h6)]
   simp only [h6,decide_true]
   rw [gO]
  ·rw [if_neg (fun h=>h6 (h5.1 h))]
   simp only [h6,decide_false]
   rw [iu]
theorem ov (b:Nat):vI b=sgZ (b / 9223372036854775808 % 2==1) (mg (b % 9223372036854775808)*2^pl (b % 9223372036854775808)):=rfl
theorem jg {x y:Nat} (hx:x % 9223372036854775808<9218868437227405312) (hy:y % 9223372036854775808<9218868437227405312) :
  floatBits .add .f64 x y=some (gl (x / 9223372036854775808 % 2==1) (y / 9223372036854775808 % 2==1) (vI x+vI y)):=by
 show ((Ieee.double.read x).sum (Ieee.double.read y)).map Ieee.double.write=_
 rw [au hx,au hy,ou,ov,ov]
theorem pX {x y:Nat} (hx:x % 9223372036854775808<9218868437227405312) (hy:y % 9223372036854775808<9218868437227405312) :
  floatBits .sub .f64 x y=some (gl (x / 9223372036854775808 % 2==1) (!(y / 9223372036854775808 % 2==1)) (vI x - vI y)):=by
 show ((Ieee.double.read x).sum (Ieee.double.read y).opposite).map Ieee.double.write=_
 rw [au hx,au hy]
 show ((Ieee.Datum.number _ _ _).sum (Ieee.Datum.number _ _ _)).map Ieee.double.write=_
 rw [ou,ov,ov,Int.sub_eq_add_neg]
 congr 3
 unfold sgZ
 cases (y / 9223372036854775808 % 2==1)<;>simp

def fi (m:Int):Nat:=aG m 0
theorem Ed {K:Nat} (hK:K=1074):V 4845873199050653696=9007199254740992*2^K:=by
 have h1:mg 4845873199050653696=4503599627370496:=by decide
 have h2:pl 4845873199050653696=K+1:=by rw [hK];decide
 unfold V
 rw [h1,h2,Nat.pow_succ];omega
theorem Bi {m l k:Nat} (hl:m.log2=l) (hl2:l≤52) (hk:m*2^(52 - l)=k) (hk2:k<9007199254740992):nearR m 0=(l+1022)*4503599627370496+k:=by
 have hL:ao m 0=(l:Int) - 52:=by unfold ao;rw [hl];omega
 have e1:(0 - ao m 0).toNat=52 - l:=by rw [hL];omega
 have e2:(ao m 0 - 0).toNat=0:=by rw [hL];omega
 have e3:(ao m 0+1074).toNat=l+1022:=by rw [hL];omega
 unfold nearR
 rw [e1,e2,e3,hk,dL]
 exact Nat.min_eq_left (by omega)
theorem Hm {l k:Nat} (hk1:4503599627370496≤k) (hk2:k<9007199254740992):mg ((l+1022)*4503599627370496+k)=k∧pl ((l+1022)*4503599627370496+k)=l+1022:=by
 unfold mg pl
 rw [if_neg (by omega)]
 omega
theorem Ee {m K:Nat} (hK:K=1074) (h0:0<m) (h:m≤9007199254740992):V (nearR m 0)=m*2^K∧nearR m 0<9218868437227405312:=by
 have hlog:m.log2≤53:=by
  have:m.log2<54:=(Nat.log2_lt (by omega)).2 (by omega)
  omega
 have a:=Nat.log2_self_le (show m≠0 by omega)
 have b:m<2^(m.log2+1):=Nat.lt_log2_self
 by_cases h53:m.log2=53
 ·have hm:m=9007199254740992:=by rw [h53] at a;omega
  subst hm
  have e:nearR 9007199254740992 0=4845873199050653696:=by decide
  rw [e]
  exact⟨Ed hK,by decide⟩
 ·obtain⟨l,hl⟩:∃ l,m.log2=l:=⟨_,rfl⟩
  rw [hl] at a b hlog h53
  have hl2:l≤52:=by omega
  obtain⟨k,hk⟩:∃ k,m*2^(52 - l)=k:=⟨_,rfl⟩
  have hk1:4503599627370496≤k:=by
   have:=Nat.mul_le_mul_right (2^(52 - l)) a
   rw [← Nat.pow_add,show l+(52 - l)=52 by omega,hk] at this;exact this
  have hk2:k<9007199254740992:=by
   have:=Nat.mul_lt_mul_of_pos_right b (Nat.two_pow_pos (52 - l))
   rw [← Nat.pow_add,show l+1+(52 - l)=53 by omega,hk] at this;exact this
  rw [Bi hl hl2 hk hk2]
  obtain⟨hmg,hpl⟩:=Hm (l:=l) hk1 hk2
  refine⟨?_,by omega⟩
  unfold V
  rw [hmg,hpl,← hk,Nat.mul_assoc,← Nat.pow_add,show 52 - l+(l+1022)=K by omega]
theorem lL {m:Int} {K:Nat} (hK:K=1074) (h1: -9007199254740992≤m) (h2:m≤9007199254740992):vI (fi m)=m*((2^K:Nat):Int)∧fi m % 9223372036854775808<9218868437227405312∧(fi m / 9223372036854775808 % 2==1)=decide (m<0)∧fi m<18446744073709551616:=by
 unfold fi aG
 by_cases h0:m=0
 ·subst h0;exact⟨by simp [vI,bu],by decide,by decide,by decide⟩
 ·rw [if_neg h0]
  obtain⟨a,b⟩:=Ee (m:=m.natAbs) hK (by omega) (by omega)
  by_cases hn:m<0
  ·rw [if_pos hn]
   have e1:(9223372036854775808+nearR m.natAbs 0) % 9223372036854775808=nearR m.natAbs 0:=by omega
   have e2:(9223372036854775808+nearR m.natAbs 0) / 9223372036854775808 % 2=1:=by omega
   refine⟨?_,by omega,by rw [e2];simp [hn],by omega⟩
   unfold vI
   rw [e1,e2,a]
   simp only [beq_self_eq_true,if_true,Int.natCast_mul]
   rw [← Int.neg_mul]
   congr 1;omega
  ·rw [if_neg hn]
   have e1:nearR m.natAbs 0 % 9223372036854775808=nearR m.natAbs 0:=by omega
   have e2:nearR m.natAbs 0 / 9223372036854775808 % 2=0:=by omega
   refine⟨?_,by omega,by rw [e2];simp [hn],by omega⟩
   unfold vI
   rw [e1,e2,a]
   simp only [show ((0:Nat)==1)=false from rfl,Bool.false_eq_true,if_false,Int.natCast_mul]
   congr 1;omega
end Go.Proofs.YtjjlnmihkadlmaaGreat
namespace Go.Proofs.YtjjlnmihkadlmaaGreat

def wrd (s:Bool) (r:Nat):Nat:=if s then 9223372036854775808+r else r
theorem fv (s:Bool) (r:Nat):Ieee.double.word s r=wrd s r:=by cases s<;>rfl
def sB (x:Nat):Bool:=x / 9223372036854775808 % 2==1
def aV (x:Nat):Nat:=V (x % 9223372036854775808)
def af (x:Nat):Prop:=x % 9223372036854775808<9218868437227405312
def mulR (s:Bool) (T:Nat):Nat:=if T=0 then wrd s 0 else wrd s (nearR T (-2148))
theorem yt (s:Bool) (m n p q:Nat) :
  Ieee.double.nearest s (m*n) (-1074+(p:Int)+(-1074+(q:Int)))=mulR s (m*2^p*(n*2^q)):=by
 have e:m*2^p*(n*2^q)=m*n*2^(p+q):=by rw [Nat.pow_add,Nat.mul_mul_mul_comm]
 rw [e]
 unfold mulR
 by_cases h0:m*n=0
 ·rw [h0,Nat.zero_mul,if_pos rfl,bX,fv]
 ·have hp:=Nat.two_pow_pos (p+q)
  have h1:m*n*2^(p+q)≠0:=by have:=Nat.mul_pos (show 0<m*n by omega) hp;omega
  rw [if_neg h1,bQ _ h0,fv]
  have:=bn h0 (p+q) (-1074+(p:Int)+(-1074+(q:Int)))
  rw [← this]
  congr 2
  omega
theorem gP {x y:Nat} (hx:af x) (hy:af y):floatBits .mul .f64 x y=some (mulR (sB x^^sB y) (aV x*aV y)):=by
 show ((Ieee.double.read x).product (Ieee.double.read y)).map Ieee.double.write=_
 rw [au hx,au hy]
 show some (Ieee.double.nearest (_^^_) _ _)=_
 rw [yt];rfl

theorem Bj {n n' d:Nat} (h:n≤n'):rne n d≤rne n' d:=by
 have h1:n / 2^d≤n' / 2^d:=Nat.div_le_div_right h
 rcases Nat.lt_or_eq_of_le h1 with h2 | h2
 ·have:=AH n d
  have h3:n' / 2^d≤rne n' d:=by unfold rne;exact Nat.le_add_right _ _
  omega
 ·have e1:=Nat.div_add_mod n (2^d)
  have e2:=Nat.div_add_mod n' (2^d)
  rw [h2] at e1
  have h3:n % 2^d≤n' % 2^d:=by omega
  unfold rne
  rw [h2]
  by_cases hc:2^d<2*(n % 2^d)∨(2^d=2*(n % 2^d)∧n' / 2^d % 2=1)
  ·rw [if_pos hc,if_pos (by omega)];exact Nat.le_refl _
  ·rw [if_neg hc];omega
theorem Ef {m n:Nat} (h:m≤n):m.log2≤n.log2:=by
 by_cases h0:m=0
 ·subst h0;simp
 ·by_cases hc:n.log2<m.log2
  ·have a:=Nat.log2_self_le h0
   have b:n<2^(n.log2+1):=Nat.lt_log2_self
   have:2^(n.log2+1)≤2^m.log2:=Nat.pow_le_pow_right (by decide) hc
   omega
  ·omega
def ku (M:Nat) (e:Int):Nat:=rne (M*2^(e - ao M e).toNat) (ao M e - e).toNat
theorem Eg {M:Nat} {e:Int}:ku M e≤9007199254740992:=by
 unfold ku
 have hl:e+M.log2 - 52≤ao M e:=by unfold ao;omega
 generalize ao M e=L at hl
 have b:M<2^(M.log2+1):=Nat.lt_log2_self
 generalize M.log2=l at b hl
 refine pL ?_
 have h1:M*2^(e - L).toNat<2^(l+1)*2^(e - L).toNat:=Nat.mul_lt_mul_of_pos_right b (Nat.two_pow_pos _)
 refine Nat.lt_of_lt_of_le h1 ?_
 rw [show (9007199254740992:Nat)=2^53 from rfl,← Nat.pow_add,← Nat.pow_add]
 exact Nat.pow_le_pow_right (by decide) (by omega)
theorem Eh {M:Nat} {e:Int} (h0:M≠0) (h: -1074<ao M e):4503599627370496≤ku M e:=by
 unfold ku
 have hl:e+M.log2 - 52=ao M e:=by unfold ao at *;omega
 generalize ao M e=L at hl h
 have a:=Nat.log2_self_le h0
 generalize M.log2=l at a hl
 refine Nat.le_trans ?_ (Nat.le_add_right _ _)
 rw [Nat.le_div_iff_mul_le (Nat.two_pow_pos _),show (4503599627370496:Nat)=2^52 from rfl,← Nat.pow_add]
 refine Nat.le_trans ?_ (Nat.mul_le_mul_right _ a)
 rw [← Nat.pow_add]
 exact Nat.pow_le_pow_right (by decide) (by omega)
theorem iv (M:Nat) (e:Int):nearR M e=min ((ao M e+1074).toNat*4503599627370496+ku M e) 9218868437227405312:=rfl
theorem Bk {a c c' I:Nat} (h:c≤c'):min (a+c) I≤min (a+c') I:=by omega
theorem Bm {a a' c c' I:Nat} (h:a+1≤a') (h1:c≤9007199254740992) (h2:4503599627370496≤c'):min (a*4503599627370496+c) I≤min (a'*4503599627370496+c') I:=by omega
theorem bS {M M':Nat} (e:Int) (h:M≤M'):nearR M e≤nearR M' e:=by
 have hl:=Ef h
 have hL:ao M e≤ao M' e:=by unfold ao;omega
 have hb: -1074≤ao M e:=by unfold ao;omega
 rw [iv,iv]
 by_cases hc:ao M e=ao M' e
 ·have:ku M e≤ku M' e:=by
   unfold ku
   rw [hc]
   exact Bj (Nat.mul_le_mul_right _ h)
  rw [hc];exact Bk this
 ·have h0:M'≠0:=by
   intro h0;subst h0
   have:M=0:=by omega
   subst this;exact hc rfl
  have h1:=Eg (M:=M) (e:=e)
  have h2:=Eh (M:=M') (e:=e) h0 (by omega)
  have h3:(ao M e+1074).toNat+1≤(ao M' e+1074).toNat:=by omega
  exact Bm h3 h1 h2
theorem iw {e:Int} (h:e≤-1022):nearR 0 e=0:=by
 have hl:ao 0 e= -1074:=by unfold ao;simp;omega
 unfold nearR
 rw [hl,Nat.zero_mul,eL (by have:=Nat.two_pow_pos (-1074 - e).toNat;omega)];rfl
theorem kW {r:Nat} (h:r<9218868437227405312) (k:Nat):nearR (V r*2^k) (-1074 - (k:Int))=r:=by
 by_cases h0:r=0
 ·subst h0;rw [bu,Nat.zero_mul,iw (by omega)]
 ·have hm:mg r≠0:=by
   unfold mg;split<;>omega
  have:=bn hm (pl r+k) (-1074+(pl r:Int))
  rw [lu (by omega) h] at this
  have e1:V r*2^k=mg r*2^(pl r+k):=by unfold V;rw [Nat.mul_assoc,← Nat.pow_add]
  have e2:(-1074 - (k:Int))= -1074+(pl r:Int) - ((pl r+k:Nat):Int):=by omega
  rw [e1,e2];exact this
theorem pY {T r k:Nat} (h:r<9218868437227405312) (hT:T≤V r*2^k):nearR T (-1074 - (k:Int))≤r:=by
 have:=bS (-1074 - (k:Int)) hT
 rwa [kW h] at this
theorem xa {T r k:Nat} (h:r<9218868437227405312) (hT:V r*2^k≤T):r≤nearR T (-1074 - (k:Int)):=by
 have:=bS (-1074 - (k:Int)) hT
 rwa [kW h] at this

def Rep (A:Int):Prop:=∃ r,r<9218868437227405312∧A.natAbs=V r
theorem Rep.neg {A:Int} (h:Rep A):Rep (-A):=by obtain⟨r,a,b⟩:=h;exact⟨r,a,by rw [Int.natAbs_neg];exact b⟩
theorem Bn:Rep 0:=⟨0,by decide,by rw [bu];rfl⟩
def rI (k:Nat) (T:Int):Int:=if T<0 then -(V (nearR T.natAbs (-1074 - (k:Int))):Int) else (V (nearR T.natAbs (-1074 - (k:Int))):Int)
def uP (k:Nat) (T:Int):Prop:=nearR T.natAbs (-1074 - (k:Int))<9218868437227405312
theorem bC (A:Int) (k:Nat):(A*((2^k:Nat):Int)).natAbs=A.natAbs*2^k:=by rw [Int.natAbs_mul,Int.natAbs_natCast]
theorem jh {k:Nat} {T B:Int} (hB:Rep B) (h:T≤B*((2^k:Nat):Int)):rI k T≤B:=by
 obtain⟨r,hr,e⟩:=hB
 have hp:(0:Int)<((2^k:Nat):Int):=by have:=Nat.two_pow_pos k;omega
 have hn:=bC B k
 unfold rI
 by_cases hT:T<0
 ·rw [if_pos hT]
  by_cases hb:B<0
  ·have hb2:B*((2^k:Nat):Int)<0:=Int.mul_neg_of_neg_of_pos hb hp
   have:=xa (T:=T.natAbs) hr (k:=k) (by rw [← e,← hn];omega)
   have:=xP this
   omega
  ·omega
 ·rw [if_neg hT]
  have hb:0≤B:=by
   by_cases hb:B<0
   ·have hb2:B*((2^k:Nat):Int)<0:=Int.mul_neg_of_neg_of_pos hb hp
    omega
   ·omega
  have hb2:0≤B*((2^k:Nat):Int):=Int.mul_nonneg hb (by omega)
  have:=pY (T:=T.natAbs) hr (k:=k) (by rw [← e,← hn];omega)
  have:=xP this
  omega
theorem FQ (k:Nat) (T:Int):rI k (-T)= -rI k T:=by
 unfold rI
 by_cases h0:T=0
 ·subst h0
  have:V (nearR (0:Int).natAbs (-1074 - (k:Int)))=0:=by rw [Int.natAbs_zero,iw (by omega),bu]
  simp only [Int.neg_zero,this];simp
 ·rw [Int.natAbs_neg]
  by_cases h:T<0
  ·rw [if_pos h,if_neg (by omega)];omega
  ·rw [if_neg h,if_pos (by omega)]
theorem lM {k:Nat} {T A:Int} (hA:Rep A) (h:A*((2^k:Nat):Int)≤T):A≤rI k T:=by
 have:=jh (k:=k) (T:=-T) hA.neg (by rw [Int.neg_mul];omega)
 rw [FQ] at this;omega
theorem uQ {k:Nat} {T A B:Int} (hA:Rep A) (hB:Rep B) (h1:A*((2^k:Nat):Int)≤T) (h2:T≤B*((2^k:Nat):Int)):uP k T:=by
 unfold uP
 have hp:(0:Int)<((2^k:Nat):Int):=by have:=Nat.two_pow_pos k;omega
 by_cases hT:T<0
 ·obtain⟨r,hr,e⟩:=hA
  have hn:=bC A k
  have:=pY (T:=T.natAbs) hr (k:=k) (by rw [← e,← hn];omega)
  omega
 ·obtain⟨r,hr,e⟩:=hB
  have hn:=bC B k
  have:=pY (T:=T.natAbs) hr (k:=k) (by rw [← e,← hn];omega)
  omega
end Go.Proofs.YtjjlnmihkadlmaaGreat
namespace Go.Proofs.YtjjlnmihkadlmaaGreat

theorem fx (x:Nat):vI x=sgZ (sB x) (aV x):=rfl
theorem rW {a:Int} {K:Nat} (hK:K=1074) (h1: -9007199254740992≤a) (h2:a≤9007199254740992):aV (fi a)=a.natAbs*2^K∧sB (fi a)=decide (a<0)∧af (fi a)∧fi a<18446744073709551616:=by
 obtain⟨b1,b2,b3,b4⟩:=lL hK h1 h2
 refine⟨?_,b3,b2,b4⟩
 have h3:(vI (fi a)).natAbs=aV (fi a):=by
  rw [fx];unfold sgZ;cases sB (fi a)<;>simp
 rw [← h3,b1,bC]
def P2 (k:Int):Nat:=nearR 1 k
theorem Fy {k:Int} (h1: -1022≤k) (h2:k≤1023):P2 k=(k+1023).toNat*4503599627370496:=by
 unfold P2
 have hl:Nat.log2 1=0:=by decide
 rw [iX (by decide) (by decide) (by rw [hl];omega) (by rw [hl];omega),hl,show rne (1*2^(63 - 0)) 11=4503599627370496 by decide]
 omega
theorem Bo {k:Int} (h1: -1022≤k) (h2:k≤1023):af (P2 k)∧sB (P2 k)=false∧P2 k<9218868437227405312∧mg (P2 k % 9223372036854775808)=4503599627370496∧pl (P2 k % 9223372036854775808)=(k+1022).toNat:=by
 rw [Fy h1 h2]
 obtain⟨n,hn⟩:∃ n:Nat,(k+1023).toNat=n:=⟨_,rfl⟩
 have hk:k=(n:Int) - 1023:=by omega
 subst hk
 rw [hn]
 have hn1:1≤n:=by omega
 have hn2:n≤2046:=by omega
 have e:n*4503599627370496 % 9223372036854775808=n*4503599627370496:=by omega
 refine⟨by unfold af;omega,?_,by omega,?_,?_⟩
 ·unfold sB;rw [show n*4503599627370496 / 9223372036854775808=0 by omega];rfl
 ·rw [e];unfold mg;rw [if_neg (by omega)];omega
 ·rw [e];unfold pl;omega
theorem FR {a b:Nat} (h:52+a=b):4503599627370496*2^a=2^b:=by
 subst h
 have:=Nat.pow_add 2 52 a
 rw [this]
theorem Hn {k:Int} (h1: -1022≤k) (h2:k≤1023):aV (P2 k)=2^(k+1074).toNat:=by
 obtain⟨_,_,_,a,b⟩:=Bo h1 h2
 unfold aV V
 rw [a,b]
 exact FR (by omega)
theorem Ej:P2 0=4607182418800017408:=by rw [Fy (by decide) (by decide)];rfl
theorem FS:fi 1=4607182418800017408:=by
 show aG 1 0=_
 exact Ej
end Go.Proofs.YtjjlnmihkadlmaaGreat
namespace Go.Proofs.YtjjlnmihkadlmaaGreat

def fL (T p:Int):Int:=if T=0 then 0 else if T<0 then -(nearR T.natAbs p:Int) else (nearR T.natAbs p:Int)
theorem eX (M:Nat) (p:Int):nearR M p≤9218868437227405312:=Nat.min_le_right _ _
theorem dV {T T':Int} (p:Int) (h:T≤T'):fL T p≤fL T' p:=by
 unfold fL
 by_cases h0:T=0
 ·rw [if_pos h0]
  by_cases h1:T'=0
  ·rw [if_pos h1];omega
  ·rw [if_neg h1,if_neg (by omega)];omega
 ·rw [if_neg h0]
  by_cases h1:T'=0
  ·rw [if_pos h1,if_pos (by omega)];omega
  ·rw [if_neg h1]
   by_cases s:T<0
   ·rw [if_pos s]
    by_cases s':T'<0
    ·rw [if_pos s']
     have:=bS p (show T'.natAbs≤T.natAbs by omega)
     omega
    ·rw [if_neg s'];omega
   ·rw [if_neg s,if_neg (by omega)]
    have:=bS p (show T.natAbs≤T'.natAbs by omega)
    omega
theorem qs (T p:Int):fL (-T) p= -fL T p:=by
 unfold fL
 by_cases h0:T=0
 ·rw [if_pos h0,if_pos (by omega)];rfl
 ·rw [if_neg h0,if_neg (by omega),Int.natAbs_neg]
  by_cases s:T<0
  ·rw [if_pos s,if_neg (by omega)];omega
  ·rw [if_neg s,if_pos (by omega)]
def RkW (r:Nat) (k:Int):Prop:=ae (r:Int)=k∧r<18446744073709551616∧ag (r:Int)=false
theorem iI {r:Nat} (h:r≤9218868437227405312):RkW r (r:Int):=by
 have hn:ag (r:Int)=false:=by unfold ag szI;rw [decide_eq_false_iff_not];omega
 have hs:sgB (r:Int)=false:=by unfold sgB;rw [decide_eq_false_iff_not];omega
 refine⟨?_,by omega,hn⟩
 rw [rank_pos hn hs]
 unfold szI
 omega
theorem vB {r q:Nat} (h:r≤9218868437227405312) (hq:q=9223372036854775808+r):RkW q (-(r:Int)):=by
 have hn:ag (q:Int)=false:=by unfold ag szI;rw [decide_eq_false_iff_not];omega
 have hs:sgB (q:Int)=true:=by unfold sgB;rw [decide_eq_true_iff];omega
 refine⟨?_,by omega,hn⟩
 unfold ae
 rw [hn,hs]
 simp only [Bool.false_eq_true,if_false,if_true]
 unfold szI
 omega
theorem xq:RkW 0 0:=iI (r:=0) (by omega)
theorem Cd:RkW 9223372036854775808 0:=vB (r:=0) (by omega) (by omega)
theorem qt {s:Bool} {r:Nat} (h:r≤9218868437227405312):RkW (wrd s r) (sgZ s r):=by
 unfold wrd sgZ
 cases s
 ·simp only [Bool.false_eq_true,if_false];exact iI h
 ·simp only [if_true];exact vB h rfl
theorem yQ (T p:Int):RkW (aG T p) (fL T p):=by
 unfold aG fL
 by_cases h0:T=0
 ·rw [if_pos h0,if_pos h0];exact xq
 ·rw [if_neg h0,if_neg h0]
  have hr:=eX T.natAbs p
  generalize nearR T.natAbs p=r at *
  by_cases s:T<0
  ·rw [if_pos s,if_pos s]
   exact vB hr rfl
  ·rw [if_neg s,if_neg s]
   exact iI hr
theorem oH (s t:Bool) (T:Int):RkW (gl s t T) (fL T (-1074)):=by
 unfold gl
 by_cases h0:T=0
 ·have e:fL T (-1074)=0:=by unfold fL;rw [if_pos h0]
  rw [if_pos h0,e]
  cases hs:(s&&t)
  ·simp only [Bool.false_eq_true,if_false];exact xq
  ·simp only [if_true];exact Cd
 ·rw [if_neg h0];exact yQ T _
theorem yR (s:Bool) (T:Nat):RkW (mulR s T) (fL (sgZ s T) (-2148)):=by
 unfold mulR
 by_cases h0:T=0
 ·have e0:sgZ s T=0:=by unfold sgZ;rw [h0];cases s<;>simp
  have e:fL (sgZ s T) (-2148)=0:=by unfold fL;rw [if_pos e0]
  rw [if_pos h0,e]
  have:=qt (s:=s) (r:=0) (by omega)
  have e2:sgZ s 0=0:=by unfold sgZ;cases s<;>simp
  rw [e2] at this
  exact this
 ·rw [if_neg h0]
  have hr:=eX T (-2148)
  have hw:=qt (s:=s) hr
  have e:fL (sgZ s T) (-2148)=sgZ s (nearR T (-2148)):=by
   unfold fL sgZ
   generalize hM:nearR T (-2148)=M
   cases s
   ·simp only [Bool.false_eq_true,if_false]
    rw [if_neg (by omega),if_neg (by omega),Int.natAbs_natCast,hM]
   ·simp only [if_true]
    rw [if_neg (by omega),if_pos (by omega),Int.natAbs_neg,Int.natAbs_natCast,hM]
  rw [e]
  exact hw
theorem oI (x:Nat):vI x=sgZ (sB x) (aV x):=rfl
theorem yS (s t:Bool) (m n:Nat):sgZ s m*sgZ t n=sgZ (s^^t) (m*n):=by
 unfold sgZ
 cases s<;>cases t<;>simp [Int.neg_mul,Int.mul_neg]
theorem dW {x y:Nat} (hx:af x) (hy:af y):∃ r,floatBits .add .f64 x y=some r∧RkW r (fL (vI x+vI y) (-1074)):=⟨_,jg hx hy,oH _ _ _⟩
theorem sL {x y:Nat} (hx:af x) (hy:af y):∃ r,floatBits .sub .f64 x y=some r∧RkW r (fL (vI x - vI y) (-1074)):=⟨_,pX hx hy,oH _ _ _⟩
theorem mq {x y:Nat} (hx:af x) (hy:af y):∃ r,floatBits .mul .f64 x y=some r∧RkW r (fL (vI x*vI y) (-2148)):=by
 refine⟨_,gP hx hy,?_⟩
 rw [oI x,oI y,yS]
 exact yR _ _
theorem gT {x:Nat} (h:af x):ag (x:Int)=false:=by unfold af at h;unfold ag szI;rw [decide_eq_false_iff_not];omega
theorem kF {a b:Nat} (ha:af a) (hb:af b) (ha2:a<18446744073709551616) (hb2:b<18446744073709551616):ae a<ae b↔vI a<vI b:=by
 rw [← bK ha2 (gT ha),← bK hb2 (gT hb)]
 have e1:vI a=sgZ (a / 9223372036854775808 % 2==1) (V (a % 9223372036854775808)):=rfl
 have e2:vI b=sgZ (b / 9223372036854775808 % 2==1) (V (b % 9223372036854775808)):=rfl
 rw [e1,e2]
 generalize a % 9223372036854775808=r at *
 generalize b % 9223372036854775808=s at *
 generalize (a / 9223372036854775808 % 2==1)=p at *
 generalize (b / 9223372036854775808 % 2==1)=q at *
 have h1:=cj (r:=r) (s:=s)
 have h2:=cj (r:=s) (s:=r)
 have h3:=cj (r:=0) (s:=s)
 have h4:=cj (r:=0) (s:=r)
 rw [bu] at h3 h4
 unfold sgn sgZ
 cases p<;>cases q<;>simp only [Bool.false_eq_true,if_true,if_false] at* <;>omega
theorem bT {a b:Nat} (ha:af a) (hb:af b) (ha2:a<18446744073709551616) (hb2:b<18446744073709551616):ae a≤ae b↔vI a≤vI b:=by
 have:=kF hb ha hb2 ha2
 omega
theorem sM {r:Nat} {k:Int} (h:RkW r k) (h0: -9218868437227405312<k) (h1:k<9218868437227405312):af r:=by
 obtain⟨e,h2,hn⟩:=h
 rw [← bK h2 hn] at e
 unfold af
 unfold sgn at e
 generalize (r / 9223372036854775808 % 2==1)=p at *
 cases p<;>simp only [Bool.false_eq_true,if_true,if_false] at e<;>omega
end Go.Proofs.YtjjlnmihkadlmaaGreat
namespace Go.Proofs.YtjjlnmihkadlmaaGreat

end Go.Proofs.YtjjlnmihkadlmaaGreat
