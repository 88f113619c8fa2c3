/-  -/
import Derived.Test.YtfdddijdjpijbaaGreatHai
import Derived.Test.YtfdddijdjpijbaaGreatHae
import Derived.BigQuiet
import Derived.Test.YtfdddijdjpijbaaGreatHac
import Derived.LoopTactic
set_option maxHeartbeats 400000
namespace Go.Proofs.YtfdddijdjpijbaaGreat
open Go.RowKit
theorem jJ (x:Int) (k:Int) (w:World) (a:0<=x) (d:x<=18446744073709551615) (c:Hid (64 - (Lib.bitLen x.toNat:Int)=k)) :
  Calls Tryz.prog 136 #[.int .u64 x] w fun e b=>e=.returned (.int .i64 k)/\b=w:=by
 rw [<- c.out];exact Tryz.bits_LeadingZeros64 x w a d
theorem aa {p:Prop} (h:p):Hid p:=h
theorem AG {p:Prop} (h:Hid p):p:=h
def RowIs (w:World) (g n M:Nat):Prop:=∀ i,i<n->w.cell? ⟨g,i,none⟩=some (.int .u64 (dgt M i:Int))
theorem sZ {g a b c:Nat} (h:a=b):Ending.returned (.slice (some ⟨g,0,none⟩) a c)=.returned (.slice (some ⟨g,0,none⟩) b c):=by rw [h]
theorem du (g n c M:Nat) (w:World) (a:RowIs w g n M) (h:M<2^(32*n)) (hn:n<=c) (p:n<=4611686018427387904) :
  Calls Tryz.prog 137 #[.slice (some ⟨g,0,none⟩) n c] w fun e l=>e=.returned (.slice (some ⟨g,0,none⟩) (nd M) c)/\l=w:=by
 have o:=aa a;have i:=aa h;clear a h
 go_enter Tryz.func137,Tryz.ntmps137
 go_wp2
 go_loop [3] (fun t=>∃ k:Nat,k<=n/\t=.int .i64 k/\Hid (M<2^(32*k))) (fun t=>(intOf t).toNat)
 case atStart=>exact⟨n,Nat.le_refl _,rfl,i⟩
 case round=>
  obtain⟨k,r,rfl,HK⟩:=hrel;cases k with
  | zero=>
   go_wp2
   go_ret
   exact⟨sZ (by have d:=HK.out;rw [Nat.mul_zero,Nat.pow_zero] at d;rw [show M=0 by omega];rfl),rfl⟩
  | succ j=>
   have f:=AG o j (by omega)
   by_cases b:dgt M j=0
   ·rw [b] at f
    go_wp2
    go_round
    case rel=>exact⟨j,by omega,rfl,Eo HK.out b⟩
    case measure=>simp [intOf]
   ·have m:=aa b;have d:((dgt M j:Int)==0)=false:=by simpa using b
    clear b;generalize (dgt M j:Int)=q at d f
    go_wp2
    go_ret
    exact⟨sZ (Ho HK.out m.out).symm,rfl⟩
def DN (w:World) (v:Value) (N:Nat):Prop:=
 (N=0/\∃ p c,v=.slice p 0 c)\/(N≠0/\∃ g c,v=.slice (some ⟨g,0,none⟩) (nd N) c/\nd N<=c/\g<w.heap.size/\RowIs w g (nd N) N)
theorem RowIs.mono {w:World} {g n m M:Nat} (h:RowIs w g n M) (a:m<=n):RowIs w g m M:=fun i hi=>h i (by omega)
theorem RowIs.below {w a:World} {g n M:Nat} (h:RowIs w g n M) (c:g<w.heap.size) (b:Below w.heap.size w a):RowIs a g n M:=
 fun i hi=>(b.cell (p:=⟨g,i,none⟩) c).trans (h i hi)
theorem DN.below {w a:World} {v:Value} {N:Nat} (h:DN w v N) (b:Below w.heap.size w a):DN a v N:=by
 rcases h with h | ⟨e,g,c,j,f,d,i⟩
 ·exact Or.inl h
 ·exact Or.inr ⟨e,g,c,j,f,Nat.lt_of_lt_of_le d b.size,i.below d b⟩
theorem nH {w:World} {g c n M:Nat} (d:RowIs w g n M) (b:M<2^(32*n)) (hc:n<=c) (e:g<w.heap.size):DN w (.slice (some ⟨g,0,none⟩) (nd M) c) M:=by
 by_cases a:M=0
 ·exact Or.inl ⟨a,some ⟨g,0,none⟩,c,by rw [a];rfl⟩
 ·have:=bP b;exact Or.inr ⟨a,g,c,rfl,by omega,e,d.mono this⟩
theorem Mj (n:Nat) (w:World) (h:n<18446744073709551616):RowIs (w.alloc (.cells #[.int .u64 ((n:Int) % 4294967296),.int .u64 ((n:Int) / 4294967296)] 41)) w.heap.size 2 n:=by
 intro i hi;have a:(dgt n 0:Int)=(n:Int) % 4294967296:=by unfold dgt;rw [Nat.mul_zero,Nat.pow_zero,Nat.div_one];omega
 have b:(dgt n 1:Int)=(n:Int) / 4294967296:=by unfold dgt;rw [show (2:Nat)^(32*1)=4294967296 from rfl];omega
 match i,hi with
 | 0,_=>rw [a];simp
 | 1,_=>rw [b];simp
def From (B:Nat) (v:Value):Prop:=∀ a l c,v=.slice (some a) l c->B<=a.block
theorem gI (B:Nat):From B (.slice none 0 0):=fun a l c h=>by cases h
theorem ij (B g l c:Nat) (h:B<=g):From B (.slice (some ⟨g,0,none⟩) l c):=fun a d b e=>by cases e;exact h
theorem DN.set {w:World} {v:Value} {N B:Nat} (h:DN w v N) (b:From B v) {a:Addr} (k:a.block<B) (x:Value):DN (w.setCell a x) v N:=by
 rcases h with h | ⟨d,g,c,rfl,e,j,f⟩
 ·exact Or.inl h
 ·have:=b _ _ _ rfl;refine Or.inr ⟨d,g,c,rfl,e,by simpa using j,fun i hi=>?_⟩
  exact (World.cell?_of_block (a:=⟨g,i,none⟩) (Below.heap_setCell w a x g (by have l:B<=g:=this;omega))).trans (f i hi)
theorem AH (n:Nat) (w:World) (h:n<18446744073709551616) :
  Calls Tryz.prog 99 #[.int .u64 n] w fun e a=>∃ v,e=.returned v/\DN a v n/\From w.heap.size v/\Below w.heap.size w a:=by
 have b:=aa (Mj n w h);have c:=aa (nH b.out (by omega) (Nat.le_refl 2) (by simp))
 go_enter Tryz.func99,Tryz.ntmps99
 go_wp2_with fail
 refine (du _ 2 2 n _ b.out (by omega) (Nat.le_refl 2) (by omega)).mono ?_
 rintro e a ⟨rfl,rfl⟩
 go_wp2_with fail
 go_ret
 exact⟨_,rfl,c.out,ij _ _ _ _ (Nat.le_refl _),(Below.refl _ _).alloc (Nat.le_refl _) _⟩
theorem jM (u:Int) (n:Nat) (w:World) (b:Hid (u=n)) (h:n<18446744073709551616) :
  Calls Tryz.prog 99 #[.int .u64 u] w fun e a=>∃ v,e=.returned v/\DN a v n/\From w.heap.size v/\Below w.heap.size w a:=by
 rw [b.out];exact AH n w h
theorem Mk {x:Nat} (h:x<18446744073709551616):bl x<=64:=by
 unfold bl
 by_cases a:x=0
 ·rw [if_pos a];omega
 ·rw [if_neg a];have:=(Nat.log2_lt a).2 (show x<2^64 from h);omega
theorem len_nil (p:Option Addr) (c:Nat) (w:World) :
  Calls Tryz.prog 95 #[.slice p 0 c] w fun e a=>e=.returned (.int .i64 0)/\a=w:=by
 go_enter Tryz.func95,Tryz.ntmps95
 go_wp2
 go_ret
 exact⟨rfl,rfl⟩
theorem Ml (g n c N:Nat) (w:World) (m:N≠0) (hn:Hid (n+1=nd N)) (q:n<=100000000) (b:w.cell? ⟨g,n,none⟩=some (.int .u64 (dgt N n:Int))) :
  Calls Tryz.prog 95 #[.slice (some ⟨g,0,none⟩) (n+1:Nat) c] w fun e o=>e=.returned (.int .i64 (bl N:Int))/\o=w:=by
 have f:Hid (bl N=32*n+bl (dgt N n)):=by
  have:=OT m;rw [<- hn.out,Nat.add_sub_cancel] at this;exact this
 have k:=bB N n;generalize dgt N n=d at b f k
 rw [f.out];clear f
 go_enter Tryz.func95,Tryz.ntmps95
 go_wp2
 go_loop [3,4] (fun s t=>∃ a x:Nat,s=.int .i64 a/\t=.int .u64 x/\x<4294967296/\Hid (a+bl x=32*n+bl d)) (fun _ t=>(intOf t).toNat)
 case atStart=>exact⟨32*n,d,by go_num,rfl,k,rfl⟩
 case round=>
  obtain⟨a,x,rfl,rfl,p,h⟩:=hrel;have r:a<=3200000064:=by
   have l:=h.out;have j:bl d<=64:=Mk (by omega)
   omega
  by_cases i:x=0
  ·subst i;go_wp2
   go_ret
   exact⟨bA (by have:=h.out;rw [show bl 0=0 from rfl] at this;omega),rfl⟩
  ·have f:=aa (Mh i);have l:0<x:=by omega
   clear i;go_wp2
   go_round
   case rel=>exact⟨a+1,x / 2,by go_num,by go_num,by omega,by have j:=h.out;rw [f.out] at j;show _=_;omega⟩
   case measure=>simp [intOf];omega
theorem oO (v:Value) (N:Nat) (w:World) (h:DN w v N) (i:nd N<=100000000) :
  Calls Tryz.prog 95 #[v] w fun e d=>e=.returned (.int .i64 (bl N:Int))/\d=w:=by
 rcases h with⟨a,p,c,rfl⟩| ⟨a,g,c,rfl,k,j,f⟩
 ·rw [a];exact len_nil p c w
 ·have l:=dt a;obtain⟨n,b⟩:∃ n,n+1=nd N:=⟨nd N - 1,by omega⟩
  rw [<- b];exact Ml g n c N w a b (by omega) (f n (by omega))
theorem mJ (p:Option Addr) (n c:Nat) (i:Int) (w:World) (hi:i<0\/(n:Int)<=i) :
  Calls Tryz.prog 142 #[.slice p n c,.int .i64 i] w fun e a=>e=.returned (.int .u64 0)/\a=w:=by
 by_cases h:i<0
 ·go_enter Tryz.func142,Tryz.ntmps142
  go_wp2
  go_ret
  exact⟨rfl,rfl⟩
 ·have b:(n:Int)<=i:=by omega
  go_enter Tryz.func142,Tryz.ntmps142
  go_wp2
  go_ret
  exact⟨rfl,rfl⟩
theorem wZ (g n c k:Nat) (q:Int) (w:World) (d:k<n) (a:w.cell? ⟨g,k,none⟩=some (.int .u64 q)) :
  Calls Tryz.prog 142 #[.slice (some ⟨g,0,none⟩) n c,.int .i64 k] w fun e b=>e=.returned (.int .u64 q)/\b=w:=by
 go_enter Tryz.func142,Tryz.ntmps142
 go_wp2
 go_ret
 exact⟨rfl,rfl⟩
theorem jN (v:Value) (N k:Nat) (w:World) (h:DN w v N) :
  Calls Tryz.prog 142 #[v,.int .i64 k] w fun e d=>e=.returned (.int .u64 (dgt N k:Int))/\d=w:=by
 rcases h with⟨a,p,c,rfl⟩| ⟨a,g,c,rfl,j,i,f⟩
 ·rw [a,wY];exact mJ p 0 c k w (by omega)
 ·by_cases b:k<nd N
  ·exact wZ g (nd N) c k _ w b (f k b)
  ·rw [Hl (by omega)];exact mJ _ _ c k w (by omega)
theorem Ic {E:Int} (b:0<=E) (a:E<=18446744073709551615):bits .and .u64 E 1=E % 2:=and_one_u64 E b a
def jg (a b:Int):Int:=if 9223372036854775808<b\/(b=9223372036854775808/\a % 2=1) then a+1 else a
theorem pE (u c a b:Int) (w:World) (k:1<=c) (o:c<=64) (f:0<=a) (i:a<9223372036854775808)
  (m:u / 2^c.toNat=a) (l:IntKind.u64.wrap (u*2^(64 - c).toNat)=b) :
  Calls Tryz.prog 158 #[.int .u64 u,.int .i64 c] w fun e h=>e=.returned (.int .u64 (jg a b))/\∃ n,h=w.drewN n:=by
 have p:bits .and .u64 a 1=a % 2:=Ic f (by omega)
 rcases Int.lt_trichotomy b 9223372036854775808 with g | g | g
 ·rw [show jg a b=a by unfold jg;rw [if_neg (by omega)]]
  go_enter Tryz.func158,Tryz.ntmps158
  go_wp2
  go_quiet (fail)
  go_wp2
  go_ret
  exact⟨rfl,_,rfl⟩
 ·by_cases d:a % 2=1
  ·rw [show jg a b=a+1 by unfold jg;rw [if_pos (by omega)]]
   have j:(a % 2==1)=true:=by simpa using d
   clear d
   go_enter Tryz.func158,Tryz.ntmps158
   go_wp2
   go_quiet (fail)
   go_wp2
   go_ret
   exact⟨rfl,_,rfl⟩
  ·rw [show jg a b=a by unfold jg;rw [if_neg (by omega)]]
   have j:(a % 2==1)=false:=by simpa using d
   clear d
   go_enter Tryz.func158,Tryz.ntmps158
   go_wp2
   go_quiet (fail)
   go_wp2
   go_ret
   exact⟨rfl,_,rfl⟩
 ·rw [show jg a b=a+1 by unfold jg;rw [if_pos (by omega)]]
  go_enter Tryz.func158,Tryz.ntmps158
  go_wp2
  go_quiet (fail)
  go_wp2
  go_ret
  exact⟨rfl,_,rfl⟩
theorem Mo {u d:Nat} (b:d<=64):IntKind.u64.wrap ((u:Int)*2^(64 - (d:Int)).toNat)=((u % 2^d*2^(64 - d):Nat):Int):=by
 rw [IntKind.wrap_u64,show (64 - (d:Int)).toNat=64 - d by omega]
 have e:((u:Int)*2^(64 - d))=((u*2^(64 - d):Nat):Int):=by rw [Int.natCast_mul,Int.natCast_pow];rfl
 rw [e];have a:(18446744073709551616:Nat)=2^d*2^(64 - d):=by rw [<- Nat.pow_add,show d+(64 - d)=64 by omega]
 rw [show (18446744073709551616:Int)=((2^d*2^(64 - d):Nat):Int) by rw [<- a];rfl,<- Int.natCast_emod,Nat.mul_mod_mul_right]
theorem Mp {u d:Nat}:(u:Int) / 2^((d:Int)).toNat=((u / 2^d:Nat):Int):=by
 rw [Int.toNat_natCast,Int.natCast_ediv,Int.natCast_pow];rfl
theorem Et {u d:Nat} (i:d<=64) (g:1<=d):jg ((u / 2^d:Nat):Int) ((u % 2^d*2^(64 - d):Nat):Int)=(rne u d:Int):=by
 unfold jg rne;have a:0<2^(64 - d):=Nat.two_pow_pos _;have c:(9223372036854775808:Nat)*2=2^d*2^(64 - d):=by rw [<- Nat.pow_add,show d+(64 - d)=64 by omega]
 have e:(9223372036854775808:Int)<((u % 2^d*2^(64 - d):Nat):Int)↔2^d<2*(u % 2^d):=by
  rw [<- Nat.mul_lt_mul_right a,Nat.mul_assoc];omega
 have f:((u % 2^d*2^(64 - d):Nat):Int)=(9223372036854775808:Int)↔2^d=2*(u % 2^d):=by
  constructor
  ·intro h;apply Nat.eq_of_mul_eq_mul_right a;rw [Nat.mul_assoc];omega
  ·intro h;have:2^d*2^(64 - d)=2*(u % 2^d)*2^(64 - d):=congrArg (·*2^(64 - d)) h;rw [Nat.mul_assoc] at this;omega
 have b:((u / 2^d:Nat):Int) % 2=1↔u / 2^d % 2=1:=by omega
 simp only [e,f,b]
 split<;>omega
theorem ss (u d:Nat) (w:World) (h:u<18446744073709551616) (a:1<=d) (b:d<=64) :
  Calls Tryz.prog 158 #[.int .u64 u,.int .i64 d] w fun e c=>e=.returned (.int .u64 (rne u d))/\∃ n,c=w.drewN n:=by
 rw [<- Et b a];refine pE u d _ _ w (by omega) (by omega) (Int.natCast_nonneg _) ?_ Mp (Mo b)
 have:u / 2^d<=u / 2^1:=Nat.div_le_div_left (Nat.pow_le_pow_right (by decide) a) (by decide)
 omega
theorem su (u a:Int) (w:World) (c:64<a) :
  Calls Tryz.prog 158 #[.int .u64 u,.int .i64 a] w fun e b=>e=.returned (.int .u64 0)/\∃ n,b=w.drewN n:=by
 go_enter Tryz.func158,Tryz.ntmps158
 go_wp2
 go_ret
 exact⟨rfl,0,rfl⟩
theorem ks (u b:Int) (v:Nat) (w:World) (c:0<=u) (h:u<18446744073709551616) (j:1<=b) (i:Hid (v=rne u.toNat b.toNat)) :
  Calls Tryz.prog 158 #[.int .u64 u,.int .i64 b] w fun e f=>e=.returned (.int .u64 v)/\∃ n,f=w.drewN n:=by
 rw [i.out];obtain⟨a,rfl⟩:=Int.eq_ofNat_of_zero_le c;obtain⟨d,rfl⟩:=Int.eq_ofNat_of_zero_le (show 0<=b by omega)
 rw [Int.toNat_natCast,Int.toNat_natCast]
 by_cases g:d<=64
 ·exact ss a d w (by omega) (by omega) g
 ·have e:rne a d=0:=gG (by
   have:(2:Nat)^65<=2^d:=Nat.pow_le_pow_right (by decide) (by omega)
   omega)
  rw [e];exact su a d w (by omega)
theorem uZ (s q:Int) (w:World) (b:0<=s) (h:s<18446744073709551616) (a:Hid ((rne s.toNat 11:Int)=q)) :
  Calls Tryz.prog 158 #[.int .u64 s,.int .i64 11] w fun e c=>e=.returned (.int .u64 q)/\∃ n,c=w.drewN n:=by
 rw [<- a.out];exact ks s 11 (rne s.toNat 11) w b h (by omega) rfl
theorem Id (u e:Int) (w:World) (h:1023<e) :
  Calls Tryz.prog 124 #[.int .u64 u,.int .i64 e] w fun x a=>x=.returned (.int .u64 9218868437227405312)/\∃ n,a=w.drewN n:=by
 go_enter Tryz.func124,Tryz.ntmps124
 go_wp2_with fail
 go_ret
 exact⟨rfl,0,rfl⟩
theorem Ie (u e:Int) (w:World) (h:e< -1139) :
  Calls Tryz.prog 124 #[.int .u64 u,.int .i64 e] w fun x a=>x=.returned (.int .u64 0)/\∃ n,a=w.drewN n:=by
 go_enter Tryz.func124,Tryz.ntmps124
 go_wp2_with fail
 go_ret
 exact⟨rfl,0,rfl⟩
theorem If (u e a s:Int) (v:Nat) (w:World) (l:0<=u) (j:u<=18446744073709551615) (E:e<=1023) (A: -1139<=e) (z:0<=a) (B:a<=63)
  (o:Hid (64 - (Lib.bitLen u.toNat:Int)=a)) (F:IntKind.u64.wrap (u*2^a.toNat)=s) (i:0<=s) (h:s<18446744073709551616)
  (r:Hid (e+63 - a<=1023->v=if e+63 - a< -1022 then rne s.toNat (-1074 - e+a).toNat else (e+63 - a+1022).toNat*4503599627370496+rne s.toNat 11))
  (k:Hid (1023<e+63 - a->v=9218868437227405312)) :
  Calls Tryz.prog 124 #[.int .u64 u,.int .i64 e] w fun x f=>x=.returned (.int .u64 v)/\∃ n,f=w.drewN n:=by
 by_cases D:1023<e+63 - a
 ·rw [k.out D]
  go_enter Tryz.func124,Tryz.ntmps124
  go_wp2_with (go_at_call 136;refine (jJ _ a _ l j o).mono ?_;rintro x f ⟨rfl,rfl⟩)
  go_ret
  exact⟨rfl,0,rfl⟩
 ·by_cases g:e+63 - a< -1022
  ·have b:=r.out (by omega)
   rw [if_pos g] at b
   have m:Hid (v=rne s.toNat (-1011 - (e+63 - a)).toNat):=by
    show _=_;rw [b,show (-1074 - e+a).toNat=(-1011 - (e+63 - a)).toNat by omega]
   clear b
   go_enter Tryz.func124,Tryz.ntmps124
   go_wp2_with (go_at_call 136;refine (jJ _ a _ l j o).mono ?_;rintro x f ⟨rfl,rfl⟩)
   refine (ks _ _ v _ i h (by omega) m).mono ?_
   rintro x f ⟨rfl,nq,rfl⟩
   go_wp2_with fail
   go_ret
   exact⟨rfl,_,rfl⟩
  ·have b:=r.out (by omega)
   rw [if_neg g] at b
   have m:Hid ((v:Int)=(e+63 - a+1022)*4503599627370496+(rne s.toNat 11:Int)):=by show _=_;rw [b];omega
   have y:(rne s.toNat 11:Int)<=9007199254740992:=by
    have:=uR (n:=s.toNat) (d:=11) (c:=9007199254740992) (by omega)
    omega
   have p:0<=(rne s.toNat 11:Int):=by omega
   clear b;rw [m.out];generalize t:(rne s.toNat 11:Int)=q at y p
   have C:Hid ((rne s.toNat 11:Int)=q):=t;clear t
   go_enter Tryz.func124,Tryz.ntmps124
   go_wp2_with (first | (go_at_call 136;refine (jJ _ a _ l j o).mono ?_;rintro x f ⟨rfl,rfl⟩) | (go_at_call 158;refine (uZ _ q _ i h C).mono ?_;rintro x f ⟨rfl,nq,rfl⟩))
   go_ret
   exact⟨rfl,_,rfl⟩
theorem Ig (u:Nat) (e:Int) (w:World) (a:u≠0) (h:u<18446744073709551616) :
  Calls Tryz.prog 124 #[.int .u64 u,.int .i64 e] w fun x d=>x=.returned (.int .u64 (nearR u e))/\∃ n,d=w.drewN n:=by
 have j:u.log2<64:=(Nat.log2_lt a).2 h
 by_cases g:1023<e
 ·rw [jL a (by omega)];exact Id u e w g
 by_cases c:e< -1139
 ·rw [je h c];exact Ie u e w c
 have k:=uQ a h;refine If u e (63 - u.log2:Int) ((u*2^(63 - u.log2):Nat):Int) (nearR u e) w (by omega) (by omega) (by omega) (by omega) (by omega) (by omega) ?_ ?_ (Int.natCast_nonneg _) (by omega) ?_ ?_
 ·show _=_
  rw [Int.toNat_natCast,jd a h];omega
 ·rw [IntKind.wrap_u64,show ((63:Int) - (u.log2:Int)).toNat=63 - u.log2 by omega]
  have i:((u:Int)*2^(63 - u.log2))=((u*2^(63 - u.log2):Nat):Int):=by rw [Int.natCast_mul,Int.natCast_pow];rfl
  rw [i];omega
 ·intro f;rw [Int.toNat_natCast]
  by_cases b:e+63 - (63 - (u.log2:Int))< -1022
  ·rw [if_pos b,En a h (by omega),show (-1074 - e+(63 - (u.log2:Int))).toNat=(-1011 - e - (u.log2:Int)).toNat by omega]
  ·rw [if_neg b,li a h (by omega) (by omega),show (e+63 - (63 - (u.log2:Int))+1022).toNat=(e+u.log2+1022).toNat by omega]
 ·intro f;exact jL a (by omega)
theorem De (u e q:Int) (w:World) (d:0<u) (h:u<18446744073709551616) (b:Hid ((nearR u.toNat e:Int)=q)) :
  Calls Tryz.prog 124 #[.int .u64 u,.int .i64 e] w fun x c=>x=.returned (.int .u64 q)/\∃ n,c=w.drewN n:=by
 rw [<- b.out];obtain⟨a,rfl⟩:=Int.eq_ofNat_of_zero_le (show 0<=u by omega)
 rw [Int.toNat_natCast];exact Ig a e w (by omega) (by omega)
theorem jh (u:Nat) (e:Int):nearR u e<=9218868437227405312:=Nat.min_le_right _ _
def aI (m e:Int):Nat:=if m=0 then 0 else if m<0 then 9223372036854775808+nearR m.natAbs e else nearR m.natAbs e
theorem Eu (e:Int) (w:World) :
  Calls Tryz.prog 86 #[.int .i64 0,.int .i64 e] w fun x a=>x=.returned (.float .f64 0)/\∃ n,a=w.drewN n:=by
 go_enter Tryz.func86,Tryz.ntmps86
 go_wp2_with fail
 go_ret
 exact⟨rfl,0,rfl⟩
theorem Ih (m e q:Int) (w:World) (c:0<m) (h:m<=9223372036854775807) (b:Hid ((nearR m.toNat e:Int)=q)) :
  Calls Tryz.prog 86 #[.int .i64 m,.int .i64 e] w fun x a=>x=.returned (.float .f64 q.toNat)/\∃ n,a=w.drewN n:=by
 have f:(m==0)=false:=by simp;omega
 have d:decide (m<0)=false:=by simp;omega
 go_enter Tryz.func86,Tryz.ntmps86
 go_wp2_with (first | (go_at_call 124;refine (De _ _ q _ c (by omega) b).mono ?_;rintro x a ⟨rfl,nq,rfl⟩) | (go_at_call 123;refine (uM _ _).mono ?_;rintro x a ⟨rfl,rfl⟩))
 go_ret
 exact⟨rfl,_,rfl⟩
theorem Ii (m a e q:Int) (w:World) (j:m<0) (h: -9223372036854775808<=m) (i:Hid ((nearR a.toNat e:Int)=q)) (l:IntKind.u64.wrap (-IntKind.u64.wrap m)=a) (b:0<a) (f:a<18446744073709551616) (d:0<=q) (g:q<9223372036854775808) :
  Calls Tryz.prog 86 #[.int .i64 m,.int .i64 e] w fun x c=>x=.returned (.float .f64 (9223372036854775808+q).toNat)/\∃ n,c=w.drewN n:=by
 have k:(m==0)=false:=by simp;omega
 go_enter Tryz.func86,Tryz.ntmps86
 go_wp2_with (first | (go_at_call 124;refine (De _ _ q _ b f i).mono ?_;rintro x c ⟨rfl,nq,rfl⟩) | (go_at_call 123;refine (uN _ _ d g).mono ?_;rintro x c ⟨rfl,rfl⟩))
 go_ret
 exact⟨rfl,_,rfl⟩
theorem ce (m e:Int) (w:World) (c: -9223372036854775808<=m) (f:m<=9223372036854775807) :
  Calls Tryz.prog 86 #[.int .i64 m,.int .i64 e] w fun x d=>x=.returned (.float .f64 (aI m e))/\∃ n,d=w.drewN n:=by
 unfold aI
 by_cases b:m=0
 ·subst b;rw [if_pos rfl];exact Eu e w
 rw [if_neg b]
 by_cases a:m<0
 ·rw [if_pos a];have g:=jh m.natAbs e;have:=Ii m (-m) e (nearR m.natAbs e) w a c (by show _=_;rw [show (-m).toNat=m.natAbs by omega]) (by rw [IntKind.wrap_u64,IntKind.wrap_u64];omega) (by omega) (by omega) (Int.natCast_nonneg _) (by omega)
  rw [show (9223372036854775808+(nearR m.natAbs e:Int)).toNat=9223372036854775808+nearR m.natAbs e by omega] at this
  exact this
 ·rw [if_neg a];have:=Ih m e (nearR m.natAbs e) w (by omega) f (by show _=_;rw [show m.toNat=m.natAbs by omega])
  rw [Int.toNat_natCast] at this
  exact this
theorem pF {z:Int} (a:0<=z) (h:z<18446744073709551616):bits .and .u64 z 4503599627370495=z % 4503599627370496:=by
 obtain⟨b,rfl⟩:=Int.eq_ofNat_of_zero_le a;have:=bits_and_u64_nat b 4503599627370495 (by omega) (by decide)
 rw [show ((4503599627370495:Nat):Int)=4503599627370495 from rfl] at this
 rw [this];have e:=Nat.and_two_pow_sub_one_eq_mod b 52;rw [show (2:Nat)^52 - 1=4503599627370495 from rfl,show (2:Nat)^52=4503599627370496 from rfl] at e
 rw [e];omega
theorem Ev {z:Int} (a:0<=z) (h:z<4503599627370496):bits .or .u64 z 4503599627370496=4503599627370496+z:=by
 obtain⟨b,rfl⟩:=Int.eq_ofNat_of_zero_le a;have:=bits_or_u64_nat b 4503599627370496 (by omega) (by decide)
 rw [show ((4503599627370496:Nat):Int)=4503599627370496 from rfl] at this
 rw [this];have c:=Nat.two_pow_add_eq_or_of_lt (i:=52) (b:=b) (by omega) 1
 rw [Nat.or_comm,show (4503599627370496:Nat)=2^52*1 from rfl,<- c]
 omega
def gz (z:Int):Int:=if z<4503599627370496 then z else 4503599627370496+z % 4503599627370496
def kE (z:Int):Int:=if z<4503599627370496 then -1074 else z / 4503599627370496 - 1075
def ay (u:Int):Bool:=decide (szI u<9218868437227405312)
def az (u:Int):Int:=if ay u then (if sgB u then -gz (szI u) else gz (szI u)) else 0
def aP (u:Int):Int:=if ay u&&decide (szI u≠0) then kE (szI u) else 0
theorem Ij (b:Nat) (u:Int) (w:World) (c:Hid (u=b)) (h:U64 u) (d:9218868437227405312<=szI u) :
  Calls Tryz.prog 85 #[.float .f64 b] w fun e a=>e=.returned (.tuple #[.int .i64 0,.int .i64 0,.bool false])/\a=w:=by
 go_enter Tryz.func85,Tryz.ntmps85
 go_wp2_with (go_at_call 121;refine (lc _ _ _ c h).mono ?_;rintro e a ⟨rfl,rfl⟩)
 go_ret3
 exact⟨rfl,rfl⟩
theorem AM (b:Nat) (u:Int) (w:World) (c:Hid (u=b)) (h:U64 u) (d:szI u=0) :
  Calls Tryz.prog 85 #[.float .f64 b] w fun e a=>e=.returned (.tuple #[.int .i64 0,.int .i64 0,.bool true])/\a=w:=by
 go_enter Tryz.func85,Tryz.ntmps85
 go_wp2_with (go_at_call 121;refine (lc _ _ _ c h).mono ?_;rintro e a ⟨rfl,rfl⟩)
 go_ret3
 exact⟨rfl,rfl⟩
theorem Ew (b:Nat) (u:Int) (w:World) (c:Hid (u=b)) (h:U64 u) (g:0<szI u) (f:szI u<4503599627370496) :
  Calls Tryz.prog 85 #[.float .f64 b] w fun e a=>e=.returned (.tuple #[.int .i64 (if sgB u then -szI u else szI u),.int .i64 (-1074),.bool true])/\a=w:=by
 cases d:sgB u
 all_goals
  simp only [Bool.false_eq_true,if_true,if_false]
  go_enter Tryz.func85,Tryz.ntmps85
  go_wp2_with (first | (go_at_call 121;refine (lc _ _ _ c h).mono ?_;rintro e a ⟨rfl,rfl⟩) | (go_at_call 122;refine (sW _ _ _ c h).mono ?_;rintro e a ⟨rfl,rfl⟩))
  go_ret3
  exact⟨rfl,rfl⟩
theorem vc (b:Nat) (u m:Int) (w:World) (c:Hid (u=b)) (h:U64 u) (k:4503599627370496<=szI u) (j:szI u<9218868437227405312)
  (i:bits .or .u64 (bits .and .u64 (szI u) 4503599627370495) 4503599627370496=m) (f:4503599627370496<=m) (d:m<9007199254740992) :
  Calls Tryz.prog 85 #[.float .f64 b] w fun e a=>e=.returned (.tuple #[.int .i64 (if sgB u then -m else m),.int .i64 (szI u / 4503599627370496 - 1+ -1074),.bool true])/\a=w:=by
 cases g:sgB u
 all_goals
  simp only [Bool.false_eq_true,if_true,if_false]
  go_enter Tryz.func85,Tryz.ntmps85
  go_wp2_with (first | (go_at_call 121;refine (lc _ _ _ c h).mono ?_;rintro e a ⟨rfl,rfl⟩) | (go_at_call 122;refine (sW _ _ _ c h).mono ?_;rintro e a ⟨rfl,rfl⟩))
  go_ret3
  exact⟨rfl,rfl⟩
theorem fI (b:Nat) (u:Int) (w:World) (i:Hid (u=b)) (h:U64 u) :
  Calls Tryz.prog 85 #[.float .f64 b] w fun e l=>e=.returned (.tuple #[.int .i64 (az u),.int .i64 (aP u),.bool (ay u)])/\l=w:=by
 have j:=uK u;have m:=OR u
 by_cases k:szI u<9218868437227405312
 ·have a:ay u=true:=by simp [ay,k]
  by_cases g:szI u=0
  ·have d:az u=0:=by unfold az gz;rw [g];simp
   have c:aP u=0:=by unfold aP;rw [g];simp
   rw [a,d,c];exact AM b u w i h g
  ·by_cases f:szI u<4503599627370496
   ·have d:az u=if sgB u then -szI u else szI u:=by unfold az gz;rw [a,if_pos f];rfl
    have c:aP u= -1074:=by unfold aP kE;simp [a,g,f]
    rw [a,d,c];exact Ew b u w i h (by omega) f
   ·have d:az u=if sgB u then -(4503599627370496+szI u % 4503599627370496) else 4503599627370496+szI u % 4503599627370496:=by unfold az gz;rw [a,if_neg f];rfl
    have c:aP u=szI u / 4503599627370496 - 1+ -1074:=by unfold aP kE;simp [a,g,f];omega
    rw [a,d,c];exact vc b u _ w i h (by omega) k (by rw [pF j (by omega),Ev (by omega) (by omega)]) (by omega) (by omega)
 ·have a:ay u=false:=by simp [ay,k]
  have d:az u=0:=by simp [az,a]
  have c:aP u=0:=by simp [aP,a]
  rw [a,d,c];exact Ij b u w i h (by omega)
end Go.Proofs.YtfdddijdjpijbaaGreat
namespace Go.Proofs.YtfdddijdjpijbaaGreat
def bO (M s:Nat) (more:Bool):Nat:=if M % 2^s=0/\more=false then M / 2^s else if M / 2^s % 2=1 then M / 2^s else M / 2^s+1
theorem Ir {M s:Nat} (h:s<=M.log2) (e:M≠0):(M / 2^s).log2=M.log2 - s/\M / 2^s≠0:=by
 have a:=Nat.log2_self_le e;have b:M<2^(M.log2+1):=Nat.lt_log2_self;have c:=Nat.two_pow_pos s;have g:2^(M.log2 - s)<=M / 2^s:=(Nat.le_div_iff_mul_le c).2 (by rw [<- Nat.pow_add];rw [show M.log2 - s+s=M.log2 by omega];exact a)
 have f:M / 2^s<2^(M.log2 - s+1):=(Nat.div_lt_iff_lt_mul c).2 (by rw [<- Nat.pow_add];rw [show M.log2 - s+1+s=M.log2+1 by omega];exact b)
 have d:M / 2^s≠0:=by have:=Nat.two_pow_pos (M.log2 - s);omega
 exact⟨(Nat.log2_eq_iff d).2 ⟨g,f⟩,d⟩
theorem cW {M s:Nat} (more:Bool) (h:s<=M.log2) (e:M≠0):(bO M s more).log2=M.log2 - s/\bO M s more≠0:=by
 obtain⟨d,c⟩:=Ir h e;unfold bO
 split
 ·exact⟨d,c⟩
 ·split
  ·exact⟨d,c⟩
  ·rename_i f;have a:=Nat.log2_self_le c;have b:M / 2^s<2^((M / 2^s).log2+1):=Nat.lt_log2_self;rw [d] at a b
   refine⟨(Nat.log2_eq_iff (by omega)).2 ⟨by omega,?_⟩,by omega⟩
   have:(2:Nat)^(M.log2 - s+1)=2*2^(M.log2 - s):=by rw [Nat.pow_succ,Nat.mul_comm]
   omega
theorem xr {M s:Nat} {p:Int} (c:M≠0) (h:s+60<=M.log2):nearR (bO M s false) (s+p)=nearR M p:=by
 obtain⟨a,_⟩:=cW false (show s<=M.log2 by omega) c
 have k:ak (bO M s false) (s+p)=ak M p:=by
  unfold ak;rw [a];congr 1;omega
 have i:(s:Int)+p+8<=ak M p:=by unfold ak;omega
 unfold nearR;rw [k];obtain⟨d,l⟩:∃ d:Nat,ak M p=s+p+d:=⟨(ak M p - (s+p)).toNat,by omega⟩
 have j:((s:Int)+p - ak M p).toNat=0:=by omega
 have g:(p - ak M p).toNat=0:=by omega
 have f:(ak M p - (s+p)).toNat=d:=by omega
 have e:(ak M p - p).toNat=d+s:=by omega
 rw [j,g,f,e,Nat.pow_zero,Nat.mul_one,Nat.mul_one];have b:bO M s false=(if M % 2^s=0 then M / 2^s else (if M / 2^s % 2=1 then M / 2^s else M / 2^s+1)):=by unfold bO;simp only [and_true]
 rw [b,kF (by omega)]
theorem bf {M:Nat} (h:M≠0) (k:Nat) (p:Int):nearR (M*2^k) (p - k)=nearR M p:=by
 have c:(M*2^k).log2=M.log2+k:=by
  have a:=Nat.log2_self_le h;have b:M<2^(M.log2+1):=Nat.lt_log2_self;have g:=Nat.two_pow_pos k;refine (Nat.log2_eq_iff (by have:=Nat.mul_pos (show 0<M by omega) g;omega)).2 ⟨?_,?_⟩
  ·rw [Nat.pow_add];exact Nat.mul_le_mul_right _ a
  ·rw [show M.log2+k+1=(M.log2+1)+k by omega,Nat.pow_add];exact Nat.mul_lt_mul_of_pos_right b g
 have j:ak (M*2^k) (p - k)=ak M p:=by unfold ak;rw [c];congr 1;omega
 unfold nearR;rw [j];generalize ak M p=L
 congr 2
 by_cases m:p<=L
 ·have e:(p - (k:Int) - L).toNat=0:=by omega
  have f:(p - L).toNat=0:=by omega
  have d:(L - (p - (k:Int))).toNat=(L - p).toNat+k:=by omega
  rw [e,f,d,Nat.pow_zero,Nat.mul_one,Nat.mul_one,dL]
 ·obtain⟨q,l⟩:∃ q:Nat,p=L+q:=⟨(p - L).toNat,by omega⟩
  have f:(p - L).toNat=q:=by omega
  have i:(L - p).toNat=0:=by omega
  rw [f,i,fF]
  by_cases n:k<=q
  ·have e:(p - (k:Int) - L).toNat=q - k:=by omega
   have d:(L - (p - (k:Int))).toNat=0:=by omega
   rw [e,d,fF,Nat.mul_assoc,<- Nat.pow_add];congr 2;omega
  ·have e:(p - (k:Int) - L).toNat=0:=by omega
   have d:(L - (p - (k:Int))).toNat=0+(k - q):=by omega
   rw [e,d,Nat.pow_zero,Nat.mul_one,show M*2^k=(M*2^q)*2^(k - q) by rw [Nat.mul_assoc,<- Nat.pow_add];congr 2;omega,dL,fF]
def mant (M:Nat) (more:Bool):Nat:=if M=0 then (if more then 1 else 0) else bO (M*2^64) (M.log2+3) more
def ko (M:Nat):Int:=if M=0 then -2210 else (M.log2:Int) - 2209
def sgM (neg:Bool) (m:Nat):Int:=if neg then -(m:Int) else (m:Int)
theorem dj {M:Nat} (d:M≠0) (k:Nat):(M*2^k).log2=M.log2+k:=by
 have a:=Nat.log2_self_le d;have b:M<2^(M.log2+1):=Nat.lt_log2_self;have c:=Nat.two_pow_pos k;refine (Nat.log2_eq_iff (by have:=Nat.mul_pos (show 0<M by omega) c;omega)).2 ⟨?_,?_⟩
 ·rw [Nat.pow_add];exact Nat.mul_le_mul_right _ a
 ·rw [show M.log2+k+1=(M.log2+1)+k by omega,Nat.pow_add];exact Nat.mul_lt_mul_of_pos_right b c
theorem AR {M:Nat} (a:M≠0):nearR (mant M false) (ko M)=nearR M (-2148):=by
 have c:=Nat.two_pow_pos 64;have b:M*2^64≠0:=by have:=Nat.mul_pos (show 0<M by omega) c;omega
 unfold mant ko;rw [if_neg a,if_neg a,show (M.log2:Int) - 2209=((M.log2+3:Nat):Int)+(-2148 - (64:Nat)) by omega,xr b (by rw [dj a];omega),bf a]
theorem Mw (M:Nat) (more:Bool):mant M more<2^62:=by
 unfold mant
 split
 ·split<;>decide
 ·rename_i a;have b:=Nat.two_pow_pos 64;have d:M*2^64≠0:=by have:=Nat.mul_pos (show 0<M by omega) b;omega
  obtain⟨c,e⟩:=cW more (show M.log2+3<=(M*2^64).log2 by rw [dj a];omega) d
  have:bO (M*2^64) (M.log2+3) more<2^((bO (M*2^64) (M.log2+3) more).log2+1):=Nat.lt_log2_self;rw [c,dj a,show M.log2+64 - (M.log2+3)+1=62 by omega] at this
  exact this
def valF (N:Int):Nat:=aI N (-2148)
theorem th (N:Int):aI (sgM (decide (N<0)) (mant N.natAbs false)) (ko N.natAbs)=valF N:=by
 unfold valF
 by_cases a:N=0
 ·subst a;decide
 ·have b:N.natAbs≠0:=by omega
  have e:=Nat.two_pow_pos 64;have f:N.natAbs*2^64≠0:=by have:=Nat.mul_pos (show 0<N.natAbs by omega) e;omega
  have g:mant N.natAbs false≠0:=by
   unfold mant;rw [if_neg b];exact (cW false (by rw [dj b];omega) f).2
  have c:=AR b;unfold aI sgM
  by_cases d:N<0
  ·simp only [d,decide_true,if_true];rw [if_neg (by omega),if_pos (by omega),if_neg a,show (-(mant N.natAbs false:Int)).natAbs=mant N.natAbs false by omega,c]
  ·simp only [d,decide_false,Bool.false_eq_true,if_false];rw [if_neg (by omega),if_neg (by omega),if_neg a,show ((mant N.natAbs false:Nat):Int).natAbs=mant N.natAbs false by omega,c]
theorem pQ {x y a:Nat} (g:x≠0) (d:x<18446744073709551616) (f:y<18446744073709551616) (b:a=63 - x.log2) :
  x*2^a<18446744073709551616/\(x*2^a)||| (y / 2^(64 - a))=x*2^a+y / 2^(64 - a)/\x*2^a+y / 2^(64 - a)<18446744073709551616/\a<=63:=by
 have c:x*2^a<18446744073709551616:=by rw [b];exact uQ g d
 have e:=AQ (hi:=x) (show a<64 by omega) f
 rw [Nat.mod_eq_of_lt c] at e
 refine⟨c,e,?_,by omega⟩
 rw [<- e];exact Nat.or_lt_two_pow (n:=64) c (Nat.lt_of_le_of_lt (Nat.div_le_self _ _) f)
theorem EH {x y c T R M:Nat} {more:Bool} (G:x≠0) (D:x<18446744073709551616) (O:c=63 - x.log2) (j:M*2^64=(x*18446744073709551616+y)*2^(64*T)+R*2^64) (s:R*2^64<2^(64*T)) (C:y<18446744073709551616) :
  mant M more=(if (more=true\/R≠0)\/(x*2^c+y / 2^(64 - c)) % 4≠0\/y*2^c % 18446744073709551616≠0 then (if (x*2^c+y / 2^(64 - c)) / 4 % 2=1 then (x*2^c+y / 2^(64 - c)) / 4 else (x*2^c+y / 2^(64 - c)) / 4+1) else (x*2^c+y / 2^(64 - c)) / 4)/\ko M=64*(T:Int) - c+2+ -2148:=by
 have d:(2:Nat)^64=18446744073709551616:=rfl;rw [d] at j s
 have K:x.log2<64:=(Nat.log2_lt G).2 D;have W:c<=63:=by omega
 have B:(18446744073709551616:Nat)=2^c*2^(64 - c):=by rw [<- Nat.pow_add,show c+(64 - c)=64 by omega]
 obtain⟨Z,o⟩:∃ Z,Z=x*18446744073709551616+y:=⟨_,rfl⟩;rw [<- o] at j
 have F:=Nat.two_pow_pos (64 - c);have q:Z / 2^(64 - c)=x*2^c+y / 2^(64 - c):=by
  rw [o,B,<- Nat.mul_assoc,Nat.add_comm,Nat.add_mul_div_right _ _ F,Nat.add_comm]
 have w:Z % 2^(64 - c)=y % 2^(64 - c):=by
  rw [o,B,<- Nat.mul_assoc,Nat.add_comm,Nat.add_mul_mod_self_right]
 have k:M≠0:=by
  intro e;rw [e,Nat.zero_mul] at j
  have m:0<Z*2^(64*T):=Nat.mul_pos (by omega) (Nat.two_pow_pos _)
  omega
 have g:M.log2+3=64*T+(66 - c):=by
  have m:=dj k 64;rw [d] at m
  have l:(M*18446744073709551616).log2=x.log2+64+64*T:=by
   have a:=Nat.log2_self_le G;have b:x<2^(x.log2+1):=Nat.lt_log2_self;have L:x+1<=2^(x.log2+1):=b;have z:2^(x.log2+64)<=Z:=by
    rw [Nat.pow_add,o,d];exact Nat.le_trans (Nat.mul_le_mul_right _ a) (Nat.le_add_right _ _)
   have E:Z+1<=2^(x.log2+1+64):=by
    rw [Nat.pow_add,o,d];refine Nat.le_trans ?_ (Nat.mul_le_mul_right 18446744073709551616 L)
    rw [Nat.add_mul,Nat.one_mul,Nat.add_assoc];exact Nat.add_le_add_left (Nat.succ_le_of_lt C) _
   clear d;have V:=Nat.two_pow_pos (64*T);refine (Nat.log2_eq_iff ?_).2 ⟨?_,?_⟩
   ·have:=Nat.mul_pos (show 0<M by omega) (show 0<18446744073709551616 by decide);omega
   ·rw [j,Nat.pow_add];have:=Nat.mul_le_mul_right (2^(64*T)) z;omega
   ·rw [j,show x.log2+64+64*T+1=(x.log2+1+64)+64*T by omega,Nat.pow_add]
    have:=Nat.mul_le_mul_right (2^(64*T)) E;rw [Nat.add_mul,Nat.one_mul] at this
    omega
  omega
 have P:M*18446744073709551616 / 2^(M.log2+3)=(x*2^c+y / 2^(64 - c)) / 4:=by
  rw [g,Nat.pow_add,<- Nat.div_div_eq_div_mul,j,Nat.add_comm (Z*_),Nat.add_mul_div_right _ _ (Nat.two_pow_pos _),Nat.div_eq_of_lt s,Nat.zero_add,show 66 - c=(64 - c)+2 by omega,Nat.pow_add,<- Nat.div_div_eq_div_mul,q]
 have I:M*18446744073709551616 % 2^(M.log2+3)=0↔(R=0/\(x*2^c+y / 2^(64 - c)) % 4=0/\y*2^c % 18446744073709551616=0):=by
  rw [g,Nat.pow_add,Nat.mod_mul];have N:M*18446744073709551616 % 2^(64*T)=R*18446744073709551616:=by rw [j,Nat.add_comm (Z*_),Nat.add_mul_mod_self_right,Nat.mod_eq_of_lt s]
  have Q:M*18446744073709551616 / 2^(64*T)=Z:=by rw [j,Nat.add_comm (Z*_),Nat.add_mul_div_right _ _ (Nat.two_pow_pos _),Nat.div_eq_of_lt s,Nat.zero_add]
  rw [N,Q,show 66 - c=(64 - c)+2 by omega,Nat.pow_add,Nat.mod_mul,w,q]
  have S:y*2^c % 18446744073709551616=(y % 2^(64 - c))*2^c:=by
   rw [B,Nat.mul_comm y,Nat.mul_mod_mul_left,Nat.mul_comm]
  rw [S];have v:=Nat.two_pow_pos c;have A:=Nat.two_pow_pos (64*T);generalize y % 2^(64 - c)=r;generalize (x*2^c+y / 2^(64 - c))=J;rw [show (2:Nat)^2=4 from rfl]
  constructor
  ·intro h;obtain⟨m,l⟩:=Nat.add_eq_zero_iff.1 h;have u:R=0:=by
    rcases Nat.mul_eq_zero.1 m with f | f
    ·exact f
    ·exact absurd f (by decide)
   rcases Nat.mul_eq_zero.1 l with f | f
   ·exact absurd f (Nat.ne_of_gt A)
   ·obtain⟨i,t⟩:=Nat.add_eq_zero_iff.1 f;rcases Nat.mul_eq_zero.1 t with n | n
    ·exact absurd n (Nat.ne_of_gt F)
    ·exact⟨u,n,by rw [i,Nat.zero_mul]⟩
  ·rintro⟨rfl,l,f⟩;rcases Nat.mul_eq_zero.1 f with i | i
   ·rw [i,l];simp
   ·exact absurd i (Nat.ne_of_gt v)
 refine⟨?_,?_⟩
 ·unfold mant bO;rw [if_neg k,d,P]
  by_cases p:M*18446744073709551616 % 2^(M.log2+3)=0/\more=false
  ·rw [if_pos p];obtain⟨m,l,f⟩:=I.1 p.1;have i:¬ ((more=true\/R≠0)\/(x*2^c+y / 2^(64 - c)) % 4≠0\/y*2^c % 18446744073709551616≠0):=by
    rw [p.2];simp [m,l,f]
   rw [if_neg i]
  ·rw [if_neg p];have i:(more=true\/R≠0)\/(x*2^c+y / 2^(64 - c)) % 4≠0\/y*2^c % 18446744073709551616≠0:=by
    by_cases t:more=true
    ·exact Or.inl (Or.inl t)
    ·by_cases n:R=0
     ·by_cases H:(x*2^c+y / 2^(64 - c)) % 4=0
      ·refine Or.inr (Or.inr fun U=>p ⟨I.2 ⟨n,H,U⟩,by simpa using t⟩)
      ·exact Or.inr (Or.inl H)
     ·exact Or.inl (Or.inr n)
   rw [if_pos i]
 ·unfold ko;rw [if_neg k];omega
def vI (b:Nat):Int:=if b / 9223372036854775808 % 2==1 then -(V (b % 9223372036854775808):Int) else (V (b % 9223372036854775808):Int)
def sgZ (s:Bool) (n:Nat):Int:=if s then -(n:Int) else (n:Int)
theorem vh (s:Bool) (n k:Nat):sgZ s (n*k)=sgZ s n*k:=by
 unfold sgZ;cases s<;>simp [Int.neg_mul]
theorem tj (s:Bool) (m k:Nat):Ieee.signed s m k=sgZ s (m*2^k):=by
 unfold Ieee.signed sgZ;rw [Nat.shiftLeft_eq]
theorem gM (r:Nat):Ieee.double.word true r=9223372036854775808+r:=rfl
theorem im (r:Nat):Ieee.double.word false r=r:=rfl
def jc (s t:Bool) (T:Int):Nat:=if T=0 then (if s&&t then 9223372036854775808 else 0) else aI T (-1074)
theorem tl (s t:Bool) (m n p q:Nat) :
  ((Ieee.Datum.number s m (-1074+(p:Int))).sum (.number t n (-1074+(q:Int)))).map Ieee.double.write=some (jc s t (sgZ s (m*2^p)+sgZ t (n*2^q))):=by
 obtain⟨e,u⟩:∃ e,min p q=e:=⟨_,rfl⟩;have r:min (-1074+(p:Int)) (-1074+(q:Int))= -1074+(e:Int):=by omega
 have l:(-1074+(p:Int) - (-1074+(e:Int))).toNat=p - e:=by omega
 have k:(-1074+(q:Int) - (-1074+(e:Int))).toNat=q - e:=by omega
 obtain⟨T,f⟩:∃ T,sgZ s (m*2^(p - e))+sgZ t (n*2^(q - e))=T:=⟨_,rfl⟩;have d:sgZ s (m*2^p)+sgZ t (n*2^q)=T*((2^e:Nat):Int):=by
  rw [<- f,Int.add_mul,<- vh,<- vh,Nat.mul_assoc,Nat.mul_assoc,<- Nat.pow_add,<- Nat.pow_add,show p - e+e=p by omega,show q - e+e=q by omega]
 have b:((Ieee.Datum.number s m (-1074+(p:Int))).sum (.number t n (-1074+(q:Int)))).map Ieee.double.write=some (Ieee.double.nearest (if T=0 then s&&t else decide (T<0)) T.natAbs (-1074+(e:Int))):=by
  show some (Ieee.double.write (.number (if Ieee.signed s m (-1074+(p:Int) - min (-1074+(p:Int)) (-1074+(q:Int))).toNat+Ieee.signed t n (-1074+(q:Int) - min (-1074+(p:Int)) (-1074+(q:Int))).toNat=0 then s&&t else decide (Ieee.signed s m (-1074+(p:Int) - min (-1074+(p:Int)) (-1074+(q:Int))).toNat+Ieee.signed t n (-1074+(q:Int) - min (-1074+(p:Int)) (-1074+(q:Int))).toNat<0)) (Ieee.signed s m (-1074+(p:Int) - min (-1074+(p:Int)) (-1074+(q:Int))).toNat+Ieee.signed t n (-1074+(q:Int) - min (-1074+(p:Int)) (-1074+(q:Int))).toNat).natAbs (min (-1074+(p:Int)) (-1074+(q:Int)))))=_
  rw [r,l,k,tj,tj,f]
  rfl
 rw [b,d];have j:(0:Int)<((2^e:Nat):Int):=by have:=Nat.two_pow_pos e;omega
 unfold jc
 by_cases c:T=0
 ·subst c;rw [if_pos rfl,Int.zero_mul,if_pos rfl]
  show some (Ieee.double.nearest (s&&t) 0 _)=_
  rw [cG];cases s<;>cases t<;>rfl
 ·rw [if_neg c];have g:T*((2^e:Nat):Int)≠0:=Int.mul_ne_zero c (by omega)
  rw [if_neg g,bV _ (by omega)]
  have o:nearR (T*((2^e:Nat):Int)).natAbs (-1074)=nearR T.natAbs (-1074+(e:Int)):=by
   have:=bf (M:=T.natAbs) (by omega) e (-1074+(e:Int))
   rw [show -1074+(e:Int) - (e:Int)= -1074 by omega] at this
   rw [Int.natAbs_mul,Int.natAbs_natCast];exact this
  unfold aI;rw [if_neg g,o];have i:T*((2^e:Nat):Int)<0↔T<0:=by
   constructor
   ·intro h
    by_cases a:T<0
    ·exact a
    ·have:=Int.mul_nonneg (by omega:0<=T) (by omega:(0:Int)<=((2^e:Nat):Int));omega
   ·intro h;exact Int.mul_neg_of_neg_of_pos h j
  by_cases a:T<0
  ·rw [if_pos (i.2 a)];simp only [a,decide_true];rw [gM]
  ·rw [if_neg (fun h=>a (i.1 h))]
   simp only [a,decide_false];rw [im]
theorem tp (b:Nat):vI b=sgZ (b / 9223372036854775808 % 2==1) (mg (b % 9223372036854775808)*2^pl (b % 9223372036854775808)):=rfl
theorem lv {x y:Nat} (b:x % 9223372036854775808<9218868437227405312) (a:y % 9223372036854775808<9218868437227405312) :
  floatBits .add .f64 x y=some (jc (x / 9223372036854775808 % 2==1) (y / 9223372036854775808 % 2==1) (vI x+vI y)):=by
 show ((Ieee.double.read x).sum (Ieee.double.read y)).map Ieee.double.write=_
 rw [ax b,ax a,tl,tp,tp]
theorem oR {x y:Nat} (b:x % 9223372036854775808<9218868437227405312) (a:y % 9223372036854775808<9218868437227405312) :
  floatBits .sub .f64 x y=some (jc (x / 9223372036854775808 % 2==1) (!(y / 9223372036854775808 % 2==1)) (vI x - vI y)):=by
 show ((Ieee.double.read x).sum (Ieee.double.read y).opposite).map Ieee.double.write=_
 rw [ax b,ax a]
 show ((Ieee.Datum.number _ _ _).sum (Ieee.Datum.number _ _ _)).map Ieee.double.write=_
 rw [tl,tp,tp,Int.sub_eq_add_neg]
 congr 3
 unfold sgZ;cases (y / 9223372036854775808 % 2==1)<;>simp
def fi (m:Int):Nat:=aI m 0
theorem Mx:fi 0=0:=rfl
theorem My {K:Nat} (b:K=1074):V 4845873199050653696=9007199254740992*2^K:=by
 have a:mg 4845873199050653696=4503599627370496:=by decide
 have c:pl 4845873199050653696=K+1:=by rw [b];decide
 unfold V;rw [a,c,Nat.pow_succ];omega
theorem Is {m l k:Nat} (c:m.log2=l) (h:l<=52) (d:m*2^(52 - l)=k) (b:k<9007199254740992):nearR m 0=(l+1022)*4503599627370496+k:=by
 have a:ak m 0=(l:Int) - 52:=by unfold ak;rw [c];omega
 have g:(0 - ak m 0).toNat=52 - l:=by rw [a];omega
 have f:(ak m 0 - 0).toNat=0:=by rw [a];omega
 have e:(ak m 0+1074).toNat=l+1022:=by rw [a];omega
 unfold nearR;rw [g,f,e,d,fF];exact Nat.min_eq_left (by omega)
theorem QC {l k:Nat} (b:4503599627370496<=k) (a:k<9007199254740992):mg ((l+1022)*4503599627370496+k)=k/\pl ((l+1022)*4503599627370496+k)=l+1022:=by
 unfold mg pl;rw [if_neg (by omega)]
 omega
theorem Mz {m K:Nat} (r:K=1074) (s:0<m) (h:m<=9007199254740992):V (nearR m 0)=m*2^K/\nearR m 0<9218868437227405312:=by
 have c:m.log2<=53:=by
  have:m.log2<54:=(Nat.log2_lt (by omega)).2 (by omega)
  omega
 have a:=Nat.log2_self_le (show m≠0 by omega)
 have b:m<2^(m.log2+1):=Nat.lt_log2_self
 by_cases f:m.log2=53
 ·have q:m=9007199254740992:=by rw [f] at a;omega
  subst q;have e:nearR 9007199254740992 0=4845873199050653696:=by decide
  rw [e];exact⟨My r,by decide⟩
 ·obtain⟨l,p⟩:∃ l,m.log2=l:=⟨_,rfl⟩;rw [p] at a b c f
  have n:l<=52:=by omega
  obtain⟨k,g⟩:∃ k,m*2^(52 - l)=k:=⟨_,rfl⟩;have o:4503599627370496<=k:=by
   have:=Nat.mul_le_mul_right (2^(52 - l)) a;rw [<- Nat.pow_add,show l+(52 - l)=52 by omega,g] at this;exact this
  have d:k<9007199254740992:=by
   have:=Nat.mul_lt_mul_of_pos_right b (Nat.two_pow_pos (52 - l));rw [<- Nat.pow_add,show l+1+(52 - l)=53 by omega,g] at this;exact this
  rw [Is p n g d];obtain⟨i,j⟩:=QC (l:=l) o d;refine⟨?_,by omega⟩
  unfold V;rw [i,j,<- g,Nat.mul_assoc,<- Nat.pow_add,show 52 - l+(l+1022)=K by omega]
theorem nJ {m:Int} {K:Nat} (g:K=1074) (i: -9007199254740992<=m) (h:m<=9007199254740992):vI (fi m)=m*((2^K:Nat):Int)/\fi m % 9223372036854775808<9218868437227405312/\(fi m / 9223372036854775808 % 2==1)=decide (m<0)/\fi m<18446744073709551616:=by
 unfold fi aI
 by_cases f:m=0
 ·subst f;exact⟨by simp [vI,bp],by decide,by decide,by decide⟩
 ·rw [if_neg f];obtain⟨a,b⟩:=Mz (m:=m.natAbs) g (by omega) (by omega)
  by_cases d:m<0
  ·rw [if_pos d];have e:(9223372036854775808+nearR m.natAbs 0) % 9223372036854775808=nearR m.natAbs 0:=by omega
   have c:(9223372036854775808+nearR m.natAbs 0) / 9223372036854775808 % 2=1:=by omega
   refine⟨?_,by omega,by rw [c];simp [d],by omega⟩
   unfold vI;rw [e,c,a];simp only [beq_self_eq_true,if_true,Int.natCast_mul];rw [<- Int.neg_mul]
   congr 1;omega
  ·rw [if_neg d];have e:nearR m.natAbs 0 % 9223372036854775808=nearR m.natAbs 0:=by omega
   have c:nearR m.natAbs 0 / 9223372036854775808 % 2=0:=by omega
   refine⟨?_,by omega,by rw [c];simp [d],by omega⟩
   unfold vI;rw [e,c,a];simp only [show ((0:Nat)==1)=false from rfl,Bool.false_eq_true,if_false,Int.natCast_mul]
   congr 1;omega
def wrd (s:Bool) (r:Nat):Nat:=if s then 9223372036854775808+r else r
theorem io (s:Bool) (r:Nat):Ieee.double.word s r=wrd s r:=by cases s<;>rfl
def sB (x:Nat):Bool:=x / 9223372036854775808 % 2==1
def aV (x:Nat):Nat:=V (x % 9223372036854775808)
def ag (x:Nat):Prop:=x % 9223372036854775808<9218868437227405312
def mulR (s:Bool) (T:Nat):Nat:=if T=0 then wrd s 0 else wrd s (nearR T (-2148))
theorem EI (s:Bool) (m n p q:Nat) :
  Ieee.double.nearest s (m*n) (-1074+(p:Int)+(-1074+(q:Int)))=mulR s (m*2^p*(n*2^q)):=by
 have e:m*2^p*(n*2^q)=m*n*2^(p+q):=by rw [Nat.pow_add,Nat.mul_mul_mul_comm]
 rw [e];unfold mulR
 by_cases a:m*n=0
 ·rw [a,Nat.zero_mul,if_pos rfl,cG,io]
 ·have b:=Nat.two_pow_pos (p+q);have c:m*n*2^(p+q)≠0:=by have:=Nat.mul_pos (show 0<m*n by omega) b;omega
  rw [if_neg c,bV _ a,io];have:=bf a (p+q) (-1074+(p:Int)+(-1074+(q:Int)));rw [<- this]
  congr 2
  omega
theorem gg {x y:Nat} (b:ag x) (a:ag y):floatBits .mul .f64 x y=some (mulR (sB x^^sB y) (aV x*aV y)):=by
 show ((Ieee.double.read x).product (Ieee.double.read y)).map Ieee.double.write=_
 rw [ax b,ax a]
 show some (Ieee.double.nearest (_^^_) _ _)=_
 rw [EI];rfl
theorem It {n a d:Nat} (h:n<=a):rne n d<=rne a d:=by
 have f:n / 2^d<=a / 2^d:=Nat.div_le_div_right h;rcases Nat.lt_or_eq_of_le f with b | b
 ·have:=Hk n d;have e:a / 2^d<=rne a d:=by unfold rne;exact Nat.le_add_right _ _
  omega
 ·have g:=Nat.div_add_mod n (2^d);have i:=Nat.div_add_mod a (2^d);rw [b] at g
  have e:n % 2^d<=a % 2^d:=by omega
  unfold rne;rw [b]
  by_cases c:2^d<2*(n % 2^d)\/(2^d=2*(n % 2^d)/\a / 2^d % 2=1)
  ·rw [if_pos c,if_pos (by omega)];exact Nat.le_refl _
  ·rw [if_neg c];omega
theorem MA {m n:Nat} (h:m<=n):m.log2<=n.log2:=by
 by_cases c:m=0
 ·subst c;simp
 ·by_cases d:n.log2<m.log2
  ·have a:=Nat.log2_self_le c;have b:n<2^(n.log2+1):=Nat.lt_log2_self;have:2^(n.log2+1)<=2^m.log2:=Nat.pow_le_pow_right (by decide) d
   omega
  ·omega
def nK (M:Nat) (e:Int):Nat:=rne (M*2^(e - ak M e).toNat) (ak M e - e).toNat
theorem MB {M:Nat} {e:Int}:nK M e<=9007199254740992:=by
 unfold nK;have a:e+M.log2 - 52<=ak M e:=by unfold ak;omega
 generalize ak M e=L at a
 have b:M<2^(M.log2+1):=Nat.lt_log2_self;generalize M.log2=l at b a
 refine uR ?_
 have c:M*2^(e - L).toNat<2^(l+1)*2^(e - L).toNat:=Nat.mul_lt_mul_of_pos_right b (Nat.two_pow_pos _);refine Nat.lt_of_lt_of_le c ?_
 rw [show (9007199254740992:Nat)=2^53 from rfl,<- Nat.pow_add,<- Nat.pow_add]
 exact Nat.pow_le_pow_right (by decide) (by omega)
theorem MC {M:Nat} {e:Int} (c:M≠0) (h: -1074<ak M e):4503599627370496<=nK M e:=by
 unfold nK;have b:e+M.log2 - 52=ak M e:=by unfold ak at *;omega
 generalize ak M e=L at b h
 have a:=Nat.log2_self_le c;generalize M.log2=l at a b
 refine Nat.le_trans ?_ (Nat.le_add_right _ _)
 rw [Nat.le_div_iff_mul_le (Nat.two_pow_pos _),show (4503599627370496:Nat)=2^52 from rfl,<- Nat.pow_add]
 refine Nat.le_trans ?_ (Nat.mul_le_mul_right _ a)
 rw [<- Nat.pow_add];exact Nat.pow_le_pow_right (by decide) (by omega)
theorem kG (M:Nat) (e:Int):nearR M e=min ((ak M e+1074).toNat*4503599627370496+nK M e) 9218868437227405312:=rfl
theorem Iu {a c c' I:Nat} (h:c<=c'):min (a+c) I<=min (a+c') I:=by omega
theorem Iv {a a' c c' I:Nat} (h:a+1<=a') (d:c<=9007199254740992) (b:4503599627370496<=c'):min (a*4503599627370496+c) I<=min (a'*4503599627370496+c') I:=by omega
theorem bW {M a:Nat} (e:Int) (h:M<=a):nearR M e<=nearR a e:=by
 have j:=MA h;have k:ak M e<=ak a e:=by unfold ak;omega
 have i: -1074<=ak M e:=by unfold ak;omega
 rw [kG,kG]
 by_cases c:ak M e=ak a e
 ·have:nK M e<=nK a e:=by
   unfold nK;rw [c];exact It (Nat.mul_le_mul_right _ h)
  rw [c];exact Iu this
 ·have b:a≠0:=by
   intro b;subst b;have:M=0:=by omega
   subst this;exact c rfl
  have g:=MB (M:=M) (e:=e);have f:=MC (M:=a) (e:=e) b (by omega)
  have d:(ak M e+1074).toNat+1<=(ak a e+1074).toNat:=by omega
  exact Iv d g f
theorem ip {e:Int} (h:e<=-1022):nearR 0 e=0:=by
 have a:ak 0 e= -1074:=by unfold ak;simp;omega
 unfold nearR;rw [a,Nat.zero_mul,gG (by have:=Nat.two_pow_pos (-1074 - e).toNat;omega)];rfl
theorem jT {r:Nat} (h:r<9218868437227405312) (k:Nat):nearR (V r*2^k) (-1074 - (k:Int))=r:=by
 by_cases a:r=0
 ·subst a;rw [bp,Nat.zero_mul,ip (by omega)]
 ·have b:mg r≠0:=by
   unfold mg;split<;>omega
  have:=bf b (pl r+k) (-1074+(pl r:Int));rw [pB (by omega) h] at this
  have d:V r*2^k=mg r*2^(pl r+k):=by unfold V;rw [Nat.mul_assoc,<- Nat.pow_add]
  have c:(-1074 - (k:Int))= -1074+(pl r:Int) - ((pl r+k:Nat):Int):=by omega
  rw [d,c];exact this
theorem vj {T r k:Nat} (h:r<9218868437227405312) (a:T<=V r*2^k):nearR T (-1074 - (k:Int))<=r:=by
 have:=bW (-1074 - (k:Int)) a
 rwa [jT h] at this
theorem Dk {T r k:Nat} (h:r<9218868437227405312) (a:V r*2^k<=T):r<=nearR T (-1074 - (k:Int)):=by
 have:=bW (-1074 - (k:Int)) a
 rwa [jT h] at this
def Rep (A:Int):Prop:=∃ r,r<9218868437227405312/\A.natAbs=V r
theorem Rep.neg {A:Int} (h:Rep A):Rep (-A):=by obtain⟨r,a,b⟩:=h;exact⟨r,a,by rw [Int.natAbs_neg];exact b⟩
theorem Iw:Rep 0:=⟨0,by decide,by rw [bp];rfl⟩
def rI (k:Nat) (T:Int):Int:=if T<0 then -(V (nearR T.natAbs (-1074 - (k:Int))):Int) else (V (nearR T.natAbs (-1074 - (k:Int))):Int)
def AS (k:Nat) (T:Int):Prop:=nearR T.natAbs (-1074 - (k:Int))<9218868437227405312
theorem bg (A:Int) (k:Nat):(A*((2^k:Nat):Int)).natAbs=A.natAbs*2^k:=by rw [Int.natAbs_mul,Int.natAbs_natCast]
theorem lw {k:Nat} {T B:Int} (i:Rep B) (h:T<=B*((2^k:Nat):Int)):rI k T<=B:=by
 obtain⟨r,g,e⟩:=i;have d:(0:Int)<((2^k:Nat):Int):=by have:=Nat.two_pow_pos k;omega
 have c:=bg B k;unfold rI
 by_cases f:T<0
 ·rw [if_pos f]
  by_cases a:B<0
  ·have b:B*((2^k:Nat):Int)<0:=Int.mul_neg_of_neg_of_pos a d;have:=Dk (T:=T.natAbs) g (k:=k) (by rw [<- e,<- c];omega)
   have:=El this;omega
  ·omega
 ·rw [if_neg f];have a:0<=B:=by
   by_cases a:B<0
   ·have b:B*((2^k:Nat):Int)<0:=Int.mul_neg_of_neg_of_pos a d;omega
   ·omega
  have b:0<=B*((2^k:Nat):Int):=Int.mul_nonneg a (by omega)
  have:=vj (T:=T.natAbs) g (k:=k) (by rw [<- e,<- c];omega)
  have:=El this;omega
theorem Pa (k:Nat) (T:Int):rI k (-T)= -rI k T:=by
 unfold rI
 by_cases a:T=0
 ·subst a;have:V (nearR (0:Int).natAbs (-1074 - (k:Int)))=0:=by rw [Int.natAbs_zero,ip (by omega),bp]
  simp only [Int.neg_zero,this];simp
 ·rw [Int.natAbs_neg]
  by_cases h:T<0
  ·rw [if_pos h,if_neg (by omega)];omega
  ·rw [if_neg h,if_pos (by omega)]
theorem pR {k:Nat} {T A:Int} (a:Rep A) (h:A*((2^k:Nat):Int)<=T):A<=rI k T:=by
 have:=lw (k:=k) (T:=-T) a.neg (by rw [Int.neg_mul];omega)
 rw [Pa] at this;omega
theorem AT {k:Nat} {T A B:Int} (d:Rep A) (c:Rep B) (i:A*((2^k:Nat):Int)<=T) (h:T<=B*((2^k:Nat):Int)):AS k T:=by
 unfold AS;have g:(0:Int)<((2^k:Nat):Int):=by have:=Nat.two_pow_pos k;omega
 by_cases f:T<0
 ·obtain⟨r,a,e⟩:=d;have b:=bg A k;have:=vj (T:=T.natAbs) a (k:=k) (by rw [<- e,<- b];omega)
  omega
 ·obtain⟨r,a,e⟩:=c;have b:=bg B k;have:=vj (T:=T.natAbs) a (k:=k) (by rw [<- e,<- b];omega)
  omega
theorem iq (x:Nat):vI x=sgZ (sB x) (aV x):=rfl
theorem xt {a:Int} {K:Nat} (e:K=1074) (i: -9007199254740992<=a) (h:a<=9007199254740992):aV (fi a)=a.natAbs*2^K/\sB (fi a)=decide (a<0)/\ag (fi a)/\fi a<18446744073709551616:=by
 obtain⟨g,c,d,b⟩:=nJ e i h;refine⟨?_,d,c,b⟩
 have f:(vI (fi a)).natAbs=aV (fi a):=by
  rw [iq];unfold sgZ;cases sB (fi a)<;>simp
 rw [<- f,g,bg]
def P2 (k:Int):Nat:=nearR 1 k
theorem OC {k:Int} (b: -1022<=k) (c:k<=1023):P2 k=(k+1023).toNat*4503599627370496:=by
 unfold P2;have a:Nat.log2 1=0:=by decide
 rw [li (by decide) (by decide) (by rw [a];omega) (by rw [a];omega),a,show rne (1*2^(63 - 0)) 11=4503599627370496 by decide]
 omega
theorem Ix {k:Int} (d: -1022<=k) (c:k<=1023):ag (P2 k)/\sB (P2 k)=false/\P2 k<9218868437227405312/\mg (P2 k % 9223372036854775808)=4503599627370496/\pl (P2 k % 9223372036854775808)=(k+1022).toNat:=by
 rw [OC d c];obtain⟨n,f⟩:∃ n:Nat,(k+1023).toNat=n:=⟨_,rfl⟩;have b:k=(n:Int) - 1023:=by omega
 subst b;rw [f];have g:1<=n:=by omega
 have a:n<=2046:=by omega
 have e:n*4503599627370496 % 9223372036854775808=n*4503599627370496:=by omega
 refine⟨by unfold ag;omega,?_,by omega,?_,?_⟩
 ·unfold sB;rw [show n*4503599627370496 / 9223372036854775808=0 by omega];rfl
 ·rw [e];unfold mg;rw [if_neg (by omega)];omega
 ·rw [e];unfold pl;omega
theorem Pb {a b:Nat} (h:52+a=b):4503599627370496*2^a=2^b:=by
 subst h;have:=Nat.pow_add 2 52 a;rw [this]
theorem QD {k:Int} (d: -1022<=k) (c:k<=1023):aV (P2 k)=2^(k+1074).toNat:=by
 obtain⟨_,_,_,a,b⟩:=Ix d c;unfold aV V;rw [a,b];exact Pb (by omega)
theorem ME:P2 0=4607182418800017408:=by rw [OC (by decide) (by decide)];rfl
theorem Pc:fi 1=4607182418800017408:=by
 show aI 1 0=_
 exact ME
def gU (T p:Int):Int:=if T=0 then 0 else if T<0 then -(nearR T.natAbs p:Int) else (nearR T.natAbs p:Int)
theorem mS (M:Nat) (p:Int):nearR M p<=9218868437227405312:=Nat.min_le_right _ _
theorem eG {T a:Int} (p:Int) (h:T<=a):gU T p<=gU a p:=by
 unfold gU
 by_cases c:T=0
 ·rw [if_pos c]
  by_cases b:a=0
  ·rw [if_pos b];omega
  ·rw [if_neg b,if_neg (by omega)];omega
 ·rw [if_neg c]
  by_cases b:a=0
  ·rw [if_pos b,if_pos (by omega)];omega
  ·rw [if_neg b]
   by_cases s:T<0
   ·rw [if_pos s]
    by_cases d:a<0
    ·rw [if_pos d];have:=bW p (show a.natAbs<=T.natAbs by omega)
     omega
    ·rw [if_neg d];omega
   ·rw [if_neg s,if_neg (by omega)]
    have:=bW p (show T.natAbs<=a.natAbs by omega)
    omega
theorem vL (T p:Int):gU (-T) p= -gU T p:=by
 unfold gU
 by_cases a:T=0
 ·rw [if_pos a,if_pos (by omega)];rfl
 ·rw [if_neg a,if_neg (by omega),Int.natAbs_neg]
  by_cases s:T<0
  ·rw [if_pos s,if_neg (by omega)];omega
  ·rw [if_neg s,if_pos (by omega)]
def RkW (r:Nat) (k:Int):Prop:=ae (r:Int)=k/\r<18446744073709551616/\ah (r:Int)=false
theorem kP {r:Nat} (h:r<=9218868437227405312):RkW r (r:Int):=by
 have a:ah (r:Int)=false:=by unfold ah szI;rw [decide_eq_false_iff_not];omega
 have b:sgB (r:Int)=false:=by unfold sgB;rw [decide_eq_false_iff_not];omega
 refine⟨?_,by omega,a⟩
 rw [rank_pos a b];unfold szI;omega
theorem Bt {r q:Nat} (h:r<=9218868437227405312) (c:q=9223372036854775808+r):RkW q (-(r:Int)):=by
 have a:ah (q:Int)=false:=by unfold ah szI;rw [decide_eq_false_iff_not];omega
 have b:sgB (q:Int)=true:=by unfold sgB;rw [decide_eq_true_iff];omega
 refine⟨?_,by omega,a⟩
 unfold ae;rw [a,b];simp only [Bool.false_eq_true,if_false,if_true];unfold szI;omega
theorem DD:RkW 0 0:=kP (r:=0) (by omega)
theorem Jq:RkW 9223372036854775808 0:=Bt (r:=0) (by omega) (by omega)
theorem vM {s:Bool} {r:Nat} (h:r<=9218868437227405312):RkW (wrd s r) (sgZ s r):=by
 unfold wrd sgZ;cases s
 ·simp only [Bool.false_eq_true,if_false];exact kP h
 ·simp only [if_true];exact Bt h rfl
theorem Fk (T p:Int):RkW (aI T p) (gU T p):=by
 unfold aI gU
 by_cases a:T=0
 ·rw [if_pos a,if_pos a];exact DD
 ·rw [if_neg a,if_neg a];have b:=mS T.natAbs p;generalize nearR T.natAbs p=r at *
  by_cases s:T<0
  ·rw [if_pos s,if_pos s];exact Bt b rfl
  ·rw [if_neg s,if_neg s];exact kP b
theorem tF (s t:Bool) (T:Int):RkW (jc s t T) (gU T (-1074)):=by
 unfold jc
 by_cases a:T=0
 ·have e:gU T (-1074)=0:=by unfold gU;rw [if_pos a]
  rw [if_pos a,e];cases b:(s&&t)
  ·simp only [Bool.false_eq_true,if_false];exact DD
  ·simp only [if_true];exact Jq
 ·rw [if_neg a];exact Fk T _
theorem Fl (s:Bool) (T:Nat):RkW (mulR s T) (gU (sgZ s T) (-2148)):=by
 unfold mulR
 by_cases a:T=0
 ·have c:sgZ s T=0:=by unfold sgZ;rw [a];cases s<;>simp
  have e:gU (sgZ s T) (-2148)=0:=by unfold gU;rw [if_pos c]
  rw [if_pos a,e];have:=vM (s:=s) (r:=0) (by omega)
  have f:sgZ s 0=0:=by unfold sgZ;cases s<;>simp
  rw [f] at this
  exact this
 ·rw [if_neg a];have d:=mS T (-2148);have g:=vM (s:=s) d;have e:gU (sgZ s T) (-2148)=sgZ s (nearR T (-2148)):=by
   unfold gU sgZ;generalize b:nearR T (-2148)=M;cases s
   ·simp only [Bool.false_eq_true,if_false];rw [if_neg (by omega),if_neg (by omega),Int.natAbs_natCast,b]
   ·simp only [if_true];rw [if_neg (by omega),if_pos (by omega),Int.natAbs_neg,Int.natAbs_natCast,b]
  rw [e];exact g
theorem kz (x:Nat):vI x=sgZ (sB x) (aV x):=rfl
theorem Fm (s t:Bool) (m n:Nat):sgZ s m*sgZ t n=sgZ (s^^t) (m*n):=by
 unfold sgZ;cases s<;>cases t<;>simp [Int.neg_mul,Int.mul_neg]
theorem fS {x y:Nat} (b:ag x) (a:ag y):∃ r,floatBits .add .f64 x y=some r/\RkW r (gU (vI x+vI y) (-1074)):=⟨_,lv b a,tF _ _ _⟩
theorem jr {x y:Nat} (b:ag x) (a:ag y):∃ r,floatBits .sub .f64 x y=some r/\RkW r (gU (vI x - vI y) (-1074)):=⟨_,oR b a,tF _ _ _⟩
theorem js {x y:Nat} (b:ag x) (a:ag y):∃ r,floatBits .mul .f64 x y=some r/\RkW r (gU (vI x*vI y) (-2148)):=by
 refine⟨_,gg b a,?_⟩
 rw [kz x,kz y,Fm];exact Fl _ _
theorem iH {x:Nat} (h:ag x):ah (x:Int)=false:=by unfold ag at h;unfold ah szI;rw [decide_eq_false_iff_not];omega
theorem nR {a b:Nat} (i:ag a) (f:ag b) (c:a<18446744073709551616) (d:b<18446744073709551616):ae a<ae b↔vI a<vI b:=by
 rw [<- cb c (iH i),<- cb d (iH f)];have j:vI a=sgZ (a / 9223372036854775808 % 2==1) (V (a % 9223372036854775808)):=rfl;have h:vI b=sgZ (b / 9223372036854775808 % 2==1) (V (b % 9223372036854775808)):=rfl;rw [j,h];generalize a % 9223372036854775808=r at *
 generalize b % 9223372036854775808=s at *
 generalize (a / 9223372036854775808 % 2==1)=p at *
 generalize (b / 9223372036854775808 % 2==1)=q at *
 have l:=cN (r:=r) (s:=s);have k:=cN (r:=s) (s:=r);have g:=cN (r:=0) (s:=s);have e:=cN (r:=0) (s:=r);rw [bp] at g e
 unfold sgn sgZ;cases p<;>cases q<;>simp only [Bool.false_eq_true,if_true,if_false] at* <;>omega
theorem cE {a b:Nat} (f:ag a) (e:ag b) (c:a<18446744073709551616) (d:b<18446744073709551616):ae a<=ae b↔vI a<=vI b:=by
 have:=nR e f d c;omega
theorem yg {r:Nat} {k:Int} (h:RkW r k) (c: -9218868437227405312<k) (d:k<9218868437227405312):ag r:=by
 obtain⟨e,a,b⟩:=h;rw [<- cb a b] at e
 unfold ag;unfold sgn at e
 generalize (r / 9223372036854775808 % 2==1)=p at *
 cases p<;>simp only [Bool.false_eq_true,if_true,if_false] at e<;>omega
end Go.Proofs.YtfdddijdjpijbaaGreat
