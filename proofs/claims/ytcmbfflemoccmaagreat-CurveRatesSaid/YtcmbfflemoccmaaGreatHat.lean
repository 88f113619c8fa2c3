/-  -/
import Derived.Test.YtcmbfflemoccmaaGreatHar
import Derived.Deep.OwnRows
import Derived.Test.YtcmbfflemoccmaaGreatHas
import Derived.Test.YtcmbfflemoccmaaGreatHah
import Derived.Test.YtcmbfflemoccmaaGreatFlt
namespace Go.Proofs.YtcmbfflemoccmaaGreat
open Go.RowKit

theorem dW:(Tryz.prog.info? 51).map (fun i=>(i.zero,i.size,i.bytes))=some (some (.int .u64 0),1,8):=by kernel_rfl

set_option maxHeartbeats 400000 in
theorem vF (p:Option Addr) (c:Nat) (n:Int) (w:World) :
  Calls Tryz.prog 109 #[.slice p 0 c,.int .i64 n] w fun e w'=>e=.returned (.slice none 0 0)∧w'=w:=by
 go_enter Tryz.func109,Tryz.ntmps109
 go_wp2
 go_ret
 exact⟨rfl,rfl⟩

def Own (w:World) (b n M:Nat):Prop:=w.rowIs b 51 n (fun i=>.int .u64 (dgt M i:Int))
theorem Own.row {w:World} {b n M:Nat} (h:Own w b n M):RowIs w b n M:=fun _ hi=>h.cell hi
theorem oA (w:World) (n:Nat):Own (w.alloc (.cells (madeCells #[.int .u64 0] n) 51)) w.heap.size n 0:=
 (World.rowIs_made w (.int .u64 0) n 51).congr (fun i _=>by rw [vD];rfl)

theorem zo {w:World} {b L N q r k n D X:Nat} (h:Own w b L ((N % 2^(32*k))*2^n)) (hn:n=32*q+r) (hr:r<32) (hD:D=dgt N k) (hX:X=D*2^r) (_hL:k+q+1<L) :
  Own ((w.setCell ⟨b,k+q,none⟩ (.int .u64 ((dgt ((N % 2^(32*k))*2^n) (k+q):Int)+(X:Int) % 4294967296))).setCell ⟨b,k+q+1,none⟩ (.int .u64 ((X:Int) / 4294967296))) b L ((N % 2^(32*(k+1)))*2^n):=by
 have h2:=(h.set (k+q) (.int .u64 ((dgt ((N % 2^(32*k))*2^n) (k+q):Int)+(X:Int) % 4294967296))).set (k+q+1) (.int .u64 ((X:Int) / 4294967296))
 refine h2.congr fun j _=>?_
 have hM:N % 2^(32*k)*2^n<2^r*2^(32*(k+q)):=by
  have h1:N % 2^(32*k)<2^(32*k):=Nat.mod_lt _ (Nat.two_pow_pos _)
  have e:2^r*2^(32*(k+q))=2^(32*k)*2^n:=by rw [← Nat.pow_add,← Nat.pow_add];congr 1;omega
  rw [e];exact Nat.mul_lt_mul_of_pos_right h1 (Nat.two_pow_pos _)
 have hx63:X<2^63:=by
  have h1:=bg N k
  have h3:(2:Nat)^r≤2^31:=Nat.pow_le_pow_right (by decide) (by omega)
  rw [hX,hD]
  calc dgt N k*2^r≤dgt N k*2^31:=Nat.mul_le_mul_left _ h3
   _<2^63:=by omega
 have es:N % 2^(32*(k+1))*2^n=N % 2^(32*k)*2^n+X*2^(32*(k+q)):=by
  rw [fw,Nat.add_mul,hX,hD]
  congr 1
  rw [Nat.mul_assoc,Nat.mul_assoc,← Nat.pow_add,← Nat.pow_add];congr 2;omega
 have key:=LY (j:=j) hM hx63 (by rw [hX,Nat.mul_mod_left]) (by omega)
 rw [← es] at key
 rw [key]
 by_cases c1:j=k+q+1
 ·rw [if_pos c1,if_neg (by omega),if_neg (by omega),if_pos c1];congr 1
 ·rw [if_neg c1]
  by_cases c2:j=k+q
  ·rw [if_pos c2,if_neg (by omega),if_pos c2];congr 1
  ·rw [if_neg c2]
   by_cases c3:j<k+q
   ·rw [if_pos c3]
   ·rw [if_neg c3,if_neg c2,if_neg c1]
    rw [lU]
    refine Nat.lt_of_lt_of_le hM ?_
    rw [← Nat.pow_add];exact Nat.pow_le_pow_right (by decide) (by omega)

set_option maxRecDepth 10000 in
set_option maxHeartbeats 800000 in
theorem vG (g c N m n q r:Nat) (w:World) (hm:1≤m) (hm':m≤10000000) (hn:n≤100000000) (hq:(n:Int) / 32=q) (hr:(n:Int) % 32=r) (hrow:Hid (RowIs w g m N)) (hg:g<w.heap.size) (hN:Hid (N<2^(32*m))) :
  Calls Tryz.prog 109 #[.slice (some ⟨g,0,none⟩) m c,.int .i64 n] w fun e w'=>∃ v,e=.returned v∧DN w' v (N*2^n)∧From w.heap.size v∧Below w.heap.size w w':=by
 have hq1:q≤3125000:=by omega
 have hr1:r<32:=by omega
 have HN:Hid (n=32*q+r):=by show _=_;omega
 have hmk:=fun w=>run_make_row' (P:=Tryz.prog) 30 51 (.int .u64 0) 8 Tryz.underlying30 dW rfl .i64 .i64 (m+q+1) (by omega) (by omega) w
 have ec:((m+q+1:Nat):Int)=(m:Int)+(q:Int)+1:=by omega
 rw [ec] at hmk
 clear ec
 have HO:=aa (oA w (m+q+1))
 go_enter Tryz.func109,Tryz.ntmps109
 go_wp2
 go_loopw [6] (fun i wr=>∃ k:Nat,k≤m∧i=.int .i64 k∧Hid (Own wr w.heap.size (m+q+1) ((N % 2^(32*k))*2^n))∧Hid (Below w.heap.size w wr)) (fun i _=>m - (intOf i).toNat)
 case atStart=>exact⟨0,Nat.zero_le _,rfl,by rw [Nat.mul_zero,Nat.pow_zero,Nat.mod_one,Nat.zero_mul];exact HO,(Below.refl _ _).alloc (Nat.le_refl _) _⟩
 case round=>
  clear HO hmk
  obtain⟨k,hk,rfl,HOwn,HB⟩:=hrel
  by_cases hlt:k<m
  ·have hc:wr.cell? ⟨g,k,none⟩=some (.int .u64 (dgt N k:Int)):=(HB.out.cell (p:=⟨g,k,none⟩) hg).trans (hrow.out k hlt)
   have h1:=HOwn.out.cell (i:=k+q) (by omega)
   have h2:=HOwn.out.cell (i:=k+q+1) (by omega)
   have f1:=HOwn.out.frozen (k+q)
   have f2:=HOwn.out.frozen (k+q+1)
   have b1:=bg ((N % 2^(32*k))*2^n) (k+q)
   have b2:=bg N k
   have HS:=fun D X (hD:D=dgt N k) (hX:X=D*2^r)=>zo HOwn.out HN.out hr1 hD hX (by omega)
   have HS:=aa HS
   generalize hA:dgt ((N % 2^(32*k))*2^n) (k+q)=A at h1 b1 HS
   generalize hE:dgt ((N % 2^(32*k))*2^n) (k+q+1)=E at h2
   generalize hD:dgt N k=D at hc b2
   have HD:=aa hD
   clear hA hE hD
   have hX:IntKind.u64.wrap ((D:Int)*2^r)=((D*2^r:Nat):Int):=by
    have e1:((D:Int)*2^r)=((D*2^r:Nat):Int):=by rw [Int.natCast_mul,Int.natCast_pow];rfl
    have h3:(2:Nat)^r≤2^31:=Nat.pow_le_pow_right (by decide) (by omega)
    have h4:D*2^r≤D*2^31:=Nat.mul_le_mul_left _ h3
    rw [e1,IntKind.wrap_u64];omega
   have hXb:D*2^r<9223372036854775808:=by
    have h3:(2:Nat)^r≤2^31:=Nat.pow_le_pow_right (by decide) (by omega)
    have h4:D*2^r≤D*2^31:=Nat.mul_le_mul_left _ h3
    omega
   generalize hXX:D*2^r=X at hX hXb
   have HXX:=aa hXX
   clear hXX
   go_wp2
   go_roundw
   case rel=>exact⟨k+1,by omega,by go_num,HS.out D X HD.out.symm HXX.out.symm,(HB.out.setCell (Nat.le_refl _) _).setCell (Nat.le_refl _) _⟩
   case measure=>simp [intOf];omega
  ·obtain rfl:k=m:=by omega
   have e:N % 2^(32*k)=N:=Nat.mod_eq_of_lt hN.out
   rw [e] at HOwn
   have hM:Hid (N*2^n<2^(32*(k+q+1))):=by
    show _<_
    have h1:N*2^n<2^(32*k)*2^n:=Nat.mul_lt_mul_of_pos_right hN.out (Nat.two_pow_pos _)
    rw [← Nat.pow_add] at h1
    refine Nat.lt_of_lt_of_le h1 (Nat.pow_le_pow_right (by decide) ?_)
    have:=HN.out;omega
   have hlt2:=HOwn.out.lt
   have HD:=aa (mK HOwn.out.row hM.out (Nat.le_refl _) hlt2)
   clear e
   go_wp2_with fail
   refine (dm _ _ _ _ _ HOwn.out.row hM.out (Nat.le_refl _) (by omega)).mono ?_
   rintro e w' ⟨rfl,rfl⟩
   go_wp2_with fail
   go_ret
   exact⟨_,rfl,HD.out,gT _ _ _ _ (Nat.le_refl _),HB.out⟩

theorem iS (v:Value) (N n:Nat) (w:World) (h:DN w v N) (hb:nd N≤10000000) (hn:n≤100000000) :
  Calls Tryz.prog 109 #[v,.int .i64 n] w fun e w'=>∃ v,e=.returned v∧DN w' v (N*2^n)∧From w.heap.size v∧Below w.heap.size w w':=by
 rcases h with⟨h0,p,c,rfl⟩| ⟨h0,g,c,rfl,hc,hg,hr⟩
 ·refine (vF p c n w).mono ?_
  rintro e w' ⟨rfl,rfl⟩
  exact⟨_,rfl,Or.inl ⟨by rw [h0,Nat.zero_mul],none,0,rfl⟩,iR _,Below.refl _ _⟩
 ·exact vG g c N (nd N) n (n / 32) (n % 32) w (dl h0) hb hn (by omega) (by omega) hr hg (cV N)
theorem mL (v:Value) (N n:Nat) (w:World) (h:DN w v N) (hb:nd N≤10000000) (hn:n≤100000000) :
  Calls Tryz.prog 109 #[v,.int .i64 n] w fun e w'=>∃ v,e=.returned v∧DN w' v (N*2^n)∧Below w.heap.size w w':=
 (iS v N n w h hb hn).mono fun _ _ ⟨v,a,b,_,d⟩=>⟨v,a,b,d⟩

end Go.Proofs.YtcmbfflemoccmaaGreat
namespace Go.Proofs.YtcmbfflemoccmaaGreat
open Go.RowKit

def hU (x y:Nat) (w:World):Nat:=(Question.nanBits .f64 x y).cut (w.tape w.drawn (.nanBits .f64 x y))
theorem ie (x y:Nat) (w:World):ah (hU x y w)=true∧hU x y w<18446744073709551616:=by
 unfold hU
 generalize w.tape w.drawn (.nanBits .f64 x y)=t
 show ah (((t % 2)*2^63+0x7ff0000000000000+1+(t / 2) % (2^52 - 1):Nat):Int)=true∧((t % 2)*2^63+0x7ff0000000000000+1+(t / 2) % (2^52 - 1):Nat)<_
 have h1:t % 2<2:=Nat.mod_lt _ (by decide)
 have h2:(t / 2) % (2^52 - 1)<2^52 - 1:=Nat.mod_lt _ (by decide)
 generalize t % 2=a at *
 generalize (t / 2) % (2^52 - 1)=b at *
 unfold ah szI
 refine⟨?_,by omega⟩
 rw [decide_eq_true_eq];omega
theorem dS {P:Program} (op:BinOp) (ho:op=.add∨op=.sub∨op=.mul∨op=.quo) (t:TypeId) (x y:Nat) (h:floatBits op .f64 x y=none) (w:World):(binOp op t (.float .f64 x) (.float .f64 y)).run P w=.ok (.float .f64 (hU x y w)) w.drew:=by
 rcases ho with rfl | rfl | rfl | rfl<;>unfold floatBits at h<;>simp only at h<;>simp [binOp,Op.floatArith,h,Question.forced,hU]
theorem dX {op:BinOp} {x y:Nat} (h:ah x=true):floatBits op .f64 x y=none:=by
 obtain⟨f,e⟩:=kC (kD h)
 unfold floatBits
 cases op<;>dsimp only<;>first | rfl | skip
 ·show ((Ieee.double.read x).sum (Ieee.double.read y)).map Ieee.double.write=_;rw [e];rfl
 ·show ((Ieee.double.read x).sum (Ieee.double.read y).opposite).map Ieee.double.write=_;rw [e];rfl
 ·show ((Ieee.double.read x).product (Ieee.double.read y)).map Ieee.double.write=_;rw [e];rfl
 ·show ((Ieee.double.read x).quotient 54 (Ieee.double.read y)).map Ieee.double.write=_;rw [e];rfl
theorem eX {op:BinOp} {x y:Nat} (h:ah y=true):floatBits op .f64 x y=none:=by
 obtain⟨f,e⟩:=kC (kD h)
 unfold floatBits
 cases op<;>dsimp only<;>first | rfl | skip
 ·show ((Ieee.double.read x).sum (Ieee.double.read y)).map Ieee.double.write=_;rw [e];cases Ieee.double.read x<;>rfl
 ·show ((Ieee.double.read x).sum (Ieee.double.read y).opposite).map Ieee.double.write=_;rw [e];cases Ieee.double.read x<;>rfl
 ·show ((Ieee.double.read x).product (Ieee.double.read y)).map Ieee.double.write=_;rw [e];cases Ieee.double.read x<;>rfl
 ·show ((Ieee.double.read x).quotient 54 (Ieee.double.read y)).map Ieee.double.write=_;rw [e];cases Ieee.double.read x<;>rfl

def Ag (o:Option Nat) (b:Nat):Prop:=match o with | some r=>b=r | none=>ah b=true∧b<18446744073709551616
theorem bC {r b:Nat} (h:Ag (some r) b):b=r:=h
theorem cg {b:Nat} (h:Ag none b):ah b=true∧b<18446744073709551616:=h
def fX (x:Nat) (p:Option Nat) (c:Nat):Option Nat:=(p.bind fun p=>floatBits .mul .f64 p x).bind fun q=>floatBits .add .f64 q c
def hornAt (cs:List Nat) (x:Nat):Nat→Option Nat
 | 0=>some (cs.getD (cs.length - 1) 0)
 | i+1=>fX x (hornAt cs x i) (cs.getD (cs.length - 2 - i) 0)
def aX (cs:List Nat) (x:Nat):Option Nat:=if cs.length=0 then some 0 else hornAt cs x (cs.length - 1)

theorem Kc {o:Option Nat} {a:Nat} (h:Ag o a) (op:BinOp) (x:Nat):(o.bind fun p=>floatBits op .f64 p x)=floatBits op .f64 a x:=by
 cases o with
 | some r=>rw [bC h];rfl
 | none=>rw [dX (cg h).1];rfl
theorem Ga {o:Option Nat} {a:Nat} (h:Ag o a) (x y:Nat):fX x o y=(floatBits .mul .f64 a x).bind fun q=>floatBits .add .f64 q y:=by
 unfold fX;rw [Kc h]
theorem oQ {w wr:World} (h:∃ q,wr=w.drewN q):∃ q,wr.drew=w.drewN q:=by
 obtain⟨q,e⟩:=h;exact⟨q+1,by rw [e];rfl⟩

set_option maxHeartbeats 800000 in
theorem oR (p:Option Addr) (g off c x n:Nat) (cs:List Nat) (w:World) (hs:Src w p g off cs) (hN:cs.length=n) (hn:n≤1000000) :
  Calls Tryz.prog 161 #[.slice p n c,.float .f64 x] w fun e w'=>∃ r,e=.returned (.float .f64 r)∧Ag (aX cs x) r∧∃ q,w'=w.drewN q:=by
 have HS:=hideS hs
 have HN:=hideS hN
 by_cases h0:n=0
 ·subst h0
  have HR:Hid (aX cs x=some 0):=by show _=_;unfold aX;rw [if_pos hN]
  clear hs hN HS HN
  go_enter Tryz.func161,Tryz.ntmps161
  go_wp2
  go_ret
  exact⟨_,rfl,by rw [HR.out];rfl,0,rfl⟩
 obtain⟨m,rfl⟩:∃ m,n=m+1:=⟨n - 1,by omega⟩
 obtain rfl:=hs.at_ (by omega)
 have hc0:=hs.cell m (by omega)
 have HR:Hid (aX cs x=hornAt cs x m):=by show _=_;unfold aX;rw [if_neg (by omega),hN];rfl
 have HA0:Hid (hornAt cs x 0=some (cs.getD m 0)):=by show _=_;unfold hornAt;rw [hN];rfl
 have HA1:Hid (∀ i,hornAt cs x (i+1)=fX x (hornAt cs x i) (cs.getD (m - 1 - i) 0)):=fun i=>by
  show fX x (hornAt cs x i) (cs.getD (cs.length - 2 - i) 0)=_
  rw [hN];rfl
 generalize cs.getD m 0=p0 at hc0 HA0
 clear hs hN h0
 go_enter Tryz.func161,Tryz.ntmps161
 go_wp2_with fail
 go_loopw [6,19] (fun s i wr=>∃ k a:Nat,k≤m∧i=.int .i64 k∧s=.float .f64 a∧Hid (Ag (hornAt cs x k) a)∧Hid (∃ q,wr=w.drewN q)) (fun _ i _=>m - (intOf i).toNat)
 case atStart=>exact⟨0,p0,Nat.zero_le _,rfl,rfl,by rw [HA0.out];rfl,⟨0,rfl⟩⟩
 case round=>
  obtain⟨k,a,hk,rfl,rfl,HA,HQ⟩:=hrel
  by_cases hlt:k<m
  ·have hcx:wr.cell? ⟨g,off+(m - 1 - k),none⟩=some (.float .f64 (cs.getD (m - 1 - k) 0)):=by
    obtain⟨q,e⟩:=HQ.out
    rw [e];exact HS.out.cell (m - 1 - k) (by rw [HN.out];omega)
   have HA2:=hideS (HA1.out k)
   obtain⟨j,hj⟩:∃ j:Nat,m - 1 - k=j:=⟨_,rfl⟩
   have hj2:(m:Int) - 1 - k=j:=by omega
   rw [hj] at hcx HA2
   clear hj
   generalize cs.getD j 0=y at hcx HA2
   rw [Ga HA.out] at HA2
   clear HA HA1 HA0
   cases hq:floatBits .mul .f64 a x with
   | some q=>
    have r1:=fun w=>run_float_arith (P:=Tryz.prog) w .mul 38 .f64 a x q hq
    cases hr:floatBits .add .f64 q y with
    | some r=>
     have r2:=fun w=>run_float_arith (P:=Tryz.prog) w .add 38 .f64 q y r hr
     have HE:Hid (Ag (hornAt cs x (k+1)) r):=by rw [HA2.out,hq];show Ag (floatBits .add .f64 q y) r;rw [hr];rfl
     clear hq hr HA2
     go_wp2
     go_roundw
     case rel=>exact⟨k+1,r,by omega,by simp,rfl,HE,HQ⟩
     case measure=>simp [intOf];omega
    | none=>
     have r2:=dS (P:=Tryz.prog) .add (by simp) 38 q y hr
     have HE:Hid (∀ z,Ag (hornAt cs x (k+1)) (hU q y z)):=fun z=>by rw [HA2.out,hq];show Ag (floatBits .add .f64 q y) _;rw [hr];exact ie q y z
     clear hq hr HA2
     go_wp2
     go_roundw
     case rel=>exact⟨k+1,_,by omega,by simp,rfl,HE.out _,oQ HQ.out⟩
     case measure=>simp [intOf];omega
   | none=>
    have r1:=dS (P:=Tryz.prog) .mul (by simp) 38 a x hq
    have r2:=fun z=>dS (P:=Tryz.prog) .add (by simp) 38 (hU a x z) y (dX (ie a x z).1)
    have HE:Hid (∀ z z',Ag (hornAt cs x (k+1)) (hU (hU a x z) y z')):=fun z z'=>by rw [HA2.out,hq];exact ie _ y z'
    clear hq HA2
    go_wp2
    go_roundw
    case rel=>exact⟨k+1,_,by omega,by simp,rfl,HE.out _ _,oQ (oQ HQ.out)⟩
    case measure=>simp [intOf];omega
  ·obtain rfl:k=m:=by omega
   go_wp2
   go_ret
   exact⟨_,rfl,by rw [HR.out];exact HA.out,HQ.out⟩
end Go.Proofs.YtcmbfflemoccmaaGreat
namespace Go.Proofs.YtcmbfflemoccmaaGreat
open Go.RowKit

def dx (v a b:Int):Int:=
 if ltB b a then (if ltB v b then b else if ltB a v then a else v)
 else if ltB a b then (if ltB v a then a else if ltB b v then b else v)
 else (if ltB v a then a else if ltB a v then a else v)
set_option maxHeartbeats 1600000 in
theorem Gm (v a b:Int) (w:World) (hv:U64 v) (ha:U64 a) (hb:U64 b) :
  Calls Tryz.prog 63 #[.int .u64 v,.int .u64 a,.int .u64 b] w fun e w'=>e=.returned (.int .u64 (dx v a b))∧w'=w:=by
 have HL:=hideS fun (x y:Int) (wx:World) (hx:U64 x) (hy:U64 y)=>eR x y wx hx hy
 unfold dx
 cases h1:ltB b a
 ·cases h2:ltB a b
  ·cases h3:ltB v a<;>cases h4:ltB a v
   all_goals
    go_enter Tryz.func63,Tryz.ntmps63
    go_wp2_with (go_at_call 32;refine (HL.out _ _ _ (by assumption) (by assumption)).mono ?_;rintro e w' ⟨rfl,rfl⟩)
    go_ret
    exact⟨rfl,rfl⟩
  ·cases h3:ltB v a<;>cases h4:ltB b v
   all_goals
    go_enter Tryz.func63,Tryz.ntmps63
    go_wp2_with (go_at_call 32;refine (HL.out _ _ _ (by assumption) (by assumption)).mono ?_;rintro e w' ⟨rfl,rfl⟩)
    go_ret
    exact⟨rfl,rfl⟩
 ·cases h3:ltB v b<;>cases h4:ltB a v
  all_goals
   go_enter Tryz.func63,Tryz.ntmps63
   go_wp2_with (go_at_call 32;refine (HL.out _ _ _ (by assumption) (by assumption)).mono ?_;rintro e w' ⟨rfl,rfl⟩)
   go_ret
   exact⟨rfl,rfl⟩
theorem wH {v a b:Int} (hv:U64 v) (ha:U64 a) (hb:U64 b):U64 (dx v a b):=by
 unfold dx
 (repeat' split)<;>assumption
theorem aB {u v:Int} (hu:ah u=false) (hv:ah v=false):ltB u v=decide (ae u<ae v):=by
 unfold ltB
 rw [hu,hv];simp
theorem Kp {v a b:Int} (hv:ah v=false) (ha:ah a=false) (hb:ah b=false) (h:ae a≤ae b):ah (dx v a b)=false∧ae a≤ae (dx v a b)∧ae (dx v a b)≤ae b:=by
 unfold dx
 rw [aB hb ha,aB hv hb,aB ha hv,aB ha hb,aB hv ha,aB hb hv]
 simp only [decide_eq_true_eq]
 rw [if_neg (by omega)]
 (repeat' split)<;>exact⟨by assumption,by omega,by omega⟩
theorem Dm {v a b:Int} (hv:ah v=false) (ha:ah a=false) (hb:ah b=false) (h:ae b≤ae a):ah (dx v a b)=false∧ae b≤ae (dx v a b)∧ae (dx v a b)≤ae a:=by
 unfold dx
 rw [aB hb ha,aB hv hb,aB ha hv,aB ha hb,aB hv ha,aB hb hv]
 simp only [decide_eq_true_eq]
 (repeat' split)<;>exact⟨by assumption,by omega,by omega⟩
end Go.Proofs.YtcmbfflemoccmaaGreat
namespace Go.Proofs.YtcmbfflemoccmaaGreat
open Go.RowKit

def opO (op:BinOp) (a b:Option Nat):Option Nat:=a.bind fun a=>b.bind fun b=>floatBits op .f64 a b
theorem fK {op:BinOp} {o o':Option Nat} {a c:Nat} (h:Ag o a) (h':Ag o' c):opO op o o'=floatBits op .f64 a c:=by
 unfold opO
 cases o with
 | none=>rw [dX (cg h).1];rfl
 | some r=>
  rw [bC h]
  cases o' with
  | none=>rw [eX (cg h').1];rfl
  | some r'=>rw [bC h'];rfl
theorem cZ (op:BinOp) (ho:op=.add∨op=.sub∨op=.mul∨op=.quo) (t:TypeId) (a c:Nat) (w:World):∃ r,(∃ q,(binOp op t (.float .f64 a) (.float .f64 c)).run Tryz.prog w=.ok (.float .f64 r) (w.drewN q))∧Ag (floatBits op .f64 a c) r:=by
 cases h:floatBits op .f64 a c with
 | some r=>exact⟨r,⟨0,run_float_arith (P:=Tryz.prog) w op t .f64 a c r h⟩,rfl⟩
 | none=>exact⟨_,⟨1,dS (P:=Tryz.prog) op ho t a c h w⟩,ie a c w⟩
end Go.Proofs.YtcmbfflemoccmaaGreat
namespace Go.Proofs.YtcmbfflemoccmaaGreat
open Go.RowKit

theorem cD (w:World) (kind:Int) (vx vy:Value):TBox w kind vx vy (w.alloc (.cells #[.int .i64 kind,vx,vy] 73)):=
 ⟨by simp,by simp,by simp,(Below.refl _ _).alloc (Nat.le_refl _) _,by simp⟩

end Go.Proofs.YtcmbfflemoccmaaGreat
namespace Go.Proofs.YtcmbfflemoccmaaGreat
open Go.RowKit

theorem bt (m:Int):floatOfInt .f64 m=fi m:=by
 show Ieee.double.nearest (decide (m<0)) m.natAbs 0=_
 unfold fi aJ
 by_cases h0:m=0
 ·subst h0;rfl
 ·rw [if_neg h0,bU _ (by omega)]
  by_cases hn:m<0
  ·simp only [hn,decide_true,if_true];rw [gz]
  ·simp only [hn,decide_false,if_false];rw [gW]
theorem su (P:Program) (w:World) (a:Addr) (x:Nat) (z:Value) (h:w.cell? a=some z) (hf:w.frozen? a=false):(store a (.float .f64 x)).run P w=.ok () (w.setCell a (.float .f64 x)):=by
 rw [run_store P w a _ _ rfl,h];simp [hf]
theorem xj:(Tryz.prog.info? 38).map (fun i=>(i.zero,i.size,i.bytes))=some (some (.float .f64 0),1,8):=by kernel_rfl

def expL:List Nat:=[4607182418800017408,4607182418800017408,4602678819172646912,4595172819793696085,4586165620538955093,4575957461383581969,4564047942368979991,4551452160554016794,4537941361671905306,4523617214285662004,4508805057796939612,4493156764026750180,4477122120089393304,4460272573143870729]
def lnL:List Nat:=[4607182418800017408,4599676419421066581,4596373779694328218,4594314991293244562,4592670820000712476,4591215111030249286,4590207312512236308,4589468260265693457,4588638185040256542,4587745830934523688,4587023449039406616]
def jQ:Nat→Nat
 | 0=>1
 | k+1=>jQ k*max k 1
theorem Cj:∀ k,k<14→floatBits .quo .f64 4607182418800017408 (fi (jQ (k+1):Int))=some (expL.getD k 0):=by decide+kernel
theorem GZ:∀ k,k<11→floatBits .quo .f64 4607182418800017408 (fi ((2*k+1:Nat):Int))=some (lnL.getD k 0):=by decide+kernel
theorem uh:∀ k,k<15→1≤jQ k∧jQ k≤6227020800:=by decide+kernel

def sv (w:World) (b n:Nat) (l:List Nat) (j:Nat):Prop:=w.rowIs b 38 n (fun i=>.float .f64 (if i<j then l.getD i 0 else 0))
theorem pG (w:World) (n:Nat) (l:List Nat):sv (w.alloc (.cells (madeCells #[.float .f64 0] n) 38)) w.heap.size n l 0:=
 (World.rowIs_made w (.float .f64 0) n 38).congr (fun i _=>by rw [if_neg (by omega)])
theorem pH {w:World} {b n j x:Nat} {l:List Nat} (h:sv w b n l j) (hx:x=l.getD j 0):sv (w.setCell ⟨b,j,none⟩ (.float .f64 x)) b n l (j+1):=by
 refine (h.set j (.float .f64 x)).congr fun i _=>?_
 by_cases c:i=j
 ·rw [if_pos c,if_pos (by omega),hx,c]
 ·rw [if_neg c]
  by_cases d:i<j
  ·rw [if_pos d,if_pos (by omega)]
  ·rw [if_neg d,if_neg (by omega)]
theorem sw {w:World} {b n:Nat} {l:List Nat} (h:sv w b n l n) (hn:l.length=n):Src w (some ⟨b,0,none⟩) b 0 l:=
 ⟨fun _=>rfl,fun _=>h.lt,fun j hj=>by
  rw [Nat.zero_add]
  have:=h.cell (i:=j) (by omega)
  rw [if_pos (by omega)] at this;exact this⟩

set_option maxHeartbeats 800000 in
theorem ui (w:World) :
  Calls Tryz.prog 162 #[] w fun e w'=>e=.returned (.slice (some ⟨w.heap.size,0,none⟩) 14 14)∧Src w' (some ⟨w.heap.size,0,none⟩) w.heap.size 0 expL∧Below w.heap.size w w':=by
 have hmk:=fun w=>run_make_row' (P:=Tryz.prog) 23 38 (.float .f64 0) 8 Tryz.underlying23 xj rfl .i64 .i64 14 (by omega) (by omega) w
 rw [show ((14:Nat):Int)=14 from rfl] at hmk
 have HO:=hideS (pG w 14 expL)
 go_enter Tryz.func162,Tryz.ntmps162
 go_wp2_with fail
 go_loopw [2,5] (fun s i wr=>∃ k f:Nat,k≤14∧i=.int .i64 k∧s=.int .i64 f∧Hid (f=jQ k)∧Hid (sv wr w.heap.size 14 expL k)∧Hid (Below w.heap.size w wr)) (fun _ i _=>14 - (intOf i).toNat)
 case atStart=>exact⟨0,1,Nat.zero_le _,rfl,rfl,rfl,HO,(Below.refl _ _).alloc (Nat.le_refl _) _⟩
 case round=>
  clear HO hmk
  obtain⟨k,f,hk,rfl,rfl,HF,HH,HB⟩:=hrel
  by_cases hlt:k<14
  ·have hb:=uh k (by omega)
   have hb2:=uh (k+1) (by omega)
   rw [← HF.out] at hb
   have hdv:=Cj k hlt
   obtain⟨f',hf'⟩:∃ f',jQ (k+1)=f':=⟨_,rfl⟩
   have HF':Hid (f'=jQ (k+1)):=hf'.symm
   rw [hf'] at hdv hb2
   have hmx:max (k:Int) 1=((max k 1:Nat):Int):=by omega
   have hml:(f:Int)*((max k 1:Nat):Int)=(f':Int):=by rw [← hf'];show _=((jQ k*max k 1:Nat):Int);rw [HF.out,Int.natCast_mul]
   clear hf' HF
   generalize ((max k 1:Nat):Int)=mx at hmx hml
   obtain⟨x,hx⟩:∃ x,expL.getD k 0=x:=⟨_,rfl⟩
   have HX:Hid (x=expL.getD k 0):=hx.symm
   rw [hx] at hdv
   clear hx
   have hfo:=bt (f':Int)
   have r1:=fun w=>run_float_arith (P:=Tryz.prog) w .quo 38 .f64 4607182418800017408 (fi (f':Int)) x hdv
   clear hdv
   generalize fi (f':Int)=y at hfo r1
   have hcz:=HH.out.cell (i:=k) hlt
   rw [if_neg (by omega)] at hcz
   have hfz:=HH.out.frozen k
   have hst:=su Tryz.prog wr ⟨w.heap.size,k,none⟩ x _ hcz hfz
   go_wp2_with fail
   go_roundw
   case rel=>exact⟨k+1,f',by omega,by simp,rfl,HF',pH HH.out HX.out,HB.out.setCell (Nat.le_refl _) _⟩
   case measure=>simp [intOf];omega
  ·obtain rfl:k=14:=by omega
   have HS:=hideS (sw HH.out (by rfl))
   go_wp2_with fail
   go_ret
   exact⟨rfl,HS.out,HB.out⟩

set_option maxHeartbeats 800000 in
theorem xk (w:World) :
  Calls Tryz.prog 167 #[] w fun e w'=>e=.returned (.slice (some ⟨w.heap.size,0,none⟩) 11 11)∧Src w' (some ⟨w.heap.size,0,none⟩) w.heap.size 0 lnL∧Below w.heap.size w w':=by
 have hmk:=fun w=>run_make_row' (P:=Tryz.prog) 23 38 (.float .f64 0) 8 Tryz.underlying23 xj rfl .i64 .i64 11 (by omega) (by omega) w
 rw [show ((11:Nat):Int)=11 from rfl] at hmk
 have HO:=hideS (pG w 11 lnL)
 go_enter Tryz.func167,Tryz.ntmps167
 go_wp2_with fail
 go_loopw [4] (fun i wr=>∃ k:Nat,k≤11∧i=.int .i64 k∧Hid (sv wr w.heap.size 11 lnL k)∧Hid (Below w.heap.size w wr)) (fun i _=>11 - (intOf i).toNat)
 case atStart=>exact⟨0,Nat.zero_le _,rfl,HO,(Below.refl _ _).alloc (Nat.le_refl _) _⟩
 case round=>
  clear HO hmk
  obtain⟨k,hk,rfl,HH,HB⟩:=hrel
  by_cases hlt:k<11
  ·have hdv:=GZ k hlt
   have hml:(2:Int)*(k:Int)+1=((2*k+1:Nat):Int):=by omega
   obtain⟨m,hm⟩:∃ m:Int,((2*k+1:Nat):Int)=m:=⟨_,rfl⟩
   rw [hm] at hdv hml
   clear hm
   obtain⟨x,hx⟩:∃ x,lnL.getD k 0=x:=⟨_,rfl⟩
   have HX:Hid (x=lnL.getD k 0):=hx.symm
   rw [hx] at hdv
   clear hx
   have hfo:=bt m
   have r1:=fun w=>run_float_arith (P:=Tryz.prog) w .quo 38 .f64 4607182418800017408 (fi m) x hdv
   clear hdv
   generalize fi m=y at hfo r1
   have hcz:=HH.out.cell (i:=k) hlt
   rw [if_neg (by omega)] at hcz
   have hfz:=HH.out.frozen k
   have hst:=su Tryz.prog wr ⟨w.heap.size,k,none⟩ x _ hcz hfz
   go_wp2_with fail
   go_roundw
   case rel=>exact⟨k+1,by omega,by simp,pH HH.out HX.out,HB.out.setCell (Nat.le_refl _) _⟩
   case measure=>simp [intOf];omega
  ·obtain rfl:k=11:=by omega
   have HS:=hideS (sw HH.out (by rfl))
   go_wp2_with fail
   go_ret
   exact⟨rfl,HS.out,HB.out⟩
end Go.Proofs.YtcmbfflemoccmaaGreat
namespace Go.Proofs.YtcmbfflemoccmaaGreat
open Go.RowKit

end Go.Proofs.YtcmbfflemoccmaaGreat
namespace Go.Proofs.YtcmbfflemoccmaaGreat
open Go.RowKit

theorem iA {b:Nat} (h:b<9218868437227405312):U64 (b:Int)∧ah (b:Int)=false∧ae (b:Int)=b:=by
 have h1:szI (b:Int)=b:=by unfold szI;omega
 have h2:ah (b:Int)=false:=by unfold ah;rw [h1];simp;omega
 have h3:sgB (b:Int)=false:=by simp [sgB];omega
 exact⟨by unfold U64;omega,h2,by rw [oj h2 h3,h1]⟩
theorem Ha (neg:Bool) (n drop:Nat):Ieee.Toward.down.cut neg n drop=n / 2^drop+(if neg=true∧n % 2^drop≠0 then 1 else 0):=by
 show n / (1 <<< min drop (n.log2+2))+(neg&&n % (1 <<< min drop (n.log2+2)) !=0).toNat=_
 rw [Nat.one_shiftLeft]
 have key:n / 2^min drop (n.log2+2)=n / 2^drop∧n % 2^min drop (n.log2+2)=n % 2^drop:=by
  by_cases h:drop≤n.log2+2
  ·rw [Nat.min_eq_left h];exact⟨rfl,rfl⟩
  ·rw [Nat.min_eq_right (by omega)]
   have hl:n<2^(n.log2+1):=Nat.lt_log2_self
   have h1:(2:Nat)^(n.log2+1)≤2^(n.log2+2):=Nat.pow_le_pow_right (by decide) (by omega)
   have h2:(2:Nat)^(n.log2+2)≤2^drop:=Nat.pow_le_pow_right (by decide) (by omega)
   rw [Nat.div_eq_of_lt (by omega),Nat.div_eq_of_lt (by omega),Nat.mod_eq_of_lt (by omega),Nat.mod_eq_of_lt (by omega)]
   exact⟨rfl,rfl⟩
 rw [key.1,key.2]
 congr 1
 cases neg
 ·rfl
 ·by_cases h0:n % 2^drop=0
  ·rw [h0];rfl
  ·rw [if_pos ⟨rfl,h0⟩];simp [h0]
theorem DU (m p K:Nat):(m <<< (-(K:Int)+(p:Int)).toNat) / 2^(-(-(K:Int)+(p:Int))).toNat=m*2^p / 2^K∧((m <<< (-(K:Int)+(p:Int)).toNat) % 2^(-(-(K:Int)+(p:Int))).toNat=0↔m*2^p % 2^K=0):=by
 rw [Nat.shiftLeft_eq]
 by_cases h:p≤K
 ·have e1:(-(K:Int)+(p:Int)).toNat=0:=by omega
  have e2:(-(-(K:Int)+(p:Int))).toNat=K - p:=by omega
  have e3:(2:Nat)^K=2^(K - p)*2^p:=by rw [← Nat.pow_add,show K - p+p=K by omega]
  have hp:=Nat.two_pow_pos p
  rw [e1,e2,e3,Nat.pow_zero,Nat.mul_one,Nat.mul_div_mul_right _ _ hp,Nat.mul_mod_mul_right]
  refine⟨rfl,?_⟩
  constructor
  ·intro h;rw [h,Nat.zero_mul]
  ·intro h;rcases Nat.mul_eq_zero.1 h with h | h
   ·exact h
   ·omega
 ·have e1:(-(K:Int)+(p:Int)).toNat=p - K:=by omega
  have e2:(-(-(K:Int)+(p:Int))).toNat=0:=by omega
  have e3:(2:Nat)^p=2^(p - K)*2^K:=by rw [← Nat.pow_add,show p - K+K=p by omega]
  have hp:=Nat.two_pow_pos K
  rw [e1,e2,e3,Nat.pow_zero,Nat.div_one,Nat.mod_one,← Nat.mul_assoc,Nat.mul_div_cancel _ hp,Nat.mul_mod_left]
  exact⟨rfl,Iff.rfl⟩
theorem Ah {b K:Nat} (hK:K=1074) (h:af b) (hz:b % 9223372036854775808≠0∨sB b=false) :
  ∃ k:Int,Ieee.double.write ((Ieee.double.read b).integral .down)=fi k∧k*((2^K:Nat):Int)≤vI b∧vI b<(k+1)*((2^K:Nat):Int):=by
 rw [av h]
 have hv:=rW b
 have hs:(b / 9223372036854775808 % 2==1)=sB b:=rfl
 have hm0:b % 9223372036854775808≠0→mg (b % 9223372036854775808)≠0:=fun h=>by unfold mg;split<;>omega
 rw [hs] at hv ⊢
 generalize b % 9223372036854775808=r at *
 generalize hm:mg r=m at *
 generalize pl r=p at *
 have hP:=Nat.two_pow_pos K
 have hp2:=Nat.two_pow_pos p
 obtain⟨c1,c2⟩:=DU m p K
 have key:∀ s,Ieee.double.write ((Ieee.Datum.number s m (-1074+(p:Int))).integral .down)=Ieee.double.nearest s (m*2^p / 2^K+(if s=true∧m*2^p % 2^K≠0 then 1 else 0)) 0:=fun s=>by
  show Ieee.double.nearest s (Ieee.Toward.down.cut s (m <<< (-1074+(p:Int)).toNat) (-(-1074+(p:Int))).toNat) 0=_
  have e:(-1074+(p:Int))= -(K:Int)+(p:Int):=by omega
  rw [Ha,e,c1]
  congr 2
  simp only [ne_eq,c2]
 rw [key]
 obtain⟨A,hA⟩:∃ A,m*2^p=A:=⟨_,rfl⟩
 obtain⟨P,hPP⟩:∃ P,2^K=P:=⟨_,rfl⟩
 rw [hA] at hv ⊢
 rw [hPP] at hP ⊢
 have hd:=Nat.div_add_mod A P
 have hlt:=Nat.mod_lt A hP
 generalize A / P=q at *
 generalize A % P=t at *
 clear key c1 c2
 cases hsb:sB b with
 | false=>
  rw [hsb] at hv
  refine⟨(q:Nat),?_,?_,?_⟩
  ·rw [if_neg (by simp),Nat.add_zero]
   unfold fi aJ
   by_cases h0:q=0
   ·rw [h0,cB];rfl
   ·rw [bU _ h0,gW,if_neg (by omega),if_neg (by omega),Int.natAbs_natCast]
  ·rw [hv];show ((q:Nat):Int)*(P:Int)≤(A:Int)
   rw [← Int.natCast_mul,Nat.mul_comm];omega
  ·rw [hv];show (A:Int)<(((q:Nat):Int)+1)*(P:Int)
   rw [Int.add_mul,← Int.natCast_mul,Nat.mul_comm];omega
 | true=>
  rw [hsb] at hv
  have hr0:r≠0:=by
   rcases hz with h | h
   ·exact h
   ·rw [hsb] at h;cases h
  have hA0:A≠0:=by rw [← hA];exact Nat.mul_ne_zero (hm0 hr0) (by omega)
  by_cases hr:t=0
  ·refine⟨-((q:Nat):Int),?_,?_,?_⟩
   ·rw [if_neg (by simp [hr]),Nat.add_zero]
    have h0:q≠0:=by
     intro h0;rw [h0,Nat.mul_zero] at hd;omega
    unfold fi aJ
    rw [bU _ h0,gz,if_neg (by omega),if_pos (by omega),Int.natAbs_neg,Int.natAbs_natCast]
   ·rw [hv];show -((q:Nat):Int)*(P:Int)≤-(A:Int)
    rw [Int.neg_mul,← Int.natCast_mul,Nat.mul_comm];omega
   ·rw [hv];show -(A:Int)<(-((q:Nat):Int)+1)*(P:Int)
    rw [Int.add_mul,Int.neg_mul,← Int.natCast_mul,Nat.mul_comm];omega
  ·refine⟨-((q+1:Nat):Int),?_,?_,?_⟩
   ·rw [if_pos ⟨rfl,hr⟩]
    unfold fi aJ
    rw [bU _ (by omega),gz,if_neg (by omega),if_pos (by omega),Int.natAbs_neg,Int.natAbs_natCast]
   ·rw [hv];show -((q+1:Nat):Int)*(P:Int)≤-(A:Int)
    rw [Int.neg_mul,← Int.natCast_mul,Nat.add_mul,Nat.mul_comm (q)];omega
   ·rw [hv];show -(A:Int)<(-((q+1:Nat):Int)+1)*(P:Int)
    rw [Int.add_mul,Int.neg_mul,← Int.natCast_mul,Nat.add_mul,Nat.mul_comm (q)];omega

theorem pI (b:Nat) (s:Bool) (m:Nat) (i:Int) (hd:FloatKind.f64.decode b=.number s m i):Extern.MathFloor.toIntegral "math.archFloor" .down #[.float .f64 b]=pure (.float .f64 (FloatKind.f64.encode ((Ieee.Datum.number s m i).integral .down))):=by
 conv=>lhs;whnf
 rw [hd]
theorem pJ (b:Nat) (h:af b) (w:World):(callFunc 193 #[.float .f64 b]).run Tryz.prog w=.ok (.value (.float .f64 (Ieee.double.write ((Ieee.double.read b).integral .down)))) w:=by
 refine (run_callFunc_extern (e:=Extern.MathFloor.toIntegral "math.archFloor" .down) Tryz.func193 (by kernel_rfl) (by kernel_rfl) (by kernel_rfl) (by kernel_rfl) _ w).trans ?_
 have e:FloatKind.f64.decode b=_:=av h
 rw [pI b _ _ _ e,av h]
 rfl

set_option maxHeartbeats 800000 in
theorem Hb (b f:Nat) (w:World) (h:af b) (hf:Ieee.double.write ((Ieee.double.read b).integral .down)=f) :
  Calls Tryz.prog 159 #[.float .f64 b] w fun e w'=>e=.returned (.float .f64 f)∧w'=w:=by
 have h1:=pJ b h
 rw [hf] at h1
 clear hf h
 go_enter Tryz.func159,Tryz.ntmps159
 go_wp2
 go_ret
 exact⟨rfl,rfl⟩
end Go.Proofs.YtcmbfflemoccmaaGreat
namespace Go.Proofs.YtcmbfflemoccmaaGreat

theorem uj {s:Bool} {r:Nat} (h:r<9218868437227405312):vI (wrd s r)=sgZ s (V r)∧af (wrd s r)∧wrd s r<18446744073709551616∧sB (wrd s r)=s:=by
 cases s
 ·have e:wrd false r=r:=rfl
  rw [e]
  refine⟨?_,?_,by omega,?_⟩
  ·rw [gZ]
   unfold sB aV
   rw [show r / 9223372036854775808 % 2=0 by omega,show r % 9223372036854775808=r by omega];rfl
  ·unfold af;omega
  ·unfold sB;rw [show r / 9223372036854775808 % 2=0 by omega];rfl
 ·have e:wrd true r=9223372036854775808+r:=rfl
  rw [e]
  refine⟨?_,?_,by omega,?_⟩
  ·rw [gZ]
   unfold sB aV
   rw [show (9223372036854775808+r) / 9223372036854775808 % 2=1 by omega,show (9223372036854775808+r) % 9223372036854775808=r by omega];rfl
  ·unfold af;omega
  ·unfold sB;rw [show (9223372036854775808+r) / 9223372036854775808 % 2=1 by omega];rfl
theorem mp {T e:Int} (h:T≠0):aJ T e=wrd (decide (T<0)) (nearR T.natAbs e):=by
 unfold aJ wrd
 rw [if_neg h]
 by_cases hn:T<0
 ·rw [if_pos hn,if_pos (by simpa using hn)]
 ·rw [if_neg hn,if_neg (by simpa using hn)]
theorem Ai {k:Nat} {T:Int}:sgZ (decide (T<0)) (V (nearR T.natAbs (-1074 - (k:Int))))=rI k T:=by
 unfold sgZ rI
 by_cases hn:T<0
 ·rw [if_pos (by simpa using hn),if_pos hn]
 ·rw [if_neg (by simpa using hn),if_neg hn]
theorem uk (k:Nat):rI k 0=0:=by
 unfold rI
 rw [if_neg (by decide),Int.natAbs_zero,kl (by omega),bf];rfl
theorem sx {x y:Nat} (hx:af x) (hy:af y) (hf:zE 0 (vI x+vI y)):∃ z,floatBits .add .f64 x y=some z∧af z∧z<18446744073709551616∧vI z=rI 0 (vI x+vI y):=by
 refine⟨_,kO hx hy,?_⟩
 unfold iU
 generalize vI x+vI y=T at *
 by_cases h0:T=0
 ·rw [if_pos h0,h0,uk]
  split
  ·exact⟨by unfold af;decide,by decide,by decide⟩
  ·exact⟨by unfold af;decide,by decide,by decide⟩
 ·rw [if_neg h0,mp h0]
  have hf':nearR T.natAbs (-1074)<9218868437227405312:=hf
  obtain⟨a,b,c,_⟩:=uj (s:=decide (T<0)) hf'
  refine⟨b,c,?_⟩
  rw [a]
  exact Ai (k:=0)
theorem DW {x y:Nat} (hx:af x) (hy:af y) (hf:zE 0 (vI x - vI y)):∃ z,floatBits .sub .f64 x y=some z∧af z∧z<18446744073709551616∧vI z=rI 0 (vI x - vI y):=by
 refine⟨_,tJ hx hy,?_⟩
 unfold iU
 generalize vI x - vI y=T at *
 by_cases h0:T=0
 ·rw [if_pos h0,h0,uk]
  split
  ·exact⟨by unfold af;decide,by decide,by decide⟩
  ·exact⟨by unfold af;decide,by decide,by decide⟩
 ·rw [if_neg h0,mp h0]
  have hf':nearR T.natAbs (-1074)<9218868437227405312:=hf
  obtain⟨a,b,c,_⟩:=uj (s:=decide (T<0)) hf'
  refine⟨b,c,?_⟩
  rw [a]
  exact Ai (k:=0)
theorem sy (x:Nat):(vI x).natAbs=aV x:=by rw [gZ];unfold sgZ;cases sB x<;>simp
theorem pK {x:Nat} (h:vI x≠0):decide (vI x<0)=sB x:=by
 rw [gZ] at h ⊢
 unfold sgZ at *
 cases sB x
 ·simp
 ·simp only [if_true] at *;simp;omega
theorem Hc {a b:Int} (ha:a≠0) (hb:b≠0):(decide (a<0)^^decide (b<0))=decide (a*b<0):=by
 rcases Int.lt_or_lt_of_ne ha with pa | pa<;>rcases Int.lt_or_lt_of_ne hb with pb | pb
 ·have:=Int.mul_pos_of_neg_of_neg pa pb;simp [pa,pb];omega
 ·have:=Int.mul_neg_of_neg_of_pos pa pb;simp [pa,this];omega
 ·have:=Int.mul_neg_of_pos_of_neg pa pb;simp [pb,this];omega
 ·have:=Int.mul_pos pa pb
  rw [decide_eq_false (show ¬ a<0 by omega),decide_eq_false (show ¬ b<0 by omega),decide_eq_false (show ¬ a*b<0 by omega)];rfl
theorem sA {x y K:Nat} (hK:K=1074) (hx:af x) (hy:af y) (hf:zE K (vI x*vI y)):∃ z,floatBits .mul .f64 x y=some z∧af z∧z<18446744073709551616∧vI z=rI K (vI x*vI y):=by
 refine⟨_,gY hx hy,?_⟩
 unfold mulR
 rw [← sy,← sy,← Int.natAbs_mul]
 by_cases h0:vI x*vI y=0
 ·rw [h0,Int.natAbs_zero,if_pos rfl,uk]
  obtain⟨a,b,c,_⟩:=uj (s:=sB x^^sB y) (r:=0) (by decide)
  refine⟨b,c,?_⟩
  rw [a,bf];unfold sgZ;split<;>rfl
 ·have hx0:vI x≠0:=fun h=>h0 (by rw [h,Int.zero_mul])
  have hy0:vI y≠0:=fun h=>h0 (by rw [h,Int.mul_zero])
  rw [if_neg (by omega),← pK hx0,← pK hy0,Hc hx0 hy0]
  unfold zE at hf
  rw [show (-1074 - (K:Int))= -2148 by omega] at hf
  obtain⟨a,b,c,_⟩:=uj (s:=decide (vI x*vI y<0)) hf
  refine⟨b,c,?_⟩
  rw [a]
  have:=Ai (k:=K) (T:=vI x*vI y)
  rw [show (-1074 - (K:Int))= -2148 by omega] at this
  exact this
end Go.Proofs.YtcmbfflemoccmaaGreat
namespace Go.Proofs.YtcmbfflemoccmaaGreat

theorem Hd {q k:Nat} (hk1:4503599627370496≤k) (hk2:k<9007199254740992):mg (q*4503599627370496+k)=k∧pl (q*4503599627370496+k)=q:=by
 unfold mg pl
 rw [if_neg (by omega)]
 omega
theorem He {m E:Nat} (h:m<9007199254740992) (hE:52≤E) (hE2:E≤1900):Rep ((m*2^E:Nat):Int):=by
 by_cases h0:m=0
 ·subst h0;rw [Nat.zero_mul];exact FY
 have a:=Nat.log2_self_le h0
 have b:m<2^(m.log2+1):=Nat.lt_log2_self
 have hl:m.log2<53:=(Nat.log2_lt h0).2 (by omega)
 generalize m.log2=l at a b hl
 obtain⟨k,hk⟩:∃ k,m*2^(52 - l)=k:=⟨_,rfl⟩
 have hk1:4503599627370496≤k:=by
  have:=Nat.mul_le_mul_right (2^(52 - l)) a
  rw [← Nat.pow_add,show l+(52 - l)=52 by omega,hk] at this;exact this
 have hk2:k<9007199254740992:=by
  have:=Nat.mul_lt_mul_of_pos_right b (Nat.two_pow_pos (52 - l))
  rw [← Nat.pow_add,show l+1+(52 - l)=53 by omega,hk] at this;exact this
 obtain⟨h1,h2⟩:=Hd (q:=E+l - 52) hk1 hk2
 refine⟨(E+l - 52)*4503599627370496+k,by omega,?_⟩
 unfold V
 rw [h1,h2,Int.natAbs_natCast,← hk,Nat.mul_assoc,← Nat.pow_add,show 52 - l+(E+l - 52)=E by omega]
theorem pL {j:Int} {E:Nat} (h1: -9007199254740992<j) (h2:j<9007199254740992) (hE:52≤E) (hE2:E≤1900):Rep (j*((2^E:Nat):Int)):=by
 obtain⟨r,hr,e⟩:=He (m:=j.natAbs) (E:=E) (by omega) hE hE2
 refine⟨r,hr,?_⟩
 rw [Int.natAbs_natCast] at e
 rw [aW];exact e
theorem mq {k E:Nat} {T:Int} (hE:52≤E) (hE2:E≤1900) {G P:Int} (hG:G=((2^E:Nat):Int)) (hP:P=((2^k:Nat):Int)) (h1: -(2097152*(G*P))≤T) (h2:T≤2097152*(G*P)) :
  zE k T∧-(G*P)≤rI k T*P - T∧rI k T*P - T≤G*P:=by
 have hGp:0<G:=by rw [hG];have:=Nat.two_pow_pos E;omega
 have hPp:0<P:=by rw [hP];have:=Nat.two_pow_pos k;omega
 have hGP:0<G*P:=Int.mul_pos hGp hPp
 obtain⟨j,hj⟩:∃ j,T / (G*P)=j:=⟨_,rfl⟩
 have e1:j*(G*P)≤T:=by rw [← hj];exact Int.ediv_mul_le T (by omega)
 have e2:T<(j+1)*(G*P):=by rw [← hj];exact Int.lt_ediv_add_one_mul_self T hGP
 have j1: -2097152≤j:=by
  rw [← hj]
  refine (Int.le_ediv_iff_mul_le hGP).2 ?_
  rw [Int.neg_mul];exact h1
 have j2:j≤2097152:=by
  by_cases h:2097152<j
  ·have:=Int.mul_lt_mul_of_pos_right h hGP
   omega
  ·omega
 have rA:Rep (j*G):=by rw [hG];exact pL (by omega) (by omega) hE hE2
 have rB:Rep ((j+1)*G):=by rw [hG];exact pL (by omega) (by omega) hE hE2
 have f1:j*G*((2^k:Nat):Int)≤T:=by rw [← hP,Int.mul_assoc];exact e1
 have f2:T≤(j+1)*G*((2^k:Nat):Int):=by rw [← hP,Int.mul_assoc];omega
 have a1:=oP rA f1
 have a2:=kP rB f2
 have b1:=Int.mul_le_mul_of_nonneg_right a1 (show 0≤P by omega)
 have b2:=Int.mul_le_mul_of_nonneg_right a2 (show 0≤P by omega)
 rw [Int.mul_assoc] at b1 b2
 have e3:(j+1)*(G*P)=j*(G*P)+G*P:=by rw [Int.add_mul,Int.one_mul]
 rw [e3] at e2 b2
 exact⟨zF rA rB f1 f2,by omega,by omega⟩

structure Scale (K:Nat) (g:Int):Prop where
 k:K=1074
 pos:0<g
 unit:((2^K:Nat):Int)=1267650600228229401496703205376*g
 grid:((2^1064:Nat):Int)=1237940039285380274899124224*g
 at_:∀ q p:Nat,q+974=p→((2^p:Nat):Int)=((2^q:Nat):Int)*g
theorem mr {a b c:Nat} (h:a+b=c):((2^c:Nat):Int)=((2^a:Nat):Int)*((2^b:Nat):Int):=by
 subst h;rw [Nat.pow_add,Int.natCast_mul]
theorem NG:∃ K g,Scale K g:=by
 obtain⟨e,he⟩:∃ e,e=974:=⟨_,rfl⟩
 obtain⟨K,hK⟩:∃ K,K=1074:=⟨_,rfl⟩
 obtain⟨L,hL⟩:∃ L,L=1064:=⟨_,rfl⟩
 refine⟨K,((2^e:Nat):Int),hK,by have:=Nat.two_pow_pos e;omega,?_,?_,fun q p h=>mr (by omega)⟩
 ·rw [mr (a:=100) (b:=e) (c:=K) (by omega)];rfl
 ·rw [← hL,mr (a:=90) (b:=e) (c:=L) (by omega)];rfl

theorem Hf {K:Nat} {g:Int} (hs:Scale K g) {x y:Nat} (hx:af x) (hy:af y) (h1: -(2596148429267413814265248164610048*g)≤vI x+vI y) (h2:vI x+vI y≤2596148429267413814265248164610048*g) :
  ∃ z,floatBits .add .f64 x y=some z∧af z∧z<18446744073709551616∧-(1237940039285380274899124224*g)≤vI z - (vI x+vI y)∧vI z - (vI x+vI y)≤1237940039285380274899124224*g:=by
 obtain⟨E,hE⟩:∃ E,E=1064:=⟨_,rfl⟩
 have hg:=hs.grid
 rw [← hE] at hg
 obtain⟨f,a,b⟩:=mq (k:=0) (E:=E) (T:=vI x+vI y) (by omega) (by omega) (P:=1) rfl rfl (by rw [hg];omega) (by rw [hg];omega)
 obtain⟨z,z1,z2,z3,z4⟩:=sx hx hy f
 rw [hg] at a b
 rw [← z4] at a b
 exact⟨z,z1,z2,z3,by omega,by omega⟩
theorem xl {K:Nat} {g:Int} (hs:Scale K g) {x y:Nat} (hx:af x) (hy:af y) (h1: -(2596148429267413814265248164610048*g)≤vI x - vI y) (h2:vI x - vI y≤2596148429267413814265248164610048*g) :
  ∃ z,floatBits .sub .f64 x y=some z∧af z∧z<18446744073709551616∧-(1237940039285380274899124224*g)≤vI z - (vI x - vI y)∧vI z - (vI x - vI y)≤1237940039285380274899124224*g:=by
 obtain⟨E,hE⟩:∃ E,E=1064:=⟨_,rfl⟩
 have hg:=hs.grid
 rw [← hE] at hg
 obtain⟨f,a,b⟩:=mq (k:=0) (E:=E) (T:=vI x - vI y) (by omega) (by omega) (P:=1) rfl rfl (by rw [hg];omega) (by rw [hg];omega)
 obtain⟨z,z1,z2,z3,z4⟩:=DW hx hy f
 rw [hg] at a b
 rw [← z4] at a b
 exact⟨z,z1,z2,z3,by omega,by omega⟩
theorem pM {K:Nat} {g:Int} (hs:Scale K g) {x y:Nat} {c:Int} (hx:af x) (hy:af y) (hc:vI y=c*g) (h1: -(3291009114642412084309938365114701009965471731267159726697218048*g)≤c*vI x) (h2:c*vI x≤3291009114642412084309938365114701009965471731267159726697218048*g) :
  ∃ z,floatBits .mul .f64 x y=some z∧af z∧z<18446744073709551616∧-(1569275433846670190958947355801916604025588861116008628224*g)≤1267650600228229401496703205376*vI z - c*vI x∧1267650600228229401496703205376*vI z - c*vI x≤1569275433846670190958947355801916604025588861116008628224*g:=by
 obtain⟨E,hE⟩:∃ E,E=1064:=⟨_,rfl⟩
 have hg:=hs.grid
 rw [← hE] at hg
 have hgp:=hs.pos
 have eT:vI x*vI y=(c*vI x)*g:=by rw [hc,← Int.mul_assoc,Int.mul_comm (vI x) c]
 have eGP:((2^E:Nat):Int)*((2^K:Nat):Int)=(1569275433846670190958947355801916604025588861116008628224*g)*g:=by
  rw [hg,hs.unit,← Int.mul_assoc,show (1237940039285380274899124224*g*1267650600228229401496703205376:Int)=1569275433846670190958947355801916604025588861116008628224*g by omega]
 have b1:=Int.mul_le_mul_of_nonneg_right h1 (show 0≤g by omega)
 have b2:=Int.mul_le_mul_of_nonneg_right h2 (show 0≤g by omega)
 have e3:(2097152:Int)*(1569275433846670190958947355801916604025588861116008628224*g*g)=3291009114642412084309938365114701009965471731267159726697218048*g*g:=by rw [← Int.mul_assoc,← Int.mul_assoc];rfl
 rw [Int.neg_mul] at b1
 obtain⟨f,a,b⟩:=mq (k:=K) (E:=E) (T:=vI x*vI y) (by omega) (by omega) rfl rfl (by rw [eGP,e3,eT];exact b1) (by rw [eGP,e3,eT];exact b2)
 obtain⟨z,z1,z2,z3,z4⟩:=sA hs.k hx hy f
 rw [eGP,eT,← eT,← z4,eT,hs.unit,← Int.mul_assoc,Int.mul_comm (vI z),← Int.sub_mul] at a b
 refine⟨z,z1,z2,z3,?_,?_⟩
 ·rw [← Int.neg_mul] at a
  exact Int.le_of_mul_le_mul_right a hgp
 ·exact Int.le_of_mul_le_mul_right b hgp
end Go.Proofs.YtcmbfflemoccmaaGreat
namespace Go.Proofs.YtcmbfflemoccmaaGreat
open Go.RowKit

set_option maxHeartbeats 400000 in
theorem bu (b:Nat) (w:World) (h:U64 b) :
  Calls Tryz.prog 119 #[.float .f64 b] w fun e w'=>e=.returned (.bool (ah b))∧w'=w:=by
 have h1:(FloatKind.f64.format.order b b !=some .eq)=ah b:=by rw [bne,JB h,Bool.not_not]
 clear h
 go_enter Tryz.func119,Tryz.ntmps119
 go_wp2
 go_ret
 exact⟨rfl,rfl⟩

theorem pN (x y:Int):(compare x y==.gt)=decide (y<x):=by
 show (compareOfLessAndEq x y==.gt)=_
 unfold compareOfLessAndEq
 by_cases a:x<y
 ·have:¬ y<x:=by omega
  simp [a,this]
 ·by_cases b:x=y
  ·simp [b]
  ·have:y<x:=by omega
   simp [a,b,this]
theorem iB {a b:Nat} (ha:U64 a) (hb:U64 b) (hna:ah a=false) (hnb:ah b=false):(FloatKind.f64.format.order a b==some .gt)=decide (ae b<ae a):=by
 rw [ke (by have:=ha.2;omega) (by have:=hb.2;omega) hna hnb,← pN];rfl

theorem ul {r:Nat} (h:r≤9218868437227405312):ah (r:Int)=false:=by unfold ah szI;rw [decide_eq_false_iff_not];omega
theorem xm {r:Nat} (h:r≤9218868437227405312):ae (r:Int)=r:=by
 unfold ae
 have hs:sgB (r:Int)=false:=by unfold sgB;rw [decide_eq_false_iff_not];omega
 rw [ul h,hs]
 show szI (r:Int)=r
 unfold szI;omega
theorem szN (x:Nat):szI (x:Int)=((x % 9223372036854775808:Nat):Int):=by unfold szI;omega
theorem Aj {x:Nat} (h:ah (x:Int)=false):(FloatKind.f64.format.order (x % 9223372036854775808) 9218868437227405311==some .gt)=!finB (x:Int):=by
 have h1:=eU h
 have e:finB (x:Int)=decide (x % 9223372036854775808<9218868437227405312):=by
  unfold finB;rw [szN];exact decide_eq_decide.2 (by omega)
 rw [e]
 generalize x % 9223372036854775808=a at *
 rw [iB (ag (by omega)) (ag (by omega)) (ul h1) (ul (r:=9218868437227405311) (by omega)),xm h1,xm (r:=9218868437227405311) (by omega)]
 by_cases c:a<9218868437227405312
 ·rw [decide_eq_true c];exact decide_eq_false (by omega)
 ·rw [decide_eq_false c];exact decide_eq_true (by omega)

theorem nY {x:Nat} (h:ah (x:Int)=true):finB (x:Int)=false:=by
 unfold ah at h;unfold finB
 have:=of_decide_eq_true h
 exact decide_eq_false (by omega)

set_option maxHeartbeats 400000 in
theorem Hg (x:Nat) (w:World) (h:U64 x) :
  Calls Tryz.prog 94 #[.float .f64 x] w fun e w'=>e=.returned (.float .f64 (x % 9223372036854775808))∧w'=w:=by
 have h1:=rL
 have h2:=cK
 have h3:=dy h
 have h4:(szI (x:Int)).toNat=x % 9223372036854775808:=by rw [szN];rfl
 clear h
 go_enter Tryz.func94,Tryz.ntmps94
 go_wp2
 go_ret
 exact⟨rfl,rfl⟩

set_option maxHeartbeats 400000 in
theorem pO (x:Nat) (g:Bool) (w:World) (h:U64 x) (hg:(FloatKind.f64.format.order (x % 9223372036854775808) 9218868437227405311==some .gt)=g) :
  Calls Tryz.prog 56 #[.float .f64 x,.int .i64 0] w fun e w'=>e=.returned (.bool g)∧w'=w:=by
 have H:=hideS fun w=>Hg x w h
 clear h
 generalize x % 9223372036854775808=a at *
 go_enter Tryz.func56,Tryz.ntmps56
 go_wp2_with fail
 refine (H.out _).mono ?_
 rintro e w' ⟨rfl,rfl⟩
 go_wp2_with fail
 go_ret
 exact⟨rfl,rfl⟩

theorem Hh {x c:Nat} (h:U64 (x:Int)) (hc:U64 (c:Int)):(FloatKind.f64.format.order x c==some .gt)=ltB (c:Int) (x:Int):=by
 unfold ltB
 cases hn:ah (x:Int) with
 | true=>rw [bN hn];simp
 | false=>
  cases hm:ah (c:Int) with
  | true=>rw [eD hm];rfl
  | false=>rw [iB h hc hn hm];rfl

end Go.Proofs.YtcmbfflemoccmaaGreat
namespace Go.Proofs.YtcmbfflemoccmaaGreat
open Go.RowKit

set_option maxHeartbeats 400000 in
theorem Ck (k h l:Nat) (w:World) (h1:floatBits .mul .f64 k 4604418534311723008=some h) (h2:floatBits .mul .f64 k 4461442080421002358=some l) :
  Calls Tryz.prog 160 #[.float .f64 k] w fun e w'=>e=.returned (.tuple #[.float .f64 h,.float .f64 l])∧w'=w:=by
 have r1:=fun w=>run_float_arith (P:=Tryz.prog) w .mul 38 .f64 _ _ _ h1
 have r2:=fun w=>run_float_arith (P:=Tryz.prog) w .mul 38 .f64 _ _ _ h2
 clear h1 h2
 go_enter Tryz.func160,Tryz.ntmps160
 go_wp2
 go_ret2
 exact⟨rfl,rfl⟩

set_option maxHeartbeats 400000 in
theorem KB (w:World) :
  Calls Tryz.prog 158 #[.int .i64 1] w fun e w'=>e=.returned (.float .f64 9218868437227405312)∧w'=w:=by
 have h2:=cK
 go_enter Tryz.func158,Tryz.ntmps158
 go_wp2
 go_ret
 exact⟨rfl,rfl⟩

set_option maxHeartbeats 400000 in
theorem KC (x:Nat) (w:World) (h:U64 x) (hn:ah x=true) :
  Calls Tryz.prog 127 #[.float .f64 x] w fun e w'=>e=.returned (.float .f64 x)∧w'=w:=by
 have H:=hideS (bu x w h)
 rw [hn] at H
 clear h hn
 go_enter Tryz.func127,Tryz.ntmps127
 go_wp2_with fail
 refine H.out.mono ?_
 rintro e w' ⟨rfl,rfl⟩
 go_wp2_with fail
 go_ret
 exact⟨rfl,rfl⟩

set_option maxHeartbeats 400000 in
theorem MB (x:Nat) (g e:Bool) (w:World) (h:U64 x) (hn:ah x=false) (hg:(FloatKind.f64.format.order x 4649456441864749056==some .gt)=g) (he:(FloatKind.f64.format.order x 4649456441864749056==some .eq)=e) (hge:(g||e)=true) :
  Calls Tryz.prog 127 #[.float .f64 x] w fun e w'=>e=.returned (.float .f64 9218868437227405312)∧w'=w:=by
 have H:=hideS (bu x w h)
 rw [hn] at H
 clear h hn
 cases g<;>cases e<;>first | (cases hge;done) | skip
 all_goals
  clear hge
  go_enter Tryz.func127,Tryz.ntmps127
  go_wp2_with fail
  refine H.out.mono ?_
  rintro e w' ⟨rfl,rfl⟩
  go_wp2_with fail
  refine (KB _).mono ?_
  rintro e w' ⟨rfl,rfl⟩
  go_wp2_with fail
  go_ret
  exact⟨rfl,rfl⟩

set_option maxHeartbeats 400000 in
theorem MC (x:Nat) (g e:Bool) (w:World) (h:U64 x) (hn:ah x=false) (hg1:(FloatKind.f64.format.order x 4649456441864749056==some .gt)=false) (he1:(FloatKind.f64.format.order x 4649456441864749056==some .eq)=false)
  (hg:(FloatKind.f64.format.order x 13873145138068324352==some .lt)=g) (he:(FloatKind.f64.format.order x 13873145138068324352==some .eq)=e) (hge:(g||e)=true) :
  Calls Tryz.prog 127 #[.float .f64 x] w fun e w'=>e=.returned (.float .f64 0)∧w'=w:=by
 have H:=hideS (bu x w h)
 rw [hn] at H
 clear h hn
 cases g<;>cases e<;>first | (cases hge;done) | skip
 all_goals
  clear hge
  go_enter Tryz.func127,Tryz.ntmps127
  go_wp2_with fail
  refine H.out.mono ?_
  rintro e w' ⟨rfl,rfl⟩
  go_wp2_with fail
  go_ret
  exact⟨rfl,rfl⟩

set_option maxRecDepth 20000 in
set_option maxHeartbeats 1600000 in
theorem KD (x y t f hi lo d r p:Nat) (k:Int) (w:World) (h:U64 x) (hn:ah x=false) (hg1:(FloatKind.f64.format.order x 4649456441864749056==some .gt)=false) (he1:(FloatKind.f64.format.order x 4649456441864749056==some .eq)=false)
  (hg2:(FloatKind.f64.format.order x 13873145138068324352==some .lt)=false) (he2:(FloatKind.f64.format.order x 13873145138068324352==some .eq)=false)
  (q1:floatBits .mul .f64 x 4609176140021203710=some y) (q2:floatBits .add .f64 y 4602678819172646912=some t) (hf:Hid (∀ w,Calls Tryz.prog 159 #[.float .f64 t] w fun e w'=>e=.returned (.float .f64 f)∧w'=w))
  (q3:floatBits .mul .f64 f 4604418534311723008=some hi) (q4:floatBits .mul .f64 f 4461442080421002358=some lo) (q5:floatBits .sub .f64 x hi=some d) (q6:floatBits .sub .f64 d lo=some r)
  (q7:Hid (aX expL r=some p)) (up:Hid (U64 p)) (q8:floatToIntVal .f64 f .i64=some k) (hk: -2000≤k∧k≤2000) (hsp: -2000≤aN p∧aN p≤2000) (hsm: -9223372036854775808≤az p∧az p≤9223372036854775807) :
  Calls Tryz.prog 127 #[.float .f64 x] w fun e w'=>e=.returned (.float .f64 (aJ (az p) (aN p+k)))∧Below w.heap.size w w':=by
 have H:=hideS (bu x w h)
 rw [hn] at H
 have r1:=fun w=>run_float_arith (P:=Tryz.prog) w .mul 38 .f64 _ _ _ q1
 have r2:=fun w=>run_float_arith (P:=Tryz.prog) w .add 38 .f64 _ _ _ q2
 have r5:=fun w=>run_float_arith (P:=Tryz.prog) w .sub 38 .f64 _ _ _ q5
 have r6:=fun w=>run_float_arith (P:=Tryz.prog) w .sub 38 .f64 _ _ _ q6
 have r8:=fun w=>run_convert_float_int (P:=Tryz.prog) w 38 3 .f64 .i64 f k (by kernel_rfl) Tryz.underlying3 q8
 have HL:Hid (∀ w,Calls Tryz.prog 160 #[.float .f64 f] w fun e w'=>e=.returned (.tuple #[.float .f64 hi,.float .f64 lo])∧w'=w):=fun w=>Ck f hi lo w q3 q4
 have HSp:Hid (∀ w,Calls Tryz.prog 163 #[.float .f64 p] w fun e w'=>e=.returned (.tuple #[.int .i64 (az p),.int .i64 (aN p),.bool (aw p)])∧w'=w):=fun w=>fy p p w rfl up.out
 have HJ:Hid (∀ w,Calls Tryz.prog 164 #[.int .i64 (az p),.int .i64 (aN p+k)] w fun e w'=>e=.returned (.float .f64 (aJ (az p) (aN p+k)))∧∃ n,w'=w.drewN n):=fun w=>bZ _ _ w hsm.1 hsm.2
 clear h hn q1 q2 q3 q4 q5 q6 q8 hsm
 generalize aJ (az p) (aN p+k)=res at HJ
 generalize az p=sm at HJ HSp
 generalize aN p=se at HJ HSp hsp
 generalize aw p=so at HSp
 go_enter Tryz.func127,Tryz.ntmps127
 go_wp2_with fail
 refine (turned H.out).mono ?_
 rintro e w' ⟨rfl,rfl⟩
 clear H
 go_wp2_with fail
 refine (turned (hf.out _)).mono ?_
 rintro e w' ⟨rfl,rfl⟩
 go_wp2_with fail
 refine (turned (HL.out _)).mono ?_
 rintro e w' ⟨rfl,rfl⟩
 go_wp2_with fail
 have HT:=hideS (ui w)
 refine HT.out.mono ?_
 rintro e w1 ⟨rfl,hs,hb⟩
 have HB:=hideS hb
 have HH:Hid (Calls Tryz.prog 161 #[.slice (some ⟨w.heap.size,0,none⟩) 14 14,.float .f64 r] w1 fun e w'=>∃ r',e=.returned (.float .f64 r')∧Ag (aX expL r) r'∧∃ q,w'=w1.drewN q):=oR _ _ _ 14 r 14 expL w1 hs rfl (by decide)
 rw [q7.out] at HH
 clear hs hb HT
 go_wp2_with fail
 refine HH.out.mono ?_
 rintro e w2 ⟨r',rfl,hag,q,rfl⟩
 obtain rfl:=bC hag
 go_wp2_with fail
 refine (turned (HSp.out _)).mono ?_
 rintro e w' ⟨rfl,rfl⟩
 go_wp2_with fail
 refine (HJ.out _).mono ?_
 rintro e w' ⟨rfl,q',rfl⟩
 go_wp2_with fail
 go_ret
 exact⟨rfl,⟨HB.out.os,HB.out.tape,HB.out.output,HB.out.size,HB.out.block⟩⟩
end Go.Proofs.YtcmbfflemoccmaaGreat
namespace Go.Proofs.YtcmbfflemoccmaaGreat

theorem lg (b:Nat) (h:decide (b % 9223372036854775808<9218868437227405312)=true):af b:=by unfold af;exact of_decide_eq_true h
theorem fZ {K:Nat} {g:Int} (hs:Scale K g) {b m p:Nat} (q:Nat) (h0:sB b=false) (hm:mg (b % 9223372036854775808)=m) (hp:pl (b % 9223372036854775808)=p) (hq:q+974=p):vI b=((m*2^q:Nat):Int)*g:=by
 rw [gZ,h0]
 unfold sgZ aV V
 rw [if_neg (by decide),hm,hp,Int.natCast_mul,hs.at_ q p hq,Int.natCast_mul,Int.mul_assoc]
theorem uq {K:Nat} {g:Int} (hs:Scale K g):vI 4609176140021203710=1828833234529184396638827839488*g:=by
 rw [fZ hs (b:=4609176140021203710) 48 (by decide+kernel) (m:=6497320848556798) (by decide+kernel) (p:=1022) (by decide+kernel) rfl];rfl
theorem Ak {K:Nat} {g:Int} (hs:Scale K g):vI 4602678819172646912=633825300114114700748351602688*g:=by
 rw [fZ hs (b:=4602678819172646912) 47 (by decide+kernel) (m:=4503599627370496) (by decide+kernel) (p:=1021) (by decide+kernel) rfl];rfl
theorem Al {K:Nat} {g:Int} (hs:Scale K g):vI 4604418534311723008=878668439241424593572830642176*g:=by
 rw [fZ hs (b:=4604418534311723008) 47 (by decide+kernel) (m:=6243314766446592) (by decide+kernel) (p:=1021) (by decide+kernel) rfl];rfl
theorem DX {K:Nat} {g:Int} (hs:Scale K g):vI 4461442080421002358=241894980045432881152*g:=by
 rw [fZ hs (b:=4461442080421002358) 15 (by decide+kernel) (m:=7382048951581814) (by decide+kernel) (p:=989) (by decide+kernel) rfl];rfl
theorem lh {K:Nat} {g:Int} (hs:Scale K g) {m:Int} (h1: -9007199254740992≤m) (h2:m≤9007199254740992):vI (fi m)=1267650600228229401496703205376*(m*g)∧af (fi m)∧fi m<18446744073709551616:=by
 obtain⟨a,b,_,d⟩:=mN hs.k h1 h2
 refine⟨?_,b,d⟩
 rw [a,hs.unit,← Int.mul_assoc,Int.mul_comm m,Int.mul_assoc]
theorem ur {x y t:Nat} (hx:af x) (hy:af y) (h0:sB y=false) (ht:floatBits .add .f64 x y=some t):t % 9223372036854775808≠0∨sB t=false:=by
 rw [kO hx hy] at ht
 have e:iU (x / 9223372036854775808 % 2==1) (y / 9223372036854775808 % 2==1) (vI x+vI y)=t:=Option.some.inj ht
 have hy0:(y / 9223372036854775808 % 2==1)=false:=h0
 rw [hy0] at e
 unfold iU at e
 generalize vI x+vI y=T at e
 by_cases hT:T=0
 ·rw [if_pos hT,Bool.and_false,if_neg (by decide)] at e
  right;rw [← e];rfl
 ·left
  rw [if_neg hT,mp hT] at e
  have h1:=BK (T:=T.natAbs) (r:=1) (k:=0) (by decide) (by rw [show V 1=1 by decide];omega)
  have h2:=kI T.natAbs (-1074)
  have h3:1≤nearR T.natAbs (-1074):=h1
  rw [← e]
  unfold wrd
  generalize nearR T.natAbs (-1074)=r at *
  split<;>omega

theorem Am {X Y t Q hi lo d r g:Int} (x1: -(945667347770259133516540591210496*g)<X) (x2:X<900031926162042875062659275816960*g)
  (y1: -(1569275433846670190958947355801916604025588861116008628224*g)≤1267650600228229401496703205376*Y - 1828833234529184396638827839488*X) (y2:1267650600228229401496703205376*Y - 1828833234529184396638827839488*X≤1569275433846670190958947355801916604025588861116008628224*g)
  (t1: -(1237940039285380274899124224*g)≤t - (Y+633825300114114700748351602688*g)) (t2:t - (Y+633825300114114700748351602688*g)≤1237940039285380274899124224*g)
  (k1:1267650600228229401496703205376*Q≤t) (k2:t<1267650600228229401496703205376*Q+1267650600228229401496703205376*g)
  (a1: -(1569275433846670190958947355801916604025588861116008628224*g)≤1267650600228229401496703205376*hi - 878668439241424593572830642176*(1267650600228229401496703205376*Q)) (a2:1267650600228229401496703205376*hi - 878668439241424593572830642176*(1267650600228229401496703205376*Q)≤1569275433846670190958947355801916604025588861116008628224*g)
  (b1: -(1569275433846670190958947355801916604025588861116008628224*g)≤1267650600228229401496703205376*lo - 241894980045432881152*(1267650600228229401496703205376*Q)) (b2:1267650600228229401496703205376*lo - 241894980045432881152*(1267650600228229401496703205376*Q)≤1569275433846670190958947355801916604025588861116008628224*g)
  (d1: -(1237940039285380274899124224*g)≤d - (X - hi)) (d2:d - (X - hi)≤1237940039285380274899124224*g)
  (r1: -(1237940039285380274899124224*g)≤r - (d - lo)) (r2:r - (d - lo)≤1237940039285380274899124224*g) :
  -(633825300114114700748351602688*g)≤r∧r≤633825300114114700748351602688*g:=by
 constructor<;>omega

theorem DY {K:Nat} {g:Int} (hs:Scale K g) {x:Nat} (hx:af x) (x1: -(945667347770259133516540591210496*g)<vI x) (x2:vI x<900031926162042875062659275816960*g) :
  ∃ (y t hi lo d r:Nat) (k:Int),floatBits .mul .f64 x 4609176140021203710=some y∧floatBits .add .f64 y 4602678819172646912=some t∧af t∧Ieee.double.write ((Ieee.double.read t).integral .down)=fi k∧k*((2^K:Nat):Int)≤vI t∧vI t<(k+1)*((2^K:Nat):Int)∧-2000≤k∧k≤2000∧
   floatBits .mul .f64 (fi k) 4604418534311723008=some hi∧floatBits .mul .f64 (fi k) 4461442080421002358=some lo∧floatBits .sub .f64 x hi=some d∧floatBits .sub .f64 d lo=some r∧af r∧r<18446744073709551616∧-(633825300114114700748351602688*g)≤vI r∧vI r≤633825300114114700748351602688*g:=by
 have hg:=hs.pos
 obtain⟨y,y0,yn,_,y1,y2⟩:=pM hs hx (lg 4609176140021203710 (by decide)) (uq hs) (by omega) (by omega)
 have hw:=Ak hs
 obtain⟨t,t0,tn,_,t1,t2⟩:=Hf hs yn (lg 4602678819172646912 (by decide)) (by rw [hw];omega) (by rw [hw];omega)
 rw [hw] at t1 t2
 obtain⟨k,k0,k1,k2⟩:=Ah hs.k tn (ur yn (lg 4602678819172646912 (by decide)) (by decide+kernel) t0)
 have kk1:=k1
 have kk2:=k2
 rw [hs.unit,← Int.mul_assoc,Int.mul_comm k,Int.mul_assoc] at k1
 rw [hs.unit,Int.add_mul,Int.one_mul,← Int.mul_assoc,Int.mul_comm k,Int.mul_assoc] at k2
 have kb1: -2000≤k:=by
  by_cases h: -2000≤k
  ·exact h
  ·have:=Int.mul_le_mul_of_nonneg_right (show k≤-2001 by omega) (show 0≤g by omega)
   omega
 have kb2:k≤2000:=by
  by_cases h:k≤2000
  ·exact h
  ·have:=Int.mul_le_mul_of_nonneg_right (show 2001≤k by omega) (show 0≤g by omega)
   omega
 have kb3:=Int.mul_le_mul_of_nonneg_right kb1 (show 0≤g by omega)
 have kb4:=Int.mul_le_mul_of_nonneg_right kb2 (show 0≤g by omega)
 obtain⟨f1,fn,_⟩:=lh hs (m:=k) (by omega) (by omega)
 obtain⟨Q,hQ⟩:∃ Q,k*g=Q:=⟨_,rfl⟩
 rw [hQ] at f1 k1 k2 kb3 kb4
 obtain⟨hi,h0,hn,_,a1,a2⟩:=pM hs fn (lg 4604418534311723008 (by decide)) (Al hs) (by rw [f1];omega) (by rw [f1];omega)
 obtain⟨lo,l0,ln,_,b1,b2⟩:=pM hs fn (lg 4461442080421002358 (by decide)) (DX hs) (by rw [f1];omega) (by rw [f1];omega)
 rw [f1] at a1 a2 b1 b2
 obtain⟨d,d0,dn,_,d1,d2⟩:=xl hs hx hn (by omega) (by omega)
 obtain⟨r,r0,rn,r64,r1,r2⟩:=xl hs dn ln (by omega) (by omega)
 obtain⟨z1,z2⟩:=Am x1 x2 y1 y2 t1 t2 k1 k2 a1 a2 b1 b2 d1 d2 r1 r2
 exact⟨y,t,hi,lo,d,r,k,y0,t0,tn,k0,kk1,kk2,kb1,kb2,h0,l0,d0,r0,rn,r64,z1,z2⟩
end Go.Proofs.YtcmbfflemoccmaaGreat
