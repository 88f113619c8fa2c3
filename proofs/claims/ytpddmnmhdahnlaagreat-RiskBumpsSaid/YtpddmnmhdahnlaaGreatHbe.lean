/-  -/
import Derived.Test.YtpddmnmhdahnlaaGreatHbd
import Derived.Test.YtpddmnmhdahnlaaGreatHbc
import Derived.Test.YtpddmnmhdahnlaaGreatNFrac
import Derived.Test.YtpddmnmhdahnlaaGreatHat
import Derived.Eval
namespace Go.Proofs.YtpddmnmhdahnlaaGreat
open Go.RowKit

theorem wG (X Y a k:Nat):aK (X*2^a) Y k=aK X Y (a+k):=by
 unfold aK
 rw [Nat.mul_assoc,← Nat.pow_add]
theorem mc (X Y k c:Nat) (hc:0<c):aK (X*c) (Y*c) k=aK X Y k:=by
 unfold aK
 rw [show X*c*2^k=X*2^k*c by rw [Nat.mul_assoc,Nat.mul_comm c,← Nat.mul_assoc],Nat.mul_div_mul_right _ _ hc,Nat.mul_mod_mul_right]
 have:(X*2^k % Y*c=0)↔(X*2^k % Y=0):=by
  rw [Nat.mul_eq_zero];omega
 simp only [this]
theorem CK {A B X Y p q m t:Nat} (hA:A*2^p=X*2^t) (hB:B*2^q=Y*2^t):aK A B (p+m)=aK X Y (q+m):=by
 rw [← wG A B p m,hA,← mc _ B m (2^q) (Nat.two_pow_pos _),hB,show X*2^t*2^q=X*2^q*2^t by rw [Nat.mul_assoc,Nat.mul_comm (2^t),← Nat.mul_assoc],mc _ _ _ _ (Nat.two_pow_pos _),wG]
theorem CL {x y X Y:Nat} (hx:af x) (hy:af y) (hX:aV x=X*2^1074) (hY:aV y=Y*2^1074) (hX0:X≠0) (hY0:Y≠0) (hY':Y≤1000000000) :
  floatBits .quo .f64 x y=some (wrd (sB x^^sB y) (pg X Y)):=by
 have px:=Nat.two_pow_pos 1074
 have h0:x % 9223372036854775808≠0:=by
  intro h
  unfold aV at hX
  rw [h,aX] at hX
  have:=Nat.mul_pos (show 0<X by omega) px
  omega
 have h1:y % 9223372036854775808≠0:=by
  intro h
  unfold aV at hY
  rw [h,aX] at hY
  have:=Nat.mul_pos (show 0<Y by omega) px
  omega
 unfold aV V at hX hY
 have mx:=dV h0
 have my:=dV h1
 have lx:=lE (x % 9223372036854775808)
 have ly:=lE (y % 9223372036854775808)
 have hl:(mg (y % 9223372036854775808)).log2<53:=(Nat.log2_lt my).2 (by omega)
 rw [iK hx hy h0 h1 rfl rfl rfl rfl (k:=pl (x % 9223372036854775808)+300) (by omega),CK hX hY]
 obtain⟨k1,k2⟩:=wF hX0 hY0 hY'
 have hb:=jZ hX0 hY0 k2
 have e1:=jY (X:=X) (Y:=Y) (p:=-1) (by omega) (show je X Y≤pl (y % 9223372036854775808)+300 by omega) hb.2
 have e2:=jY (X:=X) (Y:=Y) (p:=-1) (by omega) k1 hb.2
 unfold pg
 rw [← e2,e1]
 congr 3
 omega
end Go.Proofs.YtpddmnmhdahnlaaGreat
namespace Go.Proofs.YtpddmnmhdahnlaaGreat
open Go.RowKit

theorem mj (m:Int):floatOfInt .f64 m=fi m:=by
 show Ieee.double.nearest (decide (m<0)) m.natAbs 0=_
 unfold fi aC
 by_cases h0:m=0
 ·subst h0;rfl
 ·rw [if_neg h0,bD _ (by omega)]
  by_cases hn:m<0
  ·simp only [hn,decide_true,if_true];rw [fx]
  ·simp only [hn,decide_false,if_false];rw [fT]
theorem GS {m:Int} {K:Nat} (hK:K=1074) (h1: -1000000000≤m) (h2:m≤1000000000):af (fi m)∧aV (fi m)=m.natAbs*2^K∧sB (fi m)=decide (m<0)∧fi m<18446744073709551616:=by
 obtain⟨a,b,c,d⟩:=lJ (m:=m) hK (by omega) (by omega)
 refine⟨b,?_,c,d⟩
 unfold aV
 have hn:(vI (fi m)).natAbs=V (fi m % 9223372036854775808):=by
  unfold vI
  split<;>simp
 rw [← hn,a,Int.natAbs_mul,Int.natAbs_natCast]
def yW (P Q:Int):Nat:=if P=0 then 0 else wrd (decide (P<0)) (pg P.natAbs Q.natAbs)
theorem GT {P Q:Int} (h1: -1000000000≤P) (h2:P≤1000000000) (h3:0<Q) (h4:Q≤1000000000):floatBits .quo .f64 (fi P) (fi Q)=some (yW P Q):=by
 obtain⟨K,hK⟩:∃ K:Nat,K=1074:=⟨_,rfl⟩
 obtain⟨a1,a2,a3,_⟩:=GS (m:=P) hK h1 h2
 obtain⟨b1,b2,b3,_⟩:=GS (m:=Q) hK (by omega) h4
 have hs:decide (Q<0)=false:=decide_eq_false (by omega)
 have hp:=Nat.two_pow_pos K
 unfold yW
 by_cases h0:P=0
 ·rw [if_pos h0]
  subst h0
  have hq:fi Q % 9223372036854775808≠0:=fun e=>by
   unfold aV at b2
   rw [e,aX] at b2
   have:=Nat.mul_pos (show 0<Q.natAbs by omega) hp
   omega
  rw [show fi 0=0 from Iw,nM (by rfl) b1 hq,b3,hs]
  rfl
 ·rw [if_neg h0]
  subst hK
  rw [CL a1 b1 a2 b2 (by omega) (by omega) (by omega),a3,b3,hs]
  simp
theorem LN {P Q:Int} (hQ:0<Q) (hQ':Q≤1000000000):rS P Q=(yW P Q:Int):=by
 unfold yW
 by_cases h0:P=0
 ·rw [if_pos h0];unfold rS;rw [if_pos h0];rfl
 ·rw [if_neg h0,Gx h0 hQ hQ']
  unfold gh wrd
  by_cases hn:P<0
  ·simp [hn]
  ·simp [hn]
set_option maxHeartbeats 800000 in
theorem wS (kind W a b P Q:Int) (v:Value) (w:World) (h1: -1000000000≤P) (h2:P≤1000000000) (h3:0<Q) (h4:Q≤1000000000) (H:Hid (FracH w kind W a b P Q 0 v)) :
  Calls Tryz.prog 76 #[.int .i64 kind,.agg #[.int .i64 W,v],.int .i64 a,.int .i64 b] w fun e w'=>e=.returned (.tuple #[.float .f64 (yW P Q),.int .i64 0])∧Below w.heap.size w w':=by
 have HB:=hideS (bF w W v)
 have f1:=mj P
 have f2:=mj Q
 have hq:=GT h1 h2 h3 h4
 unfold FracH at H
 clear h1 h2 h3 h4
 generalize yW P Q=R at *
 generalize fi P=X at *
 generalize fi Q=Y at *
 have hr:=fun wx=>run_float_arith (P:=Tryz.prog) wx .quo 26 .f64 X Y R hq
 clear hq
 go_enter Tryz.func76,Tryz.ntmps76
 go_wp2_with (go_at_call 118;refine (H.out _ HB.out).mono ?_;rintro e w1 ⟨rfl,hb⟩)
 go_ret2
 exact⟨rfl,HB.out.trans (hb.mono HB.out.size)⟩
set_option maxHeartbeats 800000 in
theorem CT (kind W a b E:Int) (v:Value) (w:World) (hE:E≠0) (H:Hid (FracH w kind W a b 0 0 E v)) :
  Calls Tryz.prog 76 #[.int .i64 kind,.agg #[.int .i64 W,v],.int .i64 a,.int .i64 b] w fun e w'=>e=.returned (.tuple #[.float .f64 0,.int .i64 E])∧Below w.heap.size w w':=by
 have HB:=hideS (bF w W v)
 have hE':(E !=0)=true:=bne_iff_ne.2 hE
 unfold FracH at H
 clear hE
 go_enter Tryz.func76,Tryz.ntmps76
 go_wp2_with (go_at_call 118;refine (H.out _ HB.out).mono ?_;rintro e w1 ⟨rfl,hb⟩)
 go_ret2
 exact⟨rfl,HB.out.trans (hb.mono HB.out.size)⟩
def MI (w:World) (kind W a b:Int) (R:Nat) (E:Int) (v:Value):Prop:=∀ wx,Below w.heap.size w wx→Calls Tryz.prog 76 #[.int .i64 kind,.agg #[.int .i64 W,v],.int .i64 a,.int .i64 b] wx fun e w'=>e=.returned (.tuple #[.float .f64 R,.int .i64 E])∧Below wx.heap.size wx w'
theorem FracH.later {w wx:World} {kind W a b P Q E:Int} {v:Value} (h:FracH w kind W a b P Q E v) (hb:Below w.heap.size w wx):FracH wx kind W a b P Q E v:=fun wy hy=>h wy (hb.trans (hy.mono hb.size))
theorem GU {kind:Int}:0<dF kind∧dF kind≤1000000000:=by
 unfold dF
 split
 ·decide
 ·split
  ·decide
  ·split<;>decide
theorem FracR.bd {kind W a b P Q E:Int} {rs:List Rul} (h:FracR kind W a b rs P Q E): -1000000000≤P∧P≤1000000000∧(E=0→0<Q∧Q≤1000000000)∧(E≠0→P=0∧Q=0):=by
 cases h with
 | fine hk hk' ha hb h6=>
  have:=wE (opB W rs) (kind:=kind) ha hb
  exact⟨this.1,this.2,fun _=>GU,fun c=>absurd rfl c⟩
 | kind h=>exact⟨by decide,by decide,fun c=>absurd c (by decide),fun _=>⟨rfl,rfl⟩⟩
 | cal A B h6 h hA=>exact⟨by decide,by decide,fun c=>absurd c hA,fun _=>⟨rfl,rfl⟩⟩
 | day hk hk' h h6=>exact⟨by decide,by decide,fun c=>absurd c (by decide),fun _=>⟨rfl,rfl⟩⟩
theorem FracR.year {kind W a b P Q E:Int} {rs:List Rul} (h:FracR kind W a b rs P Q E) (p:Option Addr) (bb off c:Nat) (w:World) (hs:RSrc w p bb off rs) (hl:rs.length≤9223372036854775807):MI w kind W a b (yW P Q) E (.slice p rs.length c):=fun wx hbx=>by
 have hp:=(h.prog p bb off c w hs hl).later hbx
 obtain⟨b1,b2,b3,b4⟩:=h.bd
 by_cases hE:E=0
 ·subst hE
  exact wS kind W a b P Q _ wx b1 b2 (b3 rfl).1 (b3 rfl).2 hp
 ·obtain⟨rfl,rfl⟩:=b4 hE
  exact CT kind W a b E _ wx hE hp
end Go.Proofs.YtpddmnmhdahnlaaGreat
namespace Go.Proofs.YtpddmnmhdahnlaaGreat
open Go.RowKit

end Go.Proofs.YtpddmnmhdahnlaaGreat
namespace Go.Proofs.YtpddmnmhdahnlaaGreat
open Go.RowKit

theorem zE {f:Nat} {args:Array Value} {w:World} {R R':Value→World→Prop} (hi:Tryz.prog.inits.idxOf? f=none) (h:Calls Tryz.prog f args w fun e w'=>∃ v,e=.returned v∧R v w') (h':Calls Tryz.prog f args w fun e w'=>∃ v,e=.returned v∧R' v w'):∃ v w',R v w'∧R' v w':=by
 have turn:∀ {Q:Value→World→Prop},(Calls Tryz.prog f args w fun e w'=>∃ v,e=.returned v∧Q v w')→∃ n v w',runN Tryz.prog n (lone (Frame.enter Tryz.prog f args .normal) [] w)=.ended (.done v) w'∧Q v w':=fun hq=>
  Calls.done (hq.mono fun e w' ⟨v,e1,r⟩=>by subst e1;exact r) hi
 obtain⟨n,v,w1,e1,r1⟩:=turn h
 obtain⟨m,u,w2,e2,r2⟩:=turn h'
 have key:∀ {n m:Nat} {v u:Value} {w1 w2:World} {M:Machine},n≤m→runN Tryz.prog n M=.ended (.done v) w1→runN Tryz.prog m M=.ended (.done u) w2→v=u∧w1=w2:=by
  intro n m v u w1 w2 M hnm e1 e2
  obtain⟨k,rfl⟩:∃ k,m=n+k:=⟨m - n,by omega⟩
  rw [runN_add,e1] at e2
  simp at e2
  exact e2
 rcases Nat.le_total n m with c | c
 ·obtain⟨rfl,rfl⟩:=key c e1 e2
  exact⟨v,w1,r1,r2⟩
 ·obtain⟨rfl,rfl⟩:=key c e2 e1
  exact⟨u,w2,r1,r2⟩

theorem mR {x y:Nat} (hx:x<18446744073709551616) (hn:ag (x:Int)=false) (w:World) (h:Calls Tryz.prog 77 #[.float .f64 x] w fun e w'=>e=.returned (.float .f64 y)∧Below w.heap.size w w'):li x=some y:=by
 have hs:=bY hx
 obtain⟨v,w',⟨a,_⟩,z,b,c⟩:=zE (R:=fun v _=>v=.float .f64 y∧True) (R':=fun v _=>∃ z,v=.float .f64 z∧Ag (li x) z) (by kernel_rfl) (h.mono fun e w' ⟨a,_⟩=>⟨_,a,rfl,trivial⟩) ((hs.prog w).mono fun e w' ⟨z,a,b,_⟩=>⟨_,a,z,rfl,b.1⟩)
 rw [a] at b
 obtain rfl:y=z:=by injection b
 obtain⟨q,e,_⟩:=hs.num hn
 rw [e] at c ⊢
 rw [cz c]
theorem Hl (w:World):Calls Tryz.prog 77 #[.float .f64 9223372036854775808] w fun e w'=>e=.returned (.float .f64 4607182418800017408)∧Below w.heap.size w w':=by
 have:=kh 9223372036854775808 9223372036854775808 4602678819172646912 0 0 0 9223372036854775808 9223372036854775808 4607182418800017408 0 w (by unfold U64;omega) (by decide) (by decide) (by decide) (by decide) (by decide) (by decide+kernel) (by decide+kernel) oB (by decide+kernel) (by decide+kernel) (by decide+kernel) (by decide+kernel) (by show _=_;decide+kernel) (by show U64 _;unfold U64;omega) (by decide+kernel) (by omega) (by decide+kernel) (by decide+kernel)
 rw [show aC (aD (4607182418800017408:Nat)) (aN (4607182418800017408:Nat)+0)=4607182418800017408 by decide+kernel] at this
 exact this
theorem LZ (w0:World):li 0=some 4607182418800017408:=mR (by decide) (by decide) w0 (MO w0)
theorem Ki (w0:World):li 9223372036854775808=some 4607182418800017408:=mR (by decide) (by decide) w0 (Hl w0)
theorem Kj (w0:World) (s:Bool):Lk (Ll (some (wrd s 0)))=some 4607182418800017408:=by
 cases s
 ·exact Ki w0
 ·exact LZ w0
end Go.Proofs.YtpddmnmhdahnlaaGreat
