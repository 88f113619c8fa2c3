/-  -/
import Derived.Test.YtkooknagalgfpaaGreatHal
import Derived.Laws.BitsAllLaws
import Derived.Laws.Bits64b
import Derived.BigQuiet
namespace Go.Proofs.YtkooknagalgfpaaGreat
open Go.RowKit

theorem az (n lo hi:Int) (w:World) :
  Calls Tryz.prog 253 #[.int .i64 n,.int .i64 lo,.int .i64 hi] w fun e w'=>e=.returned (.bool (decide (lo≤n∧n≤hi)))∧w'=w:=by
 by_cases h1:lo≤n<;>by_cases h2:n≤hi
 all_goals
  first | rw [decide_eq_true (⟨h1,h2⟩:lo≤n∧n≤hi)] | rw [decide_eq_false (fun h:lo≤n∧n≤hi=>by omega)]
  go_enter Tryz.func253,Tryz.ntmps253
  go_wp2
  go_ret
  exact⟨rfl,rfl⟩

theorem pR (n:Int) (w:World) :
  Calls Tryz.prog 238 #[.int .i64 n] w fun e w'=>e=.returned (.bool (decide (ag n)))∧w'=w:=by
 have HI:=hideS (fun wx=>az n 0 109572 wx)
 rw [show decide (ag n)=decide (0≤n∧n≤109572) from decide_eq_decide.2 Iff.rfl]
 generalize decide (0≤n∧n≤109572)=R at *
 go_enter Tryz.func238,Tryz.ntmps238
 go_wp2_with (go_at_call 253;refine (HI.out _).mono ?_;rintro e w1 ⟨rfl,rfl⟩)
 go_ret
 exact⟨rfl,rfl⟩

theorem Il (n:Int):bits .and .i64 n 1=n % 2:=by
 have h1:(BitVec.ofInt 64 1).toNat=2^1 - 1:=by decide
 have key:(BitVec.ofInt 64 n&&& BitVec.ofInt 64 1).toNat=(n % ((2^64:Nat):Int)).toNat % 2^1:=by
  rw [BitVec.toNat_and,BitVec.toNat_ofInt,h1,Nat.and_two_pow_sub_one_eq_mod]
 show IntKind.i64.wrap ((BitVec.ofInt 64 n&&& BitVec.ofInt 64 1).toNat:Nat)=n % 2
 rw [key,IntKind.wrap_i64]
 omega

set_option maxHeartbeats 400000 in
theorem jO (W n:Int) (w:World) (n0: -7≤n) (n1:n≤1000000) :
  Calls Tryz.prog 254 #[.int .i64 W,.int .i64 n] w fun e w'=>e=.returned (.bool (dW W n))∧w'=w:=by
 obtain⟨k,hk⟩:∃ k:Nat,n % 7=k:=⟨(n % 7).toNat,by omega⟩
 have hak:(n+7) % 7=(k:Int):=by omega
 have hk6:k≤6:=by omega
 have hand:=Il (W / 2^k)
 unfold dW
 rw [hk]
 have HE:Hid ((W / ((2^(((k:Nat):Int)).toNat:Nat):Int) % 2==1)=(W / 2^k % 2==1)):=by
  show _=_
  rw [Int.toNat_natCast,Int.natCast_pow];rfl
 clear hk
 rw [HE.out]
 clear HE
 go_enter Tryz.func254,Tryz.ntmps254
 go_wp2_with fail
 go_ret
 exact⟨rfl,rfl⟩

theorem Im {W n mv:Int} {u d:Nat} (hu:Ups W n u d) (h0:u=0):cB W n mv u d=n:=by
 unfold cB
 rw [if_pos (Or.inr (by have:=hu.uf;rw [h0] at this;simpa using this))]
theorem OZ {W n mv:Int} {u d:Nat} (hu:Ups W n u d) (hm:mv≠0) (hd:mv=2→u≤d):cB W n mv u d=n+u:=by
 by_cases h0:u=0
 ·rw [Im hu h0,h0];omega
 ·unfold cB
  have ho:dW W n=true:=by have:=hu.uo 0 (by omega);simpa using this
  rw [if_neg (fun a=>by
   rcases a with a | a
   ·exact hm a
   ·rw [ho] at a;exact Bool.noConfusion a),if_neg (fun a=>by have:=hd a.1;omega)]
theorem In {W n mv:Int} {u d:Nat} (hu:Ups W n u d) (hm:mv=2) (hd:d<u):cB W n mv u d=n - d:=by
 unfold cB
 have ho:dW W n=true:=by have:=hu.uo 0 (by omega);simpa using this
 rw [if_neg (fun a=>by
   rcases a with a | a
   ·omega
   ·rw [ho] at a;exact Bool.noConfusion a),if_pos ⟨hm,by omega⟩]

set_option maxHeartbeats 1600000 in
theorem jr (W n mv:Int) (u d:Nat) (w:World) (n0: -1≤n) (n1:n≤500000) (hu:Ups W n u d) :
  Calls Tryz.prog 270 #[.int .i64 n,.int .i64 mv,.int .i64 W] w fun e w'=>e=.returned (.int .i64 (cB W n mv u d))∧w'=w:=by
 have HO:Hid (∀ x wx,-7≤x→x≤1000000→Calls Tryz.prog 254 #[.int .i64 W,.int .i64 x] wx fun e w'=>e=.returned (.bool (dW W x))∧w'=wx):=fun x wx a b=>jO W x wx a b
 have HU:=hideS hu
 have u6:=hu.ub
 have d6:=hu.db
 obtain⟨R,hR⟩:∃ R,cB W n mv u d=R:=⟨_,rfl⟩
 rw [hR]
 have HR:=hideS hR
 clear hR hu
 by_cases hz:mv=0
 ·have HE:Hid (n=R):=by
   show _=_
   rw [← HR.out];unfold cB;rw [if_pos (Or.inl hz)]
  subst hz
  go_enter Tryz.func270,Tryz.ntmps270
  go_wp2_with fail
  go_ret
  obtain rfl:=HE.out
  exact⟨rfl,rfl⟩
 ·have hz':(mv==0)=false:=beq_eq_false_iff_ne.2 hz
  have HZ:=hideS hz
  clear hz
  go_enter Tryz.func270,Tryz.ntmps270
  go_wp2_with fail
  go_loop [11] (fun i=>∃ (k:Nat),k≤u∧i=.int .i64 k∧Hid (mv=2→k≤d)) (fun i=>u+1 - (intOf i).toNat)
  case atStart=>exact⟨0,by omega,rfl,fun _=>by omega⟩
  case round=>
   obtain⟨k,hk,rfl,HK⟩:=hrel
   have hk7:(k:Int)<7:=by omega
   have H1:=hideS (fun wx=>HO.out (n+k) wx (by omega) (by omega))
   by_cases hlt:k<u
   ·have e1:dW W (n+k)=true:=HU.out.uo k hlt
    rw [e1] at H1
    clear e1
    by_cases h2:mv=2
    ·have H2:=hideS (fun wx=>HO.out (n - k) wx (by omega) (by omega))
     have hkd:=HK.out h2
     by_cases hld:k<d
     ·have e2:dW W (n - k)=true:=HU.out.dn k hld
      rw [e2] at H2
      clear e2
      subst h2
      go_wp2_with (first | (go_at_call_of 254 (Value.int IntKind.i64 (n+k));refine (H1.out _).mono ?_;rintro e w' ⟨rfl,rfl⟩) | (go_at_call_of 254 (Value.int IntKind.i64 (n - k));refine (H2.out _).mono ?_;rintro e w' ⟨rfl,rfl⟩))
      go_round
      case rel=>exact⟨k+1,by omega,by go_num,fun _=>by omega⟩
      case measure=>simp [intOf];omega
     ·obtain rfl:k=d:=by omega
      have e2:dW W (n - k)=false:=HU.out.df
      rw [e2] at H2
      clear e2
      have HE:Hid (n - k=R):=by
       show _=_
       rw [← HR.out,In HU.out h2 hlt]
      subst h2
      go_wp2_with (first | (go_at_call_of 254 (Value.int IntKind.i64 (n+k));refine (H1.out _).mono ?_;rintro e w' ⟨rfl,rfl⟩) | (go_at_call_of 254 (Value.int IntKind.i64 (n - k));refine (H2.out _).mono ?_;rintro e w' ⟨rfl,rfl⟩))
      go_ret
      obtain rfl:=HE.out
      exact⟨rfl,rfl⟩
    ·have h2':(mv==2)=false:=beq_eq_false_iff_ne.2 h2
     have HK':Hid (mv=2→k+1≤d):=fun a=>absurd a h2
     clear h2
     go_wp2_with (go_at_call 254;refine (H1.out _).mono ?_;rintro e w' ⟨rfl,rfl⟩)
     go_round
     case rel=>exact⟨k+1,by omega,by go_num,HK'⟩
     case measure=>simp [intOf];omega
   ·obtain rfl:k=u:=by omega
    have e1:dW W (n+k)=false:=HU.out.uf
    rw [e1] at H1
    clear e1
    have HE:Hid (n+k=R):=by
     show _=_
     rw [← HR.out,OZ HU.out HZ.out HK.out]
    go_wp2_with (go_at_call 254;refine (H1.out _).mono ?_;rintro e w' ⟨rfl,rfl⟩)
    go_ret
    obtain rfl:=HE.out
    exact⟨rfl,rfl⟩
end Go.Proofs.YtkooknagalgfpaaGreat
namespace Go.Proofs.YtkooknagalgfpaaGreat
open Go.RowKit

theorem Qg (mon day nth wd off fr to mv:Int):bW ⟨1,mon,day,nth,wd,off,fr,to,mv⟩=decide ((1900≤fr∧fr≤2199∧fr≤to∧to≤2199∧0≤mv∧mv≤2)∧nth=0∧wd=0∧off=0∧1≤mon∧mon≤12∧1≤day∧day≤sR mon):=by
 by_cases h:Ar fr to mv
 ·rw [QP h];exact decide_eq_decide.2 ⟨fun a=>⟨h,a⟩,fun a=>a.2⟩
 ·rw [uF (by decide) h,decide_eq_false (fun a=>h a.1)]
theorem Qh (mon day nth wd off fr to mv:Int):bW ⟨2,mon,day,nth,wd,off,fr,to,mv⟩=decide ((1900≤fr∧fr≤2199∧fr≤to∧to≤2199∧0≤mv∧mv≤2)∧day=0∧off=0∧1≤mon∧mon≤12∧0≤wd∧wd≤6∧1≤nth∧nth≤5):=by
 by_cases h:Ar fr to mv
 ·rw [QQ h];exact decide_eq_decide.2 ⟨fun a=>⟨h,a⟩,fun a=>a.2⟩
 ·rw [uF (by decide) h,decide_eq_false (fun a=>h a.1)]
theorem Qi (mon day nth wd off fr to mv:Int):bW ⟨3,mon,day,nth,wd,off,fr,to,mv⟩=decide ((1900≤fr∧fr≤2199∧fr≤to∧to≤2199∧0≤mv∧mv≤2)∧mon=0∧day=0∧nth=0∧wd=0∧-100≤off∧off≤100):=by
 by_cases h:Ar fr to mv
 ·rw [QR h];exact decide_eq_decide.2 ⟨fun a=>⟨h,a⟩,fun a=>a.2⟩
 ·rw [uF (by decide) h,decide_eq_false (fun a=>h a.1)]
theorem gW (w:World) (o1 o2:Obj):Below w.heap.size w ((w.alloc o1).alloc o2):=((Below.refl w.heap.size w).alloc (Nat.le_refl _) _).alloc (by simp) _

theorem AL (n:Int) (w:World) :
  Calls Tryz.prog 238 #[.int .i64 n] w fun e w'=>e=.returned (.bool (decide (0≤n∧n≤109572)))∧w'=w:=by
 have:=pR n w
 rw [show decide (ag n)=decide (0≤n∧n≤109572) from decide_eq_decide.2 Iff.rfl] at this
 exact this

set_option maxHeartbeats 1600000 in
theorem mu (kind mon day nth wd off fr to mv:Int) (w:World) :
  Calls Tryz.prog 296 #[.agg #[.int .i64 kind,.int .i64 mon,.int .i64 day,.int .i64 nth,.int .i64 wd,.int .i64 off,.int .i64 fr,.int .i64 to,.int .i64 mv]] w fun e w'=>e=.returned (.bool (decide (1900≤fr∧fr≤2199∧fr≤to∧to≤2199∧0≤mv∧mv≤2)))∧Below w.heap.size w w':=by
 obtain⟨R,hR⟩:∃ R,decide (1900≤fr∧fr≤2199∧fr≤to∧to≤2199∧0≤mv∧mv≤2)=R:=⟨_,rfl⟩
 rw [hR]
 have HR:=hideS hR
 clear hR
 go_enter Tryz.func296,Tryz.ntmps296
 go_wp2_with (go_at_call 253;refine (az _ _ _ _).mono ?_;rintro e w1 ⟨rfl,rfl⟩)
 all_goals
  go_ret
  refine⟨xg (Eq.trans ?_ HR.out),(Below.refl w.heap.size w).alloc (Nat.le_refl _) _⟩
  first | exact (decide_eq_false (by omega)).symm | exact decide_eq_decide.2 (by omega) | (rw [Bool.eq_iff_iff];simp only [Bool.and_eq_true,decide_eq_true_eq];omega)

theorem Io {m:Int} (h1:1≤m) (h2:m≤12):bt 2000 m=sR m:=by
 rcases month_cases h1 h2 with rfl | rfl | rfl | rfl | rfl | rfl | rfl | rfl | rfl | rfl | rfl | rfl<;>decide

set_option maxHeartbeats 3200000 in
theorem Ip (mon day nth wd off fr to mv:Int) (w:World) :
  Calls Tryz.prog 304 #[.agg #[.int .i64 4,.int .i64 mon,.int .i64 day,.int .i64 nth,.int .i64 wd,.int .i64 off,.int .i64 fr,.int .i64 to,.int .i64 mv]] w fun e w'=>e=.returned (.bool (bW ⟨4,mon,day,nth,wd,off,fr,to,mv⟩))∧Below w.heap.size w w':=by
 rw [QO]
 obtain⟨R,hR⟩:∃ R,decide (mon=0∧nth=0∧wd=0∧off=0∧fr=0∧to=0∧mv=0∧0≤day∧day≤109572)=R:=⟨_,rfl⟩
 rw [hR]
 have HR:=hideS hR
 clear hR
 go_enter Tryz.func304,Tryz.ntmps304
 go_wp2_with (go_at_call 238;refine (AL _ _).mono ?_;rintro e w1 ⟨rfl,rfl⟩)
 all_goals
  go_ret
  refine⟨xg (Eq.trans ?_ HR.out),(Below.refl w.heap.size w).alloc (Nat.le_refl _) _⟩
  first | exact (decide_eq_false (by omega)).symm | exact decide_eq_decide.2 (by omega) | (rw [Bool.eq_iff_iff];simp only [Bool.and_eq_true,decide_eq_true_eq];omega)

set_option maxHeartbeats 3200000 in
theorem Iq (mon day nth wd off fr to mv:Int) (w:World) :
  Calls Tryz.prog 300 #[.agg #[.int .i64 3,.int .i64 mon,.int .i64 day,.int .i64 nth,.int .i64 wd,.int .i64 off,.int .i64 fr,.int .i64 to,.int .i64 mv]] w fun e w'=>e=.returned (.bool (bW ⟨3,mon,day,nth,wd,off,fr,to,mv⟩))∧Below w.heap.size w w':=by
 rw [Qi]
 obtain⟨R,hR⟩:∃ R,decide ((1900≤fr∧fr≤2199∧fr≤to∧to≤2199∧0≤mv∧mv≤2)∧mon=0∧day=0∧nth=0∧wd=0∧-100≤off∧off≤100)=R:=⟨_,rfl⟩
 rw [hR]
 have HR:=hideS hR
 clear hR
 have HB2:=hideS (gW w)
 have HA:=hideS (fun kind mon day nth wd off fr to mv wx=>mu kind mon day nth wd off fr to mv wx)
 go_enter Tryz.func300,Tryz.ntmps300
 go_wp2_with (first | (go_at_call 253;refine (az _ _ _ _).mono ?_;rintro e w1 ⟨rfl,rfl⟩) | (go_at_call 296;refine (HA.out _ _ _ _ _ _ _ _ _ _).mono ?_;rintro e w1 ⟨rfl,hb1⟩))
 all_goals
  go_ret
  first
  | refine⟨xg (Eq.trans ?_ HR.out),HB2.out _ _⟩
  | refine⟨xg (Eq.trans ?_ HR.out),(HB2.out _ _).trans (hb1.mono (by simp<;>omega))⟩
  first | exact (decide_eq_false (by omega)).symm | exact decide_eq_decide.2 (by omega) | (rw [Bool.eq_iff_iff];simp only [Bool.and_eq_true,decide_eq_true_eq];omega)

set_option maxHeartbeats 3200000 in
theorem Ir (mon day nth wd off fr to mv:Int) (w:World) :
  Calls Tryz.prog 298 #[.agg #[.int .i64 2,.int .i64 mon,.int .i64 day,.int .i64 nth,.int .i64 wd,.int .i64 off,.int .i64 fr,.int .i64 to,.int .i64 mv]] w fun e w'=>e=.returned (.bool (bW ⟨2,mon,day,nth,wd,off,fr,to,mv⟩))∧Below w.heap.size w w':=by
 rw [Qh]
 obtain⟨R,hR⟩:∃ R,decide ((1900≤fr∧fr≤2199∧fr≤to∧to≤2199∧0≤mv∧mv≤2)∧day=0∧off=0∧1≤mon∧mon≤12∧0≤wd∧wd≤6∧1≤nth∧nth≤5)=R:=⟨_,rfl⟩
 rw [hR]
 have HR:=hideS hR
 clear hR
 have HB2:=hideS (gW w)
 have HA:=hideS (fun kind mon day nth wd off fr to mv wx=>mu kind mon day nth wd off fr to mv wx)
 go_enter Tryz.func298,Tryz.ntmps298
 go_wp2_with (first | (go_at_call 253;refine (az _ _ _ _).mono ?_;rintro e w1 ⟨rfl,rfl⟩) | (go_at_call 296;refine (HA.out _ _ _ _ _ _ _ _ _ _).mono ?_;rintro e w1 ⟨rfl,hb1⟩))
 all_goals
  go_ret
  first
  | refine⟨xg (Eq.trans ?_ HR.out),HB2.out _ _⟩
  | refine⟨xg (Eq.trans ?_ HR.out),(HB2.out _ _).trans (hb1.mono (by simp<;>omega))⟩
  first | exact (decide_eq_false (by omega)).symm | exact decide_eq_decide.2 (by omega) | (rw [Bool.eq_iff_iff];simp only [Bool.and_eq_true,decide_eq_true_eq];omega)

set_option maxHeartbeats 3200000 in
theorem Is (mon day nth wd off fr to mv:Int) (w:World) :
  Calls Tryz.prog 295 #[.agg #[.int .i64 1,.int .i64 mon,.int .i64 day,.int .i64 nth,.int .i64 wd,.int .i64 off,.int .i64 fr,.int .i64 to,.int .i64 mv]] w fun e w'=>e=.returned (.bool (bW ⟨1,mon,day,nth,wd,off,fr,to,mv⟩))∧Below w.heap.size w w':=by
 rw [Qg]
 have HB2:=hideS (gW w)
 have HA:=hideS (fun kind mon day nth wd off fr to mv wx=>mu kind mon day nth wd off fr to mv wx)
 by_cases hm:1≤mon∧mon≤12
 ·have HL:=hideS (fun wx=>dB 2000 mon wx ⟨by decide,by decide,hm.1,hm.2⟩)
  rw [Io hm.1 hm.2] at HL
  generalize sR mon=L at *
  obtain⟨R,hR⟩:∃ R,decide ((1900≤fr∧fr≤2199∧fr≤to∧to≤2199∧0≤mv∧mv≤2)∧nth=0∧wd=0∧off=0∧1≤mon∧mon≤12∧1≤day∧day≤L)=R:=⟨_,rfl⟩
  rw [hR]
  have HR:=hideS hR
  clear hR
  go_enter Tryz.func295,Tryz.ntmps295
  go_wp2_with (first | (go_at_call 230;refine (HL.out _).mono ?_;rintro e w1 ⟨rfl,rfl⟩) | (go_at_call 253;refine (az _ _ _ _).mono ?_;rintro e w1 ⟨rfl,rfl⟩) | (go_at_call 296;refine (HA.out _ _ _ _ _ _ _ _ _ _).mono ?_;rintro e w1 ⟨rfl,hb1⟩))
  all_goals
   go_ret
   first
   | refine⟨xg (Eq.trans ?_ HR.out),HB2.out _ _⟩
   | refine⟨xg (Eq.trans ?_ HR.out),(HB2.out _ _).trans (hb1.mono (by simp<;>omega))⟩
   first | exact (decide_eq_false (by omega)).symm | exact decide_eq_decide.2 (by omega) | (rw [Bool.eq_iff_iff];simp only [Bool.and_eq_true,decide_eq_true_eq];omega)
 ·have HL:=hideS (fun wx=>iF 2000 mon wx (fun a=>hm ⟨a.2.2.1,a.2.2.2⟩))
  rw [decide_eq_false (fun a=>hm ⟨a.2.2.2.2.1,a.2.2.2.2.2.1⟩)]
  clear hm
  go_enter Tryz.func295,Tryz.ntmps295
  go_wp2_with (go_at_call 230;refine (HL.out _).mono ?_;rintro e w1 ⟨rfl,rfl⟩)
  all_goals
   go_ret
   exact⟨rfl,HB2.out _ _⟩

set_option maxHeartbeats 400000 in
theorem It (w:World) :
  Calls Tryz.prog 306 #[.agg #[]] w fun e w'=>e=.returned (.bool false)∧Below w.heap.size w w':=by
 go_enter Tryz.func306,Tryz.ntmps306
 go_wp2_with fail
 go_ret
 exact⟨rfl,(Below.refl w.heap.size w).alloc (Nat.le_refl _) _⟩

def tyK (k:Int):Nat:=if k=1 then 198 else if k=2 then 199 else if k=3 then 200 else 201
set_option maxHeartbeats 1600000 in
theorem bp (kind mon day nth wd off fr to mv:Int) (w:World) (hk:kind=1∨kind=2∨kind=3∨kind=4) :
  Calls Tryz.prog 90 #[.agg #[.int .i64 kind,.int .i64 mon,.int .i64 day,.int .i64 nth,.int .i64 wd,.int .i64 off,.int .i64 fr,.int .i64 to,.int .i64 mv]] w fun e w'=>e=.returned (.iface (tyK kind) (.agg #[.int .i64 kind,.int .i64 mon,.int .i64 day,.int .i64 nth,.int .i64 wd,.int .i64 off,.int .i64 fr,.int .i64 to,.int .i64 mv]))∧Below w.heap.size w w':=by
 rcases hk with rfl | rfl | rfl | rfl
 all_goals
  go_enter Tryz.func90,Tryz.ntmps90
  go_wp2_with fail
  go_ret
  exact⟨rfl,(Below.refl w.heap.size w).alloc (Nat.le_refl _) _⟩
set_option maxHeartbeats 1600000 in
theorem pS (kind mon day nth wd off fr to mv:Int) (w:World) (hk:¬ (kind=1∨kind=2∨kind=3∨kind=4)) :
  Calls Tryz.prog 90 #[.agg #[.int .i64 kind,.int .i64 mon,.int .i64 day,.int .i64 nth,.int .i64 wd,.int .i64 off,.int .i64 fr,.int .i64 to,.int .i64 mv]] w fun e w'=>e=.returned (.iface 203 (.agg #[]))∧Below w.heap.size w w':=by
 have k1:(kind==1)=false:=beq_eq_false_iff_ne.2 (fun a=>hk (by omega))
 have k2:(kind==2)=false:=beq_eq_false_iff_ne.2 (fun a=>hk (by omega))
 have k3:(kind==3)=false:=beq_eq_false_iff_ne.2 (fun a=>hk (by omega))
 have k4:(kind==4)=false:=beq_eq_false_iff_ne.2 (fun a=>hk (by omega))
 clear hk
 go_enter Tryz.func90,Tryz.ntmps90
 go_wp2_with fail
 go_ret
 exact⟨rfl,(Below.refl w.heap.size w).alloc (Nat.le_refl _) _⟩
end Go.Proofs.YtkooknagalgfpaaGreat
namespace Go.Proofs.YtkooknagalgfpaaGreat
open Go.RowKit

theorem Mj {mon day nth wd off fr to mv y:Int} (ho:okD y mon day) (hr:fr≤y∧y≤to):ca ⟨1,mon,day,nth,wd,off,fr,to,mv⟩ y=some (ay y mon day):=by
 unfold ca nt
 dsimp only
 rw [if_neg (by decide),if_neg (by omega),if_pos rfl,if_pos ho]
theorem Mk {mon day nth wd off fr to mv y:Int} (ho:¬ okD y mon day):ca ⟨1,mon,day,nth,wd,off,fr,to,mv⟩ y=none:=by
 unfold ca nt
 dsimp only
 rw [if_neg (by decide),if_pos rfl,if_neg ho]
 split<;>rfl
theorem uQ {kind mon day nth wd off fr to mv y:Int} (hk:kind≠4) (hr:¬ (fr≤y∧y≤to)):ca ⟨kind,mon,day,nth,wd,off,fr,to,mv⟩ y=none:=by
 unfold ca nt
 dsimp only
 rw [if_neg hk,if_pos (by omega)]
theorem Ml {mon day nth wd off fr to mv y:Int} (hr:fr≤y∧y≤to):ca ⟨2,mon,day,nth,wd,off,fr,to,mv⟩ y=some (DO y mon wd nth):=by
 unfold ca nt
 dsimp only
 rw [if_neg (by decide),if_neg (by omega),if_neg (by decide),if_pos rfl]
theorem Mm {mon day nth wd off fr to mv y:Int} (hr:fr≤y∧y≤to):ca ⟨3,mon,day,nth,wd,off,fr,to,mv⟩ y=some (iI y+off):=by
 unfold ca nt
 dsimp only
 rw [if_neg (by decide),if_neg (by omega),if_neg (by decide),if_neg (by decide),if_pos rfl]
theorem Mn {mon day nth wd off fr to mv y m d:Int} (h:IsD day y m d):ca ⟨4,mon,day,nth,wd,off,fr,to,mv⟩ y=some day:=by
 unfold ca
 dsimp only
 rw [if_pos rfl,if_pos (sS h)]
theorem Mp {mon day nth wd off fr to mv y y0 m d:Int} (h:IsD day y0 m d) (hy:y0≠y):ca ⟨4,mon,day,nth,wd,off,fr,to,mv⟩ y=none:=by
 unfold ca
 dsimp only
 rw [if_pos rfl,if_neg (by rw [sS h];exact hy)]

set_option maxHeartbeats 1600000 in
theorem Mq (mon day nth wd off fr to mv y:Int) (w:World) :
  Calls Tryz.prog 294 #[.agg #[.int .i64 1,.int .i64 mon,.int .i64 day,.int .i64 nth,.int .i64 wd,.int .i64 off,.int .i64 fr,.int .i64 to,.int .i64 mv],.int .i64 y] w fun e w'=>∃ N,e=.returned (.tuple #[.int .i64 N,.bool (ca ⟨1,mon,day,nth,wd,off,fr,to,mv⟩ y).isSome])∧(∀ g,ca ⟨1,mon,day,nth,wd,off,fr,to,mv⟩ y=some g→N=g)∧Below w.heap.size w w':=by
 have HB0:=hideS (fun o=>(Below.refl w.heap.size w).alloc (Nat.le_refl _) o)
 by_cases ho:okD y mon day
 ·have HO:=hideS (fun wx=>iH y mon day wx ho)
  have HI:=hideS (fun wx=>az y fr to wx)
  by_cases hr:fr≤y∧y≤to
  ·rw [Mj ho hr]
   rw [decide_eq_true hr] at HI
   generalize ay y mon day=D at *
   clear ho hr
   go_enter Tryz.func294,Tryz.ntmps294
   go_wp2_with (first | (go_at_call 232;refine (HO.out _).mono ?_;rintro e w1 ⟨rfl,rfl⟩) | (go_at_call 253;refine (HI.out _).mono ?_;rintro e w1 ⟨rfl,rfl⟩))
   go_ret2
   exact⟨_,rfl,fun g hg=>Option.some.inj hg,HB0.out _⟩
  ·rw [uQ (by decide) hr]
   rw [decide_eq_false hr] at HI
   generalize ay y mon day=D at *
   clear ho hr
   go_enter Tryz.func294,Tryz.ntmps294
   go_wp2_with (first | (go_at_call 232;refine (HO.out _).mono ?_;rintro e w1 ⟨rfl,rfl⟩) | (go_at_call 253;refine (HI.out _).mono ?_;rintro e w1 ⟨rfl,rfl⟩))
   go_ret2
   exact⟨_,rfl,fun g hg=>(by cases hg),HB0.out _⟩
 ·have HO:=hideS (fun wx=>LA y mon day wx ho)
  rw [Mk ho]
  clear ho
  go_enter Tryz.func294,Tryz.ntmps294
  go_wp2_with (go_at_call 232;refine (HO.out _).mono ?_;rintro e w1 ⟨rfl,rfl⟩)
  go_ret2
  exact⟨_,rfl,fun g hg=>(by cases hg),HB0.out _⟩

theorem Iu {f L wd k:Int} (_d0:0≤wd) (_d1:wd≤6) (k1:1≤k) (k5:k≤5) (l0:28≤L) (_f0:0≤f) :
  (if k=5∧f+L≤f+(wd - f) % 7+7*(k - 1) then f+(wd - f) % 7+7*(k - 1) - 7 else f+(wd - f) % 7+7*(k - 1))=if f+L≤f+(wd+7 - f % 7) % 7+7*(k - 1) then f+(wd+7 - f % 7) % 7+7*(k - 1) - 7 else f+(wd+7 - f % 7) % 7+7*(k - 1):=by
 have e:(wd+7 - f % 7) % 7=(wd - f) % 7:=by omega
 rw [e]
 by_cases a:k=5
 ·by_cases b:f+L≤f+(wd - f) % 7+7*(k - 1)
  ·rw [if_pos ⟨a,b⟩,if_pos b]
  ·rw [if_neg (fun c=>b c.2),if_neg b]
 ·rw [if_neg (fun c=>a c.1),if_neg (by omega)]

set_option maxHeartbeats 1600000 in
theorem Mr (mon day nth wd off fr to mv y:Int) (w:World) (m0:1≤mon) (m1:mon≤12) (d0:0≤wd) (d1:wd≤6) (k1:1≤nth) (k5:nth≤5) (f0:1900≤fr) (f1:to≤2199) :
  Calls Tryz.prog 297 #[.agg #[.int .i64 2,.int .i64 mon,.int .i64 day,.int .i64 nth,.int .i64 wd,.int .i64 off,.int .i64 fr,.int .i64 to,.int .i64 mv],.int .i64 y] w fun e w'=>∃ N,e=.returned (.tuple #[.int .i64 N,.bool (ca ⟨2,mon,day,nth,wd,off,fr,to,mv⟩ y).isSome])∧(∀ g,ca ⟨2,mon,day,nth,wd,off,fr,to,mv⟩ y=some g→N=g)∧Below w.heap.size w w':=by
 have HB0:=hideS (fun o=>(Below.refl w.heap.size w).alloc (Nat.le_refl _) o)
 have HI:=hideS (fun wx=>az y fr to wx)
 by_cases hr:fr≤y∧y≤to
 ·rw [Ml hr]
  rw [decide_eq_true hr] at HI
  have hym:ymB y mon:=⟨by omega,by omega,m0,m1⟩
  have HL:=hideS (fun wx=>dB y mon wx hym)
  have HO:=hideS (fun wx=>iH y mon 1 wx (eF hym 1 (by omega) (by omega)))
  obtain⟨g0,g1⟩:=(jW (eF hym 1 (by omega) (by omega))).range
  have l0:=cV y mon
  have l1:=gG y mon
  have hR:DO y mon wd nth=if ay y mon 1+bt y mon≤ay y mon 1+(wd+7 - ay y mon 1 % 7) % 7+7*(nth - 1) then ay y mon 1+(wd+7 - ay y mon 1 % 7) % 7+7*(nth - 1) - 7 else ay y mon 1+(wd+7 - ay y mon 1 % 7) % 7+7*(nth - 1):=Iu d0 d1 k1 k5 l0 g0
  obtain⟨R,hRR⟩:∃ R,DO y mon wd nth=R:=⟨_,rfl⟩
  rw [hRR] at hR ⊢
  clear hRR hym hr
  generalize ay y mon 1=f at *
  generalize bt y mon=L at *
  obtain⟨a,ha⟩:∃ a,f % 7=a:=⟨_,rfl⟩
  rw [ha] at hR
  obtain⟨t,ht⟩:∃ t,(wd+7 - a) % 7=t:=⟨_,rfl⟩
  rw [ht] at hR
  have t0:0≤t:=by omega
  have t1:t≤6:=by omega
  by_cases hge:f+L≤f+t+7*(nth - 1)
  ·rw [if_pos hge] at hR
   have HR:=hideS hR
   clear hR
   go_enter Tryz.func297,Tryz.ntmps297
   go_wp2_with (first | (go_at_call 230;refine (HL.out _).mono ?_;rintro e w1 ⟨rfl,rfl⟩) | (go_at_call 232;refine (HO.out _).mono ?_;rintro e w1 ⟨rfl,rfl⟩) | (go_at_call 253;refine (HI.out _).mono ?_;rintro e w1 ⟨rfl,rfl⟩))
   go_ret2
   exact⟨_,rfl,fun g hg=>(by rw [← Option.some.inj hg,HR.out]),HB0.out _⟩
  ·rw [if_neg hge] at hR
   have HR:=hideS hR
   clear hR
   go_enter Tryz.func297,Tryz.ntmps297
   go_wp2_with (first | (go_at_call 230;refine (HL.out _).mono ?_;rintro e w1 ⟨rfl,rfl⟩) | (go_at_call 232;refine (HO.out _).mono ?_;rintro e w1 ⟨rfl,rfl⟩) | (go_at_call 253;refine (HI.out _).mono ?_;rintro e w1 ⟨rfl,rfl⟩))
   go_ret2
   exact⟨_,rfl,fun g hg=>(by rw [← Option.some.inj hg,HR.out]),HB0.out _⟩
 ·rw [uQ (by decide) hr]
  rw [decide_eq_false hr] at HI
  clear hr
  by_cases hym:ymB y mon
  ·have HL:=hideS (fun wx=>dB y mon wx hym)
   generalize bt y mon=L at *
   clear hym
   go_enter Tryz.func297,Tryz.ntmps297
   go_wp2_with (first | (go_at_call 230;refine (HL.out _).mono ?_;rintro e w1 ⟨rfl,rfl⟩) | (go_at_call 253;refine (HI.out _).mono ?_;rintro e w1 ⟨rfl,rfl⟩))
   go_ret2
   exact⟨_,rfl,fun g hg=>(by cases hg),HB0.out _⟩
  ·have HL:=hideS (fun wx=>iF y mon wx hym)
   clear hym
   go_enter Tryz.func297,Tryz.ntmps297
   go_wp2_with (go_at_call 230;refine (HL.out _).mono ?_;rintro e w1 ⟨rfl,rfl⟩)
   go_ret2
   exact⟨_,rfl,fun g hg=>(by cases hg),HB0.out _⟩

set_option maxHeartbeats 1600000 in
theorem Ms (mon day nth wd off fr to mv y:Int) (w:World) (d0:0≤day) (d1:day≤109572) :
  Calls Tryz.prog 303 #[.agg #[.int .i64 4,.int .i64 mon,.int .i64 day,.int .i64 nth,.int .i64 wd,.int .i64 off,.int .i64 fr,.int .i64 to,.int .i64 mv],.int .i64 y] w fun e w'=>∃ N,e=.returned (.tuple #[.int .i64 N,.bool (ca ⟨4,mon,day,nth,wd,off,fr,to,mv⟩ y).isSome])∧(∀ g,ca ⟨4,mon,day,nth,wd,off,fr,to,mv⟩ y=some g→N=g)∧Below w.heap.size w w':=by
 have HB0:=hideS (fun o=>(Below.refl w.heap.size w).alloc (Nat.le_refl _) o)
 obtain⟨y0,m0,e0,hd⟩:=cW d0 d1
 have HC:=hideS (fun wx=>cY day y0 m0 e0 wx hd)
 by_cases hy:y0=y
 ·subst hy
  rw [Mn hd]
  clear hd
  go_enter Tryz.func303,Tryz.ntmps303
  go_wp2_with (go_at_call 216;refine (HC.out _).mono ?_;rintro e w1 ⟨rfl,rfl⟩)
  go_ret2
  exact⟨_,rfl,fun g hg=>Option.some.inj hg,HB0.out _⟩
 ·rw [Mp hd hy]
  have hy':(y0==y)=false:=beq_eq_false_iff_ne.2 hy
  clear hd hy
  go_enter Tryz.func303,Tryz.ntmps303
  go_wp2_with (go_at_call 216;refine (HC.out _).mono ?_;rintro e w1 ⟨rfl,rfl⟩)
  go_ret2
  exact⟨_,rfl,fun g hg=>(by cases hg),HB0.out _⟩

set_option maxHeartbeats 1600000 in
theorem Mt (mon day nth wd off fr to mv y:Int) (w:World) (o0: -100≤off) (o1:off≤100) (f0:1900≤fr) (f1:to≤2199) :
  Calls Tryz.prog 299 #[.agg #[.int .i64 3,.int .i64 mon,.int .i64 day,.int .i64 nth,.int .i64 wd,.int .i64 off,.int .i64 fr,.int .i64 to,.int .i64 mv],.int .i64 y] w fun e w'=>∃ N,e=.returned (.tuple #[.int .i64 N,.bool (ca ⟨3,mon,day,nth,wd,off,fr,to,mv⟩ y).isSome])∧(∀ g,ca ⟨3,mon,day,nth,wd,off,fr,to,mv⟩ y=some g→N=g)∧Below w.heap.size w w':=by
 have HB0:=hideS (fun o=>(Below.refl w.heap.size w).alloc (Nat.le_refl _) o)
 have HI:=hideS (fun wx=>az y fr to wx)
 obtain⟨wq,hwq⟩:∃ wq,w.alloc (.cells #[.int .i64 3,.int .i64 mon,.int .i64 day,.int .i64 nth,.int .i64 wd,.int .i64 off,.int .i64 fr,.int .i64 to,.int .i64 mv] 200)=wq:=⟨_,rfl⟩
 have c5:wq.cell? ⟨w.heap.size,5,none⟩=some (.int .i64 off):=by rw [← hwq];simp
 have c6:wq.cell? ⟨w.heap.size,6,none⟩=some (.int .i64 fr):=by rw [← hwq];simp
 have c7:wq.cell? ⟨w.heap.size,7,none⟩=some (.int .i64 to):=by rw [← hwq];simp
 have HBq:Hid (Below w.heap.size w wq):=by rw [← hwq];exact HB0.out _
 have HQ:=hideS hwq
 clear hwq HB0
 by_cases hyy:1900≤y∧y≤2199
 ·have HE:=hideS (fun wx=>DP y wx hyy.1 hyy.2)
  obtain⟨n0,n1⟩:0≤iI y∧iI y≤109572:=(jW (sP hyy.1 hyy.2).ok).range
  by_cases hr:fr≤y∧y≤to
  ·rw [Mm hr]
   rw [decide_eq_true hr] at HI
   generalize iI y=D at *
   have hw1:IntKind.i64.wrap (D+off)=D+off:=by rw [IntKind.wrap_i64];omega
   clear hr hyy
   go_enter Tryz.func299,Tryz.ntmps299
   go_wp2_with (go_at_call 301;refine (HE.out _).mono ?_;rintro e w1 ⟨rfl,rfl⟩)
   rw [HQ.out]
   go_quiet ((go_at_call 253;exact Calls.quiet_of_same (HI.out _)))
   go_wp2_with fail
   go_ret2
   exact⟨_,rfl,fun g hg=>Option.some.inj hg,below_drewN' HBq.out⟩
  ·rw [uQ (by decide) hr]
   rw [decide_eq_false hr] at HI
   generalize iI y=D at *
   have hw1:IntKind.i64.wrap (D+off)=D+off:=by rw [IntKind.wrap_i64];omega
   clear hr hyy
   go_enter Tryz.func299,Tryz.ntmps299
   go_wp2_with (go_at_call 301;refine (HE.out _).mono ?_;rintro e w1 ⟨rfl,rfl⟩)
   rw [HQ.out]
   go_quiet ((go_at_call 253;exact Calls.quiet_of_same (HI.out _)))
   go_wp2_with fail
   go_ret2
   exact⟨_,rfl,fun g hg=>(by cases hg),below_drewN' HBq.out⟩
 ·have HE:=hideS (fun wx=>Al y wx hyy)
  rw [uQ (by decide) (fun a=>hyy (by omega))]
  have hw1:IntKind.i64.wrap (0+off)=0+off:=by rw [IntKind.wrap_i64];omega
  clear hyy
  go_enter Tryz.func299,Tryz.ntmps299
  go_wp2_with (go_at_call 301;refine (HE.out _).mono ?_;rintro e w1 ⟨rfl,rfl⟩)
  rw [HQ.out]
  go_quiet (fail)
  go_wp2_with fail
  go_ret2
  exact⟨_,rfl,fun g hg=>(by cases hg),below_drewN' HBq.out⟩
end Go.Proofs.YtkooknagalgfpaaGreat
namespace Go.Proofs.YtkooknagalgfpaaGreat
open Go.RowKit

def CBoxP (w:World) (W:Int) (v:Value) (wr:World):Prop:=Below (w.heap.size+1) (w.alloc (.cells #[.int .i64 W,v] 24)) wr
theorem CBoxP.cells {w w1:World} {W:Int} {v:Value} (hb:CBoxP w W v w1) :
  w1.cell? ⟨w.heap.size,0,none⟩=some (.int .i64 W)∧w1.cell? ⟨w.heap.size,1,none⟩=some v:=by
 refine⟨?_,?_⟩
 ·rw [Below.cell hb (p:=⟨w.heap.size,0,none⟩) (by simp)];simp
 ·rw [Below.cell hb (p:=⟨w.heap.size,1,none⟩) (by simp)];simp
theorem CBoxP.step {w wr w':World} {W:Int} {v:Value} (h:CBoxP w W v wr) (hb:Below wr.heap.size wr w'):CBoxP w W v w':=
 Below.trans h (hb.mono (by have:=Below.size h;simp at this;omega))
theorem CBoxP.below {w wr:World} {W:Int} {v:Value} (h:CBoxP w W v wr):Below w.heap.size w wr:=
 ((Below.refl w.heap.size w).alloc (Nat.le_refl _) _).trans (Below.mono h (by omega))
theorem CBoxP.first {w w':World} {W:Int} {v:Value} (hb:Below (w.alloc (.cells #[.int .i64 W,v] 24)).heap.size (w.alloc (.cells #[.int .i64 W,v] 24)) w'):CBoxP w W v w':=
 hb.mono (by simp)
theorem gY {wr w2 w3:World} {o:Obj} (h2:Below (wr.alloc o).heap.size (wr.alloc o) w2) (h3:Below w2.heap.size w2 w3):Below wr.heap.size wr w3:=
 (((Below.refl wr.heap.size wr).alloc (Nat.le_refl _) o).trans (h2.mono (by simp))).trans (h3.mono (by have:=h2.size;simp at this;omega))

set_option maxHeartbeats 3200000 in
theorem pT (W:Int) (p:Option Addr) (b off c:Nat) (rs:List Rul) (K:Nat) (A B:Int) (w:World) (w0:0≤W∧W≤126) (hs:RSrc w p b off rs) (hl:rs.length≤64) (hK:K≤rs.length) (hf:∀ j<K,bW (rs.getD j fx)=true)
  (hE:(K=rs.length∧A=0∧B=0)∨(K<rs.length∧bW (rs.getD K fx)=false∧A=60∧B=K)) :
  Calls Tryz.prog 47 #[.agg #[.int .i64 W,.slice p rs.length c]] w fun e w'=>e=.returned (.tuple #[.int .i64 A,.int .i64 B])∧Below w.heap.size w w':=by
 obtain⟨w0,w1⟩:=w0
 have w1':¬ 127≤W:=by omega
 have HS:=hideS hs
 have HF:=hideS hf
 have HE:=hideS hE
 clear hs hf hE
 obtain⟨N,hN⟩:∃ N,rs.length=N:=⟨_,rfl⟩
 have HN:=hideS hN
 rw [hN] at hl hK ⊢
 rw [hN] at HE
 clear hN
 go_enter Tryz.func47,Tryz.ntmps47
 go_wp2_with fail
 have HB0:Hid (CBoxP w W (.slice p N c) (w.alloc (.cells #[.int .i64 W,.slice p N c] 24))):=Below.refl _ _
 go_loopw [21] (fun i wr=>∃ (k:Nat),k≤K∧i=.int .i64 k∧Hid (CBoxP w W (.slice p N c) wr)) (fun i _=>N - (intOf i).toNat)
 case atStart=>exact⟨0,by omega,rfl,HB0⟩
 case round=>
  obtain⟨k,hk,rfl,HB⟩:=hrel
  by_cases hlt:k<N
  ·have hx:k<rs.length:=by rw [HN.out];exact hlt
   obtain rfl:=HS.out.at_ (by omega)
   have hrc:=(HS.out.cell k hx).below HB.out.below (HS.out.lt (by omega))
   have hft:=HF.out k
   have hEE:k<K∨(bW (rs.getD k fx)=false∧A=60∧B=k):=by
    by_cases hkK:k<K
    ·exact Or.inl hkK
    ·obtain rfl:k=K:=by omega
     rcases HE.out with⟨a,_⟩| ⟨_,a⟩
     ·omega
     ·exact Or.inr a
   generalize rs.getD k fx=r at hrc hft hEE
   clear hx
   obtain⟨g0,g1,g2,g3,g4,g5,g6,g7,g8⟩:=hrc
   have key:∀ R,bW r=R→(k<K∧R=true)∨(R=false∧A=60∧B=k):=fun R hR=>by
    rw [← hR]
    by_cases a:k<K
    ·exact Or.inl ⟨a,hft a⟩
    ·rcases hEE with b | b
     ·exact absurd b a
     ·exact Or.inr b
   clear hft hEE
   have HKey:=hideS key
   clear key
   obtain⟨kind,mon,day,nth,wd,offs,fr,to,mv⟩:=r
   dsimp only at *
   by_cases hkd:kind=1∨kind=2∨kind=3∨kind=4
   ·rcases hkd with rfl | rfl | rfl | rfl
    ·have HH:=hideS (fun wx=>(bp 1 mon day nth wd offs fr to mv wx (by omega):Calls Tryz.prog 90 _ wx fun e w'=>e=.returned (.iface 198 _)∧Below wx.heap.size wx w'))
     have HM:=hideS (fun wx=>Is mon day nth wd offs fr to mv wx)
     obtain⟨R,hR⟩:∃ R,bW ⟨1,mon,day,nth,wd,offs,fr,to,mv⟩=R:=⟨_,rfl⟩
     have hKK:=HKey.out R hR
     rw [hR] at HM
     clear hR HKey
     rcases hKK with⟨a,rfl⟩| ⟨rfl,a⟩
     ·go_wp2_with (first | (go_at_call 90;refine (HH.out _).mono ?_;rintro e w2 ⟨rfl,hb2⟩) | (go_at_call 295;refine (HM.out _).mono ?_;rintro e w3 ⟨rfl,hb3⟩))
      have HB2:=hideS (HB.out.step (gY hb2 hb3))
      clear hb2 hb3
      go_roundw
      case rel=>exact⟨k+1,by omega,by go_num,HB2⟩
      case measure=>simp [intOf];omega
     ·have HA:=hideS a
      clear a
      go_wp2_with (first | (go_at_call 90;refine (HH.out _).mono ?_;rintro e w2 ⟨rfl,hb2⟩) | (go_at_call 295;refine (HM.out _).mono ?_;rintro e w3 ⟨rfl,hb3⟩))
      go_ret2
      obtain⟨rfl,rfl⟩:=HA.out
      exact⟨rfl,(HB.out.step (gY hb2 hb3)).below⟩
    ·have HH:=hideS (fun wx=>(bp 2 mon day nth wd offs fr to mv wx (by omega):Calls Tryz.prog 90 _ wx fun e w'=>e=.returned (.iface 199 _)∧Below wx.heap.size wx w'))
     have HM:=hideS (fun wx=>Ir mon day nth wd offs fr to mv wx)
     obtain⟨R,hR⟩:∃ R,bW ⟨2,mon,day,nth,wd,offs,fr,to,mv⟩=R:=⟨_,rfl⟩
     have hKK:=HKey.out R hR
     rw [hR] at HM
     clear hR HKey
     rcases hKK with⟨a,rfl⟩| ⟨rfl,a⟩
     ·go_wp2_with (first | (go_at_call 90;refine (HH.out _).mono ?_;rintro e w2 ⟨rfl,hb2⟩) | (go_at_call 298;refine (HM.out _).mono ?_;rintro e w3 ⟨rfl,hb3⟩))
      have HB2:=hideS (HB.out.step (gY hb2 hb3))
      clear hb2 hb3
      go_roundw
      case rel=>exact⟨k+1,by omega,by go_num,HB2⟩
      case measure=>simp [intOf];omega
     ·have HA:=hideS a
      clear a
      go_wp2_with (first | (go_at_call 90;refine (HH.out _).mono ?_;rintro e w2 ⟨rfl,hb2⟩) | (go_at_call 298;refine (HM.out _).mono ?_;rintro e w3 ⟨rfl,hb3⟩))
      go_ret2
      obtain⟨rfl,rfl⟩:=HA.out
      exact⟨rfl,(HB.out.step (gY hb2 hb3)).below⟩
    ·have HH:=hideS (fun wx=>(bp 3 mon day nth wd offs fr to mv wx (by omega):Calls Tryz.prog 90 _ wx fun e w'=>e=.returned (.iface 200 _)∧Below wx.heap.size wx w'))
     have HM:=hideS (fun wx=>Iq mon day nth wd offs fr to mv wx)
     obtain⟨R,hR⟩:∃ R,bW ⟨3,mon,day,nth,wd,offs,fr,to,mv⟩=R:=⟨_,rfl⟩
     have hKK:=HKey.out R hR
     rw [hR] at HM
     clear hR HKey
     rcases hKK with⟨a,rfl⟩| ⟨rfl,a⟩
     ·go_wp2_with (first | (go_at_call 90;refine (HH.out _).mono ?_;rintro e w2 ⟨rfl,hb2⟩) | (go_at_call 300;refine (HM.out _).mono ?_;rintro e w3 ⟨rfl,hb3⟩))
      have HB2:=hideS (HB.out.step (gY hb2 hb3))
      clear hb2 hb3
      go_roundw
      case rel=>exact⟨k+1,by omega,by go_num,HB2⟩
      case measure=>simp [intOf];omega
     ·have HA:=hideS a
      clear a
      go_wp2_with (first | (go_at_call 90;refine (HH.out _).mono ?_;rintro e w2 ⟨rfl,hb2⟩) | (go_at_call 300;refine (HM.out _).mono ?_;rintro e w3 ⟨rfl,hb3⟩))
      go_ret2
      obtain⟨rfl,rfl⟩:=HA.out
      exact⟨rfl,(HB.out.step (gY hb2 hb3)).below⟩
    ·have HH:=hideS (fun wx=>(bp 4 mon day nth wd offs fr to mv wx (by omega):Calls Tryz.prog 90 _ wx fun e w'=>e=.returned (.iface 201 _)∧Below wx.heap.size wx w'))
     have HM:=hideS (fun wx=>Ip mon day nth wd offs fr to mv wx)
     obtain⟨R,hR⟩:∃ R,bW ⟨4,mon,day,nth,wd,offs,fr,to,mv⟩=R:=⟨_,rfl⟩
     have hKK:=HKey.out R hR
     rw [hR] at HM
     clear hR HKey
     rcases hKK with⟨a,rfl⟩| ⟨rfl,a⟩
     ·go_wp2_with (first | (go_at_call 90;refine (HH.out _).mono ?_;rintro e w2 ⟨rfl,hb2⟩) | (go_at_call 304;refine (HM.out _).mono ?_;rintro e w3 ⟨rfl,hb3⟩))
      have HB2:=hideS (HB.out.step (gY hb2 hb3))
      clear hb2 hb3
      go_roundw
      case rel=>exact⟨k+1,by omega,by go_num,HB2⟩
      case measure=>simp [intOf];omega
     ·have HA:=hideS a
      clear a
      go_wp2_with (first | (go_at_call 90;refine (HH.out _).mono ?_;rintro e w2 ⟨rfl,hb2⟩) | (go_at_call 304;refine (HM.out _).mono ?_;rintro e w3 ⟨rfl,hb3⟩))
      go_ret2
      obtain⟨rfl,rfl⟩:=HA.out
      exact⟨rfl,(HB.out.step (gY hb2 hb3)).below⟩
   ·have HH:=hideS (fun wx=>pS kind mon day nth wd offs fr to mv wx hkd)
    have HM:=hideS (fun wx=>It wx)
    have HA:Hid (A=60∧B=k):=by
     rcases HKey.out _ (OM (fun a=>hkd (by omega)) (fun a=>hkd (by omega)) (fun a=>hkd (by omega)) (fun a=>hkd (by omega))) with⟨_,a⟩| ⟨_,a⟩
     ·exact Bool.noConfusion a
     ·exact a
    clear HKey hkd
    go_wp2_with (first | (go_at_call 90;refine (HH.out _).mono ?_;rintro e w2 ⟨rfl,hb2⟩) | (go_at_call 306;refine (HM.out _).mono ?_;rintro e w3 ⟨rfl,hb3⟩))
    go_ret2
    obtain⟨rfl,rfl⟩:=HA.out
    exact⟨rfl,(HB.out.step (gY hb2 hb3)).below⟩
  ·have HA:Hid (A=0∧B=0):=by
    rcases HE.out with⟨_,a⟩| ⟨a,_⟩
    ·exact a
    ·omega
   have hge:¬ (k:Int)<N:=by omega
   go_wp2_with fail
   go_ret2
   obtain⟨rfl,rfl⟩:=HA.out
   exact⟨rfl,HB.out.below⟩

set_option maxHeartbeats 400000 in
theorem js (W:Int) (p:Option Addr) (b off c:Nat) (rs:List Rul) (A B:Int) (w:World) (h:ChkR W rs A B) (hs:RSrc w p b off rs) (hl:rs.length≤9223372036854775807) :
  Calls Tryz.prog 47 #[.agg #[.int .i64 W,.slice p rs.length c]] w fun e w'=>e=.returned (.tuple #[.int .i64 A,.int .i64 B])∧Below w.heap.size w w':=by
 cases h with
 | long h=>
  generalize rs.length=N at *
  have h':(64:Int)<N:=by omega
  clear hs h
  go_enter Tryz.func47,Tryz.ntmps47
  go_wp2_with fail
  go_ret2
  exact⟨rfl,(Below.refl w.heap.size w).alloc (Nat.le_refl _) _⟩
 | week h h2=>
  generalize rs.length=N at *
  have h':¬ (64:Int)<N:=by omega
  clear hs h
  rcases (show W<0∨(¬ W<0∧127≤W) by omega) with a | ⟨a,a2⟩
  all_goals
   clear h2
   go_enter Tryz.func47,Tryz.ntmps47
   go_wp2_with fail
   go_ret2
   exact⟨rfl,(Below.refl w.heap.size w).alloc (Nat.le_refl _) _⟩
 | rule k h1 h2 h3 h4 h5=>exact pT W p b off c rs k 60 k w h2 hs h1 (by omega) h5 (Or.inr ⟨h3,h4,rfl,rfl⟩)
 | ok h=>exact pT W p b off c rs rs.length 0 0 w ⟨h.w0,h.w1⟩ hs h.len (Nat.le_refl _) (fun j hj=>h.fit _ (pe hj)) (Or.inl ⟨rfl,rfl,rfl⟩)
end Go.Proofs.YtkooknagalgfpaaGreat
namespace Go.Proofs.YtkooknagalgfpaaGreat
open Go.RowKit

theorem below_drewNz {B:Nat} {w w2:World} {n:Nat} (hb:Below B w w2):Below B w (w2.drewN n):=⟨hb.os,hb.tape,hb.output,hb.size,hb.block⟩
end Go.Proofs.YtkooknagalgfpaaGreat
namespace Go.Proofs.YtkooknagalgfpaaGreat
open Go.RowKit

def SBox (w:World) (s:Spc) (W:Int) (v:Value) (wr:World):Prop:=Below (w.heap.size+1) (w.alloc (.cells #[.int .i64 s.st,.int .i64 s.en,.int .i64 s.n,.int .i64 s.unit,.int .i64 s.stub,.int .i64 s.roll,.int .i64 s.conv,.int .i64 s.lag,.int .i64 W,v] 115)) wr
theorem SBox.step {w wr w':World} {s:Spc} {W:Int} {v:Value} (h:SBox w s W v wr) (hb:Below wr.heap.size wr w'):SBox w s W v w':=
 Below.trans h (hb.mono (by have:=Below.size h;simp at this;omega))
theorem SBox.below {w wr:World} {s:Spc} {W:Int} {v:Value} (h:SBox w s W v wr):Below w.heap.size w wr:=
 ((Below.refl w.heap.size w).alloc (Nat.le_refl _) _).trans (Below.mono h (by omega))
theorem SBox.zero (w:World) (s:Spc) (W:Int) (v:Value):SBox w s W v (w.alloc (.cells #[.int .i64 s.st,.int .i64 s.en,.int .i64 s.n,.int .i64 s.unit,.int .i64 s.stub,.int .i64 s.roll,.int .i64 s.conv,.int .i64 s.lag,.int .i64 W,v] 115)):=Below.refl _ _
structure SCells (w:World) (s:Spc) (W:Int) (v:Value) (wr:World):Prop where
 c0:wr.cell? ⟨w.heap.size,0,none⟩=some (.int .i64 s.st)
 c1:wr.cell? ⟨w.heap.size,1,none⟩=some (.int .i64 s.en)
 c2:wr.cell? ⟨w.heap.size,2,none⟩=some (.int .i64 s.n)
 c3:wr.cell? ⟨w.heap.size,3,none⟩=some (.int .i64 s.unit)
 c4:wr.cell? ⟨w.heap.size,4,none⟩=some (.int .i64 s.stub)
 c5:wr.cell? ⟨w.heap.size,5,none⟩=some (.int .i64 s.roll)
 c6:wr.cell? ⟨w.heap.size,6,none⟩=some (.int .i64 s.conv)
 c7:wr.cell? ⟨w.heap.size,7,none⟩=some (.int .i64 s.lag)
 c8:wr.cell? ⟨w.heap.size,8,none⟩=some (.int .i64 W)
 c9:wr.cell? ⟨w.heap.size,9,none⟩=some v
theorem SBox.cells {w wr:World} {s:Spc} {W:Int} {v:Value} (h:SBox w s W v wr):SCells w s W v wr:=by
 have e:∀ j,wr.cell? ⟨w.heap.size,j,none⟩=(#[.int .i64 s.st,.int .i64 s.en,.int .i64 s.n,.int .i64 s.unit,.int .i64 s.stub,.int .i64 s.roll,.int .i64 s.conv,.int .i64 s.lag,.int .i64 W,v]:Array Value)[j]? :=fun j=>by
  rw [Below.cell h (p:=⟨w.heap.size,j,none⟩) (by simp)]
  exact ji w _ _ j
 exact⟨e 0,e 1,e 2,e 3,e 4,e 5,e 6,e 7,e 8,e 9⟩

end Go.Proofs.YtkooknagalgfpaaGreat
