/-  -/
import Derived.Test.YtcmbfflemoccmaaGreatHbs
import Derived.Test.YtcmbfflemoccmaaGreatFCal
namespace Go.Proofs.YtcmbfflemoccmaaGreat
open Go.RowKit

theorem Bt (base ck kind W a b:Int) (xs:List Int) (ys:List Nat) (rs:List Rul) (hf:∀ i<ys.length,ys.getD i 0<18446744073709551616) (hr:rs.length≤8):∃ (Y:Nat) (E:Int),Y<18446744073709551616∧
  (∀ (px py ao:Option Addr) (bx ox cx b2 oy cy bb off cap:Nat) (w:World),TFl w px py bx ox b2 oy xs ys→RSrc w ao bb off rs→Calls Tryz.prog 16 #[.agg #[.int .i64 base,.int .i64 ck,.slice px xs.length cx,.slice py ys.length cy],.int .i64 kind,.agg #[.int .i64 W,.slice ao rs.length cap],.int .i64 a,.int .i64 b] w fun e w'=>e=.returned (.tuple #[.float .f64 Y,.int .i64 E])∧Below w.heap.size w w')∧
  (∀ (px py ao:Option Addr) (bx ox cx b2 oy cy bb off cap:Nat) (w:World),CSrcD w px py bx ox b2 oy xs ys→RSrc w ao bb off rs→Calls Tryz.prog 24 #[.agg #[.int .i64 base,.int .i64 ck,.slice px xs.length cx,.slice py ys.length cy],.int .i64 kind,.agg #[.int .i64 W,.slice ao rs.length cap],.int .i64 a,.int .i64 b] w fun e w'=>e=.returned (.tuple #[.int .u64 (Y:Int),.int .i64 E])∧Below w.heap.size w w'):=by
 obtain⟨X1,E1,hA⟩:=uK base ck xs ys a
 obtain⟨X2,E2,hB⟩:=uK base ck xs ys b
 obtain⟨P,Q,E3,hR⟩:=yZ kind W a b rs
 have hT:yW P Q<18446744073709551616:=LR hR.bd.1 hR.bd.2.1
 obtain⟨F,E4,hS⟩:=uQ X1 X2 (yW P Q) (vl hA hf) (vl hB hf) hT
 have pA:=fun px py bx ox cx b2 oy cy w hs=>dT base ck a E1 X1 px py bx ox cx b2 oy cy xs ys w hs hA
 have pB:=fun px py bx ox cx b2 oy cy w hs=>dT base ck b E2 X2 px py bx ox cx b2 oy cy xs ys w hs hB
 have dA:=fun px py bx ox cx b2 oy cy w hs=>eH base ck a E1 X1 px py bx ox cx b2 oy cy xs ys w hs hA
 have dB:=fun px py bx ox cx b2 oy cy w hs=>eH base ck b E2 X2 px py bx ox cx b2 oy cy xs ys w hs hB
 by_cases h1:E1=0
 ·subst h1
  by_cases h2:E2=0
  ·subst h2
   by_cases h3:E3=0
   ·subst h3
    refine⟨F,E4,hS.lt,fun px py ao bx ox cx b2 oy cy bb off cap w hs hq=>?_,fun px py ao bx ox cx b2 oy cy bb off cap w hs hq=>?_⟩
    ·exact lM base ck kind W a b _ _ _ E4 X1 X2 (yW P Q) F w (fun wx hb=>pA px py bx ox cx b2 oy cy wx (hs.below hb)) (fun wx hb=>pB px py bx ox cx b2 oy cy wx (hs.below hb)) (fun wx hb=>hR.year ao bb off cap w hq (by omega) wx hb) (fun wx _=>hS.prog wx)
    ·exact qJ base ck kind W a b _ _ _ E4 X1 X2 (yW P Q) F w (fun wx hb=>dA px py bx ox cx b2 oy cy wx (hs.below hb)) (fun wx hb=>dB px py bx ox cx b2 oy cy wx (hs.below hb)) (fun wx hb=>hR.refY ao bb off cap w hq (by omega) wx hb) (fun wx _=>hS.doc wx)
   ·refine⟨0,E3,by decide,fun px py ao bx ox cx b2 oy cy bb off cap w hs hq=>?_,fun px py ao bx ox cx b2 oy cy bb off cap w hs hq=>?_⟩
    ·exact vj base ck kind W a b _ _ _ E3 X1 X2 (yW P Q) w h3 (fun wx hb=>pA px py bx ox cx b2 oy cy wx (hs.below hb)) (fun wx hb=>pB px py bx ox cx b2 oy cy wx (hs.below hb)) (fun wx hb=>hR.year ao bb off cap w hq (by omega) wx hb)
    ·exact qI base ck kind W a b _ _ _ E3 X1 X2 (yW P Q) w h3 (fun wx hb=>dA px py bx ox cx b2 oy cy wx (hs.below hb)) (fun wx hb=>dB px py bx ox cx b2 oy cy wx (hs.below hb)) (fun wx hb=>hR.refY ao bb off cap w hq (by omega) wx hb)
  ·refine⟨0,E2,by decide,fun px py ao bx ox cx b2 oy cy bb off cap w hs hq=>?_,fun px py ao bx ox cx b2 oy cy bb off cap w hs hq=>?_⟩
   ·exact vh base ck kind W a b _ _ _ E2 X1 X2 w h2 (fun wx hb=>pA px py bx ox cx b2 oy cy wx (hs.below hb)) (fun wx hb=>pB px py bx ox cx b2 oy cy wx (hs.below hb))
   ·exact qH base ck kind W a b _ _ _ E2 X1 X2 w h2 (fun wx hb=>dA px py bx ox cx b2 oy cy wx (hs.below hb)) (fun wx hb=>dB px py bx ox cx b2 oy cy wx (hs.below hb))
 ·refine⟨0,E1,by decide,fun px py ao bx ox cx b2 oy cy bb off cap w hs hq=>?_,fun px py ao bx ox cx b2 oy cy bb off cap w hs hq=>?_⟩
  ·exact vg base ck kind W a b _ _ _ E1 X1 w h1 (fun wx hb=>pA px py bx ox cx b2 oy cy wx (hs.below hb))
  ·exact qG base ck kind W a b _ _ _ E1 X1 w h1 (fun wx hb=>dA px py bx ox cx b2 oy cy wx (hs.below hb))
theorem Bu (base ck rates kind W b:Int) (xs:List Int) (ys:List Nat) (rs:List Rul) (hf:∀ i<ys.length,ys.getD i 0<18446744073709551616) (hr:rs.length≤8):∃ (Y:Nat) (E:Int),Y<18446744073709551616∧
  (∀ (px py ao:Option Addr) (bx ox cx b2 oy cy bb off cap:Nat) (w:World),TFl w px py bx ox b2 oy xs ys→RSrc w ao bb off rs→Calls Tryz.prog 17 #[.agg #[.int .i64 base,.int .i64 ck,.slice px xs.length cx,.slice py ys.length cy],.int .i64 rates,.int .i64 kind,.agg #[.int .i64 W,.slice ao rs.length cap],.int .i64 b] w fun e w'=>e=.returned (.tuple #[.float .f64 Y,.int .i64 E])∧Below w.heap.size w w')∧
  (∀ (px py ao:Option Addr) (bx ox cx b2 oy cy bb off cap:Nat) (w:World),CSrcD w px py bx ox b2 oy xs ys→RSrc w ao bb off rs→Calls Tryz.prog 25 #[.agg #[.int .i64 base,.int .i64 ck,.slice px xs.length cx,.slice py ys.length cy],.int .i64 rates,.int .i64 kind,.agg #[.int .i64 W,.slice ao rs.length cap],.int .i64 b] w fun e w'=>e=.returned (.tuple #[.int .u64 (Y:Int),.int .i64 E])∧Below w.heap.size w w'):=by
 obtain⟨X1,E1,hA⟩:=uK base ck xs ys b
 obtain⟨P,Q,E3,hR⟩:=yZ kind W base b rs
 have hT:yW P Q<18446744073709551616:=LR hR.bd.1 hR.bd.2.1
 obtain⟨F,E4,hS⟩:=AR rates X1 (yW P Q) (vl hA hf) hT
 have pA:=fun px py bx ox cx b2 oy cy w hs=>dT base ck b E1 X1 px py bx ox cx b2 oy cy xs ys w hs hA
 have dA:=fun px py bx ox cx b2 oy cy w hs=>eH base ck b E1 X1 px py bx ox cx b2 oy cy xs ys w hs hA
 by_cases h1:E1=0
 ·subst h1
  by_cases h3:E3=0
  ·subst h3
   refine⟨F,E4,hS.lt,fun px py ao bx ox cx b2 oy cy bb off cap w hs hq=>?_,fun px py ao bx ox cx b2 oy cy bb off cap w hs hq=>?_⟩
   ·exact Fe base ck rates kind W b _ _ _ E4 X1 (yW P Q) F w (fun wx hb=>pA px py bx ox cx b2 oy cy wx (hs.below hb)) (fun wx hb=>hR.year ao bb off cap w hq (by omega) wx hb) (fun wx _=>hS.prog wx)
   ·exact zd base ck rates kind W b _ _ _ E4 X1 (yW P Q) F w (fun wx hb=>dA px py bx ox cx b2 oy cy wx (hs.below hb)) (fun wx hb=>hR.refY ao bb off cap w hq (by omega) wx hb) (fun wx _=>hS.doc wx)
  ·refine⟨0,E3,by decide,fun px py ao bx ox cx b2 oy cy bb off cap w hs hq=>?_,fun px py ao bx ox cx b2 oy cy bb off cap w hs hq=>?_⟩
   ·exact Fd base ck rates kind W b _ _ _ E3 X1 (yW P Q) w h3 (fun wx hb=>pA px py bx ox cx b2 oy cy wx (hs.below hb)) (fun wx hb=>hR.year ao bb off cap w hq (by omega) wx hb)
   ·exact zc base ck rates kind W b _ _ _ E3 X1 (yW P Q) w h3 (fun wx hb=>dA px py bx ox cx b2 oy cy wx (hs.below hb)) (fun wx hb=>hR.refY ao bb off cap w hq (by omega) wx hb)
 ·refine⟨0,E1,by decide,fun px py ao bx ox cx b2 oy cy bb off cap w hs hq=>?_,fun px py ao bx ox cx b2 oy cy bb off cap w hs hq=>?_⟩
  ·exact Fc base ck rates kind W b _ _ _ E1 X1 w h1 (fun wx hb=>pA px py bx ox cx b2 oy cy wx (hs.below hb))
  ·exact zb base ck rates kind W b _ _ _ E1 X1 w h1 (fun wx hb=>dA px py bx ox cx b2 oy cy wx (hs.below hb))
theorem nP (base ck rates kind a b:Int) (px py:Option Addr) (bx ox cx b2 oy cy:Nat) (xs:List Int) (ys:List Nat) (W:Int) (ao:Option Addr) (bb off cap:Nat) (rs:List Rul) (w:World) (hs:TFl w px py bx ox b2 oy xs ys) (_hxI:∀ i<xs.length,nJ (xs.getD i 0)) (hx:xs.length≤17592186043904) (hy:ys.length≤17592186043904) (_hlx:xs.length≤cx) (_hly:ys.length≤cy) (hq:RSrc w ao bb off rs) (hM:rs.length≤9223372036854775807) (_h1:nJ rates) (_h2:nJ kind) (_h3:nJ a) (_h4:nJ b) :
  Calls Tryz.prog 5 #[.agg #[.int .i64 base,.int .i64 ck,.slice px xs.length cx,.slice py ys.length cy],.int .i64 rates,.int .i64 kind,.agg #[.int .i64 W,.slice ao rs.length cap],.int .i64 a,.int .i64 b] w fun e w'=>e=.returned (.bool true)∧Below w.heap.size w w':=by
 have hF:=fun wx=>Fh base ck px py xs.length cx ys.length cy wx hx hy
 by_cases h8:8<rs.length
 ·exact nO base ck rates kind W a b _ px py ao _ cx _ cy _ cap w hM h8 hF (fun wx=>CD wx)
 ·obtain⟨Y1,E1,l1,p1,d1⟩:=Bt base ck kind W a b xs ys rs hs.f (by omega)
  obtain⟨Y2,E2,l2,p2,d2⟩:=Bu base ck rates kind W b xs ys rs hs.f (by omega)
  refine rK base ck rates kind W a b E1 E2 (Y1:Int) (Y2:Int) Y1 Y2 _ px py ao _ cx _ cy _ cap w hM hF (fun wx hb=>p1 px py ao bx ox cx b2 oy cy bb off cap wx (hs.below hb) (hq.below hb)) (fun wx hb=>p2 px py ao bx ox cx b2 oy cy bb off cap wx (hs.below hb) (hq.below hb)) (fun wx hb=>?_) (fun wx=>isS Y1 Y1 wx rfl (aO l1)) (fun wx=>isS Y2 Y2 wx rfl (aO l2)) (fun wx=>CD wx)
  refine (Np base ck px py bx ox cx b2 oy cy xs ys wx (hs.below hb) hy).mono fun e w' ⟨p,g,c,he,hc,hbl⟩=>?_
  exact⟨p,c,he,hbl,fun wy hwy=>⟨d1 px p ao bx ox cx g 0 c bb off cap wy (hc.below hwy) (((hq.below hb).below hbl).below hwy),d2 px p ao bx ox cx g 0 c bb off cap wy (hc.below hwy) (((hq.below hb).below hbl).below hwy)⟩⟩
end Go.Proofs.YtcmbfflemoccmaaGreat
