/-  -/
import Derived.Test.YtjjlnmihkadlmaaGreatHar
import Derived.Test.YtjjlnmihkadlmaaGreatHaq
namespace Go.Proofs.YtjjlnmihkadlmaaGreat
open Go.RowKit

structure VBox (w:World) (base kind:Int) (vd vf:Value) (wr:World):Prop where
 t0:wr.cell? ⟨w.heap.size,0,none⟩=some (.int .i64 base)
 t1:wr.cell? ⟨w.heap.size,1,none⟩=some (.int .i64 kind)
 t2:wr.cell? ⟨w.heap.size,2,none⟩=some vd
 t3:wr.cell? ⟨w.heap.size,3,none⟩=some vf
 bl:Below w.heap.size w wr
 lt:w.heap.size<wr.heap.size
theorem eV (w:World) (base kind:Int) (vd vf:Value):VBox w base kind vd vf (w.alloc (.cells #[.int .i64 base,.int .i64 kind,vd,vf] 64)):=
 ⟨by simp,by simp,by simp,by simp,(Below.refl _ _).alloc (Nat.le_refl _) _,by simp⟩
theorem cF (w:World) (base kind:Int) (vd vf:Value):VBox w base kind vd vf (w.alloc (.cells #[.int .i64 base,.int .i64 kind,vd,vf] 43)):=
 ⟨by simp,by simp,by simp,by simp,(Below.refl _ _).alloc (Nat.le_refl _) _,by simp⟩
theorem VBox.step {w wr w':World} {base kind:Int} {vd vf:Value} (h:VBox w base kind vd vf wr) (hb:Below wr.heap.size wr w'):VBox w base kind vd vf w':=
 ⟨(hb.cell (p:=⟨w.heap.size,0,none⟩) h.lt).trans h.t0,(hb.cell (p:=⟨w.heap.size,1,none⟩) h.lt).trans h.t1,(hb.cell (p:=⟨w.heap.size,2,none⟩) h.lt).trans h.t2,(hb.cell (p:=⟨w.heap.size,3,none⟩) h.lt).trans h.t3,h.bl.trans (hb.mono h.bl.size),Nat.lt_of_lt_of_le h.lt hb.size⟩
structure CSrcD (w:World) (pd pf:Option Addr) (bd od b2 o2:Nat) (ds:List Int) (fs:List Nat):Prop where
 d:VSrc w pd bd od ds.length (xV ds)
 f:VSrc w pf b2 o2 fs.length (yV fs)
 u:∀ i<fs.length,U64 (fs.getD i 0:Nat)
theorem CSrcD.below {w w':World} {pd pf:Option Addr} {bd od b2 o2:Nat} {ds:List Int} {fs:List Nat} (h:CSrcD w pd pf bd od b2 o2 ds fs) (hb:Below w.heap.size w w'):CSrcD w' pd pf bd od b2 o2 ds fs:=⟨h.d.below hb,h.f.below hb,h.u⟩

set_option maxRecDepth 20000 in
set_option maxHeartbeats 800000 in
theorem lM (base kind:Int) (vd vf:Value) (w:World) (h:base<0∨109572<base) :
  Calls Tryz.prog 56 #[.agg #[.int .i64 base,.int .i64 kind,vd,vf]] w fun e w'=>e=.returned (.int .i64 51)∧Below w.heap.size w w':=by
 have HB:=hideS (eV w base kind vd vf)
 rcases (show base<0∨(0≤base∧109572<base) by omega) with h1 | ⟨h1,h2⟩
 ·have d1:decide (base<0)=true:=decide_eq_true h1
  clear h h1
  go_enter Tryz.func56,Tryz.ntmps56
  go_wp2_with fail
  go_ret
  exact⟨rfl,HB.out.bl⟩
 ·have d1:decide (base<0)=false:=decide_eq_false (by omega)
  have d2:decide (109572<base)=true:=decide_eq_true h2
  clear h h1 h2
  go_enter Tryz.func56,Tryz.ntmps56
  go_wp2_with fail
  go_ret
  exact⟨rfl,HB.out.bl⟩
set_option maxRecDepth 20000 in
set_option maxHeartbeats 800000 in
theorem lN (base kind:Int) (vd vf:Value) (w:World) (b0:0≤base) (b1:base≤109572) (h:kind<1∨4<kind) :
  Calls Tryz.prog 56 #[.agg #[.int .i64 base,.int .i64 kind,vd,vf]] w fun e w'=>e=.returned (.int .i64 90)∧Below w.heap.size w w':=by
 have HB:=hideS (eV w base kind vd vf)
 have d1:decide (base<0)=false:=decide_eq_false (by omega)
 have d2:decide (109572<base)=false:=decide_eq_false (by omega)
 rcases (show kind<1∨(1≤kind∧4<kind) by omega) with h1 | ⟨h1,h2⟩
 ·have d3:decide (kind<1)=true:=decide_eq_true h1
  clear h h1
  go_enter Tryz.func56,Tryz.ntmps56
  go_wp2_with fail
  go_ret
  exact⟨rfl,HB.out.bl⟩
 ·have d3:decide (kind<1)=false:=decide_eq_false (by omega)
  have d4:decide (4<kind)=true:=decide_eq_true h2
  clear h h1 h2
  go_enter Tryz.func56,Tryz.ntmps56
  go_wp2_with fail
  go_ret
  exact⟨rfl,HB.out.bl⟩
set_option maxRecDepth 20000 in
set_option maxHeartbeats 1600000 in
theorem oc (base kind:Int) (pd pf:Option Addr) (n m cd cf:Nat) (w:World) (b0:0≤base) (b1:base≤109572) (h1:1≤kind) (h4:kind≤4) (h:n<1∨255<n∨m≠n) :
  Calls Tryz.prog 56 #[.agg #[.int .i64 base,.int .i64 kind,.slice pd n cd,.slice pf m cf]] w fun e w'=>e=.returned (.int .i64 100)∧Below w.heap.size w w':=by
 have HB:=hideS (eV w base kind (.slice pd n cd) (.slice pf m cf))
 have d1:decide (base<0)=false:=decide_eq_false (by omega)
 have d2:decide (109572<base)=false:=decide_eq_false (by omega)
 have d3:decide (kind<1)=false:=decide_eq_false (by omega)
 have d4:decide (4<kind)=false:=decide_eq_false (by omega)
 rcases (show n<1∨(1≤n∧255<n)∨(1≤n∧n≤255∧m≠n) by omega) with a | ⟨a,b⟩| ⟨a,b,c⟩
 ·have d5:decide ((n:Int)<1)=true:=decide_eq_true (by omega)
  clear h a b0 b1 h1 h4
  go_enter Tryz.func56,Tryz.ntmps56
  go_wp2_with fail
  go_ret
  exact⟨rfl,HB.out.bl⟩
 ·have d5:decide ((n:Int)<1)=false:=decide_eq_false (by omega)
  have d6:decide ((255:Int)<n)=true:=decide_eq_true (by omega)
  clear h a b b0 b1 h1 h4
  go_enter Tryz.func56,Tryz.ntmps56
  go_wp2_with fail
  go_ret
  exact⟨rfl,HB.out.bl⟩
 ·have d5:decide ((n:Int)<1)=false:=decide_eq_false (by omega)
  have d6:decide ((255:Int)<n)=false:=decide_eq_false (by omega)
  have d7:((n:Int) !=(m:Int))=true:=bne_iff_ne.2 (by omega)
  clear h a b c b0 b1 h1 h4
  go_enter Tryz.func56,Tryz.ntmps56
  go_wp2_with fail
  go_ret
  exact⟨rfl,HB.out.bl⟩
inductive NodCC (x q:Int) (f p:Bool):Bool→Prop
 | back (h:x≤q):NodCC x q f p true
 | far (h:q<x) (h2:109572<x):NodCC x q f p true
 | inf (h:q<x) (h2:x≤109572) (hf:f=false):NodCC x q f p true
 | low (h:q<x) (h2:x≤109572) (hf:f=true) (hp:p=false):NodCC x q f p true
 | fine (h:q<x) (h2:x≤109572) (hf:f=true) (hp:p=true):NodCC x q f p false
theorem Fx (base:Int) (ds:List Int) (fs:List Nat) (i:Nat):NodCC (ds.getD i 0) (dt base ds i) (bE (fs.getD i 0:Nat)) (ltB 0 (fs.getD i 0:Nat)) (ki base ds fs i):=by
 obtain⟨R,hR⟩:∃ R,ki base ds fs i=R:=⟨_,rfl⟩
 rw [hR]
 unfold ki at hR
 generalize ds.getD i 0=x at *
 generalize dt base ds i=q at *
 generalize bE (fs.getD i 0:Nat)=f at *
 generalize ltB 0 (fs.getD i 0:Nat)=p at *
 by_cases a:x≤q
 ·simp [a] at hR
  subst hR;exact .back a
 ·by_cases b:109572<x
  ·simp [b] at hR
   subst hR;exact .far (by omega) b
  ·rw [decide_eq_false a,decide_eq_false b] at hR
   cases f
   ·simp at hR
    subst hR;exact .inf (by omega) (by omega) rfl
   ·cases p
    ·simp at hR
     subst hR;exact .low (by omega) (by omega) rfl rfl
    ·simp at hR
     subst hR;exact .fine (by omega) (by omega) rfl rfl

set_option maxRecDepth 20000 in
set_option maxHeartbeats 12800000 in
theorem gI (base kind:Int) (pd pf:Option Addr) (bd od cd b2 o2 cf n K:Nat) (ds:List Int) (fs:List Nat) (w:World) (hX:VSrc w pd bd od n (xV ds)) (hY:VSrc w pf b2 o2 n (yV fs)) (hf:∀ i<n,U64 (fs.getD i 0:Nat)) (b0:0≤base) (b1:base≤109572) (h1:1≤kind) (h4:kind≤4) (hn:1≤n) (hn':n≤255) (hK:K≤n) (hfine:∀ i<K,ki base ds fs i=false) (hbad:K<n→ki base ds fs K=true) :
  Calls Tryz.prog 56 #[.agg #[.int .i64 base,.int .i64 kind,.slice pd n cd,.slice pf n cf]] w fun e w'=>e=.returned (.int .i64 (if K<n then 100 else 0))∧Below w.heap.size w w':=by
 obtain⟨w1,hw1⟩:∃ w1,w.alloc (.cells #[.int .i64 base,.int .i64 kind,.slice pd n cd,.slice pf n cf] 64)=w1:=⟨_,rfl⟩
 have HB:Hid (VBox w base kind (.slice pd n cd) (.slice pf n cf) w1):=by show VBox _ _ _ _ _ _;rw [← hw1];exact eV w base kind (.slice pd n cd) (.slice pf n cf)
 have HX:=hideS (hX.below HB.out.bl)
 have HY:=hideS (hY.below HB.out.bl)
 have HF:=hideS hf
 have HA:=hideS hfine
 have HBd:=hideS hbad
 have HNm:=hideS fun (u:Int) (wx:World) (hu:U64 u)=>mp u wx hu
 have HLt:=hideS fun (u:Int) (wx:World) (hu:U64 u)=>il 0 u wx (by unfold U64;decide) hu
 obtain rfl:=hX.at_ (by omega)
 obtain rfl:=hY.at_ (by omega)
 have d1:decide (base<0)=false:=decide_eq_false (by omega)
 have d2:decide (109572<base)=false:=decide_eq_false (by omega)
 have d3:decide (kind<1)=false:=decide_eq_false (by omega)
 have d4:decide (4<kind)=false:=decide_eq_false (by omega)
 have d5:decide ((n:Int)<1)=false:=decide_eq_false (by omega)
 have d6:decide ((255:Int)<n)=false:=decide_eq_false (by omega)
 have d7:((n:Int) !=(n:Int))=false:=by simp
 obtain⟨R,hR⟩:∃ R:Int,(if K<n then 100 else 0)=R:=⟨_,rfl⟩
 rw [hR]
 have HR:=hideS hR
 have s0:=HB.out.t0
 have s1:=HB.out.t1
 have s2:=HB.out.t2
 have s3:=HB.out.t3
 clear hX hY hf hfine hbad hR b0 b1 h1 h4
 go_enter Tryz.func56,Tryz.ntmps56
 go_wp2_with fail
 clear hw1 s0 s1 s2 s3 d1 d2 d3 d4 d5 d6 d7
 go_loopw [3,4] (fun l i wr=>∃ k:Nat,k≤K∧l=.int .i64 (dt base ds k)∧i=.int .i64 k∧Hid (wr=w1)) (fun _ i _=>n - (intOf i).toNat)
 case atStart=>exact⟨0,Nat.zero_le _,rfl,rfl,rfl⟩
 case round=>
  obtain⟨k,hk,rfl,rfl,HQ⟩:=hrel
  have t2:wr.cell? ⟨w.heap.size,2,none⟩=some (.slice (some ⟨bd,od,none⟩) n cd):=by rw [HQ.out];exact HB.out.t2
  have t3:wr.cell? ⟨w.heap.size,3,none⟩=some (.slice (some ⟨b2,o2,none⟩) n cf):=by rw [HQ.out];exact HB.out.t3
  by_cases hlt:k<n
  ·have hcx:wr.cell? ⟨bd,od+k,none⟩=some (.int .i64 (ds.getD k 0)):=by rw [HQ.out];exact HX.out.cell k hlt
   have hcy:wr.cell? ⟨b2,o2+k,none⟩=some (.int .u64 (fs.getD k 0:Nat)):=by rw [HQ.out];exact HY.out.cell k hlt
   have HC:=Fx base ds fs k
   have HU:=hideS (HF.out k hlt)
   have HNk:=hideS fun wx=>HNm.out _ wx HU.out
   have HLk:=hideS fun wx=>HLt.out _ wx HU.out
   have HP:Hid (dt base ds (k+1)=ds.getD k 0):=rfl
   by_cases hkK:k<K
   ·rw [HA.out k hkK] at HC
    generalize hZ:false=Z at HC
    cases HC with
    | back=>cases hZ
    | far=>cases hZ
    | inf=>cases hZ
    | low=>cases hZ
    | fine a b c d=>
     clear hZ
     rw [c] at HNk
     rw [d] at HLk
     clear c d
     generalize dt base ds k=q at *
     generalize ds.getD k 0=x at *
     generalize hyk:((fs.getD k 0:Nat):Int)=y at *
     clear hyk
     have d1:decide (x≤q)=false:=decide_eq_false (by omega)
     have d2:decide (109572<x)=false:=decide_eq_false (by omega)
     clear HA HBd HF HX HY HB HNm HLt HU hn a b
     go_wp2_with (first | (go_at_call 65;refine (HNk.out _).mono ?_;rintro e wn ⟨rfl,rfl⟩) | (go_at_call 97;refine (HLk.out _).mono ?_;rintro e wl ⟨rfl,rfl⟩))
     go_roundw
     case rel=>exact⟨k+1,by omega,by rw [HP.out],by simp,HQ⟩
     case measure=>simp [intOf];omega
   ·obtain rfl:k=K:=by omega
    rw [HBd.out hlt] at HC
    have HR1:Hid ((100:Int)=R):=by show _=_;rw [← HR.out,if_pos hlt]
    clear HR HP
    have HBl:Hid (Below w.heap.size w wr):=by show Below _ _ _;rw [HQ.out];exact HB.out.bl
    generalize dt base ds k=q at *
    generalize ds.getD k 0=x at *
    generalize hyk:((fs.getD k 0:Nat):Int)=y at *
    clear hyk
    generalize hZ:true=Z at HC
    cases HC with
    | fine=>cases hZ
    | back a=>
     clear hZ
     have d1:decide (x≤q)=true:=decide_eq_true a
     clear HA HBd HF HX HY HB HNm HLt HU hn a
     go_wp2_with (first | (go_at_call 65;refine (HNk.out _).mono ?_;rintro e wn ⟨rfl,rfl⟩) | (go_at_call 97;refine (HLk.out _).mono ?_;rintro e wl ⟨rfl,rfl⟩))
     go_ret
     exact⟨by rw [← HR1.out];rfl,HBl.out⟩
    | far a b=>
     clear hZ
     have d1:decide (x≤q)=false:=decide_eq_false (by omega)
     have d2:decide (109572<x)=true:=decide_eq_true b
     clear HA HBd HF HX HY HB HNm HLt HU hn a b
     go_wp2_with (first | (go_at_call 65;refine (HNk.out _).mono ?_;rintro e wn ⟨rfl,rfl⟩) | (go_at_call 97;refine (HLk.out _).mono ?_;rintro e wl ⟨rfl,rfl⟩))
     go_ret
     exact⟨by rw [← HR1.out];rfl,HBl.out⟩
    | inf a b c=>
     clear hZ
     rw [c] at HNk
     have d1:decide (x≤q)=false:=decide_eq_false (by omega)
     have d2:decide (109572<x)=false:=decide_eq_false (by omega)
     clear HA HBd HF HX HY HB HNm HLt HU hn a b c
     go_wp2_with (first | (go_at_call 65;refine (HNk.out _).mono ?_;rintro e wn ⟨rfl,rfl⟩) | (go_at_call 97;refine (HLk.out _).mono ?_;rintro e wl ⟨rfl,rfl⟩))
     go_ret
     exact⟨by rw [← HR1.out];rfl,HBl.out⟩
    | low a b c d=>
     clear hZ
     rw [c] at HNk
     rw [d] at HLk
     have d1:decide (x≤q)=false:=decide_eq_false (by omega)
     have d2:decide (109572<x)=false:=decide_eq_false (by omega)
     clear HA HBd HF HX HY HB HNm HLt HU hn a b c d
     go_wp2_with (first | (go_at_call 65;refine (HNk.out _).mono ?_;rintro e wn ⟨rfl,rfl⟩) | (go_at_call 97;refine (HLk.out _).mono ?_;rintro e wl ⟨rfl,rfl⟩))
     go_ret
     exact⟨by rw [← HR1.out];rfl,HBl.out⟩
  ·obtain rfl:k=K:=by omega
   have HR1:Hid ((0:Int)=R):=by show _=_;rw [← HR.out,if_neg hlt]
   clear HR
   have hge:¬ (k:Int)<n:=by omega
   have HBl:Hid (Below w.heap.size w wr):=by show Below _ _ _;rw [HQ.out];exact HB.out.bl
   go_wp2_with fail
   go_ret
   exact⟨by rw [← HR1.out];rfl,HBl.out⟩
theorem eG (base kind:Int) (pd pf:Option Addr) (bd od cd b2 o2 cf:Nat) (ds:List Int) (fs:List Nat) (w:World) (hS:CSrcD w pd pf bd od b2 o2 ds fs) {E:Int} (hE:CurR base kind ds fs E) :
  Calls Tryz.prog 56 #[.agg #[.int .i64 base,.int .i64 kind,.slice pd ds.length cd,.slice pf fs.length cf]] w fun e w'=>e=.returned (.int .i64 E)∧Below w.heap.size w w':=by
 cases hE with
 | base h=>exact lM base kind _ _ w h
 | kind b0 b1 h=>exact lN base kind _ _ w b0 b1 h
 | len b0 b1 h1 h4 h=>exact oc base kind pd pf _ _ cd cf w b0 b1 h1 h4 h
 | ok h=>
  have hf:=hS.f
  have hu:=hS.u
  rw [h.len] at hf hu ⊢
  have:=gI base kind pd pf bd od cd b2 o2 cf ds.length ds.length ds fs w hS.d hf hu h.b0 h.b1 h.k1 h.k4 h.lo h.hi (Nat.le_refl _) h.node (fun c=>absurd c (Nat.lt_irrefl _))
  rwa [if_neg (Nat.lt_irrefl _)] at this
 | node b0 b1 h1 h4 lo hi len K hK bad fine=>
  have hf:=hS.f
  have hu:=hS.u
  rw [len] at hf hu ⊢
  have:=gI base kind pd pf bd od cd b2 o2 cf ds.length K ds fs w hS.d hf hu b0 b1 h1 h4 lo hi (Nat.le_of_lt hK) fine (fun _=>bad)
  rwa [if_pos hK] at this
end Go.Proofs.YtjjlnmihkadlmaaGreat
namespace Go.Proofs.YtjjlnmihkadlmaaGreat
open Go.RowKit

end Go.Proofs.YtjjlnmihkadlmaaGreat
