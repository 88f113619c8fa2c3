/-  -/
import Derived.Test.YtbokkedmfolfdaaGreatWPriceParts
import Derived.Test.YtbokkedmfolfdaaGreatWPricePartsE
namespace Go.Proofs.YtbokkedmfolfdaaGreat
open Go.RowKit

theorem qe {H:Type} {enc:TypeId×Value→H} {W:World} {fuel len cap:Nat} {p:Option Addr} {x:DataW H×List MemPlace} (h:DataW.trod enc Tryz.prog W 0 (fun _=>true) true fuel 22 [.slice p len cap]=some x) (hp:p=none):len=0∧cap=0:=by
 rcases Go.Deep.open_slice Tryz.underlying22 h with⟨hcs,_⟩| ⟨a,len',cap',m,n',D,Pl,hcs,_,_,_,_,_,_⟩
 ·have:=(List.cons.inj hcs).1
  cases this
  exact⟨rfl,rfl⟩
 ·have:=(List.cons.inj hcs).1
  subst hp
  cases this
set_option maxRecDepth 40000 in
set_option maxHeartbeats 3200000 in
theorem fU (cur a p:Int) (pl pm pp:Option Addr) (cl N cm M cp L:Nat) (pd pf:Option Addr) (D cd F cf:Nat) (w:World) (hm:¬ (N≤60∧D≤12∧F≤12)) :
  Calls Tryz.prog 3 #[.slice pl N cl,.slice pm M cm,.slice pp L cp,.int .i64 cur,.agg #[.int .i64 a,.int .i64 p,.slice pd D cd,.slice pf F cf]] w fun e w'=>e=.returned (.bool true)∧Below w.heap.size w w':=by
 have HK:=hideS (aM w a p (.slice pd D cd) (.slice pf F cf))
 have HS1:=hideS fun wx=>bw a p pl pd pf N cl D cd F cf wx
 rw [decide_eq_false hm] at HS1
 have HA:=hideS gO
 clear hm
 generalize Value.slice pd D cd=vd at *
 generalize Value.slice pf F cf=vf at *
 obtain⟨w2,hw2⟩:∃ w2,w.alloc (.cells #[.int .i64 a,.int .i64 p,vd,vf] 26)=w2:=⟨_,rfl⟩
 rw [hw2] at HK
 have t0:=HK.out.t0
 have t1:=HK.out.t1
 have t2:=HK.out.t2
 have t3:=HK.out.t3
 go_enter Tryz.func3,Tryz.ntmps3
 go_wp2_with fail
 clear hw2 t0 t1 t2 t3
 refine (HS1.out _).mono ?_
 rintro e w3 ⟨rfl,hb3⟩
 have H3:=hideS (HK.out.step hb3)
 clear hb3 HK HS1
 go_wp2_with fail
 refine (HA.out _).mono ?_
 rintro e w8 ⟨rfl,hb8⟩
 have HB8:=hideS (H3.out.step hb8).bl
 clear hb8
 go_wp2_with fail
 go_ret
 exact⟨rfl,HB8.out⟩
set_option maxRecDepth 40000 in
set_option maxHeartbeats 3200000 in
theorem fW (cur a p:Int) (pl pm pp:Option Addr) (cl N cm M cp L:Nat) (pd pf:Option Addr) (D cd F cf:Nat) (w:World) (h1:N≤60∧D≤12∧F≤12) (hm:¬ (M≤60∧D≤12∧F≤12)) :
  Calls Tryz.prog 3 #[.slice pl N cl,.slice pm M cm,.slice pp L cp,.int .i64 cur,.agg #[.int .i64 a,.int .i64 p,.slice pd D cd,.slice pf F cf]] w fun e w'=>e=.returned (.bool true)∧Below w.heap.size w w':=by
 have HK:=hideS (aM w a p (.slice pd D cd) (.slice pf F cf))
 have HS1:=hideS fun wx=>bw a p pl pd pf N cl D cd F cf wx
 have HS2:=hideS fun wx=>bw a p pm pd pf M cm D cd F cf wx
 rw [decide_eq_true h1] at HS1
 rw [decide_eq_false hm] at HS2
 have HA:=hideS gO
 clear hm h1
 generalize Value.slice pd D cd=vd at *
 generalize Value.slice pf F cf=vf at *
 obtain⟨w2,hw2⟩:∃ w2,w.alloc (.cells #[.int .i64 a,.int .i64 p,vd,vf] 26)=w2:=⟨_,rfl⟩
 rw [hw2] at HK
 have t0:=HK.out.t0
 have t1:=HK.out.t1
 have t2:=HK.out.t2
 have t3:=HK.out.t3
 go_enter Tryz.func3,Tryz.ntmps3
 go_wp2_with fail
 clear hw2 t0 t1 t2 t3
 refine (HS1.out _).mono ?_
 rintro e w3 ⟨rfl,hb3⟩
 have H3:=hideS (HK.out.step hb3)
 clear hb3 HK HS1
 have t0:=H3.out.t0
 have t1:=H3.out.t1
 have t2:=H3.out.t2
 have t3:=H3.out.t3
 go_wp2_with fail
 clear t0 t1 t2 t3
 refine (HS2.out _).mono ?_
 rintro e w4 ⟨rfl,hb4⟩
 have H4:=hideS (H3.out.step hb4)
 clear hb4 H3 HS2
 go_wp2_with fail
 refine (HA.out _).mono ?_
 rintro e w8 ⟨rfl,hb8⟩
 have HB8:=hideS (H4.out.step hb8).bl
 clear hb8
 go_wp2_with fail
 go_ret
 exact⟨rfl,HB8.out⟩
theorem gC (pl:Option Addr) (bl ol cl:Nat) (l:List Flw) (pm:Option Addr) (bm om cm:Nat) (m:List Flw) (pp:Option Addr) (bp op cp:Nat) (xs:List Int) (cur:Int) (pd pf:Option Addr) (bd od cd b2 o2 cf:Nat) (c:Cv) (w:World) (hl:JSrc aF w pl bl ol l) (hf:bK l) (_:l.length≤9223372036854775807) (hl2:JSrc aF w pm bm om m) (hf2:bK m) (_:m.length≤9223372036854775807) (hx:VSrc w pp bp op xs.length (xV xs)) (hL:xs.length≤9223372036854775807) (hs:TFl w pd pf bd od b2 o2 c.ds c.fs) (hnl:pl=none→l.length=0∧cl=0) (hnm:pm=none→m.length=0∧cm=0) :
  Calls Tryz.prog 3 #[.slice pl l.length cl,.slice pm m.length cm,.slice pp xs.length cp,.int .i64 cur,.agg #[.int .i64 c.base,.int .i64 c.kind,.slice pd c.ds.length cd,.slice pf c.fs.length cf]] w fun e w'=>e=.returned (.bool true)∧Below w.heap.size w w':=by
 by_cases hm:l.length≤60∧c.ds.length≤12∧c.fs.length≤12
 ·by_cases hm2:m.length≤60∧c.ds.length≤12∧c.fs.length≤12
  ·by_cases h:FineP l cur c∧FineP m cur c
   ·exact jz l m cur c xs pl bl ol cl _ pm bm om cm _ pp bp op cp _ pd pf bd od cd b2 o2 cf w hl rfl hf hnl hl2 rfl hf2 hnm hx hL hs hm hm2 h.1 h.2
   ·exact jk l m cur c xs pl bl ol cl _ pm bm om cm _ pp bp op cp _ pd pf bd od cd b2 o2 cf w hl rfl hf hnl hl2 rfl hf2 hnm hx hL hs hm hm2 h
  ·exact fW cur c.base c.kind pl pm pp cl _ cm _ cp _ pd pf _ cd _ cf w hm hm2
 ·exact fU cur c.base c.kind pl pm pp cl _ cm _ cp _ pd pf _ cd _ cf w hm
end Go.Proofs.YtbokkedmfolfdaaGreat
