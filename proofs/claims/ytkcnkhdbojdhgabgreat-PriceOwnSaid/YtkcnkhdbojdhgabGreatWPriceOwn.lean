/- The walk of PriceOwn. -/
import Derived.Test.YtkcnkhdbojdhgabGreatHbi
import Derived.Test.YtkcnkhdbojdhgabGreatFFlw
namespace Go.Proofs.YtkcnkhdbojdhgabGreat
open Go.RowKit

set_option maxRecDepth 40000 in
set_option maxHeartbeats 6400000 in
theorem priceOwn_bb (l m : List Flw) (cur : Int) (c : Cv) (pl : Option Addr) (bl ol cl N : Nat) (pm : Option Addr) (bm om cm M : Nat) (pd pf : Option Addr) (bd od cd b2 o2 cf : Nat) (w : World) (hl : JSrc aF w pl bl ol l) (hN : l.length = N) (hf : FitJ l) (hl2 : JSrc aF w pm bm om m) (hM : m.length = M) (hf2 : FitJ m) (hs : TFl w pd pf bd od b2 o2 c.ds c.fs) (hm : N ≤ 60 ∧ c.ds.length ≤ 12 ∧ c.fs.length ≤ 12) (hm2 : M ≤ 60 ∧ c.ds.length ≤ 12 ∧ c.fs.length ≤ 12) (E F : Int) (h1 : VisR l cur c E) (hE : E ≠ 0) (h2 : VisR m cur c F) (hF : F ≠ 0) :
    Calls Tryz.prog 3 #[.slice pl N cl, .slice pm M cm, .int .i64 cur, .agg #[.int .i64 c.base, .int .i64 c.kind, .slice pd c.ds.length cd, .slice pf c.fs.length cf]] w fun e w' => e = .returned (.bool true) ∧ Below w.heap.size w w' := by
  have HK := hideS (vboxA_at w c.base c.kind (.slice pd c.ds.length cd) (.slice pf c.fs.length cf))
  have HS1 := hideS fun wx => xSmall_any c.base c.kind pl pd pf N cl c.ds.length cd c.fs.length cf wx
  have HS2 := hideS fun wx => xSmall_any c.base c.kind pm pd pf M cm c.ds.length cd c.fs.length cf wx
  rw [decide_eq_true hm] at HS1
  rw [decide_eq_true hm2] at HS2
  have HO1 := hideS fun wx (hb : Below w.heap.size w wx) => xOf_bad l cur c pl bl ol cl N pd pf bd od cd b2 o2 cf wx E h1 hE (hl.below hb) hN (by omega) hf (hs.below hb)
  have HO2 := hideS fun wx (hb : Below w.heap.size w wx) => xOf_bad m cur c pm bm om cm M pd pf bd od cd b2 o2 cf wx F h2 hF (hl2.below hb) hM (by omega) hf2 (hs.below hb)
  have HA := hideS awake15
  have hN60 := hm.1
  have hM60 := hm2.1
  clear hl hN hf hl2 hM hf2 hs hm hm2
  generalize Value.slice pd c.ds.length cd = vd at *
  generalize Value.slice pf c.fs.length cf = vf at *
  generalize c.base = bs at *
  generalize c.kind = kd at *
  obtain ⟨w2, hw2⟩ : ∃ w2, w.alloc (.cells #[.int .i64 bs, .int .i64 kd, vd, vf] 26) = w2 := ⟨_, rfl⟩
  rw [hw2] at HK
  have t0 := HK.out.t0
  have t1 := HK.out.t1
  have t2 := HK.out.t2
  have t3 := HK.out.t3
  go_enter Tryz.func3, Tryz.ntmps3
  go_wp2_with fail
  clear hw2 t0 t1 t2 t3
  refine (HS1.out _).mono ?_
  rintro e w3 ⟨rfl, hb3⟩
  have H3 := hideS (HK.out.step hb3)
  clear hb3 HK HS1
  have t0 := H3.out.t0
  have t1 := H3.out.t1
  have t2 := H3.out.t2
  have t3 := H3.out.t3
  go_wp2_with fail
  clear t0 t1 t2 t3
  refine (HS2.out _).mono ?_
  rintro e w4 ⟨rfl, hb4⟩
  have H4 := hideS (H3.out.step hb4)
  clear hb4 H3 HS2
  have t0 := H4.out.t0
  have t1 := H4.out.t1
  have t2 := H4.out.t2
  have t3 := H4.out.t3
  go_wp2_with fail
  clear t0 t1 t2 t3
  refine (HO1.out _ H4.out.bl).mono ?_
  rintro e w5 ⟨rfl, hb5⟩
  have H5 := hideS (H4.out.step hb5)
  clear hb5 H4 HO1
  have d1 : (E != 0) = true := bne_iff_ne.2 hE
  clear hE
  have t0 := H5.out.t0
  have t1 := H5.out.t1
  have t2 := H5.out.t2
  have t3 := H5.out.t3
  go_wp2_with fail
  clear t0 t1 t2 t3
  refine (HO2.out _ H5.out.bl).mono ?_
  rintro e w6 ⟨rfl, hb6⟩
  have H6 := hideS (H5.out.step hb6)
  clear hb6 H5 HO2
  have d2 : (F != 0) = true := bne_iff_ne.2 hF
  clear hF
  go_wp2_with fail
  refine (HA.out _).mono ?_
  rintro e w8 ⟨rfl, hb8⟩
  have HB8 := hideS (H6.out.step hb8).bl
  clear hb8
  go_wp2_with fail
  go_ret
  exact ⟨rfl, HB8.out⟩
set_option maxRecDepth 40000 in
set_option maxHeartbeats 6400000 in
theorem priceOwn_bo (l m : List Flw) (cur : Int) (c : Cv) (pl : Option Addr) (bl ol cl N : Nat) (pm : Option Addr) (bm om cm M : Nat) (pd pf : Option Addr) (bd od cd b2 o2 cf : Nat) (w : World) (hl : JSrc aF w pl bl ol l) (hN : l.length = N) (hf : FitJ l) (hl2 : JSrc aF w pm bm om m) (hM : m.length = M) (hf2 : FitJ m) (hs : TFl w pd pf bd od b2 o2 c.ds c.fs) (hm : N ≤ 60 ∧ c.ds.length ≤ 12 ∧ c.fs.length ≤ 12) (hm2 : M ≤ 60 ∧ c.ds.length ≤ 12 ∧ c.fs.length ≤ 12) (E : Int) (h1 : VisR l cur c E) (hE : E ≠ 0) (h2 : FineP m cur c) :
    Calls Tryz.prog 3 #[.slice pl N cl, .slice pm M cm, .int .i64 cur, .agg #[.int .i64 c.base, .int .i64 c.kind, .slice pd c.ds.length cd, .slice pf c.fs.length cf]] w fun e w' => e = .returned (.bool true) ∧ Below w.heap.size w w' := by
  have HK := hideS (vboxA_at w c.base c.kind (.slice pd c.ds.length cd) (.slice pf c.fs.length cf))
  have HS1 := hideS fun wx => xSmall_any c.base c.kind pl pd pf N cl c.ds.length cd c.fs.length cf wx
  have HS2 := hideS fun wx => xSmall_any c.base c.kind pm pd pf M cm c.ds.length cd c.fs.length cf wx
  rw [decide_eq_true hm] at HS1
  rw [decide_eq_true hm2] at HS2
  have HO1 := hideS fun wx (hb : Below w.heap.size w wx) => xOf_bad l cur c pl bl ol cl N pd pf bd od cd b2 o2 cf wx E h1 hE (hl.below hb) hN (by omega) hf (hs.below hb)
  have HO2 := hideS fun wx (hb : Below w.heap.size w wx) => xOf_ok m cur c pm bm om cm M pd pf bd od cd b2 o2 cf wx h2 (hl2.below hb) hM hf2 (hs.below hb)
  have HA := hideS awake15
  have hN60 := hm.1
  have hM60 := hm2.1
  clear hl hN hf hl2 hM hf2 hs hm hm2
  generalize Value.slice pd c.ds.length cd = vd at *
  generalize Value.slice pf c.fs.length cf = vf at *
  generalize c.base = bs at *
  generalize c.kind = kd at *
  obtain ⟨w2, hw2⟩ : ∃ w2, w.alloc (.cells #[.int .i64 bs, .int .i64 kd, vd, vf] 26) = w2 := ⟨_, rfl⟩
  rw [hw2] at HK
  have t0 := HK.out.t0
  have t1 := HK.out.t1
  have t2 := HK.out.t2
  have t3 := HK.out.t3
  go_enter Tryz.func3, Tryz.ntmps3
  go_wp2_with fail
  clear hw2 t0 t1 t2 t3
  refine (HS1.out _).mono ?_
  rintro e w3 ⟨rfl, hb3⟩
  have H3 := hideS (HK.out.step hb3)
  clear hb3 HK HS1
  have t0 := H3.out.t0
  have t1 := H3.out.t1
  have t2 := H3.out.t2
  have t3 := H3.out.t3
  go_wp2_with fail
  clear t0 t1 t2 t3
  refine (HS2.out _).mono ?_
  rintro e w4 ⟨rfl, hb4⟩
  have H4 := hideS (H3.out.step hb4)
  clear hb4 H3 HS2
  have t0 := H4.out.t0
  have t1 := H4.out.t1
  have t2 := H4.out.t2
  have t3 := H4.out.t3
  go_wp2_with fail
  clear t0 t1 t2 t3
  refine (HO1.out _ H4.out.bl).mono ?_
  rintro e w5 ⟨rfl, hb5⟩
  have H5 := hideS (H4.out.step hb5)
  clear hb5 H4 HO1
  have d1 : (E != 0) = true := bne_iff_ne.2 hE
  clear hE
  have t0 := H5.out.t0
  have t1 := H5.out.t1
  have t2 := H5.out.t2
  have t3 := H5.out.t3
  go_wp2_with fail
  clear t0 t1 t2 t3
  refine (HO2.out _ H5.out.bl).mono ?_
  rintro e w6 ⟨h, rfl, _, hb6⟩
  have H6 := hideS (H5.out.step hb6)
  clear hb6 H5 HO2
  go_wp2_with fail
  refine (HA.out _).mono ?_
  rintro e w8 ⟨rfl, hb8⟩
  have HB8 := hideS (H6.out.step hb8).bl
  clear hb8
  go_wp2_with fail
  go_ret
  exact ⟨rfl, HB8.out⟩
set_option maxRecDepth 40000 in
set_option maxHeartbeats 6400000 in
theorem priceOwn_ob (l m : List Flw) (cur : Int) (c : Cv) (pl : Option Addr) (bl ol cl N : Nat) (pm : Option Addr) (bm om cm M : Nat) (pd pf : Option Addr) (bd od cd b2 o2 cf : Nat) (w : World) (hl : JSrc aF w pl bl ol l) (hN : l.length = N) (hf : FitJ l) (hl2 : JSrc aF w pm bm om m) (hM : m.length = M) (hf2 : FitJ m) (hs : TFl w pd pf bd od b2 o2 c.ds c.fs) (hm : N ≤ 60 ∧ c.ds.length ≤ 12 ∧ c.fs.length ≤ 12) (hm2 : M ≤ 60 ∧ c.ds.length ≤ 12 ∧ c.fs.length ≤ 12) (F : Int) (h1 : FineP l cur c) (h2 : VisR m cur c F) (hF : F ≠ 0) :
    Calls Tryz.prog 3 #[.slice pl N cl, .slice pm M cm, .int .i64 cur, .agg #[.int .i64 c.base, .int .i64 c.kind, .slice pd c.ds.length cd, .slice pf c.fs.length cf]] w fun e w' => e = .returned (.bool true) ∧ Below w.heap.size w w' := by
  have HK := hideS (vboxA_at w c.base c.kind (.slice pd c.ds.length cd) (.slice pf c.fs.length cf))
  have HS1 := hideS fun wx => xSmall_any c.base c.kind pl pd pf N cl c.ds.length cd c.fs.length cf wx
  have HS2 := hideS fun wx => xSmall_any c.base c.kind pm pd pf M cm c.ds.length cd c.fs.length cf wx
  rw [decide_eq_true hm] at HS1
  rw [decide_eq_true hm2] at HS2
  have HO1 := hideS fun wx (hb : Below w.heap.size w wx) => xOf_ok l cur c pl bl ol cl N pd pf bd od cd b2 o2 cf wx h1 (hl.below hb) hN hf (hs.below hb)
  have HO2 := hideS fun wx (hb : Below w.heap.size w wx) => xOf_bad m cur c pm bm om cm M pd pf bd od cd b2 o2 cf wx F h2 hF (hl2.below hb) hM (by omega) hf2 (hs.below hb)
  have HA := hideS awake15
  have hN60 := hm.1
  have hM60 := hm2.1
  clear hl hN hf hl2 hM hf2 hs hm hm2
  generalize Value.slice pd c.ds.length cd = vd at *
  generalize Value.slice pf c.fs.length cf = vf at *
  generalize c.base = bs at *
  generalize c.kind = kd at *
  obtain ⟨w2, hw2⟩ : ∃ w2, w.alloc (.cells #[.int .i64 bs, .int .i64 kd, vd, vf] 26) = w2 := ⟨_, rfl⟩
  rw [hw2] at HK
  have t0 := HK.out.t0
  have t1 := HK.out.t1
  have t2 := HK.out.t2
  have t3 := HK.out.t3
  go_enter Tryz.func3, Tryz.ntmps3
  go_wp2_with fail
  clear hw2 t0 t1 t2 t3
  refine (HS1.out _).mono ?_
  rintro e w3 ⟨rfl, hb3⟩
  have H3 := hideS (HK.out.step hb3)
  clear hb3 HK HS1
  have t0 := H3.out.t0
  have t1 := H3.out.t1
  have t2 := H3.out.t2
  have t3 := H3.out.t3
  go_wp2_with fail
  clear t0 t1 t2 t3
  refine (HS2.out _).mono ?_
  rintro e w4 ⟨rfl, hb4⟩
  have H4 := hideS (H3.out.step hb4)
  clear hb4 H3 HS2
  have t0 := H4.out.t0
  have t1 := H4.out.t1
  have t2 := H4.out.t2
  have t3 := H4.out.t3
  go_wp2_with fail
  clear t0 t1 t2 t3
  refine (HO1.out _ H4.out.bl).mono ?_
  rintro e w5 ⟨g, rfl, _, hb5⟩
  have H5 := hideS (H4.out.step hb5)
  clear hb5 H4 HO1
  have t0 := H5.out.t0
  have t1 := H5.out.t1
  have t2 := H5.out.t2
  have t3 := H5.out.t3
  go_wp2_with fail
  clear t0 t1 t2 t3
  refine (HO2.out _ H5.out.bl).mono ?_
  rintro e w6 ⟨rfl, hb6⟩
  have H6 := hideS (H5.out.step hb6)
  clear hb6 H5 HO2
  have d2 : (F != 0) = true := bne_iff_ne.2 hF
  clear hF
  go_wp2_with fail
  refine (HA.out _).mono ?_
  rintro e w8 ⟨rfl, hb8⟩
  have HB8 := hideS (H6.out.step hb8).bl
  clear hb8
  go_wp2_with fail
  go_ret
  exact ⟨rfl, HB8.out⟩
set_option maxRecDepth 40000 in
set_option maxHeartbeats 6400000 in
theorem priceOwn_oo (l m : List Flw) (cur : Int) (c : Cv) (pl : Option Addr) (bl ol cl N : Nat) (pm : Option Addr) (bm om cm M : Nat) (pd pf : Option Addr) (bd od cd b2 o2 cf : Nat) (w : World) (hl : JSrc aF w pl bl ol l) (hN : l.length = N) (hf : FitJ l) (hl2 : JSrc aF w pm bm om m) (hM : m.length = M) (hf2 : FitJ m) (hs : TFl w pd pf bd od b2 o2 c.ds c.fs) (hm : N ≤ 60 ∧ c.ds.length ≤ 12 ∧ c.fs.length ≤ 12) (hm2 : M ≤ 60 ∧ c.ds.length ≤ 12 ∧ c.fs.length ≤ 12) (h1 : FineP l cur c) (h2 : FineP m cur c) :
    Calls Tryz.prog 3 #[.slice pl N cl, .slice pm M cm, .int .i64 cur, .agg #[.int .i64 c.base, .int .i64 c.kind, .slice pd c.ds.length cd, .slice pf c.fs.length cf]] w fun e w' => e = .returned (.bool true) ∧ Below w.heap.size w w' := by
  have HK := hideS (vboxA_at w c.base c.kind (.slice pd c.ds.length cd) (.slice pf c.fs.length cf))
  have HS1 := hideS fun wx => xSmall_any c.base c.kind pl pd pf N cl c.ds.length cd c.fs.length cf wx
  have HS2 := hideS fun wx => xSmall_any c.base c.kind pm pd pf M cm c.ds.length cd c.fs.length cf wx
  rw [decide_eq_true hm] at HS1
  rw [decide_eq_true hm2] at HS2
  have HO1 := hideS fun wx (hb : Below w.heap.size w wx) => xOf_ok l cur c pl bl ol cl N pd pf bd od cd b2 o2 cf wx h1 (hl.below hb) hN hf (hs.below hb)
  have HO2 := hideS fun wx (hb : Below w.heap.size w wx) => xOf_ok m cur c pm bm om cm M pd pf bd od cd b2 o2 cf wx h2 (hl2.below hb) hM hf2 (hs.below hb)
  have HA := hideS awake15
  have hN60 := hm.1
  have hM60 := hm2.1
  clear hl hN hf hl2 hM hf2 hs hm hm2
  generalize Value.slice pd c.ds.length cd = vd at *
  generalize Value.slice pf c.fs.length cf = vf at *
  generalize c.base = bs at *
  generalize c.kind = kd at *
  obtain ⟨w2, hw2⟩ : ∃ w2, w.alloc (.cells #[.int .i64 bs, .int .i64 kd, vd, vf] 26) = w2 := ⟨_, rfl⟩
  rw [hw2] at HK
  have t0 := HK.out.t0
  have t1 := HK.out.t1
  have t2 := HK.out.t2
  have t3 := HK.out.t3
  go_enter Tryz.func3, Tryz.ntmps3
  go_wp2_with fail
  clear hw2 t0 t1 t2 t3
  refine (HS1.out _).mono ?_
  rintro e w3 ⟨rfl, hb3⟩
  have H3 := hideS (HK.out.step hb3)
  clear hb3 HK HS1
  have t0 := H3.out.t0
  have t1 := H3.out.t1
  have t2 := H3.out.t2
  have t3 := H3.out.t3
  go_wp2_with fail
  clear t0 t1 t2 t3
  refine (HS2.out _).mono ?_
  rintro e w4 ⟨rfl, hb4⟩
  have H4 := hideS (H3.out.step hb4)
  clear hb4 H3 HS2
  have t0 := H4.out.t0
  have t1 := H4.out.t1
  have t2 := H4.out.t2
  have t3 := H4.out.t3
  go_wp2_with fail
  clear t0 t1 t2 t3
  refine (HO1.out _ H4.out.bl).mono ?_
  rintro e w5 ⟨ga, rfl, ha, hb5⟩
  have H5 := hideS (H4.out.step hb5)
  have Wa := hideS ha
  clear hb5 ha H4 HO1
  have t0 := H5.out.t0
  have t1 := H5.out.t1
  have t2 := H5.out.t2
  have t3 := H5.out.t3
  go_wp2_with fail
  clear t0 t1 t2 t3
  refine (HO2.out _ H5.out.bl).mono ?_
  rintro e w6 ⟨gb, rfl, hq, hb6⟩
  have H6 := hideS (H5.out.step hb6).bl
  have Wa := hideS (Wa.out.below hb6)
  have Wb := hideS hq
  clear hb6 hq H5 HO2
  generalize wsI cur c l = SN at *
  generalize wsI cur c m = SM at *
  obtain ⟨bk, vk, ck, hk⟩ := Wa.out.at_
  have HV := hideS (WAt.value hk (by omega))
  clear hk
  go_wp2_with fail
  refine HV.out.mono ?_
  rintro e w7 ⟨rfl, hb⟩
  have Wa := hideS (Wa.out.below hb)
  have Wb := hideS (Wb.out.below hb)
  have H7 := hideS (H6.out.trans (hb.mono H6.out.size))
  clear hb H6
  clear HV ck
  go_wp2_with fail
  refine (turned (bits_any _ _)).mono ?_
  rintro e w' ⟨rfl, rfl⟩
  obtain ⟨bk, vk, ck, hk⟩ := Wb.out.at_
  have HV := hideS (WAt.value hk (by omega))
  clear hk
  go_wp2_with fail
  refine HV.out.mono ?_
  rintro e w8 ⟨rfl, hb⟩
  have Wa := hideS (Wa.out.below hb)
  have Wb := hideS (Wb.out.below hb)
  have H8 := hideS (H7.out.trans (hb.mono H7.out.size))
  clear hb H7
  clear HV ck
  go_wp2_with fail
  refine (turned (bits_any _ _)).mono ?_
  rintro e w' ⟨rfl, rfl⟩
  go_wp2_with fail
  refine (xPlus_any _ _ _ _ _ _ _ Wa.out Wb.out (by omega) (by omega)).mono ?_
  rintro e w9 ⟨gs, rfl, hq, hb⟩
  have Wa := hideS (Wa.out.below hb)
  have Wb := hideS (Wb.out.below hb)
  have H9 := hideS (H8.out.trans (hb.mono H8.out.size))
  clear hb H8
  have Ws := hideS hq
  clear hq
  go_wp2_with fail
  refine (xTurned_any _ _ _ _ Wa.out (by omega)).mono ?_
  rintro e w10 ⟨gt, rfl, hq, hb⟩
  have Wa := hideS (Wa.out.below hb)
  have Wb := hideS (Wb.out.below hb)
  have Ws := hideS (Ws.out.below hb)
  have H10 := hideS (H9.out.trans (hb.mono H9.out.size))
  clear hb H9
  have Wt := hideS hq
  clear hq
  go_wp2_with fail
  refine (xPlus_any _ _ _ _ _ _ _ Ws.out Ws.out (by omega) (by omega)).mono ?_
  rintro e w11 ⟨gr, rfl, hq, hb⟩
  have Wa := hideS (Wa.out.below hb)
  have Wb := hideS (Wb.out.below hb)
  have Ws := hideS (Ws.out.below hb)
  have Wt := hideS (Wt.out.below hb)
  have H11 := hideS (H10.out.trans (hb.mono H10.out.size))
  clear hb H10
  have Wr := hideS hq
  clear hq
  go_wp2_with fail
  refine (xPlus_nil _ _ _ _ Wa.out (by omega)).mono ?_
  rintro e w12 ⟨gq, rfl, hq, hb⟩
  have Wa := hideS (Wa.out.below hb)
  have Wb := hideS (Wb.out.below hb)
  have Ws := hideS (Ws.out.below hb)
  have Wt := hideS (Wt.out.below hb)
  have Wr := hideS (Wr.out.below hb)
  have H12 := hideS (H11.out.trans (hb.mono H11.out.size))
  clear hb H11
  have Wq := hideS hq
  clear hq
  go_wp2_with fail
  refine (xPlus_any _ _ _ _ _ _ _ Wq.out Wb.out (by omega) (by omega)).mono ?_
  rintro e w13 ⟨gw, rfl, hq, hb⟩
  have Wa := hideS (Wa.out.below hb)
  have Wb := hideS (Wb.out.below hb)
  have Ws := hideS (Ws.out.below hb)
  have Wt := hideS (Wt.out.below hb)
  have Wr := hideS (Wr.out.below hb)
  have Wq := hideS (Wq.out.below hb)
  have H13 := hideS (H12.out.trans (hb.mono H12.out.size))
  clear hb H12
  have Ww := hideS hq
  clear hq
  have HS := hideS (xSame_any _ _ _ _ _ _ _ Ww.out Ws.out (by omega) (by omega))
  rw [decide_eq_true (by omega)] at HS
  go_wp2_with fail
  refine HS.out.mono ?_
  rintro e w14 ⟨rfl, q14, rfl⟩
  clear HS
  have Wa := hideS (Wa.out.drewN q14)
  have Wb := hideS (Wb.out.drewN q14)
  have Ws := hideS (Ws.out.drewN q14)
  have Wt := hideS (Wt.out.drewN q14)
  have Wr := hideS (Wr.out.drewN q14)
  have Wq := hideS (Wq.out.drewN q14)
  have Ww := hideS (Ww.out.drewN q14)
  have H14 := hideS (belowDr H13.out q14)
  clear H13
  generalize World.drewN _ q14 = wz14 at *
  obtain ⟨bk, vk, ck, hk⟩ := Wa.out.at_
  have HV := hideS (WAt.value hk (by omega))
  clear hk
  go_wp2_with fail
  refine HV.out.mono ?_
  rintro e w15 ⟨rfl, hb⟩
  have Wa := hideS (Wa.out.below hb)
  have Wb := hideS (Wb.out.below hb)
  have Ws := hideS (Ws.out.below hb)
  have Wt := hideS (Wt.out.below hb)
  have Wr := hideS (Wr.out.below hb)
  have Wq := hideS (Wq.out.below hb)
  have Ww := hideS (Ww.out.below hb)
  have H15 := hideS (H14.out.trans (hb.mono H14.out.size))
  clear hb H14
  clear HV ck
  go_wp2_with fail
  refine (turned (bits_any _ _)).mono ?_
  rintro e w' ⟨rfl, rfl⟩
  obtain ⟨bk, vk, ck, hk⟩ := Wb.out.at_
  have HV := hideS (WAt.value hk (by omega))
  clear hk
  go_wp2_with fail
  refine HV.out.mono ?_
  rintro e w16 ⟨rfl, hb⟩
  have Wa := hideS (Wa.out.below hb)
  have Wb := hideS (Wb.out.below hb)
  have Ws := hideS (Ws.out.below hb)
  have Wt := hideS (Wt.out.below hb)
  have Wr := hideS (Wr.out.below hb)
  have Wq := hideS (Wq.out.below hb)
  have Ww := hideS (Ww.out.below hb)
  have H16 := hideS (H15.out.trans (hb.mono H15.out.size))
  clear hb H15
  clear HV ck
  go_wp2_with fail
  refine (turned (bits_any _ _)).mono ?_
  rintro e w' ⟨rfl, rfl⟩
  have HS := hideS (xSame_any _ _ _ _ _ _ _ Wq.out Wa.out (by omega) (by omega))
  rw [decide_eq_true (by omega)] at HS
  go_wp2_with fail
  refine HS.out.mono ?_
  rintro e w17 ⟨rfl, q17, rfl⟩
  clear HS
  have Wa := hideS (Wa.out.drewN q17)
  have Wb := hideS (Wb.out.drewN q17)
  have Ws := hideS (Ws.out.drewN q17)
  have Wt := hideS (Wt.out.drewN q17)
  have Wr := hideS (Wr.out.drewN q17)
  have Wq := hideS (Wq.out.drewN q17)
  have Ww := hideS (Ww.out.drewN q17)
  have H17 := hideS (belowDr H16.out q17)
  clear H16
  generalize World.drewN _ q17 = wz17 at *
  go_wp2_with fail
  refine (xTurned_any _ _ _ _ Wt.out (by omega)).mono ?_
  rintro e w18 ⟨gu, rfl, hq, hb⟩
  have Wa := hideS (Wa.out.below hb)
  have Wb := hideS (Wb.out.below hb)
  have Ws := hideS (Ws.out.below hb)
  have Wt := hideS (Wt.out.below hb)
  have Wr := hideS (Wr.out.below hb)
  have Wq := hideS (Wq.out.below hb)
  have Ww := hideS (Ww.out.below hb)
  have H18 := hideS (H17.out.trans (hb.mono H17.out.size))
  clear hb H17
  have Wu := hideS hq
  clear hq
  have HS := hideS (xSame_any _ _ _ _ _ _ _ Wu.out Wa.out (by omega) (by omega))
  rw [decide_eq_true (by omega)] at HS
  go_wp2_with fail
  refine HS.out.mono ?_
  rintro e w19 ⟨rfl, q19, rfl⟩
  clear HS
  have Wa := hideS (Wa.out.drewN q19)
  have Wb := hideS (Wb.out.drewN q19)
  have Ws := hideS (Ws.out.drewN q19)
  have Wt := hideS (Wt.out.drewN q19)
  have Wr := hideS (Wr.out.drewN q19)
  have Wq := hideS (Wq.out.drewN q19)
  have Ww := hideS (Ww.out.drewN q19)
  have Wu := hideS (Wu.out.drewN q19)
  have H19 := hideS (belowDr H18.out q19)
  clear H18
  generalize World.drewN _ q19 = wz19 at *
  go_wp2_with fail
  refine (xNothing_any _).mono ?_
  rintro e w20 ⟨gn, rfl, hq, hb⟩
  have Wa := hideS (Wa.out.below hb)
  have Wb := hideS (Wb.out.below hb)
  have Ws := hideS (Ws.out.below hb)
  have Wt := hideS (Wt.out.below hb)
  have Wr := hideS (Wr.out.below hb)
  have Wq := hideS (Wq.out.below hb)
  have Ww := hideS (Ww.out.below hb)
  have Wu := hideS (Wu.out.below hb)
  have H20 := hideS (H19.out.trans (hb.mono H19.out.size))
  clear hb H19
  have Wn := hideS hq
  clear hq
  go_wp2_with fail
  refine (xPlus_any _ _ _ _ _ _ _ Wn.out Wa.out (by omega) (by omega)).mono ?_
  rintro e w21 ⟨gp, rfl, hq, hb⟩
  have Wa := hideS (Wa.out.below hb)
  have Wb := hideS (Wb.out.below hb)
  have Ws := hideS (Ws.out.below hb)
  have Wt := hideS (Wt.out.below hb)
  have Wr := hideS (Wr.out.below hb)
  have Wq := hideS (Wq.out.below hb)
  have Ww := hideS (Ww.out.below hb)
  have Wu := hideS (Wu.out.below hb)
  have Wn := hideS (Wn.out.below hb)
  have H21 := hideS (H20.out.trans (hb.mono H20.out.size))
  clear hb H20
  have Wp := hideS hq
  clear hq
  have HS := hideS (xSame_any _ _ _ _ _ _ _ Wp.out Wa.out (by omega) (by omega))
  rw [decide_eq_true (by omega)] at HS
  go_wp2_with fail
  refine HS.out.mono ?_
  rintro e w22 ⟨rfl, q22, rfl⟩
  clear HS
  have Wa := hideS (Wa.out.drewN q22)
  have Wb := hideS (Wb.out.drewN q22)
  have Ws := hideS (Ws.out.drewN q22)
  have Wt := hideS (Wt.out.drewN q22)
  have Wr := hideS (Wr.out.drewN q22)
  have Wq := hideS (Wq.out.drewN q22)
  have Ww := hideS (Ww.out.drewN q22)
  have Wu := hideS (Wu.out.drewN q22)
  have Wn := hideS (Wn.out.drewN q22)
  have Wp := hideS (Wp.out.drewN q22)
  have H22 := hideS (belowDr H21.out q22)
  clear H21
  generalize World.drewN _ q22 = wz22 at *
  go_wp2_with fail
  refine (HA.out _).mono ?_
  rintro e w99 ⟨rfl, hb⟩
  have H99 := hideS (H22.out.trans (hb.mono H22.out.size))
  clear hb
  go_wp2_with fail
  go_ret
  exact ⟨rfl, H99.out⟩
set_option maxRecDepth 40000 in
set_option maxHeartbeats 3200000 in
theorem priceOwn_many (cur a p : Int) (pl : Option Addr) (cl N : Nat) (pm : Option Addr) (cm M : Nat) (pd pf : Option Addr) (D cd F cf : Nat) (w : World) (hm : ¬ ((N ≤ 60 ∧ D ≤ 12 ∧ F ≤ 12) ∧ (M ≤ 60 ∧ D ≤ 12 ∧ F ≤ 12))) :
    Calls Tryz.prog 3 #[.slice pl N cl, .slice pm M cm, .int .i64 cur, .agg #[.int .i64 a, .int .i64 p, .slice pd D cd, .slice pf F cf]] w fun e w' => e = .returned (.bool true) ∧ Below w.heap.size w w' := by
  have HK := hideS (vboxA_at w a p (.slice pd D cd) (.slice pf F cf))
  have HS1 := hideS fun wx => xSmall_any a p pl pd pf N cl D cd F cf wx
  have HS2 := hideS fun wx => xSmall_any a p pm pd pf M cm D cd F cf wx
  have HA := hideS awake15
  generalize Value.slice pd D cd = vd at *
  generalize Value.slice pf F cf = vf at *
  obtain ⟨w2, hw2⟩ : ∃ w2, w.alloc (.cells #[.int .i64 a, .int .i64 p, vd, vf] 26) = w2 := ⟨_, rfl⟩
  rw [hw2] at HK
  have t0 := HK.out.t0
  have t1 := HK.out.t1
  have t2 := HK.out.t2
  have t3 := HK.out.t3
  by_cases h1 : N ≤ 60 ∧ D ≤ 12 ∧ F ≤ 12
  · rw [decide_eq_true h1] at HS1
    rw [decide_eq_false (fun h => hm ⟨h1, h⟩)] at HS2
    clear hm h1
    go_enter Tryz.func3, Tryz.ntmps3
    go_wp2_with fail
    clear hw2 t0 t1 t2 t3
    refine (HS1.out _).mono ?_
    rintro e w3 ⟨rfl, hb3⟩
    have H3 := hideS (HK.out.step hb3)
    clear hb3 HK HS1
    have t0 := H3.out.t0
    have t1 := H3.out.t1
    have t2 := H3.out.t2
    have t3 := H3.out.t3
    go_wp2_with fail
    clear t0 t1 t2 t3
    refine (HS2.out _).mono ?_
    rintro e w4 ⟨rfl, hb4⟩
    have H4 := hideS (H3.out.step hb4)
    clear hb4 H3 HS2
    go_wp2_with fail
    refine (HA.out _).mono ?_
    rintro e w8 ⟨rfl, hb8⟩
    have HB8 := hideS (H4.out.step hb8).bl
    clear hb8
    go_wp2_with fail
    go_ret
    exact ⟨rfl, HB8.out⟩
  · rw [decide_eq_false h1] at HS1
    clear hm h1 HS2
    go_enter Tryz.func3, Tryz.ntmps3
    go_wp2_with fail
    clear hw2 t0 t1 t2 t3
    refine (HS1.out _).mono ?_
    rintro e w3 ⟨rfl, hb3⟩
    have H3 := hideS (HK.out.step hb3)
    clear hb3 HK HS1
    go_wp2_with fail
    refine (HA.out _).mono ?_
    rintro e w8 ⟨rfl, hb8⟩
    have HB8 := hideS (H3.out.step hb8).bl
    clear hb8
    go_wp2_with fail
    go_ret
    exact ⟨rfl, HB8.out⟩
theorem priceOwn_walk (pl : Option Addr) (bl ol cl : Nat) (l : List Flw) (pm : Option Addr) (bm om cm : Nat) (m : List Flw) (cur : Int) (pd pf : Option Addr) (bd od cd b2 o2 cf : Nat) (c : Cv) (w : World) (hl : JSrc aF w pl bl ol l) (hf : FitJ l) (_ : l.length ≤ 9223372036854775807) (hl2 : JSrc aF w pm bm om m) (hf2 : FitJ m) (_ : m.length ≤ 9223372036854775807) (_ : JI64 cur) (hs : TFl w pd pf bd od b2 o2 c.ds c.fs) :
    Calls Tryz.prog 3 #[.slice pl l.length cl, .slice pm m.length cm, .int .i64 cur, .agg #[.int .i64 c.base, .int .i64 c.kind, .slice pd c.ds.length cd, .slice pf c.fs.length cf]] w fun e w' => e = .returned (.bool true) ∧ Below w.heap.size w w' := by
  by_cases hm : (l.length ≤ 60 ∧ c.ds.length ≤ 12 ∧ c.fs.length ≤ 12) ∧ (m.length ≤ 60 ∧ c.ds.length ≤ 12 ∧ c.fs.length ≤ 12)
  · obtain ⟨E, h1⟩ := visR_ex l cur c
    obtain ⟨F, h2⟩ := visR_ex m cur c
    by_cases hE : E = 0
    · by_cases hF : F = 0
      · exact priceOwn_oo l m cur c pl bl ol cl _ pm bm om cm _ pd pf bd od cd b2 o2 cf w hl rfl hf hl2 rfl hf2 hs hm.1 hm.2 ((visR_zero h1).1 hE) ((visR_zero h2).1 hF)
      · exact priceOwn_ob l m cur c pl bl ol cl _ pm bm om cm _ pd pf bd od cd b2 o2 cf w hl rfl hf hl2 rfl hf2 hs hm.1 hm.2 F ((visR_zero h1).1 hE) h2 hF
    · by_cases hF : F = 0
      · exact priceOwn_bo l m cur c pl bl ol cl _ pm bm om cm _ pd pf bd od cd b2 o2 cf w hl rfl hf hl2 rfl hf2 hs hm.1 hm.2 E h1 hE ((visR_zero h2).1 hF)
      · exact priceOwn_bb l m cur c pl bl ol cl _ pm bm om cm _ pd pf bd od cd b2 o2 cf w hl rfl hf hl2 rfl hf2 hs hm.1 hm.2 E F h1 hE h2 hF
  · exact priceOwn_many cur c.base c.kind pl cl _ pm cm _ pd pf _ cd _ cf w hm
end Go.Proofs.YtkcnkhdbojdhgabGreat
