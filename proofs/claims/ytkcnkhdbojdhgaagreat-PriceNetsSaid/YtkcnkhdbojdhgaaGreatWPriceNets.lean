/- The walk of PriceNets. -/
import Derived.Test.YtkcnkhdbojdhgaaGreatXnA
import Derived.Test.YtkcnkhdbojdhgaaGreatHbl
import Derived.Test.YtkcnkhdbojdhgaaGreatFFlw
namespace Go.Proofs.YtkcnkhdbojdhgaaGreat
open Go.RowKit

set_option maxRecDepth 40000 in
set_option maxHeartbeats 6400000 in
theorem priceNets_go (l : List Flw) (cur : Int) (c : Cv) (pl : Option Addr) (bl ol cl N : Nat) (pd pf : Option Addr) (bd od cd b2 o2 cf : Nat) (w : World) (hl : JSrc aF w pl bl ol l) (hN : l.length = N) (hf : FitJ l) (hs : TFl w pd pf bd od b2 o2 c.ds c.fs) (hm : N ≤ 60 ∧ c.ds.length ≤ 12 ∧ c.fs.length ≤ 12) :
    Calls Tryz.prog 6 #[.slice pl N cl, .int .i64 cur, .agg #[.int .i64 c.base, .int .i64 c.kind, .slice pd c.ds.length cd, .slice pf c.fs.length cf]] w fun e w' => e = .returned (.bool true) ∧ Below w.heap.size w w' := by
  obtain ⟨X, E, hX⟩ := preR_ex l cur c
  have HK := hideS (vboxA_at w c.base c.kind (.slice pd c.ds.length cd) (.slice pf c.fs.length cf))
  have HS1 := hideS fun wx => xSmall_any c.base c.kind pl pd pf N cl c.ds.length cd c.fs.length cf wx
  rw [decide_eq_true hm] at HS1
  have HP1 := hideS fun wx (hb : Below w.heap.size w wx) => xPre_any l cur c pl bl ol cl N pd pf bd od cd b2 o2 cf wx X E hX (hl.below hb) hN (by omega) hf (hs.below hb)
  have HP2 := hideS fun (m : List Flw) p g cm wx (hb : Below w.heap.size w wx) (hm2 : JSrc aF wx p g 0 m) (h0 : FineP m cur c) (hfm : FitJ m) => xPre_ok m cur c p g 0 cm m.length pd pf bd od cd b2 o2 cf wx h0 hm2 rfl hfm (hs.below hb)
  have HNe := hideS fun wx (hb : Below w.heap.size w wx) (hE : ChkF l 0 0) => jNet_ok l pl bl ol cl N wx (hl.below hb) hN (by omega) hf hE
  have HNb := hideS fun G K wx (hb : Below w.heap.size w wx) (hE : ChkF l G K) (h0 : G ≠ 0) => jNet_bad l pl bl ol cl N G K wx (hl.below hb) hN (by omega) hf hE h0
  have HA := hideS awake15
  have HX := hideS hX
  have HQ := hideS hl
  have HN := hideS hN
  have HF := hideS hf
  have HV : Hid c.Fit := hs.f
  have hN60 := hm.1
  have HP : Hid (0 < N → pl = some ⟨bl, ol, none⟩) := fun h => hl.at_ (by omega)
  clear hX hl hN hf hs hm
  generalize Value.slice pd c.ds.length cd = vd at *
  generalize Value.slice pf c.fs.length cf = vf at *
  obtain ⟨bs, hbs⟩ : ∃ b, c.base = b := ⟨_, rfl⟩
  obtain ⟨kd, hkd⟩ : ∃ b, c.kind = b := ⟨_, rfl⟩
  rw [hbs, hkd] at HK HS1 HP1 HP2 ⊢
  clear hbs hkd
  obtain ⟨w2, hw2⟩ : ∃ w2, w.alloc (.cells #[.int .i64 bs, .int .i64 kd, vd, vf] 26) = w2 := ⟨_, rfl⟩
  rw [hw2] at HK
  have t0 := HK.out.t0
  have t1 := HK.out.t1
  have t2 := HK.out.t2
  have t3 := HK.out.t3
  go_enter Tryz.func6, Tryz.ntmps6
  go_wp2_with fail
  clear hw2 t0 t1 t2 t3
  refine (HS1.out _).mono ?_
  rintro e w3 ⟨rfl, hb3⟩
  have H3 := hideS (HK.out.step hb3)
  clear hb3 HK HS1
  go_wp2_with fail
  go_loopw [7] (fun i wr => ∃ (k : Nat), k ≤ N ∧ i = .int .i64 k ∧ Hid (∀ i < k, ∀ j < i, ¬ ((l.getD i flw0).day = (l.getD j flw0).day ∧ (l.getD i flw0).cur = (l.getD j flw0).cur)) ∧ Hid (VBox w bs kd vd vf wr)) (fun i _ => N - (intOf i).toNat)
  case atStart => exact ⟨0, Nat.zero_le _, rfl, fun i hi => by omega, H3⟩
  case round =>
    clear H3
    obtain ⟨k, hk, rfl, HD, H4⟩ := hrel
    by_cases hlt : k < N
    · obtain rfl := HP.out (by omega)
      generalize hwo : wr = wo at *
      clear hwo
      go_wp2_with fail
      go_loopw [8] (fun j wr => ∃ (i : Nat), i ≤ k ∧ j = .int .i64 i ∧ Hid (∀ j < i, ¬ ((l.getD k flw0).day = (l.getD j flw0).day ∧ (l.getD k flw0).cur = (l.getD j flw0).cur)) ∧ Hid (VBox w bs kd vd vf wr)) (fun i _ => k - (intOf i).toNat)
      case atStart => exact ⟨0, Nat.zero_le _, rfl, fun i hi => by omega, H4⟩
      case round =>
        clear H4
        obtain ⟨i, hi, rfl, HI, H5⟩ := hrel
        by_cases hlt2 : i < k
        · obtain ⟨c0, c1, c2⟩ := (HQ.out.below H5.out.bl).cell k (by rw [HN.out]; exact hlt)
          obtain ⟨e0, e1, e2⟩ := (HQ.out.below H5.out.bl).cell i (by rw [HN.out]; omega)
          have HI2 : Hid (∀ h : ¬ ((l.getD k flw0).day = (l.getD i flw0).day ∧ (l.getD k flw0).cur = (l.getD i flw0).cur), ∀ j < i + 1, ¬ ((l.getD k flw0).day = (l.getD j flw0).day ∧ (l.getD k flw0).cur = (l.getD j flw0).cur)) := fun h j hj => by
            by_cases d : j < i
            · exact HI.out j d
            · obtain rfl : j = i := by omega
              exact h
          generalize (l.getD k flw0).day = dk at *
          generalize (l.getD k flw0).cur = ck at *
          generalize (l.getD i flw0).day = di at *
          generalize (l.getD i flw0).cur = ci at *
          clear c1 e1 HI
          have HB6 := hideS fun n => H5.out.drewN n
          by_cases hd : dk = di
          · have o1 : (dk == di) = true := beq_iff_eq.2 hd
            by_cases hc : ck = ci
            · have o2 : (ck == ci) = true := beq_iff_eq.2 hc
              clear HI2 hd hc
              go_wp2_with fail
              go_quiet (fail)
              clear c0 c2 e0 e2
              go_wp2_with fail
              refine (HA.out _).mono ?_
              rintro e w8 ⟨rfl, hb8⟩
              have HB8 := hideS ((HB6.out _).step hb8).bl
              clear hb8
              go_wp2_with fail
              go_ret
              exact ⟨rfl, HB8.out⟩
            · have o2 : (ck == ci) = false := beq_eq_false_iff_ne.2 hc
              have HI3 := hideS (HI2.out (fun h => hc h.2))
              clear HI2 hd hc
              go_wp2_with fail
              go_quiet (fail)
              clear c0 c2 e0 e2
              go_wp2_with fail
              go_roundw
              case rel => exact ⟨i + 1, by omega, by simp, HI3, HB6.out _⟩
              case measure => simp [intOf]; omega
          · have o1 : (dk == di) = false := beq_eq_false_iff_ne.2 hd
            have HI3 := hideS (HI2.out (fun h => hd h.1))
            clear HI2 hd
            go_wp2_with fail
            go_quiet (fail)
            clear c0 c2 e0 e2
            go_wp2_with fail
            go_roundw
            case rel => exact ⟨i + 1, by omega, by simp, HI3, HB6.out _⟩
            case measure => simp [intOf]; omega
        · obtain rfl : i = k := by omega
          have HD2 : Hid (∀ x < i + 1, ∀ j < x, ¬ ((l.getD x flw0).day = (l.getD j flw0).day ∧ (l.getD x flw0).cur = (l.getD j flw0).cur)) := fun x hx j hj => by
            by_cases d : x < i
            · exact HD.out x d j hj
            · obtain rfl : x = i := by omega
              exact HI.out j hj
          go_wp2_with fail
          go_roundw
          case rel => exact ⟨i + 1, by omega, by simp, HD2, H5⟩
          case measure => simp [intOf]; omega
    · obtain rfl : k = N := by omega
      have HDs : Hid (DistK l) := fun i hi j hj => HD.out i (by rw [← HN.out]; exact hi) j hj
      clear HD
      obtain ⟨G, K, hG⟩ := chkF_ex l
      by_cases hG0 : G = 0
      · subst hG0
        obtain rfl := chkF_zero hG
        have HNo := hideS fun wx hb => HNe.out wx hb hG
        clear hG HNe HNb
        go_wp2_with fail
        refine (HNo.out _ H4.out.bl).mono ?_
        rintro e w5 ⟨S, hS, hL, hb5⟩
        have H5 := hideS (H4.out.step hb5)
        clear hb5 H4 HNo
        have t0 := H5.out.t0
        have t1 := H5.out.t1
        have t2 := H5.out.t2
        have t3 := H5.out.t3
        rcases hL with ⟨h, rfl⟩ | ⟨m, u, h, rfl, ho⟩
        · clear h hS
          go_wp2_with fail
          clear t0 t1 t2 t3
          refine (HP1.out _ H5.out.bl).mono ?_
          rintro e w6 ⟨rfl, hb6⟩
          have H6 := hideS (H5.out.step hb6)
          clear hb6 H5
          go_wp2_with fail
          refine (HA.out _).mono ?_
          rintro e w8 ⟨rfl, hb8⟩
          have HB8 := hideS (H6.out.step hb8).bl
          clear hb8
          go_wp2_with fail
          go_ret
          exact ⟨rfl, HB8.out⟩
        · obtain ⟨pa, gm, cm, rfl, sa, _, _, _⟩ := fown_src ho rfl
          have HSa := hideS sa
          have HSh := hideS (And.intro hS h)
          clear hS h ho sa
          generalize hML : m.length = ML at *
          have HML := hideS hML
          clear hML
          go_wp2_with fail
          clear t0 t1 t2 t3
          refine (HP1.out _ H5.out.bl).mono ?_
          rintro e w6 ⟨rfl, hb6⟩
          have H6 := hideS (H5.out.step hb6)
          have HSa6 := hideS (HSa.out.below hb6)
          clear hb6 H5 HSa HP1
          by_cases hE : E = 0
          · subst hE
            obtain ⟨FP, eX, fX⟩ := preR_fine HX.out
            obtain ⟨FM, fm, em⟩ := net_same HDs.out FP HF.out HV.out HSh.out.1 HSh.out.2
            have HPm := hideS (HP2.out m pa gm cm _ H6.out.bl HSa6.out FM fm)
            have e1 : preV m cur c = X ∧ preE m cur c = 0 := by
              unfold preV preE tldV tldE
              rw [em, ← eX, fX]
              exact ⟨rfl, rfl⟩
            rw [e1.1, e1.2, HML.out] at HPm
            clear FP eX fX FM fm em e1 HX HP2
            have t0 := H6.out.t0
            have t1 := H6.out.t1
            have t2 := H6.out.t2
            have t3 := H6.out.t3
            go_wp2_with fail
            clear t0 t1 t2 t3
            refine HPm.out.mono ?_
            rintro e w7 ⟨rfl, hb7⟩
            have H7 := hideS (H6.out.step hb7)
            clear hb7 H6 HPm
            go_wp2_with (go_at_call 30; refine (turned (bits_any _ _)).mono ?_; rintro e w' ⟨rfl, rfl⟩)
            refine (HA.out _).mono ?_
            rintro e w8 ⟨rfl, hb8⟩
            have HB8 := hideS (H7.out.step hb8).bl
            clear hb8
            go_wp2_with fail
            go_ret
            exact ⟨rfl, HB8.out⟩
          · have d1 : (E != 0) = true := bne_iff_ne.2 hE
            clear hE
            go_wp2_with fail
            refine (HA.out _).mono ?_
            rintro e w8 ⟨rfl, hb8⟩
            have HB8 := hideS (H6.out.step hb8).bl
            clear hb8
            go_wp2_with fail
            go_ret
            exact ⟨rfl, HB8.out⟩
      · have HNo := hideS fun wx hb => HNb.out G K wx hb hG hG0
        have d1 : (G != 0) = true := bne_iff_ne.2 hG0
        clear hG hG0 HNe HNb
        go_wp2_with fail
        refine (HNo.out _ H4.out.bl).mono ?_
        rintro e w5 ⟨rfl, hb5⟩
        have H5 := hideS (H4.out.step hb5)
        clear hb5 H4 HNo
        have t0 := H5.out.t0
        have t1 := H5.out.t1
        have t2 := H5.out.t2
        have t3 := H5.out.t3
        go_wp2_with fail
        clear t0 t1 t2 t3
        refine (HP1.out _ H5.out.bl).mono ?_
        rintro e w6 ⟨rfl, hb6⟩
        have H6 := hideS (H5.out.step hb6)
        clear hb6 H5
        go_wp2_with fail
        refine (HA.out _).mono ?_
        rintro e w8 ⟨rfl, hb8⟩
        have HB8 := hideS (H6.out.step hb8).bl
        clear hb8
        go_wp2_with fail
        go_ret
        exact ⟨rfl, HB8.out⟩
set_option maxRecDepth 40000 in
set_option maxHeartbeats 3200000 in
theorem priceNets_many (cur a p : Int) (pl : Option Addr) (cl N : Nat) (pd pf : Option Addr) (D cd F cf : Nat) (w : World) (hm : ¬ (N ≤ 60 ∧ D ≤ 12 ∧ F ≤ 12)) :
    Calls Tryz.prog 6 #[.slice pl N cl, .int .i64 cur, .agg #[.int .i64 a, .int .i64 p, .slice pd D cd, .slice pf F cf]] w fun e w' => e = .returned (.bool true) ∧ Below w.heap.size w w' := by
  have HK := hideS (vboxA_at w a p (.slice pd D cd) (.slice pf F cf))
  have HS1 := hideS fun wx => xSmall_any a p pl pd pf N cl D cd F cf wx
  rw [decide_eq_false hm] at HS1
  have HA := hideS awake15
  clear hm
  generalize Value.slice pd D cd = vd at *
  generalize Value.slice pf F cf = vf at *
  obtain ⟨w2, hw2⟩ : ∃ w2, w.alloc (.cells #[.int .i64 a, .int .i64 p, vd, vf] 26) = w2 := ⟨_, rfl⟩
  rw [hw2] at HK
  have t0 := HK.out.t0
  have t1 := HK.out.t1
  have t2 := HK.out.t2
  have t3 := HK.out.t3
  go_enter Tryz.func6, Tryz.ntmps6
  go_wp2_with fail
  clear hw2 t0 t1 t2 t3
  refine (HS1.out _).mono ?_
  rintro e w3 ⟨rfl, hb3⟩
  have H3 := hideS (HK.out.step hb3)
  clear hb3 HK HS1
  go_wp2_with fail
  refine (HA.out _).mono ?_
  rintro e w8 ⟨rfl, hb8⟩
  have HB8 := hideS (H3.out.step hb8).bl
  clear hb8
  go_wp2_with fail
  go_ret
  exact ⟨rfl, HB8.out⟩
theorem priceNets_walk (pl : Option Addr) (bl ol cl : Nat) (l : List Flw) (cur : Int) (pd pf : Option Addr) (bd od cd b2 o2 cf : Nat) (c : Cv) (w : World) (hl : JSrc aF w pl bl ol l) (hf : FitJ l) (_ : l.length ≤ 9223372036854775807) (_ : JI64 cur) (hs : TFl w pd pf bd od b2 o2 c.ds c.fs) :
    Calls Tryz.prog 6 #[.slice pl l.length cl, .int .i64 cur, .agg #[.int .i64 c.base, .int .i64 c.kind, .slice pd c.ds.length cd, .slice pf c.fs.length cf]] w fun e w' => e = .returned (.bool true) ∧ Below w.heap.size w w' := by
  by_cases hm : l.length ≤ 60 ∧ c.ds.length ≤ 12 ∧ c.fs.length ≤ 12
  · exact priceNets_go l cur c pl bl ol cl _ pd pf bd od cd b2 o2 cf w hl rfl hf hs hm
  · exact priceNets_many cur c.base c.kind pl cl _ pd pf _ cd _ cf w hm
end Go.Proofs.YtkcnkhdbojdhgaaGreat
