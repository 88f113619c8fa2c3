/- The walk of FlowLent, where the list is short. Made by gen_flent.py. -/
import Derived.Test.YteglnchcnacjlaaGreatWFlowLent
import Derived.Test.YteglnchcnacjlaaGreatLexLine
import Derived.BigQuiet
namespace Go.Proofs.YteglnchcnacjlaaGreat
open Go.RowKit

def LpR (A : Nat) (w4 : World) (M : Nat → List Flw) (f s i : Value) (wr : World) : Prop :=
  (i = .int .i64 0 ∧ f = .slice none 0 0 ∧ s = .slice none 0 0 ∧ Below A w4 wr) ∨
  (∃ vs gf lo hi, i = .int .i64 1 ∧ f = .slice (some ⟨gf, 0, none⟩) 5 5 ∧ s = .slice none 0 0 ∧ Fv A lo hi vs gf M wr ∧ Below A w4 wr) ∨
  (∃ vs gf lo hi vs2 gf2 lo2 hi2 A2, i = .int .i64 2 ∧ f = .slice (some ⟨gf, 0, none⟩) 5 5 ∧ s = .slice (some ⟨gf2, 0, none⟩) 5 5 ∧ Fv A lo hi vs gf M wr ∧ Fv A2 lo2 hi2 vs2 gf2 M wr ∧ gf < A2 ∧ Below A w4 wr)
theorem Fv.low {A B gf : Nat} {lo hi : Nat → Nat} {vs : Nat → Value} {M : Nat → List Flw} {w : World} (h : Fv A lo hi vs gf M w) (hB : B ≤ A) : Fv B lo hi vs gf M w := ⟨h.lf, h.row, h.sep, fun j hj => ⟨Nat.le_trans hB (h.bd j hj).1, (h.bd j hj).2⟩, h.lt, Nat.le_trans hB h.up⟩

set_option maxRecDepth 40000 in
set_option maxHeartbeats 16000000 in
theorem flowLent_few (p : Option Addr) (b off c N : Nat) (l : List Flw) (x : Nat) (y z mo : Int) (M : Nat → List Flw) (E1 E3 E4 : Int) (w : World) (hl : JSrc aF w p b off l) (hN : l.length = N) (hnil : p = none → N = 0 ∧ c = 0) (hN2 : N ≤ 120) (hf : FitJ l) (HT : FlT l x y z mo M E1 E3 E4) :
    Calls Tryz.prog 3 #[.slice p N c, .float .f64 x, .int .i64 y, .int .i64 z, .int .i64 mo] w fun e w' => e = .returned (.bool true) ∧ Below w.heap.size w w' := by
  have HAw := hideS awake14
  have HFe := hideS fun wx => few14_any p N c wx (by omega)
  rw [decide_eq_true hN2] at HFe
  have HOf := hideS (ref14Of_any l p b off c N w hl hN (by omega))
  have HQ := hideS (And.intro hl (And.intro hN hnil))
  have HTh := hideS HT
  have HSm := hideS fun u v wx hu hv => sameD_any u v l wx hu hv (by omega) hf
  have HN := hideS hN
  clear hl hnil hf HT hN
  go_enter Tryz.func3, Tryz.ntmps3
  go_wp2_with fail
  refine (turned (HFe.out _)).mono ?_
  rintro e w0 ⟨rfl, rfl⟩
  go_wp2_with fail
  refine HOf.out.mono ?_
  rintro e w1 ⟨⟨vd, rfl, hod⟩, hb1⟩
  have HD1 := hideS hod
  have HB1 := hideS hb1
  clear hod hb1 HOf HFe
  have HE := hideS (fown_empty w1)
  have HB0 := hideS ((Below.refl _ w1).alloc (Nat.le_refl _) (.cells #[] 29))
  go_wp2_with (at_builtin; refine wpList_append_flo _ rfl _ _ rfl w1.heap.size (.slice (some ⟨w1.heap.size, 0, none⟩) 0 0) 0 [] rfl HE.out p b off c N l rfl HQ.out.2.1 (HQ.out.1.below (HB1.out.trans (HB0.out.mono HB1.out.size))) HQ.out.2.2 (by omega) HB0.out.size ?_)
  intro v1 w2 ho hg
  have HC2 := hideS (HB0.out.trans (fgrown_below HE.out hg HB0.out.size))
  have HO2 := hideS ho
  clear ho hg HE HB0
  have HO3 := hideS (fown_below HO2.out ((Below.refl _ w2).alloc (Nat.le_refl _) (.cells #[.int .i64 (-7), .float .f64 4665189353746595840, .int .i64 99] 29)))
  have HS3 := hideS (one_srcJ w2)
  have HB3 := hideS (HC2.out.size)
  have HA3 : Hid (Below w1.heap.size w2 (w2.alloc (.cells #[.int .i64 (-7), .float .f64 4665189353746595840, .int .i64 99] 29))) := (Below.refl _ w2).alloc HC2.out.size _
  go_wp2_with (at_builtin; refine wpList_append_flo _ rfl _ _ rfl w1.heap.size v1 N l rfl HO3.out (some ⟨w2.heap.size, 0, none⟩) w2.heap.size 0 1 1 [f77] rfl rfl HS3.out (fun h => by cases h) (by omega) (Nat.le_trans HB3.out HA3.out.size) ?_)
  intro v2 w4 ho2 hg2
  have HC4 := hideS (HC2.out.trans (HA3.out.trans (fgrown_below HO3.out hg2 (Nat.le_trans HB3.out HA3.out.size))))
  obtain ⟨po, go, co, rfl, so, hgo, hco, hcm⟩ := fown_src ho2 (by rw [List.length_append, HN.out]; rfl)
  obtain rfl := so.at_ (by simp)
  have HK4 : Hid (Kp l go co N vd w4.heap.size w4) := ⟨so, so.lt (by simp), (JD.own (l := l) (base := w.heap.size) (by rw [HN.out]; exact HD1.out)).below HC4.out, fun b hb => Nat.lt_of_lt_of_le (HD1.out.lt b hb).2 HC4.out.size⟩
  have HB4 := hideS (HB1.out.trans (HC4.out.mono HB1.out.size))
  have k1 : (N : Int) ≤ (co : Int) := by omega
  have k2 : (0 : Int) ≤ (N : Int) := by omega
  have k3 : N ≤ co := by omega
  have k4 : ¬ (co : Int) < (N : Int) := by omega
  have k5 : ¬ (N : Int) < 0 := by omega
  clear ho2 hg2 so hgo hco hcm HO2 HO3 HS3 HB3 HA3 HC2 HC4 HD1 HQ HB1
  go_wp2_with fail
  clear k1 k2 k3 k4 k5
  go_loopw [14, 15, 16] (fun f s i wr => LpR w4.heap.size w4 M f s i wr) (fun _ _ i _ => 2 - (intOf i).toNat)
  case atStart => exact Or.inl ⟨rfl, rfl, rfl, Below.refl _ _⟩
  case round =>
    rcases hrel with ⟨rfl, rfl, rfl, hb⟩ | ⟨vs, gf, lo, hi, rfl, rfl, rfl, fv, hb⟩ | ⟨vs, gf, lo, hi, vs2, gf2, lo2, hi2, A2, rfl, rfl, rfl, fv, fv2, hA2, hb⟩
    · have HBr := hideS hb
      have HKr := hideS (HK4.out.stay HBr.out)
      clear hb
      go_wp2_with fail
      refine (HTh.out.sc _ wr (HKr.out.jl HN.out)).mono ?_
      rintro e wS ⟨⟨vS, rfl, lS⟩, bS⟩
      have LS := hideS lS
      have BS := hideS bS
      have HBS := hideS (HBr.out.trans (BS.out.mono HBr.out.size))
      have HKS := hideS (HK4.out.stay HBS.out)
      clear lS bS
      go_wp2_with fail
      refine (HTh.out.sh _ wS (HKS.out.jl HN.out)).mono ?_
      rintro e wT ⟨⟨vT, rfl, lT⟩, bT⟩
      have LT := hideS lT
      have BT := hideS bT
      have HBT := hideS (HBS.out.trans (BT.out.mono HBS.out.size))
      have HKT := hideS (HK4.out.stay HBT.out)
      clear lT bT
      go_wp2_with fail
      refine (HTh.out.nt _ wT (HKT.out.jl HN.out)).mono ?_
      rintro e wN ⟨⟨vN, rfl, lN⟩, bN⟩
      have LN := hideS lN
      have BN := hideS bN
      have HBN := hideS (HBT.out.trans (BN.out.mono HBT.out.size))
      have HKN := hideS (HK4.out.stay HBN.out)
      clear lN bN
      go_wp2_with fail
      refine (HTh.out.gi _ wN (HKN.out.jl HN.out)).mono ?_
      rintro e wG ⟨⟨vG, rfl, lG⟩, bG⟩
      have LG := hideS lG
      have BG := hideS bG
      have HBG := hideS (HBN.out.trans (BG.out.mono HBN.out.size))
      have HKG := hideS (HK4.out.stay HBG.out)
      clear lG bG
      go_wp2_with fail
      refine (HTh.out.wi _ wG (HKG.out.jl HN.out)).mono ?_
      rintro e wW ⟨⟨vW, rfl, lW⟩, bW⟩
      have LW := hideS lW
      have BW := hideS bW
      have HBW := hideS (HBG.out.trans (BW.out.mono HBG.out.size))
      have HKW := hideS (HK4.out.stay HBW.out)
      clear lW bW
      obtain ⟨pS, cS, rfl, _⟩ := LS.out.sl
      obtain ⟨pT, cT, rfl, _⟩ := LT.out.sl
      obtain ⟨pN, cN, rfl, _⟩ := LN.out.sl
      obtain ⟨pG, cG, rfl, _⟩ := LG.out.sl
      obtain ⟨pW, cW, rfl, _⟩ := LW.out.sl
      have HMk := hideS (fv_make (t := 22) LS.out LT.out LN.out LG.out LW.out BS.out BT.out BN.out BG.out BW.out)
      have HBz := hideS (HBW.out.trans ((Below.refl _ wW).alloc HBW.out.size (.cells #[.slice pG (M 0).length cG, .slice pS (M 1).length cS, .slice pW (M 2).length cW, .slice pT (M 3).length cT, .slice pN (M 4).length cN] 22)))
      go_wp2_with fail
      go_roundw
      case rel => exact Or.inr (Or.inl ⟨_, _, _, _, rfl, rfl, rfl, HMk.out.low HBr.out.size, HBz.out⟩)
      case measure => simp [intOf]
    · have HBr := hideS hb
      have HFr := hideS fv
      have HKr := hideS (HK4.out.stay HBr.out)
      clear hb fv
      go_wp2_with fail
      refine (HTh.out.sc _ wr (HKr.out.jl HN.out)).mono ?_
      rintro e wS ⟨⟨vS, rfl, lS⟩, bS⟩
      have LS := hideS lS
      have BS := hideS bS
      have HBS := hideS (HBr.out.trans (BS.out.mono HBr.out.size))
      have HKS := hideS (HK4.out.stay HBS.out)
      have HFS := hideS (HFr.out.below BS.out)
      clear lS bS
      go_wp2_with fail
      refine (HTh.out.sh _ wS (HKS.out.jl HN.out)).mono ?_
      rintro e wT ⟨⟨vT, rfl, lT⟩, bT⟩
      have LT := hideS lT
      have BT := hideS bT
      have HBT := hideS (HBS.out.trans (BT.out.mono HBS.out.size))
      have HKT := hideS (HK4.out.stay HBT.out)
      have HFT := hideS (HFS.out.below BT.out)
      clear lT bT
      go_wp2_with fail
      refine (HTh.out.nt _ wT (HKT.out.jl HN.out)).mono ?_
      rintro e wN ⟨⟨vN, rfl, lN⟩, bN⟩
      have LN := hideS lN
      have BN := hideS bN
      have HBN := hideS (HBT.out.trans (BN.out.mono HBT.out.size))
      have HKN := hideS (HK4.out.stay HBN.out)
      have HFN := hideS (HFT.out.below BN.out)
      clear lN bN
      go_wp2_with fail
      refine (HTh.out.gi _ wN (HKN.out.jl HN.out)).mono ?_
      rintro e wG ⟨⟨vG, rfl, lG⟩, bG⟩
      have LG := hideS lG
      have BG := hideS bG
      have HBG := hideS (HBN.out.trans (BG.out.mono HBN.out.size))
      have HKG := hideS (HK4.out.stay HBG.out)
      have HFG := hideS (HFN.out.below BG.out)
      clear lG bG
      go_wp2_with fail
      refine (HTh.out.wi _ wG (HKG.out.jl HN.out)).mono ?_
      rintro e wW ⟨⟨vW, rfl, lW⟩, bW⟩
      have LW := hideS lW
      have BW := hideS bW
      have HBW := hideS (HBG.out.trans (BW.out.mono HBG.out.size))
      have HKW := hideS (HK4.out.stay HBW.out)
      have HFW := hideS (HFG.out.below BW.out)
      clear lW bW
      obtain ⟨pS, cS, rfl, _⟩ := LS.out.sl
      obtain ⟨pT, cT, rfl, _⟩ := LT.out.sl
      obtain ⟨pN, cN, rfl, _⟩ := LN.out.sl
      obtain ⟨pG, cG, rfl, _⟩ := LG.out.sl
      obtain ⟨pW, cW, rfl, _⟩ := LW.out.sl
      have HMk := hideS (fv_make (t := 22) LS.out LT.out LN.out LG.out LW.out BS.out BT.out BN.out BG.out BW.out)
      have HBz := hideS (HBW.out.trans ((Below.refl _ wW).alloc HBW.out.size (.cells #[.slice pG (M 0).length cG, .slice pS (M 1).length cS, .slice pW (M 2).length cW, .slice pT (M 3).length cT, .slice pN (M 4).length cN] 22)))
      have HFz := hideS (HFW.out.below ((Below.refl _ wW).alloc (Nat.le_refl _) (.cells #[.slice pG (M 0).length cG, .slice pS (M 1).length cS, .slice pW (M 2).length cW, .slice pT (M 3).length cT, .slice pN (M 4).length cN] 22)))
      go_wp2_with fail
      go_roundw
      case rel => exact Or.inr (Or.inr ⟨_, _, _, _, _, _, _, _, _, rfl, rfl, rfl, HFz.out, HMk.out, HFr.out.lt, HBz.out⟩)
      case measure => simp [intOf]
    · have HBr := hideS hb
      have HFr := hideS fv
      have HFs := hideS fv2
      have HKr := hideS (HK4.out.stay HBr.out)
      have HA2 := hideS hA2
      clear hb fv fv2 hA2
      generalize wr = wB at *
      go_wp2_with fail
      go_loopw [24] (fun iv wr => ∃ i : Nat, i ≤ 5 ∧ iv = .int .i64 i ∧ Hid (Fv w4.heap.size lo hi vs gf (mst M i 0) wr ∧ Rng w4.heap.size (gf + 1) wB wr)) (fun iv _ => 5 - (intOf iv).toNat)
      case atStart => exact ⟨0, by omega, rfl, ⟨HFr.out.of (fun j _ => mst_zero M j), Rng.refl _ _ _⟩⟩
      case round =>
        obtain ⟨i, hi5, rfl, HI⟩ := hrel
        by_cases hlt : i < 5
        · have i1 : (i : Int) < 5 := by omega
          have i2 : IntKind.i64.wrap (1000 * (i : Int)) = 1000 * (i : Int) := by rw [IntKind.wrap_i64]; omega
          have hM := HTh.out.len i hlt
          generalize wr = wo at *
          go_wp2_with fail
          go_loopw [25] (fun kv wr => ∃ k : Nat, k ≤ (M i).length ∧ kv = .int .i64 k ∧ Hid (Fv w4.heap.size lo hi vs gf (mst M i k) wr ∧ Rng w4.heap.size (gf + 1) wB wr)) (fun kv _ => (M i).length - (intOf kv).toNat)
          case atStart => exact ⟨0, Nat.zero_le _, rfl, HI⟩
          case round =>
            obtain ⟨k, hk, rfl, HJ⟩ := hrel
            obtain ⟨qi, ci, ei, hgi⟩ := (HJ.out.1.lf i hlt).sl
            rw [mst_len hk i] at ei hgi
            have hrow := HJ.out.1.row i hlt
            rw [ei] at hrow
            by_cases hkl : k < (M i).length
            · obtain ⟨g, rfl, hg1, hg2⟩ := hgi (by omega)
              have hl := (HJ.out.1.lf i hlt).own
              rw [ei, mst_len hk i] at hl
              obtain ⟨⟨a0, a1, a2⟩, fz⟩ := fown_cells hl (mst_len hk i) k hkl
              have z0 := fz (k * 3)
              have z1 := fz (k * 3 + 1)
              have z2 := fz (k * 3 + 2)
              have HW := hideS (HJ.out.1.write hlt hkl ei ⟨hg1, hg2⟩)
              obtain ⟨w5, hw5⟩ : ∃ w5, set3 wr g (k * 3) (wrF i k) = w5 := ⟨_, rfl⟩
              rw [hw5] at HW
              unfold set3 wrF at hw5
              dsimp only at hw5
              have hst := store_flj
              have j1 : (k : Int) < ((M i).length : Int) := by omega
              have j2 : IntKind.i64.wrap (1000 * (i : Int) + (k : Int)) = 1000 * (i : Int) + (k : Int) := by rw [IntKind.wrap_i64]; omega
              have HZ := hideS (HJ.out.2)
              clear hl fz hgi HJ hg1 hg2 ei
              go_wp2_with fail
              clear a0 a1 a2 z0 z1 z2 hst hw5
              go_roundw
              case rel => exact ⟨k + 1, by omega, by simp, ⟨HW.out.1, HZ.out.trans HW.out.2⟩⟩
              case measure => simp [intOf]; omega
            · have hke : k = (M i).length := by omega
              have HX : Hid (Fv w4.heap.size lo hi vs gf (mst M (i + 1) 0) wr ∧ Rng w4.heap.size (gf + 1) wB wr) := ⟨HJ.out.1.of (fun j _ => by rw [hke]; exact (mst_next M i j).symm), HJ.out.2⟩
              have j1 : ¬ (k : Int) < ((M i).length : Int) := by omega
              clear hgi HJ ei hke
              go_wp2_with fail
              go_roundw
              case rel => exact ⟨i + 1, by omega, by simp, HX⟩
              case measure => simp [intOf]; omega
        · obtain rfl : i = 5 := by omega
          have HX := hideS HI.out
          clear HI hlt hi5
          generalize wr = wC at *
          have HSc := hideS (HFs.out.keep HX.out.2 HA2.out)
          have HKc := hideS (HKr.out.stay (HX.out.2.below (Nat.le_refl _)))
          have HBc := hideS (HB4.out.trans ((HBr.out.trans (HX.out.2.below (Nat.le_refl _))).mono HB4.out.size))
          clear HFs HKr HBr HFr
          go_wp2_with fail
          refine (turned (bits_any x wC)).mono ?_
          rintro e wx ⟨rfl, rfl⟩
          go_wp2_with fail
          refine (HTh.out.scd vd wC HKc.out.doc).mono ?_
          rintro e w6 ⟨⟨d1, rfl, jd1⟩, hb6⟩
          have J1 := hideS jd1
          have HX6 := hideS (HX.out.1.below hb6)
          have HS6 := hideS (HSc.out.below hb6)
          have HK6 := hideS (HKc.out.stay (hb6.mono (Nat.le_trans HX.out.1.up (Nat.le_of_lt HX.out.1.lt))))
          have HB6 := hideS (HBc.out.trans (hb6.mono HBc.out.size))
          clear jd1 hb6 HX HSc HKc HBc
          go_wp2_with fail
          refine (HTh.out.shd vd w6 HK6.out.doc).mono ?_
          rintro e w7 ⟨⟨d3, rfl, jd3⟩, hb7⟩
          have J3 := hideS jd3
          have J17 := hideS (J1.out.below hb7)
          have HX7 := hideS (HX6.out.below hb7)
          have HS7 := hideS (HS6.out.below hb7)
          have HK7 := hideS (HK6.out.stay (hb7.mono (Nat.le_trans HX6.out.up (Nat.le_of_lt HX6.out.lt))))
          have HB7 := hideS (HB6.out.trans (hb7.mono HB6.out.size))
          clear jd3 hb7 HX6 HS6 HK6 HB6 J1
          go_wp2_with fail
          refine (HTh.out.ntd vd w7 HK7.out.doc).mono ?_
          rintro e w8 ⟨⟨d4, rfl, jd4⟩, hb8⟩
          obtain ⟨p0, c0, e0, _⟩ := (HS7.out.lf 0 (by decide)).sl
          obtain ⟨p1, c1, e1, _⟩ := (HS7.out.lf 1 (by decide)).sl
          obtain ⟨p2, c2, e2, _⟩ := (HS7.out.lf 2 (by decide)).sl
          obtain ⟨p3, c3, e3, _⟩ := (HS7.out.lf 3 (by decide)).sl
          obtain ⟨p4, c4, e4, _⟩ := (HS7.out.lf 4 (by decide)).sl
          have HS8 := hideS (HS7.out.below hb8)
          have PZ0 : Hid (Bg w4.heap.size lo hi vs gf M gf2 (.slice p0 (M 0).length c0) (.slice p1 (M 1).length c1) (.slice p2 (M 2).length c2) (.slice p3 (M 3).length c3) (.slice p4 (M 4).length c4) l go co N vd d1 d3 d4 w w8) := ⟨HX7.out.below hb8, HS8.out.lt, e0 ▸ HS8.out.row 0 (by decide), e1 ▸ HS8.out.row 1 (by decide), e2 ▸ HS8.out.row 2 (by decide), e3 ▸ HS8.out.row 3 (by decide), e4 ▸ HS8.out.row 4 (by decide), e0 ▸ (HS8.out.lf 0 (by decide)).jl, e1 ▸ (HS8.out.lf 1 (by decide)).jl, e2 ▸ (HS8.out.lf 2 (by decide)).jl, e3 ▸ (HS8.out.lf 3 (by decide)).jl, e4 ▸ (HS8.out.lf 4 (by decide)).jl, HK7.out.stay (hb8.mono (Nat.le_trans HX7.out.up (Nat.le_of_lt HX7.out.lt))), J17.out.below hb8, J3.out.below hb8, jd4, HB7.out.trans (hb8.mono HB7.out.size)⟩
          have PZ : Hid (Bg w4.heap.size lo hi vs gf M gf2 (.slice p0 (M 0).length c0) (.slice p1 (M 1).length c1) (.slice p2 (M 2).length c2) (.slice p3 (M 3).length c3) (.slice p4 (M 4).length c4) l go co N vd d1 d3 d4 w w8.drew) := PZ0.out.step (below_drewJ (Below.refl _ _) 1)
          clear e0 e1 e2 e3 e4 jd4 hb8 HX7 HS7 HS8 HK7 HB7 J17 J3
          go_wp2_with fail
          go_region_held3 (fun x => x.cell? ⟨gf2, 0, none⟩ = some (.slice p0 (M 0).length c0) ∧ x.cell? ⟨gf2, 1, none⟩ = some (.slice p1 (M 1).length c1) ∧ x.cell? ⟨gf2, 2, none⟩ = some (.slice p2 (M 2).length c2) ∧ x.cell? ⟨gf2, 3, none⟩ = some (.slice p3 (M 3).length c3) ∧ x.cell? ⟨gf2, 4, none⟩ = some (.slice p4 (M 4).length c4))
            (first | exact ⟨PZ.out.r0, PZ.out.r1, PZ.out.r2, PZ.out.r3, PZ.out.r4⟩ | go_keep)
            (first
              | (go_at_call 17; (with_reducible refine (HTh.out.gid vd _ PZ.out.k.doc).mono ?_); rintro e wz ⟨⟨ug, rfl, jg⟩, hbz⟩; have PZ := hideS (PZ.out.step hbz); have JG := hideS jg; clear hbz jg)
              | (go_at_call 18; (with_reducible refine (HTh.out.wid vd _ PZ.out.k.doc).mono ?_); rintro e wz ⟨⟨uw, rfl, jw⟩, hbz⟩; have PZ := hideS (PZ.out.step hbz); have JW := hideS jw; clear hbz jw)
              | (go_at_call 16; (with_reducible refine (HTh.out.same 0 (by decide) (.slice p0 (M 0).length c0) ug _ PZ.out.s0 JG.out).mono ?_); rintro e wz ⟨rfl, hbz⟩; have PZ := hideS (PZ.out.step hbz); clear hbz)
              | (go_at_call 16; (with_reducible refine (HTh.out.same 1 (by decide) (.slice p1 (M 1).length c1) d1 _ PZ.out.s1 PZ.out.e1).mono ?_); rintro e wz ⟨rfl, hbz⟩; have PZ := hideS (PZ.out.step hbz); clear hbz)
              | (go_at_call 16; (with_reducible refine (HTh.out.same 2 (by decide) (.slice p2 (M 2).length c2) uw _ PZ.out.s2 JW.out).mono ?_); rintro e wz ⟨rfl, hbz⟩; have PZ := hideS (PZ.out.step hbz); clear hbz)
              | (go_at_call 16; (with_reducible refine (HTh.out.same 3 (by decide) (.slice p3 (M 3).length c3) d3 _ PZ.out.s3 PZ.out.e3).mono ?_); rintro e wz ⟨rfl, hbz⟩; have PZ := hideS (PZ.out.step hbz); clear hbz)
              | (go_at_call 16; (with_reducible refine (HTh.out.same 4 (by decide) (.slice p4 (M 4).length c4) d4 _ PZ.out.s4 PZ.out.e4).mono ?_); rintro e wz ⟨rfl, hbz⟩; have PZ := hideS (PZ.out.step hbz); clear hbz))
          all_goals
            clear JG JW PZ0
            go_wp2_with fail
            go_loopw [32] (fun iv wr => ∃ i : Nat, i ≤ 5 ∧ iv = .int .i64 i ∧ Hid (Bg w4.heap.size lo hi vs gf M gf2 (.slice p0 (M 0).length c0) (.slice p1 (M 1).length c1) (.slice p2 (M 2).length c2) (.slice p3 (M 3).length c3) (.slice p4 (M 4).length c4) l go co N vd d1 d3 d4 w wr)) (fun iv _ => 5 - (intOf iv).toNat)
            case atStart => exact ⟨0, by omega, rfl, PZ⟩
            case round =>
              clear PZ
              obtain ⟨i, hi5, rfl, HI⟩ := hrel
              by_cases hlt : i < 5
              · have i1 : (i : Int) < 5 := by omega
                have i2 : IntKind.i64.wrap (1000 * (i : Int)) = 1000 * (i : Int) := by rw [IntKind.wrap_i64]; omega
                have hM := HTh.out.len i hlt
                generalize wr = wo at *
                go_wp2_with fail
                go_loopw [33] (fun kv wr => ∃ k : Nat, k ≤ (M i).length ∧ kv = .int .i64 k ∧ Hid (Bg w4.heap.size lo hi vs gf M gf2 (.slice p0 (M 0).length c0) (.slice p1 (M 1).length c1) (.slice p2 (M 2).length c2) (.slice p3 (M 3).length c3) (.slice p4 (M 4).length c4) l go co N vd d1 d3 d4 w wr)) (fun kv _ => (M i).length - (intOf kv).toNat)
                case atStart => exact ⟨0, Nat.zero_le _, rfl, HI⟩
                case round =>
                  obtain ⟨k, hk, rfl, HJ⟩ := hrel
                  obtain ⟨qi, ci, ei, hgi⟩ := (HJ.out.f.lf i hlt).sl
                  have hml : (mst M 5 0 i).length = (M i).length := mst_len (Nat.zero_le _) i
                  rw [hml] at ei hgi
                  have hrow := HJ.out.f.row i hlt
                  rw [ei] at hrow
                  by_cases hkl : k < (M i).length
                  · obtain ⟨g, rfl, _, _⟩ := hgi (by omega)
                    have hl := (HJ.out.f.lf i hlt).own
                    rw [ei, hml] at hl
                    obtain ⟨⟨a0, a1, a2⟩, _⟩ := fown_cells hl hml k hkl
                    rw [mst_five hlt, wrL_get hkl] at a0 a1 a2
                    unfold wrF at a0 a1 a2
                    dsimp only at a0 a1 a2
                    have hne := neqFl
                    have j1 : (k : Int) < ((M i).length : Int) := by omega
                    have j2 : IntKind.i64.wrap (1000 * (i : Int) + (k : Int)) = 1000 * (i : Int) + (k : Int) := by rw [IntKind.wrap_i64]; omega
                    clear hl hgi ei hml
                    go_wp2_with fail
                    clear a0 a1 a2 hne
                    go_roundw
                    case rel => exact ⟨k + 1, by omega, by simp, HJ⟩
                    case measure => simp [intOf]; omega
                  · have j1 : ¬ (k : Int) < ((M i).length : Int) := by omega
                    clear hgi ei hml
                    go_wp2_with fail
                    go_roundw
                    case rel => exact ⟨i + 1, by omega, by simp, HJ⟩
                    case measure => simp [intOf]; omega
              · obtain rfl : i = 5 := by omega
                clear hlt hi5
                go_wp2_with fail
                refine (HSm.out (.slice (some ⟨go, 0, none⟩) N co) vd wr (HI.out.k.jl HN.out) HI.out.k.doc).mono ?_
                rintro e w10 ⟨rfl, hb10⟩
                have HP := hideS (HI.out.step hb10)
                have hc := HP.out.k.own.cell N (by rw [List.length_append, HN.out]; simp)
                have hgt : (l ++ [f77]).getD N flw0 = f77 := by rw [← HN.out]; simp [List.getD]
                rw [hgt, Nat.zero_add] at hc
                obtain ⟨o0, o1, o2⟩ := hc
                unfold f77 at o0 o1 o2
                dsimp only [aF] at o0 o1 o2
                have heq := eqlF77
                have m1 : (N : Int) < ((N + 1 : Nat) : Int) := by omega
                have m2 : (N : Int) < (N : Int) + 1 := by omega
                clear hb10 HI hgt
                go_wp2_with fail
                refine (HAw.out _).mono ?_
                rintro e wa ⟨rfl, hba⟩
                have HBa := hideS (HP.out.bl.trans (hba.mono HP.out.bl.size))
                clear hba HP o0 o1 o2
                go_wp2_with fail
                go_ret
                exact ⟨rfl, HBa.out⟩
end Go.Proofs.YteglnchcnacjlaaGreat
