/- The contracts of the document's Left and Kahan. -/
import Derived.Test.YtdmldggjgaaliaaGreatListA
import Derived.Test.YtdmldggjgaaliaaGreatOpD
namespace Go.Proofs.YtdmldggjgaaliaaGreat
open Go.RowKit

/-- A slice that reads as a list of words, wherever it lies. -/
structure SrcU (w : World) (p : Option Addr) (b off : Nat) (xs : List Nat) : Prop where
  at_ : 0 < xs.length → p = some ⟨b, off, none⟩
  lt : 0 < xs.length → b < w.heap.size
  cell : ∀ j, j < xs.length → w.cell? ⟨b, off + j, none⟩ = some (.int .u64 ((xs.getD j 0 : Nat) : Int))
theorem SrcU.below {w w' : World} {p : Option Addr} {b off : Nat} {xs : List Nat} (h : SrcU w p b off xs) (hb : Below w.heap.size w w') : SrcU w' p b off xs :=
  ⟨h.at_, fun hx => Nat.lt_of_lt_of_le (h.lt hx) hb.size, fun j hj => (hb.cell (p := ⟨b, off + j, none⟩) (h.lt (by omega))).trans (h.cell j hj)⟩
theorem left_lt (xs : List Nat) : ∀ k, cn (leftAt xs k) < 18446744073709551616
  | 0 => by show (0 : Nat) < _; decide
  | k + 1 => opO_lt (by simp) _ _

set_option maxHeartbeats 800000 in
theorem refLeft_any (B0 n : Nat) (v : Value) (xs : List Nat) (w : World) (hO : OwnF w B0 29 uV v xs) (hf : FitL xs) (hN : xs.length = n) (hn : n ≤ 500) :
    Calls Tryz.prog 12 #[v] w fun e w' => e = .returned (.int .u64 (cn (leftAt xs n) : Int)) ∧ Below w.heap.size w w' := by
  obtain ⟨p, g, c, rfl, ha, hr⟩ := hO.shape
  rw [hN]
  have HF := hideS hf
  have HN := hideS hN
  have HR := hideS hr
  have HA := hideS ha
  obtain ⟨res, hres⟩ : ∃ res : Int, (cn (leftAt xs n) : Int) = res := ⟨_, rfl⟩
  have HRes := hideS hres
  rw [hres]
  clear hO hf hN ha hr hres
  go_enter Tryz.func12, Tryz.ntmps12
  go_wp2_with fail
  go_loopw [3, 4] (fun s i wr => ∃ (k : Nat) (a : Int), k ≤ n ∧ i = .int .i64 k ∧ s = .int .u64 a ∧ Hid (a = (cn (leftAt xs k) : Int)) ∧ Hid (Below w.heap.size w wr)) (fun _ i _ => n - (intOf i).toNat)
  case atStart => exact ⟨0, 0, Nat.zero_le _, rfl, rfl, rfl, Below.refl _ _⟩
  case round =>
    obtain ⟨k, a, hk, rfl, rfl, Ha, HB⟩ := hrel
    by_cases hlt : k < n
    · have hx : k < xs.length := by rw [HN.out]; exact hlt
      obtain ⟨rfl, _, hg⟩ := HA.out (by omega)
      have hcx : wr.cell? ⟨g, k, none⟩ = some (.int .u64 ((xs.getD k 0 : Nat) : Int)) := (HB.out.cell (p := ⟨g, k, none⟩) hg).trans (HR.out k hx)
      obtain ⟨xi, hxi⟩ : ∃ xi : Int, xi = ((xs.getD k 0 : Nat) : Int) := ⟨_, rfl⟩
      obtain ⟨z, hz⟩ : ∃ z : Int, z = (cn (leftAt xs (k + 1)) : Int) := ⟨_, rfl⟩
      have HD : Hid (∀ w, Calls Tryz.prog 28 #[.int .u64 a, .int .u64 xi] w fun e w' => e = .returned (.int .u64 z) ∧ Below w.heap.size w w') := fun w =>
        add_cn (o := leftAt xs k) (o' := some (xs.getD k 0)) Ha.out hxi (by rw [Ha.out]; exact u64_of_nat (left_lt xs k)) (by rw [hxi]; exact u64_of_nat (HF.out.get k)) hz w
      rw [← hxi] at hcx
      have HZ := hideS hz
      clear hx hxi hz
      go_wp2_with fail
      refine (HD.out _).mono ?_
      rintro e w3 ⟨rfl, hb3⟩
      have HB3 := hideS (HB.out.trans (hb3.mono HB.out.size))
      clear hb3
      go_wp2_with fail
      go_roundw
      case rel => exact ⟨k + 1, z, by omega, by simp, rfl, HZ, HB3⟩
      case measure => simp [intOf]; omega
    · obtain rfl : k = n := by omega
      have HE : Hid (a = res) := by rw [← HRes.out]; exact Ha.out
      go_wp2
      go_ret
      exact ⟨ret_int HE.out, HB.out⟩

theorem kah_lt (xs : List Nat) : ∀ k, cn (kahAt xs k).1 < 18446744073709551616 ∧ cn (kahAt xs k).2 < 18446744073709551616
  | 0 => by show (0 : Nat) < _ ∧ (0 : Nat) < _; decide
  | k + 1 => by
    refine ⟨opO_lt (by simp) _ _, ?_⟩
    show cn (if _ then _ else _) < _
    split
    · exact opO_lt (by simp) _ _
    · exact opO_lt (by simp) _ _
/-- Its parts. -/
theorem fB_nan1 {a x : Nat} (h : nanB (a : Int) = true) : fB a x = false := by unfold fB; rw [h]; rfl
theorem fB_nan2 {a x : Nat} (h : nanB (x : Int) = true) : fB a x = false := by unfold fB; rw [h]; simp
theorem fB_num {a x : Nat} (h1 : nanB (a : Int) = false) (h2 : nanB (x : Int) = false) : fB a x = !decide (rankI (szI (a : Int)) < rankI (szI (x : Int))) := by
  have nn : ∀ {b : Nat}, nanB (b : Int) = nanB ((b % 9223372036854775808 : Nat) : Int) := fun {b} => by
    unfold nanB szI; apply decide_eq_decide.2; omega
  have rk : ∀ {b : Nat}, nanB (b : Int) = false → rankI (szI (b : Int)) = ((b % 9223372036854775808 : Nat) : Int) := fun {b} hb => by
    rw [szI_nat, rank_pos (by rw [← nn]; exact hb) (by unfold sgB; rw [decide_eq_false_iff_not]; omega), szI_nat]
    omega
  unfold fB
  rw [h1, h2, rk h1, rk h2, ← decide_not]
  simp only [Bool.not_false, Bool.true_and]
  apply decide_eq_decide.2
  omega
theorem sz_fit (b : Nat) : U64 (szI (b : Int)) ∧ nanB (szI (b : Int)) = nanB (b : Int) := by
  rw [szI_nat]
  exact ⟨u64_of_nat (by omega), by unfold nanB szI; apply decide_eq_decide.2; omega⟩

set_option maxRecDepth 20000 in
set_option maxHeartbeats 1600000 in
theorem refKahan_any (B0 n : Nat) (v : Value) (xs : List Nat) (w : World) (hO : OwnF w B0 29 uV v xs) (hf : FitL xs) (hN : xs.length = n) (hn : n ≤ 500) :
    Calls Tryz.prog 16 #[v] w fun e w' => e = .returned (.int .u64 (cn (kahO xs n) : Int)) ∧ Below w.heap.size w w' := by
  obtain ⟨p, g, c, rfl, ha, hr⟩ := hO.shape
  rw [hN]
  have HF := hideS hf
  have HN := hideS hN
  have HR := hideS hr
  have HA := hideS ha
  obtain ⟨res, hres⟩ : ∃ res : Int, (cn (kahO xs n) : Int) = res := ⟨_, rfl⟩
  have HRes := hideS hres
  rw [hres]
  clear hO hf hN ha hr hres
  go_enter Tryz.func16, Tryz.ntmps16
  go_wp2_with fail
  go_loopw [3, 4, 5, 6, 7, 8] (fun s d i _ _ _ wr => ∃ (k : Nat) (a b : Int), k ≤ n ∧ i = .int .i64 k ∧ s = .int .u64 a ∧ d = .int .u64 b ∧ Hid (a = (cn (kahAt xs k).1 : Int)) ∧ Hid (b = (cn (kahAt xs k).2 : Int)) ∧ Hid (Below w.heap.size w wr)) (fun _ _ i _ _ _ _ => n - (intOf i).toNat)
  case atStart => exact ⟨0, 0, 0, Nat.zero_le _, rfl, rfl, rfl, rfl, rfl, Below.refl _ _⟩
  case round =>
    obtain ⟨k, a, b, hk, rfl, rfl, rfl, Ha, Hb, HB⟩ := hrel
    by_cases hlt : k < n
    · have hx : k < xs.length := by rw [HN.out]; exact hlt
      obtain ⟨rfl, _, hg⟩ := HA.out (by omega)
      have hcx : wr.cell? ⟨g, k, none⟩ = some (.int .u64 ((xs.getD k 0 : Nat) : Int)) := (HB.out.cell (p := ⟨g, k, none⟩) hg).trans (HR.out k hx)
      have H1 : Hid ((kahAt xs (k + 1)).1 = opO .add (kahAt xs k).1 (some (xs.getD k 0))) := rfl
      have H2 : Hid ((kahAt xs (k + 1)).2 = if fB (cn (kahAt xs k).1) (xs.getD k 0) then opO .add (kahAt xs k).2 (opO .add (opO .sub (kahAt xs k).1 (opO .add (kahAt xs k).1 (some (xs.getD k 0)))) (some (xs.getD k 0))) else opO .add (kahAt xs k).2 (opO .add (opO .sub (some (xs.getD k 0)) (opO .add (kahAt xs k).1 (some (xs.getD k 0)))) (kahAt xs k).1)) := rfl
      obtain ⟨oa, hoa⟩ : ∃ oa, (kahAt xs k).1 = oa := ⟨_, rfl⟩
      obtain ⟨ob, hob⟩ : ∃ ob, (kahAt xs k).2 = ob := ⟨_, rfl⟩
      have HUa : Hid (U64 a) := by rw [Ha.out]; exact u64_of_nat (kah_lt xs k).1
      have HUb : Hid (U64 b) := by rw [Hb.out]; exact u64_of_nat (kah_lt xs k).2
      have HUx := hideS (u64_of_nat (HF.out.get k))
      rw [hoa] at H1 H2 Ha
      rw [hob] at H2 Hb
      obtain ⟨x, hxx⟩ : ∃ x, xs.getD k 0 = x := ⟨_, rfl⟩
      rw [hxx] at hcx HUx H1 H2
      obtain ⟨xi, hxi⟩ : ∃ xi : Int, xi = (x : Int) := ⟨_, rfl⟩
      rw [← hxi] at hcx HUx
      have HXI : Hid (xi = (cn (some x) : Int)) := hxi
      obtain ⟨t, ht⟩ : ∃ t : Int, t = (cn (opO .add oa (some x)) : Int) := ⟨_, rfl⟩
      have HT : Hid (∀ w, Calls Tryz.prog 28 #[.int .u64 a, .int .u64 xi] w fun e w' => e = .returned (.int .u64 t) ∧ Below w.heap.size w w') := fun w =>
        add_cn (o := oa) (o' := some x) Ha.out HXI.out HUa.out HUx.out ht w
      have HUt : Hid (U64 t) := u64_opO (by simp) _ _ ht
      have HN1 := hideS fun w => turned (refNaN_any a w HUa.out)
      have HN2 := hideS fun w => turned (refNaN_any xi w HUx.out)
      obtain ⟨sa, hsa⟩ : ∃ sa : Int, szI a = sa := ⟨_, rfl⟩
      obtain ⟨sx, hsx⟩ : ∃ sx : Int, szI xi = sx := ⟨_, rfl⟩
      have HS1 := hideS fun w => refSize_at a sa w HUa.out hsa
      have HS2 := hideS fun w => refSize_at xi sx w HUx.out hsx
      have HKT : Hid (t = (cn (kahAt xs (k + 1)).1 : Int)) := by rw [H1.out]; exact ht
      have HFB : Hid (∀ f, fB (cn oa) x = f → ∃ d1 d2 d3 : Int, (∀ w, Calls Tryz.prog 33 #[.int .u64 (if f then a else xi), .int .u64 t] w fun e w' => e = .returned (.int .u64 d1) ∧ Below w.heap.size w w') ∧ (∀ w, Calls Tryz.prog 28 #[.int .u64 d1, .int .u64 (if f then xi else a)] w fun e w' => e = .returned (.int .u64 d2) ∧ Below w.heap.size w w') ∧ (∀ w, Calls Tryz.prog 28 #[.int .u64 b, .int .u64 d2] w fun e w' => e = .returned (.int .u64 d3) ∧ Below w.heap.size w w') ∧ d3 = (cn (kahAt xs (k + 1)).2 : Int)) := by
        intro f hfe
        rw [hfe] at H2
        cases f with
        | true =>
          refine ⟨_, _, _, fun w => sub_cn (o := oa) (o' := opO .add oa (some x)) Ha.out ht HUa.out HUt.out rfl w, fun w => add_cn (o' := some x) rfl HXI.out (u64_opO (by simp) _ _ rfl) HUx.out rfl w, fun w => add_cn (o := ob) Hb.out rfl HUb.out (u64_opO (by simp) _ _ rfl) rfl w, ?_⟩
          rw [H2.out]; rfl
        | false =>
          refine ⟨_, _, _, fun w => sub_cn (o := some x) (o' := opO .add oa (some x)) HXI.out ht HUx.out HUt.out rfl w, fun w => add_cn (o' := oa) rfl Ha.out (u64_opO (by simp) _ _ rfl) HUa.out rfl w, fun w => add_cn (o := ob) Hb.out rfl HUb.out (u64_opO (by simp) _ _ rfl) rfl w, ?_⟩
          rw [H2.out]; rfl
      cases hn1 : nanB a with
      | true =>
        rw [hn1] at HN1
        obtain ⟨d1, d2, d3, e1, e2, e3, e4⟩ := HFB.out false (fB_nan1 (by rw [← Ha.out]; exact hn1))
        have E1 := hideS e1
        have E2 := hideS e2
        have E3 := hideS e3
        have E4 := hideS e4
        simp only [Bool.false_eq_true, if_false] at E1 E2
        clear hn1 HFB H1 H2 hx hxx hxi ht hsa hsx e1 e2 e3 e4 HS1 HS2 HN2 hoa hob
        go_wp2_with fail
        refine (HT.out _).mono ?_
        rintro e w1 ⟨rfl, hb1⟩
        have HB1 := hideS (HB.out.trans (hb1.mono HB.out.size))
        clear hb1
        go_wp2_with fail
        refine (HN1.out _).mono ?_
        rintro e w' ⟨rfl, rfl⟩
        go_wp2_with fail
        refine (E1.out _).mono ?_
        rintro e w2 ⟨rfl, hb2⟩
        have HB2 := hideS (HB1.out.trans (hb2.mono HB1.out.size))
        clear hb2
        go_wp2_with fail
        refine (E2.out _).mono ?_
        rintro e w3 ⟨rfl, hb3⟩
        have HB3 := hideS (HB2.out.trans (hb3.mono HB2.out.size))
        clear hb3
        go_wp2_with fail
        refine (E3.out _).mono ?_
        rintro e w4 ⟨rfl, hb4⟩
        have HB4 := hideS (HB3.out.trans (hb4.mono HB3.out.size))
        clear hb4
        go_wp2_with fail
        go_roundw
        case rel => exact ⟨k + 1, t, d3, by omega, by simp, rfl, rfl, HKT, E4, HB4⟩
        case measure => simp [intOf]; omega
      | false =>
        rw [hn1] at HN1
        cases hn2 : nanB xi with
        | true =>
          rw [hn2] at HN2
          obtain ⟨d1, d2, d3, e1, e2, e3, e4⟩ := HFB.out false (fB_nan2 (by rw [← hxi]; exact hn2))
          have E1 := hideS e1
          have E2 := hideS e2
          have E3 := hideS e3
          have E4 := hideS e4
          simp only [Bool.false_eq_true, if_false] at E1 E2
          clear hn1 hn2 HFB H1 H2 hx hxx hxi ht hsa hsx e1 e2 e3 e4 HS1 HS2 hoa hob
          go_wp2_with fail
          refine (HT.out _).mono ?_
          rintro e w1 ⟨rfl, hb1⟩
          have HB1 := hideS (HB.out.trans (hb1.mono HB.out.size))
          clear hb1
          go_wp2_with fail
          refine (HN1.out _).mono ?_
          rintro e w' ⟨rfl, rfl⟩
          go_wp2_with fail
          refine (HN2.out _).mono ?_
          rintro e w' ⟨rfl, rfl⟩
          go_wp2_with fail
          refine (E1.out _).mono ?_
          rintro e w2 ⟨rfl, hb2⟩
          have HB2 := hideS (HB1.out.trans (hb2.mono HB1.out.size))
          clear hb2
          go_wp2_with fail
          refine (E2.out _).mono ?_
          rintro e w3 ⟨rfl, hb3⟩
          have HB3 := hideS (HB2.out.trans (hb3.mono HB2.out.size))
          clear hb3
          go_wp2_with fail
          refine (E3.out _).mono ?_
          rintro e w4 ⟨rfl, hb4⟩
          have HB4 := hideS (HB3.out.trans (hb4.mono HB3.out.size))
          clear hb4
          go_wp2_with fail
          go_roundw
          case rel => exact ⟨k + 1, t, d3, by omega, by simp, rfl, rfl, HKT, E4, HB4⟩
          case measure => simp [intOf]; omega
        | false =>
          rw [hn2] at HN2
          obtain ⟨q, hq⟩ : ∃ q : Bool, decide (rankI sa < rankI sx) = q := ⟨_, rfl⟩
          have hfb : fB (cn oa) x = !q := by
            rw [fB_num (by rw [← Ha.out]; exact hn1) (by rw [← hxi]; exact hn2), ← Ha.out, ← hxi, hsa, hsx, hq]
          have za := sz_fit (cn oa)
          have zx := sz_fit x
          rw [← Ha.out, hsa, hn1] at za
          rw [← hxi, hsx, hn2] at zx
          have HLt := hideS fun w => refLt_at sa sx q w za.1 zx.1 za.2 zx.2 hq
          obtain ⟨d1, d2, d3, e1, e2, e3, e4⟩ := HFB.out _ hfb
          have E1 := hideS e1
          have E2 := hideS e2
          have E3 := hideS e3
          have E4 := hideS e4
          clear hn1 hn2 HFB H1 H2 hx hxx hxi ht hsa hsx e1 e2 e3 e4 hoa hob za zx hfb hq
          cases q
          all_goals
            simp only [Bool.not_false, Bool.not_true, if_true, Bool.false_eq_true, if_false] at E1 E2
            go_wp2_with fail
            refine (HT.out _).mono ?_
            rintro e w1 ⟨rfl, hb1⟩
            have HB1 := hideS (HB.out.trans (hb1.mono HB.out.size))
            clear hb1
            go_wp2_with fail
            refine (HN1.out _).mono ?_
            rintro e w' ⟨rfl, rfl⟩
            go_wp2_with fail
            refine (HN2.out _).mono ?_
            rintro e w' ⟨rfl, rfl⟩
            go_wp2_with fail
            refine (HS1.out _).mono ?_
            rintro e w' ⟨rfl, rfl⟩
            go_wp2_with fail
            refine (HS2.out _).mono ?_
            rintro e w' ⟨rfl, rfl⟩
            go_wp2_with fail
            refine (HLt.out _).mono ?_
            rintro e w' ⟨rfl, rfl⟩
            go_wp2_with fail
            refine (E1.out _).mono ?_
            rintro e w2 ⟨rfl, hb2⟩
            have HB2 := hideS (HB1.out.trans (hb2.mono HB1.out.size))
            clear hb2
            go_wp2_with fail
            refine (E2.out _).mono ?_
            rintro e w3 ⟨rfl, hb3⟩
            have HB3 := hideS (HB2.out.trans (hb3.mono HB2.out.size))
            clear hb3
            go_wp2_with fail
            refine (E3.out _).mono ?_
            rintro e w4 ⟨rfl, hb4⟩
            have HB4 := hideS (HB3.out.trans (hb4.mono HB3.out.size))
            clear hb4
            go_wp2_with fail
            go_roundw
            case rel => exact ⟨k + 1, t, d3, by omega, by simp, rfl, rfl, HKT, E4, HB4⟩
            case measure => simp [intOf]; omega
    · obtain rfl : k = n := by omega
      have HL : Hid (∀ w, Calls Tryz.prog 28 #[.int .u64 a, .int .u64 b] w fun e w' => e = .returned (.int .u64 res) ∧ Below w.heap.size w w') := fun w =>
        add_cn (o := (kahAt xs k).1) (o' := (kahAt xs k).2) Ha.out Hb.out (by rw [Ha.out]; exact u64_of_nat (kah_lt xs k).1) (by rw [Hb.out]; exact u64_of_nat (kah_lt xs k).2) HRes.out.symm w
      go_wp2_with fail
      refine (HL.out _).mono ?_
      rintro e w1 ⟨rfl, hb1⟩
      have HB1 := hideS (HB.out.trans (hb1.mono HB.out.size))
      clear hb1
      go_wp2_with fail
      go_ret
      exact ⟨rfl, HB1.out⟩
end Go.Proofs.YtdmldggjgaaliaaGreat
