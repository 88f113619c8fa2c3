/- The walk of FnHorners: any coefficients, any float. -/
import Derived.Test.YtlbpekncaikabaaRefHorner
import Derived.Test.YtlbpekncaikabaaFAwake
namespace Go.Proofs.Ytlbpekncaikabaa
open Go.RowKit

theorem isA (a : Nat) (u : Int) (w : World) (h : Hid (U64 a)) (h' : Hid (U64 u)) (hs : Hid (sameB (a : Int) u = true)) :
    Calls Try.prog 9 #[.float .f64 a, .int .u64 u] w fun e w' => e = .returned (.bool true) ∧ w = w' := by
  have := is_any a u w h.out h'.out
  rw [hs.out] at this
  exact this.mono fun _ _ ⟨a, b⟩ => ⟨a, b.symm⟩
theorem below_dr2 {B : Nat} {w w1 w2 : World} (hb : Below B w w1) (h : ∃ q, w2 = w1.drewN q) : Below B w w2 := by
  obtain ⟨q, rfl⟩ := h
  exact ⟨hb.os, hb.tape, hb.output, hb.size, hb.block⟩
theorem ag_lt {o : Option Nat} {r : Nat} (h : Ag o r) (ho : ∀ q, o = some q → q < 18446744073709551616) : r < 18446744073709551616 := by
  cases o with
  | none => exact (ag_none h).2
  | some q => rw [ag_some h]; exact ho q rfl
theorem horn_lt {cs : List Nat} {x : Nat} (hf : FitL cs) : ∀ k q, hornAt cs x k = some q → q < 18446744073709551616
  | 0, q, h => by
    have : cs.getD (cs.length - 1) 0 = q := Option.some.inj h
    rw [← this]; exact hf.get _
  | k + 1, q, h => by
    have h2 : stepO x (hornAt cs x k) (cs.getD (cs.length - 2 - k) 0) = some q := h
    rw [← stepO_cn] at h2
    exact float_lt (by simp) h2
theorem hornO_lt {cs : List Nat} {x : Nat} (hf : FitL cs) (q : Nat) (h : hornO cs x = some q) : q < 18446744073709551616 := by
  unfold hornO at h
  split at h
  · have : 0 = q := Option.some.inj h
    omega
  · exact horn_lt hf _ q h
theorem cn_hornO_lt {cs : List Nat} {x : Nat} (hf : FitL cs) : cn (hornO cs x) < 18446744073709551616 := by
  cases h : hornO cs x with
  | none => decide
  | some q => exact hornO_lt hf q h

set_option maxRecDepth 20000 in
set_option maxHeartbeats 1600000 in
theorem horners_great (p : Option Addr) (n c x : Nat) (w : World) (hn : 100 < n) (hn2 : n ≤ 9223372036854775807) :
    Calls Try.prog 6 #[.slice p n c, .float .f64 x] w fun e w' => e = .returned (.bool true) ∧ Below w.heap.size w w' := by
  go_enter Try.func6, Try.ntmps6
  go_wp2_with fail
  refine (awake4 _).mono ?_
  rintro e w3 ⟨rfl, hb⟩
  have B3 := hideS hb
  clear hb
  go_wp2_with fail
  go_ret
  exact ⟨rfl, B3.out⟩

set_option maxRecDepth 20000 in
set_option maxHeartbeats 1600000 in
theorem horners_small (p : Option Addr) (b off n c x : Nat) (cs : List Nat) (w : World) (hs : Src w p b off cs) (hf : FitL cs) (hx : U64 x) (hN : cs.length = n) (hn : n ≤ 100) :
    Calls Try.prog 6 #[.slice p n c, .float .f64 x] w fun e w' => e = .returned (.bool true) ∧ Below w.heap.size w w' := by
  have HS := hideS hs
  have HF := hideS hf
  have HN := hideS hN
  have HX := hideS hx
  have HBt := hideS (bitsL_any p b off c n cs w hs hN (by omega))
  clear hs hf hN hx
  go_enter Try.func6, Try.ntmps6
  go_wp2_with fail
  refine HBt.out.mono ?_
  rintro e w1 ⟨v, rfl, hO, hb1⟩
  have HS1 := hideS (HS.out.below hb1)
  have HO1 := hideS hO
  have HB1 := hideS hb1
  clear hO hb1 HBt
  have HH := hideS (horner_any p b off c x n cs w1 HS1.out HN.out (by omega))
  go_wp2_with fail
  refine HH.out.mono ?_
  rintro e w2 ⟨r, rfl, hag, hq⟩
  have HA := hideS hag
  have HB2 := hideS (below_dr2 HB1.out hq)
  have HB12 := hideS (below_dr2 (Below.refl w1.heap.size w1) hq)
  have HS2 := hideS (HS1.out.below HB12.out)
  have HO2 := hideS (HO1.out.below HB12.out)
  clear hag hq HH HS1 HO1
  obtain ⟨u, hu⟩ : ∃ u : Int, u = (x : Int) := ⟨_, rfl⟩
  have HU := hideS hu
  have HBits : Hid (∀ w, Calls Try.prog 12 #[.float .f64 x] w fun e w' => e = .returned (.int .u64 u) ∧ w' = w) := fun w => by rw [HU.out]; exact bits_any x w
  clear hu
  go_wp2_with fail
  refine (turned (HBits.out _)).mono ?_
  rintro e w' ⟨rfl, rfl⟩
  obtain ⟨z, hz⟩ : ∃ z : Int, z = (cn (hornO cs x) : Int) := ⟨_, rfl⟩
  have HZ := hideS hz
  have HRf : Hid (Calls Try.prog 20 #[v, .int .u64 u] w2 fun e w' => e = .returned (.int .u64 z) ∧ Below w2.heap.size w2 w') := by
    have := refHorner_any w.heap.size n x v u cs w2 HO2.out HF.out HU (by rw [HU.out]; exact HX.out) HN.out (by omega)
    rw [HZ.out]; exact this
  clear hz
  go_wp2_with fail
  refine HRf.out.mono ?_
  rintro e w3 ⟨rfl, hb3⟩
  have HB3 := hideS (HB2.out.trans (hb3.mono HB2.out.size))
  have HS3 := hideS (HS2.out.below hb3)
  have HO3 := hideS (HO2.out.below hb3)
  clear hb3 HRf HS2 HO2
  have HIs : Hid (∀ w, Calls Try.prog 9 #[.float .f64 r, .int .u64 z] w fun e w' => e = .returned (.bool true) ∧ w = w') := fun w =>
    isA r z w (u64_of_nat (ag_lt HA.out (hornO_lt HF.out))) (by rw [HZ.out]; exact u64_of_nat (cn_hornO_lt HF.out)) (by rw [HZ.out]; exact ag_same HA.out)
  go_wp2_with fail
  refine (HIs.out _).mono ?_
  rintro e w' ⟨rfl, rfl⟩
  have HAr := hideS (areS_any _ b off c n p v cs w3 HS3.out HO3.out HF.out HN.out (by omega))
  go_wp2_with fail
  refine HAr.out.mono ?_
  rintro e w4 ⟨rfl, hq⟩
  have HB4 := hideS (below_dr2 HB3.out hq)
  clear hq HAr
  go_wp2_with fail
  refine (awake4 _).mono ?_
  rintro e w5 ⟨rfl, hb⟩
  have B5 := hideS (HB4.out.trans (hb.mono HB4.out.size))
  clear hb
  go_wp2_with fail
  go_ret
  exact ⟨rfl, B5.out⟩
end Go.Proofs.Ytlbpekncaikabaa
