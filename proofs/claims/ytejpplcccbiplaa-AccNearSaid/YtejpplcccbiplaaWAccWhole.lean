/- The walk of AccWhole. -/
import Derived.Test.YtejpplcccbiplaaAccP
import Derived.Test.YtejpplcccbiplaaSrcI
namespace Go.Proofs.Ytejpplcccbiplaa
open Go.RowKit

theorem floatOf_fi (m : Int) : floatOfInt .f64 m = fi m := by
  show Ieee.double.nearest (decide (m < 0)) m.natAbs 0 = _
  unfold fi joinN
  by_cases h0 : m = 0
  · subst h0; rfl
  · rw [if_neg h0, nearest_eq _ (by omega)]
    by_cases hn : m < 0
    · simp only [hn, decide_true, if_true]; rw [word_true]
    · simp only [hn, decide_false, if_false]; rw [word_false]
theorem eq_fi {m : Int} (h1 : -9007199254740992 ≤ m) (h2 : m ≤ 9007199254740992) : (FloatKind.f64.format.order (fi m) (fi m) == some .eq) = true := by
  obtain ⟨_, a, _, b⟩ := vI_fi (m := m) rfl h1 h2
  rw [eq_self (u64_of_nat b)]
  have : nanB (fi m : Int) = false := by
    unfold nanB szI
    rw [decide_eq_false_iff_not]; omega
  rw [this]; rfl
/-- A number's units, by its worth. -/
theorem unit_vI {b K : Nat} (hK : K = 1074) (hb : b < 18446744073709551616) (h : b % 9223372036854775808 < 9218868437227405312) : unitI (b : Int) = vI b * ((2 ^ K : Nat) : Int) := by
  obtain ⟨r, hr⟩ : ∃ r, b % 9223372036854775808 = r := ⟨_, rfl⟩
  have hsz : szI (b : Int) = (r : Int) := by unfold szI; omega
  have hok : splOk (b : Int) = true := by unfold splOk; rw [hsz, decide_eq_true_eq]; omega
  have hsg : sgB (b : Int) = (b / 9223372036854775808 % 2 == 1) := by
    have e : sgB (b : Int) = decide (b / 9223372036854775808 % 2 = 1) := by
      unfold sgB; apply decide_eq_decide.2; omega
    rw [e]
    by_cases h1 : b / 9223372036854775808 % 2 = 1 <;> simp [h1]
  have hmg : magI (r : Int) = (mg r : Int) := by
    unfold magI mg
    by_cases h1 : r < 4503599627370496
    · rw [if_pos (by omega), if_pos h1]
    · rw [if_neg (by omega), if_neg h1]; omega
  have hM : splM (b : Int) = sgZ (b / 9223372036854775808 % 2 == 1) (mg r) := by
    unfold splM sgZ
    rw [hok, hsz, hmg, hsg]; rfl
  rw [vI_eq, hr, sgZ_mul]
  unfold unitI
  rw [hM]
  by_cases h0 : r = 0
  · subst h0
    have : mg 0 = 0 := rfl
    rw [this]
    unfold sgZ
    simp
  · have hE : (splE (b : Int) + 2148).toNat = pl r + K := by
      unfold splE plcI pl
      rw [hok, hsz]
      have h1 : ((true && decide ((r : Int) ≠ 0)) = true) := by simp; omega
      rw [if_pos h1]
      by_cases h2 : r < 4503599627370496
      · rw [if_pos (by omega)]; omega
      · rw [if_neg (by omega)]; omega
    rw [hE, Int.mul_assoc, ← Int.natCast_mul, ← Nat.pow_add, Int.natCast_pow]; rfl
theorem unit_fi {m : Int} {K : Nat} (hK : K = 2148) (h1 : -9007199254740992 ≤ m) (h2 : m ≤ 9007199254740992) : splOk (fi m : Int) = true ∧ unitI (fi m : Int) = m * ((2 ^ K : Nat) : Int) := by
  obtain ⟨K1, hK1⟩ : ∃ K1, K1 = 1074 := ⟨_, rfl⟩
  obtain ⟨a, b, _, c⟩ := vI_fi (m := m) hK1 h1 h2
  refine ⟨?_, ?_⟩
  · unfold splOk szI
    rw [decide_eq_true_eq]; omega
  · rw [unit_vI hK1 c b, a, Int.mul_assoc, ← Int.natCast_mul, ← Nat.pow_add, show K1 + K1 = K by omega]
theorem join_scaled (m : Int) (K : Nat) : joinN (m * ((2 ^ K : Nat) : Int)) (-(K : Int)) = fi m := by
  unfold fi joinN
  have hp : (0 : Int) < ((2 ^ K : Nat) : Int) := by have := Nat.two_pow_pos K; omega
  by_cases h0 : m = 0
  · subst h0; simp
  · have h3 : m * ((2 ^ K : Nat) : Int) ≠ 0 := Int.mul_ne_zero h0 (by omega)
    have h4 : nearR (m * ((2 ^ K : Nat) : Int)).natAbs (-(K : Int)) = nearR m.natAbs 0 := by
      have := nearR_scale (M := m.natAbs) (by omega) K 0
      rw [show (0 : Int) - (K : Int) = -(K : Int) by omega] at this
      rw [Int.natAbs_mul, Int.natAbs_natCast]; exact this
    rw [if_neg h0, if_neg h3, h4]
    by_cases hn : m < 0
    · rw [if_pos hn, if_pos (Int.mul_neg_of_neg_of_pos hn hp)]
    · rw [if_neg hn, if_neg (by have := Int.mul_nonneg (by omega : 0 ≤ m) (by omega : (0 : Int) ≤ ((2 ^ K : Nat) : Int)); omega)]
theorem sum_fi {K : Nat} (hK : K = 2148) : ∀ (ms : List Int) (a : St), a.s = 0 → asum ms ≤ 9007199254740992 → (ms.map fi).foldl addS a = ⟨0, a.N + isum ms * ((2 ^ K : Nat) : Int)⟩
  | [], a, h, _ => by
    show a = _
    apply st_ext
    · exact h
    · simp [isum]
  | m :: ms, a, h, hb => by
    simp only [asum] at hb
    obtain ⟨u1, u2⟩ := unit_fi (m := m) hK (by omega) (by omega)
    have e : addS a (fi m) = ⟨0, a.N + m * ((2 ^ K : Nat) : Int)⟩ := by
      unfold addS oneS
      rw [u1, if_pos rfl, u2]
      unfold St.merge
      rw [h]; rfl
    simp only [List.map_cons, List.foldl_cons]
    rw [e, sum_fi hK ms _ rfl (by omega)]
    apply st_ext
    · rfl
    · show a.N + m * _ + isum ms * _ = a.N + (m + isum ms) * _
      rw [Int.add_mul]; omega
theorem val_sum (ms : List Int) (h : asum ms ≤ 9007199254740992) : valSt (sumS (ms.map fi)) = fi (isum ms) := by
  obtain ⟨K, hK⟩ : ∃ K, K = 2148 := ⟨_, rfl⟩
  unfold sumS
  rw [sum_fi hK ms _ rfl h]
  unfold valSt valF
  rw [if_pos rfl]
  show joinN (0 + isum ms * ((2 ^ K : Nat) : Int)) (-2148) = _
  rw [Int.zero_add, show (-2148 : Int) = -(K : Int) by omega, join_scaled]

theorem asum_mem : ∀ {ms : List Int} {m : Int}, m ∈ ms → m.natAbs ≤ asum ms
  | a :: ms, m, h => by
    simp only [asum]
    rcases List.mem_cons.1 h with rfl | h
    · omega
    · have := asum_mem h; omega
def remL (xs : List Int) (k : Nat) : List Int := (xs.take k).map fun x => x.tmod 17592186044416
theorem remL_next {xs : List Int} {k : Nat} (hk : k < xs.length) : remL xs (k + 1) = remL xs k ++ [(xs.getD k 0).tmod 17592186044416] := by
  unfold remL; rw [List.take_add_one, getD_someI hk, List.map_append]; rfl
theorem remL_len {xs : List Int} {k : Nat} (hk : k ≤ xs.length) : (remL xs k).length = k := by unfold remL; simp; omega
theorem rem_bd (x : Int) : -17592186044416 < x.tmod 17592186044416 ∧ x.tmod 17592186044416 < 17592186044416 := by
  have h1 := Int.tmod_lt_of_pos x (show (0 : Int) < 17592186044416 by decide)
  have h2 := Int.lt_tmod_of_pos x (show (0 : Int) < 17592186044416 by decide)
  omega
theorem remL_sum : ∀ (k : Nat) {xs : List Int}, k ≤ xs.length → asum (remL xs k) ≤ k * 17592186044416
  | 0, xs, _ => by simp [remL, asum]
  | k + 1, xs, h => by
    have h1 := remL_sum k (xs := xs) (by omega)
    have h2 := rem_bd (xs.getD k 0)
    rw [remL_next (by omega), asum_append]
    have e : asum [(xs.getD k 0).tmod 17592186044416] = ((xs.getD k 0).tmod 17592186044416).natAbs := rfl
    rw [e]; omega

/-- Whole numbers as a row of floats. -/
def rowFi (ms : List Int) : List Value := ms.map fun m => fV (fi m)
theorem rowFi_eq (ms : List Int) : rowFi ms = (ms.map fi).map fV := by unfold rowFi; rw [List.map_map]; rfl
theorem ownF_src {w : World} {B n : Nat} {v : Value} {ms : List Int} (h0 : w.ownsRow B 29 1 v n (rowFi ms)) : ∃ p g c, v = .slice p n c ∧ n ≤ c ∧ c ≤ maxLen ∧ Src w p g 0 (ms.map fi) := by
  have h := h0
  rw [rowFi_eq] at h
  clear h0
  have hn : n = (ms.map fi).length := by have := h.1; simpa using this.symm
  rcases h.2 with ⟨hv, h0⟩ | ⟨g, cap, cur, hv, hb, hg, hnc, hcm, _⟩
  · exact ⟨none, 0, 0, by rw [hv, h0], by omega, by unfold maxLen; omega, ⟨fun h1 => by omega, fun h1 => by omega, fun j hj => by omega⟩⟩
  · refine ⟨some ⟨g, 0, none⟩, g, cap, hv, hnc, hcm, ⟨fun _ => rfl, fun _ => (Array.getElem?_eq_some_iff.1 hg).1, fun j hj => ?_⟩⟩
    have h2 := h
    rw [hv] at h2
    rw [Nat.zero_add, h2.cellAt j (by omega), List.getElem?_map, getD_some hj]; rfl

set_option maxRecDepth 100000 in
set_option maxHeartbeats 6400000 in
theorem whole_walk (p : Option Addr) (g off L c : Nat) (xs : List Int) (w : World) (hs : SrcI w p g off xs) (hL : L ≤ 9223372036854775807) (hx : xs.length = min L 200) :
    Calls Try.prog 6 #[.slice p L c] w fun e w' => e = .returned (.bool true) ∧ Below w.heap.size w w' := by
  obtain ⟨i0, hi, hz0, hz1, hz2⟩ := info_parts infoF
  have HS := hideS (And.intro hs hx)
  obtain ⟨n, hN⟩ : ∃ n, min L 200 = n := ⟨_, rfl⟩
  have hnL : n ≤ L := by omega
  have hn2 : n ≤ 200 := by omega
  have hn3 : ∀ k : Nat, k ≤ n → ¬ k < n → ¬ (k < L ∧ k < 200) := fun k h1 h2 => by omega
  have HX : Hid (xs.length = n) := by show _ = _; omega
  clear hs hx
  go_enter Try.func6, Try.ntmps6
  go_wp2_with fail
  go_loopw [3, 4, 5, 6, 7] (fun v s z i _ wr => ∃ (k : Nat) (S Z : Int), k ≤ n ∧ i = .int .i64 k ∧ s = .int .i64 S ∧ z = .int .i64 Z ∧ Hid (S = isum (remL xs k) ∧ Z = (asum (remL xs k) : Int)) ∧ Hid (wr.ownsRow w.heap.size 29 1 v k (rowFi (remL xs k))) ∧ Hid (Below w.heap.size w wr)) (fun _ _ _ i _ _ => n - (intOf i).toNat)
  case atStart => exact ⟨0, 0, 0, Nat.zero_le _, rfl, rfl, rfl, ⟨rfl, rfl⟩, World.ownsRow_nil _ _ _ _, Below.refl _ _⟩
  case round =>
    obtain ⟨k, S, Z, hk, rfl, rfl, rfl, HZ, HO, HB⟩ := hrel
    have b1 := remL_sum k (xs := xs) (by rw [HX.out]; exact hk)
    have b2 := isum_le (remL xs k)
    have hS : -(k * 17592186044416 : Int) ≤ S ∧ S ≤ k * 17592186044416 := by rw [HZ.out.1]; omega
    have hZ : 0 ≤ Z ∧ Z ≤ k * 17592186044416 := by rw [HZ.out.2]; omega
    clear b1 b2
    by_cases hlt : k < n
    · have hx : k < xs.length := by rw [HX.out]; exact hlt
      obtain rfl := HS.out.1.at_ (by omega)
      have hcx : wr.cell? ⟨g, off + k, none⟩ = some (.int .i64 (xs.getD k 0)) := (HB.out.cell (p := ⟨g, off + k, none⟩) (HS.out.1.lt (by omega))).trans (HS.out.1.cell k hx)
      have HNx := hideS (remL_next hx)
      have hbd := rem_bd (xs.getD k 0)
      clear hx
      generalize xs.getD k 0 = x at hcx HNx hbd
      obtain ⟨m, hm⟩ : ∃ m, x.tmod 17592186044416 = m := ⟨_, rfl⟩
      rw [hm] at HNx hbd
      have hfo := floatOf_fi m
      have hmx : max m (-m) = (m.natAbs : Int) := by omega
      have HN2 : Hid (S + m = isum (remL xs (k + 1)) ∧ Z + (m.natAbs : Int) = (asum (remL xs (k + 1)) : Int)) := by
        rw [HNx.out, isum_append, asum_append]
        refine ⟨?_, ?_⟩
        · rw [HZ.out.1]; simp [isum]
        · rw [HZ.out.2]; simp [asum]
      have HO2 : Hid (rowFi (remL xs (k + 1)) = rowFi (remL xs k) ++ [fV (fi m)]) := by show _ = _; rw [HNx.out]; unfold rowFi; simp
      have hkL : (k : Int) < L := by omega
      generalize fi m = fm at *
      generalize (m.natAbs : Int) = am at *
      have ham : 0 ≤ am ∧ am < 17592186044416 := by omega
      have hsz := HB.out.size
      go_wp2_with (at_builtin; refine wpList_append_own _ rfl _ _ 22 rfl w.heap.size 29 i0 (.float .f64 0) 1 8 Try.underlying22 hi hz0 hz1 hz2 rfl (by decide) _ _ _ rfl (HO.out.alloc _) ⟨wr.heap.size, 0, none⟩ 1 1 [fV fm] rfl rfl ?c1 ?c2 ?c3 ?c4 ?c5 ?_)
      case c1 =>
        intro j u hj
        match j, hj with
        | 0, hj => simp at hj; subst hj; simp [Addr.add, fV]
      case c2 => intro u hu; simp at hu; subst hu; rfl
      case c3 => unfold maxLen; omega
      case c4 => omega
      case c5 => simp; omega
      · intro v' w1 hown' hgrow _
        have hlow := HO.out.lt
        have HB1 := hideS ((HB.out.alloc hsz (.cells #[.float .f64 fm] 29)).grown hgrow (by simp; omega) (fun j hj => (hlow j hj).1))
        rw [← HO2.out] at hown'
        have HO1 := hideS hown'
        clear hown' hgrow hlow
        go_wp2_with fail
        go_roundw
        case rel => exact ⟨k + 1, S + m, Z + am, by omega, by simp, rfl, rfl, HN2, HO1, HB1⟩
        case measure => simp [intOf]; omega
    · obtain rfl : k = n := by omega
      have hZ2 : ¬ (9007199254740992 < Z) := by omega
      obtain ⟨pv, gv, cv, rfl, hc1, hc2, hsr⟩ := ownF_src HO.out
      have hA : asum (remL xs k) ≤ 9007199254740992 := by have := HZ.out.2; omega
      have hlen : (remL xs k).length = k := remL_len (by rw [HX.out]; exact Nat.le_refl _)
      have hI := isum_le (remL xs k)
      have HLe : Hid (Calls Try.prog 26 #[.slice pv k cv] wr fun e w' => e = .returned (.float .f64 (fi S)) ∧ w' = wr) := by
        have := left_whole pv gv 0 cv (remL xs k) wr hsr hA (by omega)
        rw [hlen, ← HZ.out.1] at this; exact this
      have HPa : Hid (Calls Try.prog 27 #[.slice pv k cv] wr fun e w' => e = .returned (.float .f64 (fi S)) ∧ ∃ q, w' = wr.drewN q) := by
        have := pair_whole k pv gv 0 cv (remL xs k) wr hlen hsr hA hc1 (by unfold maxLen at hc2; omega)
        rw [← HZ.out.1] at this; exact this
      have HKa : Hid (∀ q, Calls Try.prog 28 #[.slice pv k cv] (wr.drewN q) fun e w' => e = .returned (.float .f64 (fi S)) ∧ w' = wr.drewN q) := fun q => by
        have := kahan_whole pv gv 0 cv (remL xs k) (wr.drewN q) (hsr.drewN q) hA (by omega)
        rw [hlen, ← HZ.out.1] at this; exact this
      have HSu : Hid (∀ q, Calls Try.prog 14 #[.slice pv k cv] (wr.drewN q) fun e w' => e = .returned (.float .f64 (fi S)) ∧ Below wr.heap.size wr w') := fun q => by
        have hfit : FitU ((remL xs k).map fi) := fun y hy => by
          obtain ⟨m, hm, rfl⟩ := List.mem_map.1 hy
          have hm2 : m.natAbs ≤ asum (remL xs k) := asum_mem hm
          exact (vI_fi (m := m) rfl (by omega) (by omega)).2.2.2
        have := sum_any pv gv 0 cv ((remL xs k).map fi) (wr.drewN q) (hsr.drewN q) hfit (by simp; omega)
        rw [val_sum _ hA, List.length_map, hlen, ← HZ.out.1] at this
        exact this.mono fun _ _ ⟨a, b⟩ => ⟨a, ⟨b.os, b.tape, b.output, b.size, b.block⟩⟩
      have hfo := floatOf_fi S
      have heq := eq_fi (m := S) (by have := HZ.out.1; omega) (by have := HZ.out.1; omega)
      have B0 := hideS HB.out
      clear hsr hA hlen hI HZ HO HB hS
      generalize fi S = r at *
      rcases (show (¬ k < L) ∨ (k < L ∧ ¬ k < 200) by omega) with hq | ⟨hq, hq2⟩
      all_goals
        go_wp2_with fail
        refine (turned HLe.out).mono ?_
        rintro e w' ⟨rfl, rfl⟩
        go_wp2_with fail
        refine HPa.out.mono ?_
        rintro e w' ⟨rfl, q, rfl⟩
        go_wp2_with fail
        refine (turned (HKa.out q)).mono ?_
        rintro e w1 ⟨rfl, hw1⟩
        rw [← hw1]
        clear hw1
        go_wp2_with fail
        refine (HSu.out q).mono ?_
        rintro e w2 ⟨rfl, hb⟩
        have B2 : Hid (Below w.heap.size w w2) := B0.out.trans (hb.mono B0.out.size)
        clear hb B0
        go_wp2_with fail
        refine (awake3 _).mono ?_
        rintro e w3 ⟨rfl, hb⟩
        have B3 : Hid (Below w.heap.size w w3) := B2.out.trans (hb.mono B2.out.size)
        clear hb B2
        go_wp2_with fail
        go_ret
        exact ⟨rfl, B3.out⟩
end Go.Proofs.Ytejpplcccbiplaa
