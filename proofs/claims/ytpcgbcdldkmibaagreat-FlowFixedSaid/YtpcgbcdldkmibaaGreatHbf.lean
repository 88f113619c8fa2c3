/- The contract of the document's DivDigits: bit by bit. The contract of the document's NearOver. The document's Year. Quotients rounded once: how many bits are reckoned beyond those that count makes nothing. The year of a fraction: one rounding of a quotient; it rises. No word of the program. The contract of the document's Div at any bits. Go's quotient of two whole floats is the year's rounding. No word of the program. The contract of Year: one rounding of a quotient of whole numbers. -/
import Derived.Test.YtpcgbcdldkmibaaGreatHbe
import Derived.Test.YtpcgbcdldkmibaaGreatHap
import Derived.Test.YtpcgbcdldkmibaaGreatHbb
import Derived.Test.YtpcgbcdldkmibaaGreatNFrac
namespace Go.Proofs.YtpcgbcdldkmibaaGreat
open Go.RowKit

theorem bit_dgt (A i j r : Nat) (hj : i = 32 * j + r) (hr : r < 32) : dgt A j / 2 ^ r % 2 = A / 2 ^ i % 2 := by
  unfold dgt
  have e : A / 2 ^ i = A / 2 ^ (32 * j) / 2 ^ r := by rw [Nat.div_div_eq_div_mul, ← Nat.pow_add, ← hj]
  rw [e]
  generalize A / 2 ^ (32 * j) = M
  have e2 : (4294967296 : Nat) = 2 ^ r * 2 ^ (32 - r) := by rw [← Nat.pow_add, show r + (32 - r) = 32 by omega]
  rw [e2, Nat.mod_mul_right_div_self]
  refine Nat.mod_mod_of_dvd _ ?_
  rw [show 32 - r = (31 - r) + 1 by omega, Nat.pow_succ]
  exact Nat.dvd_mul_left 2 _
theorem div_bit {A B i R b : Nat} (hB : 0 < B) (hR : R = A / 2 ^ (i + 1) % B) (hb : b = A / 2 ^ i % 2) :
    (B ≤ R * 2 + b → A / 2 ^ i % B = R * 2 + b - B ∧ A / 2 ^ i / B * 2 ^ i = A / 2 ^ (i + 1) / B * 2 ^ (i + 1) + 2 ^ i) ∧
    (R * 2 + b < B → A / 2 ^ i % B = R * 2 + b ∧ A / 2 ^ i / B * 2 ^ i = A / 2 ^ (i + 1) / B * 2 ^ (i + 1)) := by
  have e : A / 2 ^ (i + 1) = A / 2 ^ i / 2 := by rw [Nat.div_div_eq_div_mul, ← Nat.pow_succ]
  rw [e] at hR ⊢
  generalize A / 2 ^ i = M at *
  have h1 := Nat.div_add_mod (M / 2) B
  have h2 : M / 2 % B < B := Nat.mod_lt _ hB
  rw [← hR] at h1 h2
  generalize M / 2 / B = q at *
  have e3 : q * 2 ^ (i + 1) = 2 * q * 2 ^ i := by rw [Nat.pow_succ, ← Nat.mul_assoc, Nat.mul_comm, ← Nat.mul_assoc]
  rw [e3]
  refine ⟨fun c => ?_, fun c => ?_⟩
  · have hM : M = (R * 2 + b - B) + B * (2 * q + 1) := by
      have : B * (2 * q + 1) = 2 * (B * q) + B := by rw [Nat.mul_add, Nat.mul_one, Nat.mul_left_comm]
      omega
    have m1 : M % B = R * 2 + b - B := by rw [hM, Nat.add_mul_mod_self_left, Nat.mod_eq_of_lt (by omega)]
    have m2 : M / B = 2 * q + 1 := by rw [hM, Nat.add_mul_div_left _ _ hB, Nat.div_eq_of_lt (by omega), Nat.zero_add]
    rw [m1, m2, Nat.add_mul, Nat.one_mul]
    exact ⟨rfl, rfl⟩
  · have hM : M = (R * 2 + b) + B * (2 * q) := by
      have : B * (2 * q) = 2 * (B * q) := by rw [Nat.mul_left_comm]
      omega
    have m1 : M % B = R * 2 + b := by rw [hM, Nat.add_mul_mod_self_left, Nat.mod_eq_of_lt (by omega)]
    have m2 : M / B = 2 * q := by rw [hM, Nat.add_mul_div_left _ _ hB, Nat.div_eq_of_lt (by omega), Nat.zero_add]
    rw [m1, m2]
    exact ⟨rfl, rfl⟩
theorem put_bit {Q i j r : Nat} (hj : i = 32 * j + r) (hr : r < 32) :
    dgt (Q * 2 ^ (i + 1)) j + 2 ^ r < 4294967296 ∧ setD (Q * 2 ^ (i + 1)) j (dgt (Q * 2 ^ (i + 1)) j + 2 ^ r) = Q * 2 ^ (i + 1) + 2 ^ i := by
  constructor
  · unfold dgt
    have e : Q * 2 ^ (i + 1) = Q * 2 ^ (r + 1) * 2 ^ (32 * j) := by rw [Nat.mul_assoc, ← Nat.pow_add]; congr 2; omega
    have e2 : (4294967296 : Nat) = 2 ^ (31 - r) * 2 ^ (r + 1) := by rw [← Nat.pow_add, show 31 - r + (r + 1) = 32 by omega]
    rw [e, Nat.mul_div_cancel _ (Nat.two_pow_pos _)]
    have h1 : Q * 2 ^ (r + 1) % 4294967296 = (Q % 2 ^ (31 - r)) * 2 ^ (r + 1) := by rw [e2, Nat.mul_mod_mul_right]
    have h2 : Q % 2 ^ (31 - r) < 2 ^ (31 - r) := Nat.mod_lt _ (Nat.two_pow_pos _)
    have h3 : (Q % 2 ^ (31 - r) + 1) * 2 ^ (r + 1) ≤ 2 ^ (31 - r) * 2 ^ (r + 1) := Nat.mul_le_mul_right _ h2
    rw [← e2, Nat.add_mul, Nat.one_mul, Nat.pow_succ] at h3
    rw [h1, Nat.pow_succ]
    have h4 := Nat.two_pow_pos r
    omega
  · have h := setD_sum (Q * 2 ^ (i + 1)) j (dgt (Q * 2 ^ (i + 1)) j + 2 ^ r)
    rw [Nat.add_mul, ← Nat.pow_add, show r + 32 * j = i by omega] at h
    omega
theorem from_mono {A B : Nat} {v : Value} (h : From B v) (hle : A ≤ B) : From A v := fun a l c e => Nat.le_trans hle (h a l c e)
theorem dn_shape {w : World} {v : Value} {N : Nat} (h : DN w v N) : ∃ p l c, v = .slice p l c := by obtain ⟨p, c, e⟩ := h.form; exact ⟨p, _, c, e⟩
theorem own_below2 {w w' : World} {b n M s : Nat} (h : Own w b n M) (hb : b < s) (hB : Below s w w') : Own w' b n M := by
  obtain ⟨c, h1, h2, h3⟩ := h
  exact ⟨c, by rw [hB.block b hb]; exact h1, h2, h3⟩
theorem bl_nd2 (N : Nat) : bl N ≤ 32 * nd N := by
  unfold bl nd
  by_cases h : N = 0
  · rw [if_pos h]; omega
  · rw [if_neg h, if_neg h]; omega
theorem dn_one (w : World) : DN (w.alloc (.cells #[.int .u64 1] 32)) (.slice (some ⟨w.heap.size, 0, none⟩) 1 1) 1 := by
  refine Or.inr ⟨by decide, w.heap.size, 1, by rw [show nd 1 = 1 by decide], by decide, by simp, fun i hi => ?_⟩
  rw [show nd 1 = 1 by decide] at hi
  rw [show i = 0 by omega]
  simp
  decide

set_option maxRecDepth 10000 in
set_option maxHeartbeats 1600000 in
theorem divDigits_row (g c n L A B : Nat) (vb : Value) (w : World) (hrow : Hid (RowIs w g n A)) (hg : g < w.heap.size) (hA0 : A ≠ 0) (hn0 : Hid (nd A = n)) (hnc : n ≤ c) (hL : Hid (bl A = L)) (hLn : L ≤ 32 * n) (hB : DN w vb B) (hB0 : 0 < B) (hn : n ≤ 10000) (hbd : nd B ≤ 10000) :
    Calls Tryz.prog 72 #[.slice (some ⟨g, 0, none⟩) n c, vb] w fun e w' => ∃ q r, e = .returned (.tuple #[q, r]) ∧ DN w' q (A / B) ∧ DN w' r (A % B) ∧ From w.heap.size q ∧ From w.heap.size r ∧ Below w.heap.size w w' := by
  have hmk := fun w => run_make_row' (P := Tryz.prog) 90 32 (.int .u64 0) 8 Tryz.underlying90 info_u64 rfl .i64 .i64 n (by omega) (by omega) w
  have HO := hide (own_made w n)
  have HW0 : Hid (Below w.heap.size w (w.alloc (.cells (madeCells #[.int .u64 0] n) 32))) := (Below.refl _ _).alloc (Nat.le_refl _) _
  have HDA : Hid (DN w (.slice (some ⟨g, 0, none⟩) n c) A) := Or.inr ⟨hA0, g, c, by rw [hn0.out], by rw [hn0.out]; exact hnc, hg, by rw [hn0.out]; exact hrow.out⟩
  have HLen : Hid (∀ w', Below w.heap.size w w' → Calls Tryz.prog 71 #[.slice (some ⟨g, 0, none⟩) n c] w' fun e w'' => e = .returned (.int .i64 (L : Int)) ∧ w' = w'') := fun w' hb => by
    have := len_any _ A w' (HDA.out.below hb) (by rw [hn0.out]; omega)
    rw [hL.out] at this
    exact this.mono fun _ _ ⟨a, b⟩ => ⟨a, b.symm⟩
  have HB := hide hB
  have HAlt : Hid (A < 2 ^ L) := by
    show A < 2 ^ L
    rw [← hL.out]; unfold bl; rw [if_neg hA0]; exact Nat.lt_log2_self
  clear hB
  go_enter Tryz.func72, Tryz.ntmps72
  go_wp2_with fail
  refine (HLen.out _ HW0.out).mono ?_
  rintro e w' ⟨rfl, rfl⟩
  go_wp2_with fail
  go_loopw [6, 8] (fun v i wr => ∃ k : Nat, k ≤ L ∧ i = .int .i64 ((k : Int) - 1) ∧ Hid (DN wr v (A / 2 ^ k % B)) ∧ Hid (From (w.heap.size + 1) v) ∧ Hid (Own wr w.heap.size n (A / 2 ^ k / B * 2 ^ k)) ∧ Hid (Below w.heap.size w wr)) (fun _ i _ => (intOf i + 1).toNat)
  case atStart =>
    have e : A / 2 ^ L = 0 := Nat.div_eq_of_lt HAlt.out
    exact ⟨L, Nat.le_refl _, rfl, by rw [e, Nat.zero_mod]; exact Or.inl ⟨rfl, _, _, rfl⟩, from_nil _, by rw [e, Nat.zero_div, Nat.zero_mul]; exact HO, HW0⟩
  case round =>
    clear HO hmk HW0
    obtain ⟨k, hk, rfl, HD, HFr, HOwn, HBl⟩ := hrel
    cases k with
    | zero =>
      rw [Nat.pow_zero, Nat.div_one] at HD HOwn
      rw [Nat.mul_one] at HOwn
      have hM : Hid (A / B < 2 ^ (32 * n)) := Nat.lt_of_le_of_lt (Nat.div_le_self _ _) (by rw [← hn0.out]; exact nd_lt A)
      have hlt2 := HOwn.out.lt
      have HQ := hide (dn_mk HOwn.out.row hM.out (Nat.le_refl _) hlt2)
      go_wp2_with fail
      refine (trim_row _ _ _ _ _ HOwn.out.row hM.out (Nat.le_refl _) (by omega)).mono ?_
      rintro e w' ⟨rfl, rfl⟩
      go_wp2_with fail
      go_ret2
      exact ⟨_, _, rfl, HQ.out, HD.out, from_at _ _ _ _ (Nat.le_refl _), from_mono HFr.out (by omega), HBl.out⟩
    | succ i =>
      have hz : w.heap.size < wr.heap.size := HOwn.out.lt
      obtain ⟨R, hR⟩ : ∃ R, R = A / 2 ^ (i + 1) % B := ⟨_, rfl⟩
      rw [← hR] at HD
      obtain ⟨pv, cv, rfl⟩ := HD.out.form
      have hRB : R < B := by rw [hR]; exact Nat.mod_lt _ hB0
      have HRd : Hid (nd R ≤ 10000000) := by
        have h1 : R < 2 ^ (32 * nd B) := Nat.lt_trans hRB (nd_lt B)
        have := nd_mono h1
        show nd R ≤ 10000000
        omega
      obtain ⟨b, hb⟩ : ∃ b, b = A / 2 ^ i % 2 := ⟨_, rfl⟩
      have HBit := hide (div_bit hB0 hR hb)
      obtain ⟨S, hS⟩ : ∃ S, R * 2 + b = S := ⟨_, rfl⟩
      rw [hS] at HBit
      have hSB : S < 2 * B := by
        have : b < 2 := by rw [hb]; exact Nat.mod_lt _ (by decide)
        omega
      have HSd : Hid (nd S ≤ 10000000) := by
        have h1 : S < 2 ^ (32 * (nd B + 1)) := by
          have := nd_lt B
          rw [pow32]; omega
        have := nd_mono h1
        show nd S ≤ 10000000
        omega
      obtain ⟨j, r, hij, hr⟩ : ∃ j r, i = 32 * j + r ∧ r < 32 := ⟨i / 32, i % 32, by omega, by omega⟩
      have hjn : j < n := by omega
      have hq : (i : Int) / 32 = j := by omega
      have hrr : (i : Int) % 32 = r := by omega
      have HIJ := hide hij
      have hrow2 := hrow.out j hjn
      have hca : wr.cell? ⟨g, j, none⟩ = some (.int .u64 (dgt A j : Int)) := (HBl.out.cell (p := ⟨g, j, none⟩) hg).trans (hrow.out j hjn)
      have hbit : ((dgt A j : Int) / 2 ^ r).tmod 2 = b := by
        have := bit_dgt A i j r hij hr
        rw [← hb] at this
        rw [← this]
        have e1 : ((2 : Int) ^ r) = ((2 ^ r : Nat) : Int) := by rw [Int.natCast_pow]; rfl
        rw [e1, ← Int.natCast_ediv, Int.tmod_eq_emod_of_nonneg (Int.natCast_nonneg _)]; rfl
      have HPut := hide (put_bit (Q := A / 2 ^ (i + 1) / B) hij hr)
      have hdl := dgt_lt A j
      generalize dgt A j = D at hca hbit hdl
      have HSh : Hid (Calls Tryz.prog 73 #[.slice pv (nd R) cv, .int .i64 1] wr fun e w' => ∃ v, e = .returned v ∧ DN w' v (R * 2) ∧ From wr.heap.size v ∧ Below wr.heap.size wr w') := shiftUp_new _ R 1 wr HD.out HRd.out (by omega)
      have hS2 : b = 0 ∧ R * 2 = S ∨ b = 1 ∧ R * 2 + 1 = S := by
        have : b < 2 := by rw [hb]; exact Nat.mod_lt _ (by decide)
        omega
      clear hR hb HD HFr hS hij hrow2
      generalize nd R = lR at *
      have hi1 : ((i + 1 : Nat) : Int) - 1 = i := by omega
      rw [hi1]
      go_wp2_with fail
      refine HSh.out.mono ?_
      rintro e w1 ⟨v1, rfl, hd1, hf1, hb1⟩
      obtain ⟨p1, l1, c1, rfl⟩ := dn_shape hd1
      have hca1 : w1.cell? ⟨g, j, none⟩ = some (.int .u64 (D : Int)) := (hb1.cell (p := ⟨g, j, none⟩) (Nat.lt_of_lt_of_le hg HBl.out.size)).trans hca
      have hz1 : wr.heap.size ≤ w1.heap.size := hb1.size
      have HB1 := hide hb1
      clear hb1 HSh hca
      rcases hS2 with ⟨rfl, hS⟩ | ⟨rfl, hS⟩
      · have hbt : (((D : Int) / 2 ^ r).tmod 2 == 1) = false := by rw [hbit]; rfl
        clear hbit
        rw [hS] at hd1
        have HD1 := hide hd1
        have HF1 := hide hf1
        clear hd1 hf1 hS
        go_wp2_with fail
        have HX1 := HB1
        by_cases hc : B ≤ S
        · obtain ⟨t, ht, ht0⟩ : ∃ t : Int, cmpN S B = t ∧ 0 ≤ t := by
            rcases Nat.lt_or_eq_of_le hc with h | h
            · exact ⟨1, cmpN_gt h, by decide⟩
            · exact ⟨0, cmpN_eq h.symm, by decide⟩
          have HBw := hide (HBl.out.trans (HX1.out.mono HBl.out.size))
          have HCmp : Hid (Calls Tryz.prog 125 #[.slice p1 l1 c1, vb] w1 fun e w' => e = .returned (.int .i64 t) ∧ ∃ q, w' = w1.drewN q) := by
            rw [← ht]; exact cmpDigits_any _ _ S B w1 HD1.out (HB.out.below HBw.out) HSd.out
          refine HCmp.out.mono ?_
          rintro e w3 ⟨rfl, q3, hq3⟩
          have HB3 : Hid (Below w1.heap.size w1 w3) := by rw [hq3]; exact below_drewN (Below.refl _ _) _
          have HB3w := hide (HBw.out.trans (HB3.out.mono HBw.out.size))
          have HSub := hide (subDigits_any _ _ S B w3 (HD1.out.below HB3.out) (HB.out.below HB3w.out) HSd.out hc)
          obtain ⟨hm1, hm2⟩ := HBit.out.1 hc
          rw [← hm1] at HSub
          have HM2 := hide hm2
          clear ht hm1 hm2 hq3 HCmp
          go_wp2_with fail
          refine HSub.out.mono ?_
          rintro e w4 ⟨v4, rfl, hd4, hf4, hb4⟩
          obtain ⟨p4, l4, c4, rfl⟩ := dn_shape hd4
          have HBwr := hide (HX1.out.trans (HB3.out.mono HX1.out.size))
          have HB4r := hide (HBwr.out.trans (hb4.mono HBwr.out.size))
          have HB4w := hide (HB3w.out.trans (hb4.mono HB3w.out.size))
          have HO4 := hide (own_below2 HOwn.out hz HB4r.out)
          have ho := HO4.out.cell (i := j) hjn
          have fo := HO4.out.frozen j
          obtain ⟨hp1, hp2⟩ := HPut.out
          rw [← HM2.out] at hp2
          have HD4 := hide hd4
          have HF4 := hide (from_mono hf4 (show wr.heap.size ≤ _ from HBwr.out.size))
          obtain ⟨o, hoo⟩ : ∃ o, dgt (A / 2 ^ (i + 1) / B * 2 ^ (i + 1)) j = o := ⟨_, rfl⟩
          rw [hoo] at ho hp1 hp2
          obtain ⟨P, hP⟩ : ∃ P, 2 ^ r = P := ⟨_, rfl⟩
          have wp := wrap_pow hr
          rw [hP] at wp hp1 hp2
          have e1 : ((2 : Int) ^ r) = (P : Int) := by rw [← hP, Int.natCast_pow]; rfl
          have ws : IntKind.u64.wrap ((o : Int) + (P : Int)) = ((o + P : Nat) : Int) := by rw [IntKind.wrap_u64]; omega
          have td : (i : Int).tdiv 32 = j := by rw [Int.tdiv_eq_ediv_of_nonneg (by omega)]; exact hq
          have tm : (i : Int).tmod 32 = r := by rw [Int.tmod_eq_emod_of_nonneg (by omega)]; exact hrr
          have jn : (j : Int) < (n : Int) := by omega
          have HP2 := hide hp2
          clear hd4 hf4 hb4 hoo hP hp2 HPut HBit HOwn HB3 HBw HB3w HSub HD1 HF1 HBl HB1 HX1
          go_wp2_with fail
          go_region
          have HD5 := hide (HD4.out.set (from_mono HF4.out hz) (a := ⟨w.heap.size, j, none⟩) (Nat.lt_succ_self _) (.int .u64 ((o : Int) + (P : Int))))
          have HO5 := hide (Own.put (j := j) (d := o + P) (x := (o : Int) + (P : Int)) HO4.out (by omega) hp1)
          rw [HP2.out] at HO5
          have HB5 := hide (HB4w.out.setCell (p := ⟨w.heap.size, j, none⟩) (Nat.le_refl _) (.int .u64 ((o : Int) + (P : Int)))).drew
          clear HO4 HD4 HB4w HB4r HBwr HP2
          go_wp2_with fail
          go_roundw
          case rel => exact ⟨i, by omega, rfl, HD5, from_mono HF4.out hz, HO5, HB5⟩
          case measure => simp [intOf]
        · obtain ⟨hm1, hm2⟩ := HBit.out.2 (by omega)
          have HBw := hide (HBl.out.trans (HX1.out.mono HBl.out.size))
          have HCmp : Hid (Calls Tryz.prog 125 #[.slice p1 l1 c1, vb] w1 fun e w' => e = .returned (.int .i64 (-1)) ∧ ∃ q, w' = w1.drewN q) := by
            rw [← cmpN_lt (show S < B by omega)]; exact cmpDigits_any _ _ S B w1 HD1.out (HB.out.below HBw.out) HSd.out
          have HO := hide HOwn.out
          rw [← hm2] at HO
          rw [← hm1] at HD1
          refine HCmp.out.mono ?_
          rintro e w3 ⟨rfl, q3, hq3⟩
          have HB3 : Hid (Below w1.heap.size w1 w3) := by rw [hq3]; exact below_drewN (Below.refl _ _) _
          have HB3w := hide (HBw.out.trans (HB3.out.mono HBw.out.size))
          have HD3 := hide (HD1.out.below HB3.out)
          have HO3 := hide (own_below2 HO.out hz ((HX1.out.trans (HB3.out.mono HX1.out.size))))
          clear hm1 hm2 hq3 HCmp HO HOwn HB3 HBw
          go_wp2_with fail
          go_roundw
          case rel => exact ⟨i, by omega, rfl, HD3, from_mono HF1.out (by omega), HO3, HB3w⟩
          case measure => simp [intOf]
      · have hbt : (((D : Int) / 2 ^ r).tmod 2 == 1) = true := by rw [hbit]; rfl
        clear hbit
        have HAdd : Hid (Calls Tryz.prog 124 #[.slice p1 l1 c1, .slice (some ⟨w1.heap.size, 0, none⟩) 1 1] (w1.alloc (.cells #[.int .u64 1] 32)) fun e w' => ∃ v, e = .returned v ∧ DN w' v S ∧ From w1.heap.size v ∧ Below w1.heap.size w1 w') := by
          have hb := (Below.refl w1.heap.size w1).alloc (Nat.le_refl _) (.cells #[.int .u64 1] 32)
          have h2 := HSd.out
          have h3 : nd (R * 2) ≤ 10000000 := Nat.le_trans (nd_mono (Nat.lt_of_le_of_lt (show R * 2 ≤ S by omega) (nd_lt S))) h2
          have := addDigits_any _ _ (R * 2) 1 _ (hd1.below hb) (dn_one w1) h3 (by decide)
          rw [hS] at this
          exact this.mono fun _ _ ⟨v, a, b, c, d⟩ => ⟨v, a, b, from_mono c (by simp), hb.trans (d.mono (by simp))⟩
        clear hd1 hf1 hS
        go_wp2_with fail
        refine HAdd.out.mono ?_
        rintro e w2 ⟨v2, rfl, hd1, hf1, hb1⟩
        obtain ⟨p2, l2, c2, rfl⟩ := dn_shape hd1
        have HD1 := hide hd1
        have HF1 := hide (from_mono hf1 hz1)
        have HB2 := hide (HB1.out.trans (hb1.mono hz1))
        clear hd1 hf1 hb1 HAdd hca1
        go_wp2_with fail
        have HX1 := HB2
        by_cases hc : B ≤ S
        · obtain ⟨t, ht, ht0⟩ : ∃ t : Int, cmpN S B = t ∧ 0 ≤ t := by
            rcases Nat.lt_or_eq_of_le hc with h | h
            · exact ⟨1, cmpN_gt h, by decide⟩
            · exact ⟨0, cmpN_eq h.symm, by decide⟩
          have HBw := hide (HBl.out.trans (HX1.out.mono HBl.out.size))
          have HCmp : Hid (Calls Tryz.prog 125 #[.slice p2 l2 c2, vb] w2 fun e w' => e = .returned (.int .i64 t) ∧ ∃ q, w' = w2.drewN q) := by
            rw [← ht]; exact cmpDigits_any _ _ S B w2 HD1.out (HB.out.below HBw.out) HSd.out
          refine HCmp.out.mono ?_
          rintro e w3 ⟨rfl, q3, hq3⟩
          have HB3 : Hid (Below w2.heap.size w2 w3) := by rw [hq3]; exact below_drewN (Below.refl _ _) _
          have HB3w := hide (HBw.out.trans (HB3.out.mono HBw.out.size))
          have HSub := hide (subDigits_any _ _ S B w3 (HD1.out.below HB3.out) (HB.out.below HB3w.out) HSd.out hc)
          obtain ⟨hm1, hm2⟩ := HBit.out.1 hc
          rw [← hm1] at HSub
          have HM2 := hide hm2
          clear ht hm1 hm2 hq3 HCmp
          go_wp2_with fail
          refine HSub.out.mono ?_
          rintro e w4 ⟨v4, rfl, hd4, hf4, hb4⟩
          obtain ⟨p4, l4, c4, rfl⟩ := dn_shape hd4
          have HBwr := hide (HX1.out.trans (HB3.out.mono HX1.out.size))
          have HB4r := hide (HBwr.out.trans (hb4.mono HBwr.out.size))
          have HB4w := hide (HB3w.out.trans (hb4.mono HB3w.out.size))
          have HO4 := hide (own_below2 HOwn.out hz HB4r.out)
          have ho := HO4.out.cell (i := j) hjn
          have fo := HO4.out.frozen j
          obtain ⟨hp1, hp2⟩ := HPut.out
          rw [← HM2.out] at hp2
          have HD4 := hide hd4
          have HF4 := hide (from_mono hf4 (show wr.heap.size ≤ _ from HBwr.out.size))
          obtain ⟨o, hoo⟩ : ∃ o, dgt (A / 2 ^ (i + 1) / B * 2 ^ (i + 1)) j = o := ⟨_, rfl⟩
          rw [hoo] at ho hp1 hp2
          obtain ⟨P, hP⟩ : ∃ P, 2 ^ r = P := ⟨_, rfl⟩
          have wp := wrap_pow hr
          rw [hP] at wp hp1 hp2
          have e1 : ((2 : Int) ^ r) = (P : Int) := by rw [← hP, Int.natCast_pow]; rfl
          have ws : IntKind.u64.wrap ((o : Int) + (P : Int)) = ((o + P : Nat) : Int) := by rw [IntKind.wrap_u64]; omega
          have td : (i : Int).tdiv 32 = j := by rw [Int.tdiv_eq_ediv_of_nonneg (by omega)]; exact hq
          have tm : (i : Int).tmod 32 = r := by rw [Int.tmod_eq_emod_of_nonneg (by omega)]; exact hrr
          have jn : (j : Int) < (n : Int) := by omega
          have HP2 := hide hp2
          clear hd4 hf4 hb4 hoo hP hp2 HPut HBit HOwn HB3 HBw HB3w HSub HD1 HF1 HBl HB1 HX1
          go_wp2_with fail
          go_region
          have HD5 := hide (HD4.out.set (from_mono HF4.out hz) (a := ⟨w.heap.size, j, none⟩) (Nat.lt_succ_self _) (.int .u64 ((o : Int) + (P : Int))))
          have HO5 := hide (Own.put (j := j) (d := o + P) (x := (o : Int) + (P : Int)) HO4.out (by omega) hp1)
          rw [HP2.out] at HO5
          have HB5 := hide (HB4w.out.setCell (p := ⟨w.heap.size, j, none⟩) (Nat.le_refl _) (.int .u64 ((o : Int) + (P : Int)))).drew
          clear HO4 HD4 HB4w HB4r HBwr HP2
          go_wp2_with fail
          go_roundw
          case rel => exact ⟨i, by omega, rfl, HD5, from_mono HF4.out hz, HO5, HB5⟩
          case measure => simp [intOf]
        · obtain ⟨hm1, hm2⟩ := HBit.out.2 (by omega)
          have HBw := hide (HBl.out.trans (HX1.out.mono HBl.out.size))
          have HCmp : Hid (Calls Tryz.prog 125 #[.slice p2 l2 c2, vb] w2 fun e w' => e = .returned (.int .i64 (-1)) ∧ ∃ q, w' = w2.drewN q) := by
            rw [← cmpN_lt (show S < B by omega)]; exact cmpDigits_any _ _ S B w2 HD1.out (HB.out.below HBw.out) HSd.out
          have HO := hide HOwn.out
          rw [← hm2] at HO
          rw [← hm1] at HD1
          refine HCmp.out.mono ?_
          rintro e w3 ⟨rfl, q3, hq3⟩
          have HB3 : Hid (Below w2.heap.size w2 w3) := by rw [hq3]; exact below_drewN (Below.refl _ _) _
          have HB3w := hide (HBw.out.trans (HB3.out.mono HBw.out.size))
          have HD3 := hide (HD1.out.below HB3.out)
          have HO3 := hide (own_below2 HO.out hz ((HX1.out.trans (HB3.out.mono HX1.out.size))))
          clear hm1 hm2 hq3 HCmp HO HOwn HB3 HBw
          go_wp2_with fail
          go_roundw
          case rel => exact ⟨i, by omega, rfl, HD3, from_mono HF1.out (by omega), HO3, HB3w⟩
          case measure => simp [intOf]
theorem divDigits_any (v vb : Value) (A B : Nat) (w : World) (hA : DN w v A) (hB : DN w vb B) (hA0 : A ≠ 0) (hB0 : 0 < B) (ha : nd A ≤ 10000) (hb : nd B ≤ 10000) :
    Calls Tryz.prog 72 #[v, vb] w fun e w' => ∃ q r, e = .returned (.tuple #[q, r]) ∧ DN w' q (A / B) ∧ DN w' r (A % B) ∧ From w.heap.size q ∧ From w.heap.size r ∧ Below w.heap.size w w' := by
  rcases hA with ⟨h0, _⟩ | ⟨h0, g, c, rfl, hc, hg, hr⟩
  · exact absurd h0 hA0
  · exact divDigits_row g c (nd A) (bl A) A B vb w hr hg h0 rfl hc rfl (bl_nd2 A) hB hB0 ha hb
end Go.Proofs.YtpcgbcdldkmibaaGreat
namespace Go.Proofs.YtpcgbcdldkmibaaGreat
open Go.RowKit

set_option maxRecDepth 10000 in
set_option maxHeartbeats 1600000 in
theorem nearOver_at (nx ny mo : Bool) (vx vy : Value) (ex ey res : Int) (X Y k lr : Nat) (w : World) (hX : DN w vx X) (hY : DN w vy Y) (hX0 : X ≠ 0) (hY0 : Y ≠ 0) (hXd : nd X ≤ 300) (hYd : nd Y ≤ 100)
    (he : -10000 ≤ ex) (he' : ex ≤ 10000) (hf : -10000 ≤ ey) (hf' : ey ≤ 10000) (hk : max 0 (70 - (bl X : Int) + (bl Y : Int)) = (k : Int)) (hlr : Hid (nd (X * 2 ^ k % Y) = lr)) (hmo : decide (0 < lr) = mo) (hres : Hid (nearM nx (X * 2 ^ k / Y) (ex - k - ey) mo = res)) :
    Calls Tryz.prog 38 #[.agg #[.bool nx, vx, .int .i64 ex], .agg #[.bool ny, vy, .int .i64 ey]] w fun x w' => x = .returned (.int .u64 res) ∧ Below w.heap.size w w' := by
  have hbx := bl_nd X
  have hby := bl_nd Y
  have hk1 : k ≤ 10000 := by omega
  obtain ⟨px, lx, cx, rfl⟩ := dn_shape hX
  obtain ⟨py, ly, cy, rfl⟩ := dn_shape hY
  have HB0 : Hid (Below w.heap.size w (boxN (boxN w nx (.slice px lx cx) ex) ny (.slice py ly cy) ey)) := (boxN_below w nx (.slice px lx cx) ex).trans ((boxN_below (boxN w nx (.slice px lx cx) ex) ny (.slice py ly cy) ey).mono (by simp))
  have HZ := hide (box2_size w nx (.slice px lx cx) ex ny (.slice py ly cy) ey)
  have H60 := hide (six_box w nx (.slice px lx cx) ex ny (.slice py ly cy) ey)
  have HX := hide fun w' (hb : Below w.heap.size w w') => hX.below hb
  have HY := hide fun w' (hb : Below w.heap.size w w') => hY.below hb
  have HXn := hide hX0
  have HA0 : Hid (X * 2 ^ k ≠ 0) := by
    have := Nat.mul_pos (show 0 < X by omega) (Nat.two_pow_pos k)
    show X * 2 ^ k ≠ 0
    omega
  have HAd : Hid (nd (X * 2 ^ k) ≤ 10000) := by
    have h1 : X * 2 ^ k < 2 ^ (32 * nd X) * 2 ^ k := Nat.mul_lt_mul_of_pos_right (nd_lt X) (Nat.two_pow_pos _)
    rw [← Nat.pow_add] at h1
    have := nd_mono (N := X * 2 ^ k) (k := nd X + k / 32 + 1) (Nat.lt_of_lt_of_le h1 (Nat.pow_le_pow_right (by decide) (by omega)))
    show nd (X * 2 ^ k) ≤ 10000
    omega
  have HQd : Hid (nd (X * 2 ^ k / Y) ≤ 1000000) := by
    have := nd_mono (Nat.lt_of_le_of_lt (Nat.div_le_self (X * 2 ^ k) Y) (nd_lt (X * 2 ^ k)))
    have h2 := HAd.out
    show nd (X * 2 ^ k / Y) ≤ 1000000
    omega
  have HYp : Hid (0 < Y) := by show 0 < Y; omega
  have HXd := hide hXd
  have HYd := hide hYd
  obtain ⟨Bx, hBx⟩ : ∃ Bx : Int, (bl X : Int) = Bx := ⟨_, rfl⟩
  obtain ⟨By, hBy⟩ : ∃ By : Int, (bl Y : Int) = By := ⟨_, rfl⟩
  rw [hBx, hBy] at hk
  have b1 : 0 ≤ Bx := by omega
  have b2 : Bx ≤ 9600 := by omega
  have b3 : 0 ≤ By := by omega
  have b4 : By ≤ 3200 := by omega
  have HBx := hide hBx
  have HBy := hide hBy
  have f1 : IntKind.i64.wrap (70 - Bx) = 70 - Bx := by rw [IntKind.wrap_i64]; omega
  have f2 : IntKind.i64.wrap (70 - Bx + By) = 70 - Bx + By := by rw [IntKind.wrap_i64]; omega
  have f3 : IntKind.i64.wrap (ex - (k : Int)) = ex - (k : Int) := by rw [IntKind.wrap_i64]; omega
  have f4 : IntKind.i64.wrap (ex - (k : Int) - ey) = ex - (k : Int) - ey := by rw [IntKind.wrap_i64]; omega
  clear hX hY hX0 hY0 hBx hBy hbx hby hXd hYd
  go_enter Tryz.func38, Tryz.ntmps38
  go_wp2_with fail
  refine (zero_at _ _ _ X false _ (HX.out _ HB0.out) (decide_eq_false HXn.out)).mono ?_
  rintro x w1 ⟨rfl, hb1⟩
  have H61 := hide (H60.out.below hb1 (by rw [HZ.out]; omega))
  have hz1 : w.heap.size + 2 ≤ w1.heap.size := by have h9 := hb1.size; rw [HZ.out] at h9; exact h9
  have HB1 := hide (HB0.out.trans (hb1.mono HB0.out.size))
  obtain ⟨c0, c1, c2, c3, c4, c5⟩ := H61.out
  clear hb1
  go_wp2_with fail
  go_quiet ((first | (go_at_call_of 71 (Value.slice px lx cx); exact Calls.quiet_of_same (len_at (.slice px lx cx) X Bx _ (HX.out _ (below_drewN HB1.out _)) (by have := HXd.out; omega) HBx)) | (go_at_call_of 71 (Value.slice py ly cy); exact Calls.quiet_of_same (len_at (.slice py ly cy) Y By _ (HY.out _ (below_drewN HB1.out _)) (by have := HYd.out; omega) HBy))))
  obtain ⟨w2, hw2⟩ : ∃ w2, w2 = w1.drewN nq := ⟨_, rfl⟩
  rw [← hw2]
  have H62 : Hid (Six w2 w.heap.size nx (.slice px lx cx) ex ny (.slice py ly cy) ey) := by rw [hw2]; exact H61.out
  have hz2 : w.heap.size + 2 ≤ w2.heap.size := by rw [hw2]; exact hz1
  have HB2 : Hid (Below w.heap.size w w2) := by rw [hw2]; exact below_drewN HB1.out _
  clear hw2 c0 c1 c2 c3 c4 c5 H61 HB1 hz1 H60 HBx HBy hk
  obtain ⟨d0, d1, d2, d3, d4, d5⟩ := H62.out
  have HSh := hide (shiftUp_new (.slice px lx cx) X k w2.drew (HX.out _ HB2.out.drew) (by have := HXd.out; omega) (by omega))
  go_wp2_with fail
  go_region_held3 (fun w' => w'.cell? ⟨w.heap.size, 0, none⟩ = some (.bool nx) ∧ w'.cell? ⟨w.heap.size, 1, none⟩ = some (.slice px lx cx) ∧ w'.cell? ⟨w.heap.size, 2, none⟩ = some (.int .i64 ex) ∧ w'.cell? ⟨w.heap.size + 1, 0, none⟩ = some (.bool ny) ∧ w'.cell? ⟨w.heap.size + 1, 1, none⟩ = some (.slice py ly cy) ∧ w'.cell? ⟨w.heap.size + 1, 2, none⟩ = some (.int .i64 ey)) (first | exact H62.out | exact H63.out | exact H64.out | go_keep) (first | ((go_at_call 73; refine HSh.out.mono ?_; rintro x w3 ⟨v3, rfl, hd3, hf3, hb3⟩; have H63 := hide (Six.below (w := w2.drew) H62.out hb3 (show w.heap.size + 1 < w2.heap.size by omega)); have HB3 := hide (HB2.out.drew.trans (hb3.mono (show w.heap.size ≤ w2.heap.size by omega))); have hz3 : w.heap.size + 2 ≤ w3.heap.size := Nat.le_trans hz2 hb3.size; have HD3 := hide hd3; clear hd3 hf3 hb3)) | ((go_at_call 72; refine (divDigits_any _ (.slice py ly cy) (X * 2 ^ k) Y w3 HD3.out (HY.out _ HB3.out) HA0.out HYp.out HAd.out (by have := HYd.out; omega)).mono ?_; rintro x w4 ⟨vq, vr, rfl, hdq, hdr, hfq, hfr, hb4⟩; have H64 := hide (Six.below H63.out hb4 (show w.heap.size + 1 < w3.heap.size by omega)); have HB4 := hide (HB3.out.trans (hb4.mono HB3.out.size)); obtain ⟨pq, lq, cq, rfl⟩ := dn_shape hdq; obtain ⟨pr, cr, hvr⟩ := hdr.form; rw [hlr.out] at hvr; subst hvr; have HDq := hide hdq; clear hdq hdr hfq hfr hb4)))
  clear d0 d1 d2 d3 d4 d5
  obtain ⟨d0, d1, d2, d3, d4, d5⟩ := H64.out
  have HNr : Hid (Calls Tryz.prog 74 #[.agg #[.bool nx, .slice pq lq cq, .int .i64 (ex - (k : Int) - ey)], .bool mo] w4 fun x w' => x = .returned (.int .u64 res) ∧ Below w4.heap.size w4 w') := by
    rw [← hres.out]
    exact nearMore_any nx mo (.slice pq lq cq) (ex - (k : Int) - ey) (X * 2 ^ k / Y) w4 HDq.out HQd.out (by omega) (by omega)
  clear H62 H63 H64 HB3 HB2 HSh HD3 HX HY HDq HA0 HAd HQd HYp HXd HYd hres hlr f1 f2 f3 f4
  go_wp2_with fail
  refine HNr.out.mono ?_
  rintro x w5 ⟨rfl, hb5⟩
  have HB5 := hide (HB4.out.trans (hb5.mono HB4.out.size))
  clear hb5
  go_wp2_with fail
  go_ret
  exact ⟨rfl, HB5.out⟩
end Go.Proofs.YtpcgbcdldkmibaaGreat
namespace Go.Proofs.YtpcgbcdldkmibaaGreat
open Go.RowKit

def yearK (X Y : Nat) : Nat := (70 - (bl X : Int) + (bl Y : Int)).toNat
def yearB (P Q : Int) : Int := if P = 0 then 0 else nearM (decide (P < 0)) (P.natAbs * 2 ^ yearK P.natAbs Q.natAbs / Q.natAbs) (0 - (yearK P.natAbs Q.natAbs : Int) - 0) (decide (0 < nd (P.natAbs * 2 ^ yearK P.natAbs Q.natAbs % Q.natAbs)))

set_option maxHeartbeats 400000 in
theorem nearOver_zero (nx ny : Bool) (vx vy : Value) (ex ey : Int) (w : World) (hX : DN w vx 0) :
    Calls Tryz.prog 38 #[.agg #[.bool nx, vx, .int .i64 ex], .agg #[.bool ny, vy, .int .i64 ey]] w fun x w' => x = .returned (.int .u64 0) ∧ Below w.heap.size w w' := by
  have HB0 : Hid (Below w.heap.size w (boxN (boxN w nx vx ex) ny vy ey)) := (boxN_below w nx vx ex).trans ((boxN_below (boxN w nx vx ex) ny vy ey).mono (by simp))
  have HZr := hide fun w' (hb : Below w.heap.size w w') => zero_at nx vx ex 0 true w' (hX.below hb) rfl
  clear hX
  go_enter Tryz.func38, Tryz.ntmps38
  go_wp2_with fail
  refine (HZr.out _ HB0.out).mono ?_
  rintro x w1 ⟨rfl, hb1⟩
  have HB1 := hide (HB0.out.trans (hb1.mono HB0.out.size))
  clear hb1
  go_wp2_with fail
  go_ret
  exact ⟨rfl, HB1.out⟩

theorem over_year (P Q : Int) (ny : Bool) (vx vy : Value) (w : World) (hX : DN w vx P.natAbs) (hY : DN w vy Q.natAbs) (hP : -1000000000 ≤ P) (hP' : P ≤ 1000000000) (hQ : 0 < Q) (hQ' : Q ≤ 1000000000) :
    Calls Tryz.prog 38 #[.agg #[.bool (decide (P < 0)), vx, .int .i64 0], .agg #[.bool ny, vy, .int .i64 0]] w fun x w' => x = .returned (.int .u64 (yearB P Q)) ∧ Below w.heap.size w w' := by
  unfold yearB
  by_cases h0 : P = 0
  · subst h0
    rw [if_pos rfl]
    exact nearOver_zero _ ny vx vy 0 0 w hX
  · rw [if_neg h0]
    have h1 : nd P.natAbs ≤ 1 := nd_mono (by simp; omega)
    have h2 : nd Q.natAbs ≤ 1 := nd_mono (by simp; omega)
    exact nearOver_at _ ny _ vx vy 0 0 _ P.natAbs Q.natAbs (yearK P.natAbs Q.natAbs) _ w hX hY (by omega) (by omega) (by omega) (by omega) (by omega) (by omega) (by omega) (by omega) (by unfold yearK; omega) rfl rfl rfl

def Two (b : Nat) (P Q : Int) (w : World) : Prop := w.cell? ⟨b, 0, none⟩ = some (.int .i64 P) ∧ w.cell? ⟨b, 1, none⟩ = some (.int .i64 Q)
theorem Two.below {w w' : World} {b s : Nat} {P Q : Int} (h : Two b P Q w) (hb : Below s w w') (hs : b < s) : Two b P Q w' :=
  ⟨(hb.cell (p := ⟨b, 0, none⟩) hs).trans h.1, (hb.cell (p := ⟨b, 1, none⟩) hs).trans h.2⟩
theorem boxed2 {w w1 : World} {P Q : Int} (h : Below w.heap.size w w1) :
    ∃ wa, w1.alloc (.cells #[.int .i64 P, .int .i64 Q] 86) = wa ∧ Hid (Two w1.heap.size P Q wa) ∧ Hid (w1.heap.size < wa.heap.size) ∧ Hid (Below w.heap.size w wa) :=
  ⟨_, rfl, ⟨(year_box h).1, (year_box h).2.1⟩, (by show w1.heap.size < _; simp), (year_box h).2.2⟩

set_option maxHeartbeats 3200000 in
theorem refYear_ok (kind W a b P Q : Int) (v : Value) (w : World) (hP : -1000000000 ≤ P) (hP' : P ≤ 1000000000) (hQ : 0 < Q) (hQ' : Q ≤ 1000000000)
    (HF : Hid (∀ wx, Below w.heap.size w wx → Calls Tryz.prog 37 #[.int .i64 kind, .agg #[.int .i64 W, v], .int .i64 a, .int .i64 b] wx fun e w' => e = .returned (.tuple #[.agg #[.int .i64 P, .int .i64 Q], .int .i64 0]) ∧ Below wx.heap.size wx w')) :
    Calls Tryz.prog 21 #[.int .i64 kind, .agg #[.int .i64 W, v], .int .i64 a, .int .i64 b] w fun e w' => e = .returned (.tuple #[.int .u64 (yearB P Q), .int .i64 0]) ∧ Below w.heap.size w w' := by
  have HB0 : Hid (Below w.heap.size w (w.alloc (.cells #[.int .i64 W, v] 25))) := (Below.refl w.heap.size w).alloc (Nat.le_refl _) _
  have H1 := hideS fun wx => whole_any P wx (by omega) (by omega)
  have H2 := hideS fun wx => whole_any Q wx (by omega) (by omega)
  have H3 := hideS fun ny vx vy wx hX hY => over_year P Q ny vx vy wx hX hY hP hP' hQ hQ'
  clear hP hP' hQ hQ'
  unfold NumV at H1 H2
  generalize yearB P Q = R at *
  generalize decide (P < 0) = np at *
  generalize decide (Q < 0) = nq at *
  generalize P.natAbs = X at *
  generalize Q.natAbs = Y at *
  go_enter Tryz.func21, Tryz.ntmps21
  go_wp2_with fail
  refine (HF.out _ HB0.out).mono ?_
  rintro e w1 ⟨rfl, hb1⟩
  have HB1 := hideS (HB0.out.trans (hb1.mono (by simp)))
  clear hb1
  go_wp2_with fail
  obtain ⟨wa, hwa, HS1, hz, HBa⟩ := boxed2 (P := P) (Q := Q) HB1.out
  rw [hwa]
  clear hwa
  generalize w1.heap.size = b at *
  go_region_held3 (fun w' => w'.cell? ⟨b, 0, none⟩ = some (.int .i64 P) ∧ w'.cell? ⟨b, 1, none⟩ = some (.int .i64 Q)) (first | exact HS1.out | exact HS2.out | exact HS3.out | exact HS4.out | go_keep) (first | ((go_at_call_of 39 (Value.int IntKind.i64 P); refine (H1.out _).mono ?_; rintro e w2 ⟨vx, rfl, hdx, hb2⟩; obtain ⟨px, lx, cx, rfl⟩ := dn_shape hdx; have HB2 := hideS (HBa.out.drew.trans (hb2.mono HBa.out.drew.size)); have HS2 := hideS (Two.below (w := wa.drew) HS1.out hb2 hz.out); have hz2 := hideS (Nat.lt_of_lt_of_le hz.out hb2.size); have HDx := hideS hdx; clear hb2 hdx)) | ((go_at_call_of 39 (Value.int IntKind.i64 Q); refine (H2.out _).mono ?_; rintro e w3 ⟨vy, rfl, hdy, hb3⟩; obtain ⟨py, ly, cy, rfl⟩ := dn_shape hdy; have HB3 := hideS (HB2.out.trans (hb3.mono HB2.out.size)); have HS3 := hideS (Two.below HS2.out hb3 hz2.out); have hz3 := hideS (Nat.lt_of_lt_of_le hz2.out hb3.size); have HDx3 := hideS (HDx.out.below hb3); have HDy := hideS hdy; clear hb3 hdy)) | ((go_at_call 38; refine (H3.out _ _ _ _ HDx3.out HDy.out).mono ?_; rintro e w4 ⟨rfl, hb4⟩; have HB4 := hideS (HB3.out.trans (hb4.mono HB3.out.size)); have HS4 := hideS (Two.below HS3.out hb4 hz3.out); clear hb4)))
  all_goals
    go_wp2_with fail
    go_ret2
    exact ⟨rfl, HB4.out⟩
end Go.Proofs.YtpcgbcdldkmibaaGreat
namespace Go.Proofs.YtpcgbcdldkmibaaGreat

theorem nearR_stick2 {M s : Nat} {p : Int} (h0 : M ≠ 0) (h : s + 54 ≤ M.log2) : nearR (stick M s false) (s + p) = nearR M p := by
  obtain ⟨h1, _⟩ := log2_stick false (show s ≤ M.log2 by omega) h0
  have hL : lastP (stick M s false) (s + p) = lastP M p := by
    unfold lastP; rw [h1]; congr 1; omega
  have hL2 : (s : Int) + p + 2 ≤ lastP M p := by unfold lastP; omega
  unfold nearR
  rw [hL]
  obtain ⟨d, hd⟩ : ∃ d : Nat, lastP M p = s + p + d := ⟨(lastP M p - (s + p)).toNat, by omega⟩
  have e1 : ((s : Int) + p - lastP M p).toNat = 0 := by omega
  have e2 : (p - lastP M p).toNat = 0 := by omega
  have e3 : (lastP M p - (s + p)).toNat = d := by omega
  have e4 : (lastP M p - p).toNat = d + s := by omega
  rw [e1, e2, e3, e4, Nat.pow_zero, Nat.mul_one, Nat.mul_one]
  have hs : stick M s false = (if M % 2 ^ s = 0 then M / 2 ^ s else (if M / 2 ^ s % 2 = 1 then M / 2 ^ s else M / 2 ^ s + 1)) := by unfold stick; simp only [and_true]
  rw [hs, rne_sticky (by omega)]
def quoS (X Y k : Nat) : Nat := 2 * (X * 2 ^ k / Y) + (if X * 2 ^ k % Y = 0 then 0 else 1)
theorem stick_of {q e T : Nat} {t : Nat} (hT : T = 2 ^ t) (he : e < 2 * T) : stick (2 * q * T + e) t false = 2 * q + (if e = 0 then 0 else 1) := by
  have hp : 0 < T := by rw [hT]; exact Nat.two_pow_pos t
  unfold stick
  rw [← hT]
  have hd : (2 * q * T + e) / T = 2 * q + e / T := by rw [Nat.add_comm, Nat.add_mul_div_right _ _ hp, Nat.add_comm]
  have hm : (2 * q * T + e) % T = e % T := by rw [Nat.add_comm, Nat.add_mul_mod_self_right]
  rw [hd, hm]
  by_cases h0 : e = 0
  · rw [h0, Nat.zero_mod, Nat.zero_div, if_pos ⟨rfl, rfl⟩, if_pos rfl]
  · rw [if_neg h0]
    by_cases h1 : e < T
    · rw [Nat.mod_eq_of_lt h1, Nat.div_eq_of_lt h1, if_neg (fun h => h0 h.1), if_neg (by omega)]
    · have h2 : e / T = 1 := by
        have := Nat.div_lt_iff_lt_mul hp (x := e) (y := 2)
        have h3 : e / T < 2 := this.2 he
        have h4 : 1 ≤ e / T := (Nat.one_le_div_iff hp).2 (by omega)
        omega
      rw [h2]
      by_cases h3 : e % T = 0 ∧ (false : Bool) = false
      · rw [if_pos h3]
      · rw [if_neg h3, if_pos (by omega)]
theorem quo_stick {X Y : Nat} (k t : Nat) (hY : 0 < Y) : stick (quoS X Y (k + t)) t false = quoS X Y k := by
  obtain ⟨T, hT⟩ : ∃ T, T = 2 ^ t := ⟨_, rfl⟩
  have hp : 0 < T := by rw [hT]; exact Nat.two_pow_pos t
  unfold quoS
  rw [Nat.pow_add, ← Nat.mul_assoc, ← hT]
  generalize X * 2 ^ k = A
  have hA := Nat.div_add_mod A Y
  have hr : A % Y < Y := Nat.mod_lt _ hY
  generalize A / Y = q at *
  generalize A % Y = r at *
  have hAT : A * T = r * T + Y * (q * T) := by rw [← hA, Nat.add_mul, Nat.mul_assoc, Nat.add_comm]
  have hd : A * T / Y = q * T + r * T / Y := by rw [hAT, Nat.add_mul_div_left _ _ hY, Nat.add_comm]
  have hm : A * T % Y = r * T % Y := by rw [hAT, Nat.add_mul_mod_self_left]
  rw [hd, hm]
  have hc : r * T / Y < T := by rw [Nat.div_lt_iff_lt_mul hY, Nat.mul_comm T]; exact Nat.mul_lt_mul_of_pos_right hr hp
  have e1 := Nat.div_add_mod (r * T) Y
  have h5 : r = 0 ↔ r * T = 0 := by
    constructor
    · intro h; rw [h, Nat.zero_mul]
    · intro h; rcases Nat.mul_eq_zero.1 h with h | h <;> omega
  have e2 : 2 * (q * T + r * T / Y) + (if r * T % Y = 0 then 0 else 1) = 2 * q * T + (2 * (r * T / Y) + (if r * T % Y = 0 then 0 else 1)) := by rw [Nat.mul_add, ← Nat.mul_assoc, Nat.add_assoc]
  rw [e2]
  generalize r * T / Y = c at *
  generalize r * T % Y = s at *
  generalize r * T = rt at *
  rw [stick_of hT (by split <;> omega)]
  congr 1
  by_cases h0 : r = 0
  · have h6 : rt = 0 := h5.1 h0
    have h7 : s = 0 := by omega
    have h8 : c = 0 := by
      by_cases hcc : c = 0
      · exact hcc
      · have := Nat.mul_pos hY (show 0 < c by omega); omega
    rw [if_pos h0, if_pos (by rw [h7, h8]; rfl)]
  · have h6 : rt ≠ 0 := fun h => h0 (h5.2 h)
    rw [if_neg h0, if_neg]
    intro h
    by_cases hs : s = 0
    · rw [if_pos hs] at h
      have hc0 : c = 0 := by omega
      rw [hc0, Nat.mul_zero] at e1; omega
    · rw [if_neg hs] at h; omega
theorem near_quo {X Y k1 k2 : Nat} {p : Int} (hY : 0 < Y) (hk : k1 ≤ k2) (hb : 54 ≤ (quoS X Y k1).log2) : nearR (quoS X Y k1) (p - k1) = nearR (quoS X Y k2) (p - k2) := by
  obtain ⟨t, rfl⟩ : ∃ t, k2 = k1 + t := ⟨k2 - k1, by omega⟩
  have hs := quo_stick (X := X) k1 t hY
  obtain ⟨M, hM⟩ : ∃ M, quoS X Y (k1 + t) = M := ⟨_, rfl⟩
  rw [hM] at hs ⊢
  have hq0 : quoS X Y k1 ≠ 0 := by intro h; rw [h] at hb; exact absurd hb (by decide)
  have h1 := Nat.log2_self_le hq0
  have h2 : (2 : Nat) ^ 54 ≤ 2 ^ (quoS X Y k1).log2 := Nat.pow_le_pow_right (by decide) hb
  have h3 : stick M t false ≤ M / 2 ^ t + 1 := by unfold stick; split; omega; split <;> omega
  have h4 : 1 ≤ M / 2 ^ t := by rw [hs] at h3; omega
  have h5 : 2 ^ t ≤ M := (Nat.one_le_div_iff (Nat.two_pow_pos _)).1 h4
  have hM0 : M ≠ 0 := by have := Nat.two_pow_pos t; omega
  have h6 : t ≤ M.log2 := (Nat.le_log2 hM0).2 h5
  have h7 := (log2_stick false h6 hM0).1
  rw [hs] at h7
  have := nearR_stick2 (M := M) (s := t) (p := p - ((k1 + t : Nat) : Int)) hM0 (by omega)
  rw [hs, show (t : Int) + (p - ((k1 + t : Nat) : Int)) = p - k1 by omega] at this
  exact this
theorem quo_bits {X Y k : Nat} (hX : X ≠ 0) (hY : Y ≠ 0) (hk : 54 + Y.log2 ≤ X.log2 + k) : 9007199254740992 ≤ X * 2 ^ k / Y ∧ 54 ≤ (quoS X Y k).log2 := by
  have h1 := Nat.log2_self_le hX
  have h2 : Y < 2 ^ (Y.log2 + 1) := Nat.lt_log2_self
  have h3 : 9007199254740992 ≤ X * 2 ^ k / Y := by
    rw [Nat.le_div_iff_mul_le (by omega)]
    refine Nat.le_trans (Nat.mul_le_mul_left _ (Nat.le_of_lt h2)) ?_
    refine Nat.le_trans ?_ (Nat.mul_le_mul_right _ h1)
    rw [show (9007199254740992 : Nat) = 2 ^ 53 from rfl, ← Nat.pow_add, ← Nat.pow_add]
    exact Nat.pow_le_pow_right (by decide) (by omega)
  refine ⟨h3, ?_⟩
  have h4 : 2 ^ 54 ≤ quoS X Y k := by unfold quoS; omega
  exact (Nat.le_log2 (by have := Nat.two_pow_pos 54; omega)).2 h4
theorem keptD_more {N d : Nat} (hd : 1 ≤ d) : keptD N d true = rne (2 * N + 1) (d + 1) := by
  unfold keptD rne
  have hp := Nat.two_pow_pos d
  have e1 : (2 * N + 1) / 2 ^ (d + 1) = N / 2 ^ d := by
    rw [Nat.pow_succ, Nat.mul_comm (2 ^ d) 2, ← Nat.div_div_eq_div_mul]; congr 1; omega
  have e2 : (2 * N + 1) % 2 ^ (d + 1) = 2 * (N % 2 ^ d) + 1 := by
    have a := Nat.div_add_mod (2 * N + 1) (2 ^ (d + 1))
    have b := Nat.div_add_mod N (2 ^ d)
    rw [e1, Nat.pow_succ] at a
    have c : 2 ^ d * 2 * (N / 2 ^ d) = 2 * (2 ^ d * (N / 2 ^ d)) := by rw [Nat.mul_comm (2 ^ d) 2, Nat.mul_assoc]
    rw [Nat.pow_succ]
    omega
  rw [e1, e2]
  congr 1
  obtain ⟨k, rfl⟩ : ∃ k, d = k + 1 := ⟨d - 1, by omega⟩
  rw [Nat.add_sub_cancel]
  have e : N % 2 ^ (k + 1) = N % 2 ^ k + 2 ^ k * (N / 2 ^ k % 2) := by rw [Nat.pow_succ, Nat.mod_mul]
  have hk := Nat.two_pow_pos k
  have hlt : N % 2 ^ k < 2 ^ k := Nat.mod_lt _ hk
  rw [e, Nat.pow_succ, Nat.pow_succ]
  rcases (show N / 2 ^ k % 2 = 0 ∨ N / 2 ^ k % 2 = 1 by omega) with hb | hb
  · rw [hb, if_neg (by omega), if_neg (by omega)]
  · rw [hb, Nat.mul_one, if_pos ⟨rfl, Or.inr (Or.inl rfl)⟩, if_pos (Or.inl (by omega))]
theorem made_min (neg : Bool) {a b : Nat} (h : min a 9218868437227405312 = b) : madeI neg (a : Int) = madeI neg (b : Int) := by
  unfold madeI
  cases neg <;> simp only [Bool.false_eq_true, if_true, if_false] <;> omega
theorem made_le (neg : Bool) {r : Nat} (h : r ≤ 9218868437227405312) : madeI neg (r : Int) = sbit neg + (r : Int) := by
  unfold madeI sbit
  cases neg <;> simp only [Bool.false_eq_true, if_true, if_false] <;> omega
theorem nearM_more (neg more : Bool) {N : Nat} (e : Int) (hN : 9007199254740992 ≤ N) : nearM neg N e more = sbit neg + (nearR (2 * N + (if more then 1 else 0)) (e - 1) : Int) := by
  have h0 : N ≠ 0 := by omega
  cases more with
  | false =>
    have e0 : (2 * N + (if (false : Bool) = true then 1 else 0)) = 2 * N := rfl
    rw [nearM_eq neg e h0, e0]
    have := nearR_scale h0 1 e
    rw [Nat.pow_one, Nat.mul_comm] at this
    rw [show e - 1 = e - ((1 : Nat) : Int) from rfl, this]; rfl
  | true =>
    rw [if_pos rfl]
    have hlog : (2 * N + 1).log2 = N.log2 + 1 := by
      rw [Nat.log2_def, if_pos (by omega), show (2 * N + 1) / 2 = N by omega]
    have hlg : 53 ≤ N.log2 := (Nat.le_log2 h0).2 (by omega)
    have hbl := bl_pos h0
    have hL : lastP (2 * N + 1) (e - 1) = lastP N e := by unfold lastP; rw [hlog]; congr 1; omega
    have hl : lsb53 N e = lastP N e := by unfold lsb53 lastP; rw [hbl]; omega
    have hgt : e < lastP N e := by unfold lastP; omega
    have key : (if farB N e = true then if 0 < e ∨ 0 < (bl N : Int) + e then madeI neg 9218868437227405312 else madeI neg 0 else madeI neg (rnd53 N e true)) = madeI neg (nearR (2 * N + 1) (e - 1)) := by
      cases hf : farB N e
      · simp only [Bool.false_eq_true, if_false]
        have e2 : min (rnd53 N e true) 9218868437227405312 = nearR (2 * N + 1) (e - 1) := by
          unfold rnd53 kept53 nearR
          rw [hL, hl, if_neg (by omega), keptD_more (by omega), show (e - 1 - lastP N e).toNat = 0 by omega, Nat.pow_zero, Nat.mul_one, show (lastP N e - (e - 1)).toNat = (lastP N e - e).toNat + 1 by omega]
        exact made_min neg e2
      · simp only [if_true]
        unfold farB at hf
        rw [Bool.or_eq_true, decide_eq_true_eq, decide_eq_true_eq] at hf
        rcases hf with hf | hf
        · rw [if_pos (Or.inr (by omega)), nearR_big (by omega) (by omega)]; rfl
        · have h1 : bl (2 * N + 1) = bl N + 1 := by rw [bl_pos (by omega), hlog, hbl]
          rw [if_neg (by omega), nearR_tiny (by omega) (by rw [h1]; omega)]; rfl
    unfold nearM
    rw [if_neg h0, key]
    exact made_le neg (Nat.min_le_right _ _)
end Go.Proofs.YtpcgbcdldkmibaaGreat
namespace Go.Proofs.YtpcgbcdldkmibaaGreat
open Go.RowKit

def yearR (X Y : Nat) : Nat := nearR (quoS X Y 200) (-1 - ((200 : Nat) : Int))
theorem yearK_le {X Y : Nat} (hX : X ≠ 0) (hY : Y ≠ 0) (hY' : Y ≤ 1000000000) : yearK X Y ≤ 200 ∧ 54 + Y.log2 ≤ X.log2 + yearK X Y := by
  have h1 := bl_pos hX
  have h2 := bl_pos hY
  have h3 : Y.log2 < 30 := (Nat.log2_lt hY).2 (by omega)
  unfold yearK
  omega
theorem year_val {P Q : Int} (h0 : P ≠ 0) (hQ : 0 < Q) (hQ' : Q ≤ 1000000000) : yearB P Q = sbit (decide (P < 0)) + (yearR P.natAbs Q.natAbs : Int) := by
  have hX : P.natAbs ≠ 0 := by omega
  have hY : Q.natAbs ≠ 0 := by omega
  have hY' : Q.natAbs ≤ 1000000000 := by omega
  unfold yearB yearR
  rw [if_neg h0]
  generalize P.natAbs = X at *
  generalize Q.natAbs = Y at *
  obtain ⟨k1, k2⟩ := yearK_le hX hY hY'
  generalize yearK X Y = k at *
  have hb := quo_bits hX hY k2
  rw [nearM_more _ _ _ hb.1, ← near_quo (p := -1) (by omega) k1 hb.2]
  have e : 2 * (X * 2 ^ k / Y) + (if decide (0 < nd (X * 2 ^ k % Y)) = true then 1 else 0) = quoS X Y k := by
    unfold quoS
    congr 1
    by_cases hr : X * 2 ^ k % Y = 0
    · rw [hr]; rfl
    · have := nd_pos hr
      rw [if_neg hr, if_pos (decide_eq_true (show 0 < nd (X * 2 ^ k % Y) from this))]
  rw [e, show (0 : Int) - (k : Int) - 0 - 1 = -1 - (k : Int) by omega]
theorem yearR_fin {X Y : Nat} (h : X ≤ 1000000000) : yearR X Y < 9218868437227405312 := by
  unfold yearR
  have h1 : quoS X Y 200 ≤ 1 * 2 ^ 232 := by
    unfold quoS
    have h2 : X * 2 ^ 200 / Y ≤ X * 2 ^ 200 := Nat.div_le_self _ _
    have h3 : X * 2 ^ 200 ≤ 1073741824 * 2 ^ 200 := Nat.mul_le_mul_right _ (by omega)
    rw [show (1073741824 : Nat) * 2 ^ 200 = 2 ^ 230 by decide] at h3
    split <;> omega
  refine Nat.lt_of_le_of_lt (nearR_mono _ h1) ?_
  rw [show (-1 : Int) - ((200 : Nat) : Int) = 31 - ((232 : Nat) : Int) by decide, nearR_scale (by decide)]
  decide
end Go.Proofs.YtpcgbcdldkmibaaGreat
namespace Go.Proofs.YtpcgbcdldkmibaaGreat
open Go.RowKit

theorem quo_by_zero {x y : Nat} (hx : NumB x) (h0 : x % 9223372036854775808 ≠ 0) (hy : y % 9223372036854775808 = 0) : floatBits .quo .f64 x y = some (wrd (sB x ^^ sB y) 9218868437227405312) := by
  have hm := mg_pos h0
  show ((Ieee.double.read x).quotient 54 (Ieee.double.read y)).map Ieee.double.write = _
  rw [read_num hx, read_num (b := y) (by omega), hy, show mg 0 = 0 by decide]
  show (if mg (x % 9223372036854775808) = 0 then none else some (Ieee.Datum.infinity (_ ^^ _))).map Ieee.double.write = _
  rw [if_neg hm]
  show some (Ieee.double.write (.infinity _)) = _
  rw [write_inf]; rfl
theorem quo_parts (s t : Bool) (m n : Nat) (i j : Int) (hn : n ≠ 0) : ((Ieee.Datum.number s m i).quotient 54 (.number t n j)).map Ieee.double.write = some (Ieee.double.nearest (s ^^ t) (2 * (m * 2 ^ (54 + n.log2 - m.log2) / n) + (m * 2 ^ (54 + n.log2 - m.log2) % n != 0).toNat) (i - j - ((54 + n.log2 - m.log2 : Nat) : Int) - 1)) := by
  show (if n = 0 then _ else some (Ieee.Datum.number (s ^^ t) (2 * ((m <<< (54 + n.log2 - m.log2)) / n) + ((m <<< (54 + n.log2 - m.log2)) % n != 0).toNat) (i - j - ((54 + n.log2 - m.log2 : Nat) : Int) - 1))).map Ieee.double.write = _
  rw [if_neg hn, Nat.shiftLeft_eq]
  rfl
theorem quo_zero {x y : Nat} (hx : x % 9223372036854775808 = 0) (hy : NumB y) (h0 : y % 9223372036854775808 ≠ 0) : floatBits .quo .f64 x y = some (wrd (sB x ^^ sB y) 0) := by
  have hm := mg_pos h0
  show ((Ieee.double.read x).quotient 54 (Ieee.double.read y)).map Ieee.double.write = _
  rw [read_num (b := x) (by omega), read_num hy, hx, quo_parts _ _ _ _ _ _ hm, show mg 0 = 0 by decide, Nat.zero_mul, Nat.zero_div, Nat.zero_mod]
  show some (Ieee.double.nearest _ 0 _) = _
  rw [nearest_zero, word_eq]; rfl
theorem quoS_eq (X Y k : Nat) : 2 * (X * 2 ^ k / Y) + (X * 2 ^ k % Y != 0).toNat = quoS X Y k := by
  unfold quoS
  congr 1
  by_cases h : X * 2 ^ k % Y = 0
  · rw [if_pos h, h]; rfl
  · rw [if_neg h, show (X * 2 ^ k % Y != 0) = true by simpa using h]; rfl
theorem quo_num {x y : Nat} (hx : NumB x) (hy : NumB y) (h0 : x % 9223372036854775808 ≠ 0) (h1 : y % 9223372036854775808 ≠ 0) {X Y : Nat} {ex ey : Int} (hX : X = mg (x % 9223372036854775808)) (hY : Y = mg (y % 9223372036854775808)) (hex : ex = -1074 + (pl (x % 9223372036854775808) : Int)) (hey : ey = -1074 + (pl (y % 9223372036854775808) : Int)) {k : Nat} (hk : 54 + Y.log2 - X.log2 ≤ k) :
    floatBits .quo .f64 x y = some (wrd (sB x ^^ sB y) (nearR (quoS X Y k) (ex - ey - 1 - k))) := by
  have hX0 : X ≠ 0 := by rw [hX]; exact mg_pos h0
  have hY0 : Y ≠ 0 := by rw [hY]; exact mg_pos h1
  show ((Ieee.double.read x).quotient 54 (Ieee.double.read y)).map Ieee.double.write = _
  rw [read_num hx, read_num hy, ← hX, ← hY, ← hex, ← hey, quo_parts _ _ _ _ _ _ hY0, quoS_eq]
  have hq := quo_bits hX0 hY0 (k := 54 + Y.log2 - X.log2) (by omega)
  have hq0 : quoS X Y (54 + Y.log2 - X.log2) ≠ 0 := by intro h; rw [h] at hq; exact absurd hq.2 (by decide)
  rw [nearest_eq _ hq0, word_eq]
  have := near_quo (X := X) (Y := Y) (p := ex - ey - 1) (by omega) hk hq.2
  rw [← this, show ex - ey - ((54 + Y.log2 - X.log2 : Nat) : Int) - 1 = ex - ey - 1 - ((54 + Y.log2 - X.log2 : Nat) : Int) by omega]
  rfl

end Go.Proofs.YtpcgbcdldkmibaaGreat
namespace Go.Proofs.YtpcgbcdldkmibaaGreat
open Go.RowKit

theorem quoS_upN (X Y a k : Nat) : quoS (X * 2 ^ a) Y k = quoS X Y (a + k) := by
  unfold quoS
  rw [Nat.mul_assoc, ← Nat.pow_add]
theorem quoS_scaleN (X Y k c : Nat) (hc : 0 < c) : quoS (X * c) (Y * c) k = quoS X Y k := by
  unfold quoS
  rw [show X * c * 2 ^ k = X * 2 ^ k * c by rw [Nat.mul_assoc, Nat.mul_comm c, ← Nat.mul_assoc], Nat.mul_div_mul_right _ _ hc, Nat.mul_mod_mul_right]
  have : (X * 2 ^ k % Y * c = 0) ↔ (X * 2 ^ k % Y = 0) := by
    rw [Nat.mul_eq_zero]; omega
  simp only [this]
theorem quoS_same {A B X Y p q m t : Nat} (hA : A * 2 ^ p = X * 2 ^ t) (hB : B * 2 ^ q = Y * 2 ^ t) : quoS A B (p + m) = quoS X Y (q + m) := by
  rw [← quoS_upN A B p m, hA, ← quoS_scaleN _ B m (2 ^ q) (Nat.two_pow_pos _), hB, show X * 2 ^ t * 2 ^ q = X * 2 ^ q * 2 ^ t by rw [Nat.mul_assoc, Nat.mul_comm (2 ^ t), ← Nat.mul_assoc], quoS_scaleN _ _ _ _ (Nat.two_pow_pos _), quoS_upN]
theorem quo_whole {x y X Y : Nat} (hx : NumB x) (hy : NumB y) (hX : aV x = X * 2 ^ 1074) (hY : aV y = Y * 2 ^ 1074) (hX0 : X ≠ 0) (hY0 : Y ≠ 0) (hY' : Y ≤ 1000000000) :
    floatBits .quo .f64 x y = some (wrd (sB x ^^ sB y) (yearR X Y)) := by
  have px := Nat.two_pow_pos 1074
  have h0 : x % 9223372036854775808 ≠ 0 := by
    intro h
    unfold aV at hX
    rw [h, V_zero] at hX
    have := Nat.mul_pos (show 0 < X by omega) px
    omega
  have h1 : y % 9223372036854775808 ≠ 0 := by
    intro h
    unfold aV at hY
    rw [h, V_zero] at hY
    have := Nat.mul_pos (show 0 < Y by omega) px
    omega
  unfold aV V at hX hY
  have mx := mg_pos h0
  have my := mg_pos h1
  have lx := mg_lt (x % 9223372036854775808)
  have ly := mg_lt (y % 9223372036854775808)
  have hl : (mg (y % 9223372036854775808)).log2 < 53 := (Nat.log2_lt my).2 (by omega)
  rw [quo_num hx hy h0 h1 rfl rfl rfl rfl (k := pl (x % 9223372036854775808) + 300) (by omega), quoS_same hX hY]
  obtain ⟨k1, k2⟩ := yearK_le hX0 hY0 hY'
  have hb := quo_bits hX0 hY0 k2
  have e1 := near_quo (X := X) (Y := Y) (p := -1) (by omega) (show yearK X Y ≤ pl (y % 9223372036854775808) + 300 by omega) hb.2
  have e2 := near_quo (X := X) (Y := Y) (p := -1) (by omega) k1 hb.2
  unfold yearR
  rw [← e2, e1]
  congr 3
  omega
end Go.Proofs.YtpcgbcdldkmibaaGreat
namespace Go.Proofs.YtpcgbcdldkmibaaGreat
open Go.RowKit

theorem floatOf_fi7 (m : Int) : floatOfInt .f64 m = fi m := by
  show Ieee.double.nearest (decide (m < 0)) m.natAbs 0 = _
  unfold fi joinN
  by_cases h0 : m = 0
  · subst h0; rfl
  · rw [if_neg h0, nearest_eq _ (by omega)]
    by_cases hn : m < 0
    · simp only [hn, decide_true, if_true]; rw [word_true]
    · simp only [hn, decide_false, if_false]; rw [word_false]
theorem aV_fi7 {m : Int} {K : Nat} (hK : K = 1074) (h1 : -1000000000 ≤ m) (h2 : m ≤ 1000000000) : NumB (fi m) ∧ aV (fi m) = m.natAbs * 2 ^ K ∧ sB (fi m) = decide (m < 0) ∧ fi m < 18446744073709551616 := by
  obtain ⟨a, b, c, d⟩ := vI_fi (m := m) hK (by omega) (by omega)
  refine ⟨b, ?_, c, d⟩
  unfold aV
  have hn : (vI (fi m)).natAbs = V (fi m % 9223372036854775808) := by
    unfold vI
    split <;> simp
  rw [← hn, a, Int.natAbs_mul, Int.natAbs_natCast]
def yW (P Q : Int) : Nat := if P = 0 then 0 else wrd (decide (P < 0)) (yearR P.natAbs Q.natAbs)
theorem quo_year {P Q : Int} (h1 : -1000000000 ≤ P) (h2 : P ≤ 1000000000) (h3 : 0 < Q) (h4 : Q ≤ 1000000000) : floatBits .quo .f64 (fi P) (fi Q) = some (yW P Q) := by
  obtain ⟨K, hK⟩ : ∃ K : Nat, K = 1074 := ⟨_, rfl⟩
  obtain ⟨a1, a2, a3, _⟩ := aV_fi7 (m := P) hK h1 h2
  obtain ⟨b1, b2, b3, _⟩ := aV_fi7 (m := Q) hK (by omega) h4
  have hs : decide (Q < 0) = false := decide_eq_false (by omega)
  have hp := Nat.two_pow_pos K
  unfold yW
  by_cases h0 : P = 0
  · rw [if_pos h0]
    subst h0
    have hq : fi Q % 9223372036854775808 ≠ 0 := fun e => by
      unfold aV at b2
      rw [e, V_zero] at b2
      have := Nat.mul_pos (show 0 < Q.natAbs by omega) hp
      omega
    rw [show fi 0 = 0 from fi_zero, quo_zero (by rfl) b1 hq, b3, hs]
    rfl
  · rw [if_neg h0]
    subst hK
    rw [quo_whole a1 b1 a2 b2 (by omega) (by omega) (by omega), a3, b3, hs]
    simp
theorem yW_val {P Q : Int} (hQ : 0 < Q) (hQ' : Q ≤ 1000000000) : yearB P Q = (yW P Q : Int) := by
  unfold yW
  by_cases h0 : P = 0
  · rw [if_pos h0]; unfold yearB; rw [if_pos h0]; rfl
  · rw [if_neg h0, year_val h0 hQ hQ']
    unfold sbit wrd
    by_cases hn : P < 0
    · simp [hn]
    · simp [hn]
theorem yW_lt {P Q : Int} (h1 : -1000000000 ≤ P) (h2 : P ≤ 1000000000) : yW P Q < 18446744073709551616 := by
  unfold yW
  have := yearR_fin (X := P.natAbs) (Y := Q.natAbs) (by omega)
  split
  · decide
  · unfold wrd; split <;> omega

set_option maxHeartbeats 800000 in
theorem yearP_ok (kind W a b P Q : Int) (v : Value) (w : World) (h1 : -1000000000 ≤ P) (h2 : P ≤ 1000000000) (h3 : 0 < Q) (h4 : Q ≤ 1000000000) (H : Hid (FracH w kind W a b P Q 0 v)) :
    Calls Tryz.prog 34 #[.int .i64 kind, .agg #[.int .i64 W, v], .int .i64 a, .int .i64 b] w fun e w' => e = .returned (.tuple #[.float .f64 (yW P Q), .int .i64 0]) ∧ Below w.heap.size w w' := by
  have HB := hideS (cbox_first w W v)
  have f1 := floatOf_fi7 P
  have f2 := floatOf_fi7 Q
  have hq := quo_year h1 h2 h3 h4
  unfold FracH at H
  clear h1 h2 h3 h4
  generalize yW P Q = R at *
  generalize fi P = X at *
  generalize fi Q = Y at *
  have hr := fun wx => run_float_arith (P := Tryz.prog) wx .quo 22 .f64 X Y R hq
  clear hq
  go_enter Tryz.func34, Tryz.ntmps34
  go_wp2_with (go_at_call 62; refine (H.out _ HB.out).mono ?_; rintro e w1 ⟨rfl, hb⟩)
  go_ret2
  exact ⟨rfl, HB.out.trans (hb.mono HB.out.size)⟩
set_option maxHeartbeats 800000 in
theorem yearP_err (kind W a b E : Int) (v : Value) (w : World) (hE : E ≠ 0) (H : Hid (FracH w kind W a b 0 0 E v)) :
    Calls Tryz.prog 34 #[.int .i64 kind, .agg #[.int .i64 W, v], .int .i64 a, .int .i64 b] w fun e w' => e = .returned (.tuple #[.float .f64 0, .int .i64 E]) ∧ Below w.heap.size w w' := by
  have HB := hideS (cbox_first w W v)
  have hE' : (E != 0) = true := bne_iff_ne.2 hE
  unfold FracH at H
  clear hE
  go_enter Tryz.func34, Tryz.ntmps34
  go_wp2_with (go_at_call 62; refine (H.out _ HB.out).mono ?_; rintro e w1 ⟨rfl, hb⟩)
  go_ret2
  exact ⟨rfl, HB.out.trans (hb.mono HB.out.size)⟩
def YearH (w : World) (kind W a b : Int) (R : Nat) (E : Int) (v : Value) : Prop := ∀ wx, Below w.heap.size w wx → Calls Tryz.prog 34 #[.int .i64 kind, .agg #[.int .i64 W, v], .int .i64 a, .int .i64 b] wx fun e w' => e = .returned (.tuple #[.float .f64 R, .int .i64 E]) ∧ Below wx.heap.size wx w'
theorem FracH.later {w wx : World} {kind W a b P Q E : Int} {v : Value} (h : FracH w kind W a b P Q E v) (hb : Below w.heap.size w wx) : FracH wx kind W a b P Q E v := fun wy hy => h wy (hb.trans (hy.mono hb.size))
theorem fracQ_bd {kind : Int} : 0 < fracQ kind ∧ fracQ kind ≤ 1000000000 := by
  unfold fracQ
  split
  · decide
  · split
    · decide
    · split <;> decide
theorem FracR.bd {kind W a b P Q E : Int} {rs : List Rul} (h : FracR kind W a b rs P Q E) : -1000000000 ≤ P ∧ P ≤ 1000000000 ∧ (E = 0 → 0 < Q ∧ Q ≤ 1000000000) ∧ (E ≠ 0 → P = 0 ∧ Q = 0) := by
  cases h with
  | fine hk hk' ha hb h6 =>
    have := fracS_bd (opB W rs) (kind := kind) ha hb
    exact ⟨this.1, this.2, fun _ => fracQ_bd, fun c => absurd rfl c⟩
  | kind h => exact ⟨by decide, by decide, fun c => absurd c (by decide), fun _ => ⟨rfl, rfl⟩⟩
  | cal A B h6 h hA => exact ⟨by decide, by decide, fun c => absurd c hA, fun _ => ⟨rfl, rfl⟩⟩
  | day hk hk' h h6 => exact ⟨by decide, by decide, fun c => absurd c (by decide), fun _ => ⟨rfl, rfl⟩⟩
theorem FracR.year {kind W a b P Q E : Int} {rs : List Rul} (h : FracR kind W a b rs P Q E) (p : Option Addr) (bb off c : Nat) (w : World) (hs : RSrc w p bb off rs) (hl : rs.length ≤ 9223372036854775807) : YearH w kind W a b (yW P Q) E (.slice p rs.length c) := fun wx hbx => by
  have hp := (h.prog p bb off c w hs hl).later hbx
  obtain ⟨b1, b2, b3, b4⟩ := h.bd
  by_cases hE : E = 0
  · subst hE
    exact yearP_ok kind W a b P Q _ wx b1 b2 (b3 rfl).1 (b3 rfl).2 hp
  · obtain ⟨rfl, rfl⟩ := b4 hE
    exact yearP_err kind W a b E _ wx hE hp
def RefYH (w : World) (kind W a b R E : Int) (v : Value) : Prop := ∀ wx, Below w.heap.size w wx → Calls Tryz.prog 21 #[.int .i64 kind, .agg #[.int .i64 W, v], .int .i64 a, .int .i64 b] wx fun e w' => e = .returned (.tuple #[.int .u64 R, .int .i64 E]) ∧ Below wx.heap.size wx w'
theorem FracR.err {kind W a b P Q E : Int} {rs : List Rul} (h : FracR kind W a b rs P Q E) : 0 ≤ E ∧ E ≤ 100 := by
  cases h with
  | fine hk hk' ha hb h6 => exact ⟨by decide, by decide⟩
  | kind h => exact ⟨by decide, by decide⟩
  | cal A B h6 h hA => cases h <;> exact ⟨by decide, by decide⟩
  | day hk hk' h h6 => exact ⟨by decide, by decide⟩
theorem FracR.refY {kind W a b P Q E : Int} {rs : List Rul} (h : FracR kind W a b rs P Q E) (p : Option Addr) (bb off c : Nat) (w : World) (hs : RSrc w p bb off rs) (hl : rs.length ≤ 1000000) : RefYH w kind W a b (yW P Q : Int) E (.slice p rs.length c) := fun wx hbx => by
  have hp : RefFH wx kind W a b P Q E (.slice p rs.length c) := h.ref p bb off c wx (hs.below hbx) hl
  obtain ⟨b1, b2, b3, b4⟩ := h.bd
  obtain ⟨e1, e2⟩ := h.err
  by_cases hE : E = 0
  · subst hE
    rw [← yW_val (b3 rfl).1 (b3 rfl).2]
    exact refYear_ok kind W a b P Q _ wx b1 b2 (b3 rfl).1 (b3 rfl).2 hp
  · obtain ⟨rfl, rfl⟩ := b4 hE
    exact refYear_bad kind W a b E _ wx (by omega) e2 hp
end Go.Proofs.YtpcgbcdldkmibaaGreat
