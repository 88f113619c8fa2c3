/- The contract of the document's MulDigits. The contract of the document's DivDigits: bit by bit. -/
import Derived.Test.YtiiajhomdpfafaaGreatDoorHau
import Derived.Deep.LoopGhost
namespace Go.Proofs.YtiiajhomdpfafaaGreatDoor
open Go.RowKit

def setD (R j d : Nat) : Nat := R / 2 ^ (32 * (j + 1)) * 2 ^ (32 * (j + 1)) + d * 2 ^ (32 * j) + R % 2 ^ (32 * j)
theorem setD_sum (R j d : Nat) : setD R j d + dgt R j * 2 ^ (32 * j) = R + d * 2 ^ (32 * j) := by
  unfold setD
  have h1 := Nat.div_add_mod R (2 ^ (32 * (j + 1)))
  have h2 := mod_succ R j
  rw [Nat.mul_comm] at h1
  omega
theorem low_lt (R j d : Nat) (hd : d < 4294967296) : d * 2 ^ (32 * j) + R % 2 ^ (32 * j) < 2 ^ (32 * (j + 1)) := by
  have h1 : R % 2 ^ (32 * j) < 2 ^ (32 * j) := Nat.mod_lt _ (Nat.two_pow_pos _)
  have h2 : (d + 1) * 2 ^ (32 * j) ≤ 4294967296 * 2 ^ (32 * j) := Nat.mul_le_mul_right _ hd
  rw [Nat.add_mul, Nat.one_mul] at h2
  rw [pow32, Nat.mul_comm (2 ^ (32 * j))]
  omega
theorem setD_div (R j d : Nat) (hd : d < 4294967296) : setD R j d / 2 ^ (32 * (j + 1)) = R / 2 ^ (32 * (j + 1)) := by
  unfold setD
  rw [Nat.add_assoc, Nat.add_comm, Nat.add_mul_div_right _ _ (Nat.two_pow_pos _), Nat.div_eq_of_lt (low_lt R j d hd), Nat.zero_add]
theorem dgt_far {R S j i : Nat} (h : R / 2 ^ (32 * (j + 1)) = S / 2 ^ (32 * (j + 1))) (hi : j < i) : dgt R i = dgt S i := by
  unfold dgt
  have e : (2 : Nat) ^ (32 * i) = 2 ^ (32 * (j + 1)) * 2 ^ (32 * (i - (j + 1))) := by rw [← Nat.pow_add]; congr 1; omega
  rw [e, ← Nat.div_div_eq_div_mul, ← Nat.div_div_eq_div_mul, h]
theorem dgt_setD (R j d i : Nat) (hd : d < 4294967296) : dgt (setD R j d) i = if i = j then d else dgt R i := by
  have hp := Nat.two_pow_pos (32 * j)
  by_cases h : i = j
  · subst h
    rw [if_pos rfl]
    have h1 := div_step (setD R i d) i
    rw [setD_div R i d hd] at h1
    have h2 : setD R i d / 2 ^ (32 * i) = R / 2 ^ (32 * (i + 1)) * 4294967296 + d := by
      unfold setD
      generalize R / 2 ^ (32 * (i + 1)) = q
      have e : q * 2 ^ (32 * (i + 1)) + d * 2 ^ (32 * i) = (q * 4294967296 + d) * 2 ^ (32 * i) := by rw [pow32, Nat.add_mul, Nat.mul_assoc, Nat.mul_comm 4294967296]
      rw [e, Nat.add_comm, Nat.add_mul_div_right _ _ hp, Nat.div_eq_of_lt (Nat.mod_lt _ hp), Nat.zero_add]
    omega
  · rw [if_neg h]
    rcases Nat.lt_or_gt_of_ne h with h1 | h1
    · have e1 := dgt_mod (setD R j d) j i
      have e2 := dgt_mod R j i
      rw [if_pos h1] at e1 e2
      rw [← e1, ← e2]
      congr 1
      unfold setD
      rw [pow32, Nat.mul_comm (2 ^ (32 * j)) 4294967296, ← Nat.mul_assoc, ← Nat.add_mul, Nat.mul_add_mod', Nat.mod_mod]
    · exact dgt_far (setD_div R j d hd) h1
theorem Own.put {w : World} {b n R j d : Nat} {x : Int} (h : Own w b n R) (hx : x = (d : Int)) (hd : d < 4294967296) : Own (w.setCell ⟨b, j, none⟩ (.int .u64 x)) b n (setD R j d) := by
  refine (h.set j (.int .u64 x)).congr fun i _ => ?_
  rw [dgt_setD R j d i hd]
  by_cases c : i = j
  · rw [if_pos c, if_pos c, hx]
  · rw [if_neg c, if_neg c]

end Go.Proofs.YtiiajhomdpfafaaGreatDoor
namespace Go.Proofs.YtiiajhomdpfafaaGreatDoor
open Go.RowKit

theorem bit_dgt (A i j r : Nat) (hj : i = 32 * j + r) (hr : r < 32) : dgt A j / 2 ^ r % 2 = A / 2 ^ i % 2 := by
  unfold dgt
  have e : A / 2 ^ i = A / 2 ^ (32 * j) / 2 ^ r := by rw [Nat.div_div_eq_div_mul, ← Nat.pow_add, ← hj]
  rw [e]
  generalize A / 2 ^ (32 * j) = M
  have e2 : (4294967296 : Nat) = 2 ^ r * 2 ^ (32 - r) := by rw [← Nat.pow_add, show r + (32 - r) = 32 by omega]
  rw [e2, Nat.mod_mul_right_div_self]
  refine Nat.mod_mod_of_dvd _ ?_
  rw [show 32 - r = (31 - r) + 1 by omega, Nat.pow_succ]
  exact Nat.dvd_mul_left 2 _
theorem div_bit {A B i R b : Nat} (hB : 0 < B) (hR : R = A / 2 ^ (i + 1) % B) (hb : b = A / 2 ^ i % 2) :
    (B ≤ R * 2 + b → A / 2 ^ i % B = R * 2 + b - B ∧ A / 2 ^ i / B * 2 ^ i = A / 2 ^ (i + 1) / B * 2 ^ (i + 1) + 2 ^ i) ∧
    (R * 2 + b < B → A / 2 ^ i % B = R * 2 + b ∧ A / 2 ^ i / B * 2 ^ i = A / 2 ^ (i + 1) / B * 2 ^ (i + 1)) := by
  have e : A / 2 ^ (i + 1) = A / 2 ^ i / 2 := by rw [Nat.div_div_eq_div_mul, ← Nat.pow_succ]
  rw [e] at hR ⊢
  generalize A / 2 ^ i = M at *
  have h1 := Nat.div_add_mod (M / 2) B
  have h2 : M / 2 % B < B := Nat.mod_lt _ hB
  rw [← hR] at h1 h2
  generalize M / 2 / B = q at *
  have e3 : q * 2 ^ (i + 1) = 2 * q * 2 ^ i := by rw [Nat.pow_succ, ← Nat.mul_assoc, Nat.mul_comm, ← Nat.mul_assoc]
  rw [e3]
  refine ⟨fun c => ?_, fun c => ?_⟩
  · have hM : M = (R * 2 + b - B) + B * (2 * q + 1) := by
      have : B * (2 * q + 1) = 2 * (B * q) + B := by rw [Nat.mul_add, Nat.mul_one, Nat.mul_left_comm]
      omega
    have m1 : M % B = R * 2 + b - B := by rw [hM, Nat.add_mul_mod_self_left, Nat.mod_eq_of_lt (by omega)]
    have m2 : M / B = 2 * q + 1 := by rw [hM, Nat.add_mul_div_left _ _ hB, Nat.div_eq_of_lt (by omega), Nat.zero_add]
    rw [m1, m2, Nat.add_mul, Nat.one_mul]
    exact ⟨rfl, rfl⟩
  · have hM : M = (R * 2 + b) + B * (2 * q) := by
      have : B * (2 * q) = 2 * (B * q) := by rw [Nat.mul_left_comm]
      omega
    have m1 : M % B = R * 2 + b := by rw [hM, Nat.add_mul_mod_self_left, Nat.mod_eq_of_lt (by omega)]
    have m2 : M / B = 2 * q := by rw [hM, Nat.add_mul_div_left _ _ hB, Nat.div_eq_of_lt (by omega), Nat.zero_add]
    rw [m1, m2]
    exact ⟨rfl, rfl⟩
theorem put_bit {Q i j r : Nat} (hj : i = 32 * j + r) (hr : r < 32) :
    dgt (Q * 2 ^ (i + 1)) j + 2 ^ r < 4294967296 ∧ setD (Q * 2 ^ (i + 1)) j (dgt (Q * 2 ^ (i + 1)) j + 2 ^ r) = Q * 2 ^ (i + 1) + 2 ^ i := by
  constructor
  · unfold dgt
    have e : Q * 2 ^ (i + 1) = Q * 2 ^ (r + 1) * 2 ^ (32 * j) := by rw [Nat.mul_assoc, ← Nat.pow_add]; congr 2; omega
    have e2 : (4294967296 : Nat) = 2 ^ (31 - r) * 2 ^ (r + 1) := by rw [← Nat.pow_add, show 31 - r + (r + 1) = 32 by omega]
    rw [e, Nat.mul_div_cancel _ (Nat.two_pow_pos _)]
    have h1 : Q * 2 ^ (r + 1) % 4294967296 = (Q % 2 ^ (31 - r)) * 2 ^ (r + 1) := by rw [e2, Nat.mul_mod_mul_right]
    have h2 : Q % 2 ^ (31 - r) < 2 ^ (31 - r) := Nat.mod_lt _ (Nat.two_pow_pos _)
    have h3 : (Q % 2 ^ (31 - r) + 1) * 2 ^ (r + 1) ≤ 2 ^ (31 - r) * 2 ^ (r + 1) := Nat.mul_le_mul_right _ h2
    rw [← e2, Nat.add_mul, Nat.one_mul, Nat.pow_succ] at h3
    rw [h1, Nat.pow_succ]
    have h4 := Nat.two_pow_pos r
    omega
  · have h := setD_sum (Q * 2 ^ (i + 1)) j (dgt (Q * 2 ^ (i + 1)) j + 2 ^ r)
    rw [Nat.add_mul, ← Nat.pow_add, show r + 32 * j = i by omega] at h
    omega
theorem from_mono {A B : Nat} {v : Value} (h : From B v) (hle : A ≤ B) : From A v := fun a l c e => Nat.le_trans hle (h a l c e)
theorem dn_shape {w : World} {v : Value} {N : Nat} (h : DN w v N) : ∃ p l c, v = .slice p l c := by obtain ⟨p, c, e⟩ := h.form; exact ⟨p, _, c, e⟩
theorem own_below2 {w w' : World} {b n M s : Nat} (h : Own w b n M) (hb : b < s) (hB : Below s w w') : Own w' b n M := by
  obtain ⟨c, h1, h2, h3⟩ := h
  exact ⟨c, by rw [hB.block b hb]; exact h1, h2, h3⟩
theorem bl_nd2 (N : Nat) : bl N ≤ 32 * nd N := by
  unfold bl nd
  by_cases h : N = 0
  · rw [if_pos h]; omega
  · rw [if_neg h, if_neg h]; omega
theorem dn_one (w : World) : DN (w.alloc (.cells #[.int .u64 1] 48)) (.slice (some ⟨w.heap.size, 0, none⟩) 1 1) 1 := by
  refine Or.inr ⟨by decide, w.heap.size, 1, by rw [show nd 1 = 1 by decide], by decide, by simp, fun i hi => ?_⟩
  rw [show nd 1 = 1 by decide] at hi
  rw [show i = 0 by omega]
  simp
  decide

set_option maxRecDepth 10000 in
set_option maxHeartbeats 1600000 in
theorem divDigits_row (g c n L A B : Nat) (vb : Value) (w : World) (hrow : Hid (RowIs w g n A)) (hg : g < w.heap.size) (hA0 : A ≠ 0) (hn0 : Hid (nd A = n)) (hnc : n ≤ c) (hL : Hid (bl A = L)) (hLn : L ≤ 32 * n) (hB : DN w vb B) (hB0 : 0 < B) (hn : n ≤ 10000) (hbd : nd B ≤ 10000) :
    Calls Tryz.prog 136 #[.slice (some ⟨g, 0, none⟩) n c, vb] w fun e w' => ∃ q r, e = .returned (.tuple #[q, r]) ∧ DN w' q (A / B) ∧ DN w' r (A % B) ∧ From w.heap.size q ∧ From w.heap.size r ∧ Below w.heap.size w w' := by
  have hmk := fun w => run_make_row' (P := Tryz.prog) 150 48 (.int .u64 0) 8 Tryz.underlying150 info_u64 rfl .i64 .i64 n (by omega) (by omega) w
  have HO := hide (own_made w n)
  have HW0 : Hid (Below w.heap.size w (w.alloc (.cells (madeCells #[.int .u64 0] n) 48))) := (Below.refl _ _).alloc (Nat.le_refl _) _
  have HDA : Hid (DN w (.slice (some ⟨g, 0, none⟩) n c) A) := Or.inr ⟨hA0, g, c, by rw [hn0.out], by rw [hn0.out]; exact hnc, hg, by rw [hn0.out]; exact hrow.out⟩
  have HLen : Hid (∀ w', Below w.heap.size w w' → Calls Tryz.prog 168 #[.slice (some ⟨g, 0, none⟩) n c] w' fun e w'' => e = .returned (.int .i64 (L : Int)) ∧ w' = w'') := fun w' hb => by
    have := len_any _ A w' (HDA.out.below hb) (by rw [hn0.out]; omega)
    rw [hL.out] at this
    exact this.mono fun _ _ ⟨a, b⟩ => ⟨a, b.symm⟩
  have HB := hide hB
  have HAlt : Hid (A < 2 ^ L) := by
    show A < 2 ^ L
    rw [← hL.out]; unfold bl; rw [if_neg hA0]; exact Nat.lt_log2_self
  clear hB
  go_enter Tryz.func136, Tryz.ntmps136
  go_wp2_with fail
  refine (HLen.out _ HW0.out).mono ?_
  rintro e w' ⟨rfl, rfl⟩
  go_wp2_with fail
  go_loopw [6, 8] (fun v i wr => ∃ k : Nat, k ≤ L ∧ i = .int .i64 ((k : Int) - 1) ∧ Hid (DN wr v (A / 2 ^ k % B)) ∧ Hid (From (w.heap.size + 1) v) ∧ Hid (Own wr w.heap.size n (A / 2 ^ k / B * 2 ^ k)) ∧ Hid (Below w.heap.size w wr)) (fun _ i _ => (intOf i + 1).toNat)
  case atStart =>
    have e : A / 2 ^ L = 0 := Nat.div_eq_of_lt HAlt.out
    exact ⟨L, Nat.le_refl _, rfl, by rw [e, Nat.zero_mod]; exact Or.inl ⟨rfl, _, _, rfl⟩, from_nil _, by rw [e, Nat.zero_div, Nat.zero_mul]; exact HO, HW0⟩
  case round =>
    clear HO hmk HW0
    obtain ⟨k, hk, rfl, HD, HFr, HOwn, HBl⟩ := hrel
    cases k with
    | zero =>
      rw [Nat.pow_zero, Nat.div_one] at HD HOwn
      rw [Nat.mul_one] at HOwn
      have hM : Hid (A / B < 2 ^ (32 * n)) := Nat.lt_of_le_of_lt (Nat.div_le_self _ _) (by rw [← hn0.out]; exact nd_lt A)
      have hlt2 := HOwn.out.lt
      have HQ := hide (dn_mk HOwn.out.row hM.out (Nat.le_refl _) hlt2)
      go_wp2_with fail
      refine (trim_row _ _ _ _ _ HOwn.out.row hM.out (Nat.le_refl _) (by omega)).mono ?_
      rintro e w' ⟨rfl, rfl⟩
      go_wp2_with fail
      go_ret2
      exact ⟨_, _, rfl, HQ.out, HD.out, from_at _ _ _ _ (Nat.le_refl _), from_mono HFr.out (by omega), HBl.out⟩
    | succ i =>
      have hz : w.heap.size < wr.heap.size := HOwn.out.lt
      obtain ⟨R, hR⟩ : ∃ R, R = A / 2 ^ (i + 1) % B := ⟨_, rfl⟩
      rw [← hR] at HD
      obtain ⟨pv, cv, rfl⟩ := HD.out.form
      have hRB : R < B := by rw [hR]; exact Nat.mod_lt _ hB0
      have HRd : Hid (nd R ≤ 10000000) := by
        have h1 : R < 2 ^ (32 * nd B) := Nat.lt_trans hRB (nd_lt B)
        have := nd_mono h1
        show nd R ≤ 10000000
        omega
      obtain ⟨b, hb⟩ : ∃ b, b = A / 2 ^ i % 2 := ⟨_, rfl⟩
      have HBit := hide (div_bit hB0 hR hb)
      obtain ⟨S, hS⟩ : ∃ S, R * 2 + b = S := ⟨_, rfl⟩
      rw [hS] at HBit
      have hSB : S < 2 * B := by
        have : b < 2 := by rw [hb]; exact Nat.mod_lt _ (by decide)
        omega
      have HSd : Hid (nd S ≤ 10000000) := by
        have h1 : S < 2 ^ (32 * (nd B + 1)) := by
          have := nd_lt B
          rw [pow32]; omega
        have := nd_mono h1
        show nd S ≤ 10000000
        omega
      obtain ⟨j, r, hij, hr⟩ : ∃ j r, i = 32 * j + r ∧ r < 32 := ⟨i / 32, i % 32, by omega, by omega⟩
      have hjn : j < n := by omega
      have hq : (i : Int) / 32 = j := by omega
      have hrr : (i : Int) % 32 = r := by omega
      have HIJ := hide hij
      have hrow2 := hrow.out j hjn
      have hca : wr.cell? ⟨g, j, none⟩ = some (.int .u64 (dgt A j : Int)) := (HBl.out.cell (p := ⟨g, j, none⟩) hg).trans (hrow.out j hjn)
      have hbit : ((dgt A j : Int) / 2 ^ r).tmod 2 = b := by
        have := bit_dgt A i j r hij hr
        rw [← hb] at this
        rw [← this]
        have e1 : ((2 : Int) ^ r) = ((2 ^ r : Nat) : Int) := by rw [Int.natCast_pow]; rfl
        rw [e1, ← Int.natCast_ediv, Int.tmod_eq_emod_of_nonneg (Int.natCast_nonneg _)]; rfl
      have HPut := hide (put_bit (Q := A / 2 ^ (i + 1) / B) hij hr)
      have hdl := dgt_lt A j
      generalize dgt A j = D at hca hbit hdl
      have HSh : Hid (Calls Tryz.prog 169 #[.slice pv (nd R) cv, .int .i64 1] wr fun e w' => ∃ v, e = .returned v ∧ DN w' v (R * 2) ∧ From wr.heap.size v ∧ Below wr.heap.size wr w') := shiftUp_new _ R 1 wr HD.out HRd.out (by omega)
      have hS2 : b = 0 ∧ R * 2 = S ∨ b = 1 ∧ R * 2 + 1 = S := by
        have : b < 2 := by rw [hb]; exact Nat.mod_lt _ (by decide)
        omega
      clear hR hb HD HFr hS hij hrow2
      generalize nd R = lR at *
      have hi1 : ((i + 1 : Nat) : Int) - 1 = i := by omega
      rw [hi1]
      go_wp2_with fail
      refine HSh.out.mono ?_
      rintro e w1 ⟨v1, rfl, hd1, hf1, hb1⟩
      obtain ⟨p1, l1, c1, rfl⟩ := dn_shape hd1
      have hca1 : w1.cell? ⟨g, j, none⟩ = some (.int .u64 (D : Int)) := (hb1.cell (p := ⟨g, j, none⟩) (Nat.lt_of_lt_of_le hg HBl.out.size)).trans hca
      have hz1 : wr.heap.size ≤ w1.heap.size := hb1.size
      have HB1 := hide hb1
      clear hb1 HSh hca
      rcases hS2 with ⟨rfl, hS⟩ | ⟨rfl, hS⟩
      · have hbt : (((D : Int) / 2 ^ r).tmod 2 == 1) = false := by rw [hbit]; rfl
        clear hbit
        rw [hS] at hd1
        have HD1 := hide hd1
        have HF1 := hide hf1
        clear hd1 hf1 hS
        go_wp2_with fail
        have HX1 := HB1
        by_cases hc : B ≤ S
        · obtain ⟨t, ht, ht0⟩ : ∃ t : Int, cmpN S B = t ∧ 0 ≤ t := by
            rcases Nat.lt_or_eq_of_le hc with h | h
            · exact ⟨1, cmpN_gt h, by decide⟩
            · exact ⟨0, cmpN_eq h.symm, by decide⟩
          have HBw := hide (HBl.out.trans (HX1.out.mono HBl.out.size))
          have HCmp : Hid (Calls Tryz.prog 171 #[.slice p1 l1 c1, vb] w1 fun e w' => e = .returned (.int .i64 t) ∧ ∃ q, w' = w1.drewN q) := by
            rw [← ht]; exact cmpDigits_any _ _ S B w1 HD1.out (HB.out.below HBw.out) HSd.out
          refine HCmp.out.mono ?_
          rintro e w3 ⟨rfl, q3, hq3⟩
          have HB3 : Hid (Below w1.heap.size w1 w3) := by rw [hq3]; exact below_drewN (Below.refl _ _) _
          have HB3w := hide (HBw.out.trans (HB3.out.mono HBw.out.size))
          have HSub := hide (subDigits_any _ _ S B w3 (HD1.out.below HB3.out) (HB.out.below HB3w.out) HSd.out hc)
          obtain ⟨hm1, hm2⟩ := HBit.out.1 hc
          rw [← hm1] at HSub
          have HM2 := hide hm2
          clear ht hm1 hm2 hq3 HCmp
          go_wp2_with fail
          refine HSub.out.mono ?_
          rintro e w4 ⟨v4, rfl, hd4, hf4, hb4⟩
          obtain ⟨p4, l4, c4, rfl⟩ := dn_shape hd4
          have HBwr := hide (HX1.out.trans (HB3.out.mono HX1.out.size))
          have HB4r := hide (HBwr.out.trans (hb4.mono HBwr.out.size))
          have HB4w := hide (HB3w.out.trans (hb4.mono HB3w.out.size))
          have HO4 := hide (own_below2 HOwn.out hz HB4r.out)
          have ho := HO4.out.cell (i := j) hjn
          have fo := HO4.out.frozen j
          obtain ⟨hp1, hp2⟩ := HPut.out
          rw [← HM2.out] at hp2
          have HD4 := hide hd4
          have HF4 := hide (from_mono hf4 (show wr.heap.size ≤ _ from HBwr.out.size))
          obtain ⟨o, hoo⟩ : ∃ o, dgt (A / 2 ^ (i + 1) / B * 2 ^ (i + 1)) j = o := ⟨_, rfl⟩
          rw [hoo] at ho hp1 hp2
          obtain ⟨P, hP⟩ : ∃ P, 2 ^ r = P := ⟨_, rfl⟩
          have wp := wrap_pow hr
          rw [hP] at wp hp1 hp2
          have e1 : ((2 : Int) ^ r) = (P : Int) := by rw [← hP, Int.natCast_pow]; rfl
          have ws : IntKind.u64.wrap ((o : Int) + (P : Int)) = ((o + P : Nat) : Int) := by rw [IntKind.wrap_u64]; omega
          have td : (i : Int).tdiv 32 = j := by rw [Int.tdiv_eq_ediv_of_nonneg (by omega)]; exact hq
          have tm : (i : Int).tmod 32 = r := by rw [Int.tmod_eq_emod_of_nonneg (by omega)]; exact hrr
          have jn : (j : Int) < (n : Int) := by omega
          have HP2 := hide hp2
          clear hd4 hf4 hb4 hoo hP hp2 HPut HBit HOwn HB3 HBw HB3w HSub HD1 HF1 HBl HB1 HX1
          go_wp2_with fail
          go_region
          have HD5 := hide (HD4.out.set (from_mono HF4.out hz) (a := ⟨w.heap.size, j, none⟩) (Nat.lt_succ_self _) (.int .u64 ((o : Int) + (P : Int))))
          have HO5 := hide (Own.put (j := j) (d := o + P) (x := (o : Int) + (P : Int)) HO4.out (by omega) hp1)
          rw [HP2.out] at HO5
          have HB5 := hide (HB4w.out.setCell (p := ⟨w.heap.size, j, none⟩) (Nat.le_refl _) (.int .u64 ((o : Int) + (P : Int)))).drew
          clear HO4 HD4 HB4w HB4r HBwr HP2
          go_wp2_with fail
          go_roundw
          case rel => exact ⟨i, by omega, rfl, HD5, from_mono HF4.out hz, HO5, HB5⟩
          case measure => simp [intOf]
        · obtain ⟨hm1, hm2⟩ := HBit.out.2 (by omega)
          have HBw := hide (HBl.out.trans (HX1.out.mono HBl.out.size))
          have HCmp : Hid (Calls Tryz.prog 171 #[.slice p1 l1 c1, vb] w1 fun e w' => e = .returned (.int .i64 (-1)) ∧ ∃ q, w' = w1.drewN q) := by
            rw [← cmpN_lt (show S < B by omega)]; exact cmpDigits_any _ _ S B w1 HD1.out (HB.out.below HBw.out) HSd.out
          have HO := hide HOwn.out
          rw [← hm2] at HO
          rw [← hm1] at HD1
          refine HCmp.out.mono ?_
          rintro e w3 ⟨rfl, q3, hq3⟩
          have HB3 : Hid (Below w1.heap.size w1 w3) := by rw [hq3]; exact below_drewN (Below.refl _ _) _
          have HB3w := hide (HBw.out.trans (HB3.out.mono HBw.out.size))
          have HD3 := hide (HD1.out.below HB3.out)
          have HO3 := hide (own_below2 HO.out hz ((HX1.out.trans (HB3.out.mono HX1.out.size))))
          clear hm1 hm2 hq3 HCmp HO HOwn HB3 HBw
          go_wp2_with fail
          go_roundw
          case rel => exact ⟨i, by omega, rfl, HD3, from_mono HF1.out (by omega), HO3, HB3w⟩
          case measure => simp [intOf]
      · have hbt : (((D : Int) / 2 ^ r).tmod 2 == 1) = true := by rw [hbit]; rfl
        clear hbit
        have HAdd : Hid (Calls Tryz.prog 170 #[.slice p1 l1 c1, .slice (some ⟨w1.heap.size, 0, none⟩) 1 1] (w1.alloc (.cells #[.int .u64 1] 48)) fun e w' => ∃ v, e = .returned v ∧ DN w' v S ∧ From w1.heap.size v ∧ Below w1.heap.size w1 w') := by
          have hb := (Below.refl w1.heap.size w1).alloc (Nat.le_refl _) (.cells #[.int .u64 1] 48)
          have h2 := HSd.out
          have h3 : nd (R * 2) ≤ 10000000 := Nat.le_trans (nd_mono (Nat.lt_of_le_of_lt (show R * 2 ≤ S by omega) (nd_lt S))) h2
          have := addDigits_any _ _ (R * 2) 1 _ (hd1.below hb) (dn_one w1) h3 (by decide)
          rw [hS] at this
          exact this.mono fun _ _ ⟨v, a, b, c, d⟩ => ⟨v, a, b, from_mono c (by simp), hb.trans (d.mono (by simp))⟩
        clear hd1 hf1 hS
        go_wp2_with fail
        refine HAdd.out.mono ?_
        rintro e w2 ⟨v2, rfl, hd1, hf1, hb1⟩
        obtain ⟨p2, l2, c2, rfl⟩ := dn_shape hd1
        have HD1 := hide hd1
        have HF1 := hide (from_mono hf1 hz1)
        have HB2 := hide (HB1.out.trans (hb1.mono hz1))
        clear hd1 hf1 hb1 HAdd hca1
        go_wp2_with fail
        have HX1 := HB2
        by_cases hc : B ≤ S
        · obtain ⟨t, ht, ht0⟩ : ∃ t : Int, cmpN S B = t ∧ 0 ≤ t := by
            rcases Nat.lt_or_eq_of_le hc with h | h
            · exact ⟨1, cmpN_gt h, by decide⟩
            · exact ⟨0, cmpN_eq h.symm, by decide⟩
          have HBw := hide (HBl.out.trans (HX1.out.mono HBl.out.size))
          have HCmp : Hid (Calls Tryz.prog 171 #[.slice p2 l2 c2, vb] w2 fun e w' => e = .returned (.int .i64 t) ∧ ∃ q, w' = w2.drewN q) := by
            rw [← ht]; exact cmpDigits_any _ _ S B w2 HD1.out (HB.out.below HBw.out) HSd.out
          refine HCmp.out.mono ?_
          rintro e w3 ⟨rfl, q3, hq3⟩
          have HB3 : Hid (Below w2.heap.size w2 w3) := by rw [hq3]; exact below_drewN (Below.refl _ _) _
          have HB3w := hide (HBw.out.trans (HB3.out.mono HBw.out.size))
          have HSub := hide (subDigits_any _ _ S B w3 (HD1.out.below HB3.out) (HB.out.below HB3w.out) HSd.out hc)
          obtain ⟨hm1, hm2⟩ := HBit.out.1 hc
          rw [← hm1] at HSub
          have HM2 := hide hm2
          clear ht hm1 hm2 hq3 HCmp
          go_wp2_with fail
          refine HSub.out.mono ?_
          rintro e w4 ⟨v4, rfl, hd4, hf4, hb4⟩
          obtain ⟨p4, l4, c4, rfl⟩ := dn_shape hd4
          have HBwr := hide (HX1.out.trans (HB3.out.mono HX1.out.size))
          have HB4r := hide (HBwr.out.trans (hb4.mono HBwr.out.size))
          have HB4w := hide (HB3w.out.trans (hb4.mono HB3w.out.size))
          have HO4 := hide (own_below2 HOwn.out hz HB4r.out)
          have ho := HO4.out.cell (i := j) hjn
          have fo := HO4.out.frozen j
          obtain ⟨hp1, hp2⟩ := HPut.out
          rw [← HM2.out] at hp2
          have HD4 := hide hd4
          have HF4 := hide (from_mono hf4 (show wr.heap.size ≤ _ from HBwr.out.size))
          obtain ⟨o, hoo⟩ : ∃ o, dgt (A / 2 ^ (i + 1) / B * 2 ^ (i + 1)) j = o := ⟨_, rfl⟩
          rw [hoo] at ho hp1 hp2
          obtain ⟨P, hP⟩ : ∃ P, 2 ^ r = P := ⟨_, rfl⟩
          have wp := wrap_pow hr
          rw [hP] at wp hp1 hp2
          have e1 : ((2 : Int) ^ r) = (P : Int) := by rw [← hP, Int.natCast_pow]; rfl
          have ws : IntKind.u64.wrap ((o : Int) + (P : Int)) = ((o + P : Nat) : Int) := by rw [IntKind.wrap_u64]; omega
          have td : (i : Int).tdiv 32 = j := by rw [Int.tdiv_eq_ediv_of_nonneg (by omega)]; exact hq
          have tm : (i : Int).tmod 32 = r := by rw [Int.tmod_eq_emod_of_nonneg (by omega)]; exact hrr
          have jn : (j : Int) < (n : Int) := by omega
          have HP2 := hide hp2
          clear hd4 hf4 hb4 hoo hP hp2 HPut HBit HOwn HB3 HBw HB3w HSub HD1 HF1 HBl HB1 HX1
          go_wp2_with fail
          go_region
          have HD5 := hide (HD4.out.set (from_mono HF4.out hz) (a := ⟨w.heap.size, j, none⟩) (Nat.lt_succ_self _) (.int .u64 ((o : Int) + (P : Int))))
          have HO5 := hide (Own.put (j := j) (d := o + P) (x := (o : Int) + (P : Int)) HO4.out (by omega) hp1)
          rw [HP2.out] at HO5
          have HB5 := hide (HB4w.out.setCell (p := ⟨w.heap.size, j, none⟩) (Nat.le_refl _) (.int .u64 ((o : Int) + (P : Int)))).drew
          clear HO4 HD4 HB4w HB4r HBwr HP2
          go_wp2_with fail
          go_roundw
          case rel => exact ⟨i, by omega, rfl, HD5, from_mono HF4.out hz, HO5, HB5⟩
          case measure => simp [intOf]
        · obtain ⟨hm1, hm2⟩ := HBit.out.2 (by omega)
          have HBw := hide (HBl.out.trans (HX1.out.mono HBl.out.size))
          have HCmp : Hid (Calls Tryz.prog 171 #[.slice p2 l2 c2, vb] w2 fun e w' => e = .returned (.int .i64 (-1)) ∧ ∃ q, w' = w2.drewN q) := by
            rw [← cmpN_lt (show S < B by omega)]; exact cmpDigits_any _ _ S B w2 HD1.out (HB.out.below HBw.out) HSd.out
          have HO := hide HOwn.out
          rw [← hm2] at HO
          rw [← hm1] at HD1
          refine HCmp.out.mono ?_
          rintro e w3 ⟨rfl, q3, hq3⟩
          have HB3 : Hid (Below w2.heap.size w2 w3) := by rw [hq3]; exact below_drewN (Below.refl _ _) _
          have HB3w := hide (HBw.out.trans (HB3.out.mono HBw.out.size))
          have HD3 := hide (HD1.out.below HB3.out)
          have HO3 := hide (own_below2 HO.out hz ((HX1.out.trans (HB3.out.mono HX1.out.size))))
          clear hm1 hm2 hq3 HCmp HO HOwn HB3 HBw
          go_wp2_with fail
          go_roundw
          case rel => exact ⟨i, by omega, rfl, HD3, from_mono HF1.out (by omega), HO3, HB3w⟩
          case measure => simp [intOf]
theorem divDigits_any (v vb : Value) (A B : Nat) (w : World) (hA : DN w v A) (hB : DN w vb B) (hA0 : A ≠ 0) (hB0 : 0 < B) (ha : nd A ≤ 10000) (hb : nd B ≤ 10000) :
    Calls Tryz.prog 136 #[v, vb] w fun e w' => ∃ q r, e = .returned (.tuple #[q, r]) ∧ DN w' q (A / B) ∧ DN w' r (A % B) ∧ From w.heap.size q ∧ From w.heap.size r ∧ Below w.heap.size w w' := by
  rcases hA with ⟨h0, _⟩ | ⟨h0, g, c, rfl, hc, hg, hr⟩
  · exact absurd h0 hA0
  · exact divDigits_row g c (nd A) (bl A) A B vb w hr hg h0 rfl hc rfl (bl_nd2 A) hB hB0 ha hb
end Go.Proofs.YtiiajhomdpfafaaGreatDoor
