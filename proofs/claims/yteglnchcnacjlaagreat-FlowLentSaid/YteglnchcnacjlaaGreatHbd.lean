/- Sums of the document's: what they are worth; the contract of inf. The contract of the document's Add of sums. The contract of the document's Add of sums: the walk. The contracts of package acc's Prod and Dot at any floats. The contract of the document's Prod of sums. The contract of the document's Prod of two numbers, and of Value. The contracts of the document's Value and Sum. The contracts of the document's Sum and Dot. -/
import Derived.Test.YteglnchcnacjlaaGreatHas
import Derived.Test.YteglnchcnacjlaaGreatHbc
import Derived.Test.YteglnchcnacjlaaGreatHam
namespace Go.Proofs.YteglnchcnacjlaaGreat
open Go.RowKit

abbrev AV (s : Int) (neg : Bool) (v : Value) (e : Int) : Value := .agg #[.int .i64 s, .bool neg, v, .int .i64 e]
abbrev boxA (w : World) (s : Int) (neg : Bool) (v : Value) (e : Int) : World := w.alloc (.cells #[.int .i64 s, .bool neg, v, .int .i64 e] 75)
abbrev boxA2 (w : World) (s : Int) (neg : Bool) (v : Value) (e : Int) : World := boxA (boxA w s neg v e) 0 false (.slice none 0 0) 0
theorem boxA2_size (w : World) (s : Int) (neg : Bool) (v : Value) (e : Int) : (boxA2 w s neg v e).heap.size = w.heap.size + 2 := by simp
theorem boxA2_below (w : World) (s : Int) (neg : Bool) (v : Value) (e : Int) : Below w.heap.size w (boxA2 w s neg v e) :=
  ((Below.refl _ _).alloc (Nat.le_refl _) _).trans (((Below.refl _ _).alloc (Nat.le_refl _) _).mono (by simp))
structure Cells8 (w' w : World) (s : Int) (neg : Bool) (v : Value) (e : Int) : Prop where
  c0 : w'.cell? ⟨w.heap.size, 0, none⟩ = some (.int .i64 s)
  c1 : w'.cell? ⟨w.heap.size, 1, none⟩ = some (.bool neg)
  c2 : w'.cell? ⟨w.heap.size, 2, none⟩ = some v
  c3 : w'.cell? ⟨w.heap.size, 3, none⟩ = some (.int .i64 e)
  d0 : w'.cell? ⟨w.heap.size + 1, 0, none⟩ = some (.int .i64 0)
  d1 : w'.cell? ⟨w.heap.size + 1, 1, none⟩ = some (.bool false)
  d2 : w'.cell? ⟨w.heap.size + 1, 2, none⟩ = some (.slice none 0 0)
  d3 : w'.cell? ⟨w.heap.size + 1, 3, none⟩ = some (.int .i64 0)
  f0 : w'.frozen? ⟨w.heap.size + 1, 0, none⟩ = false
  f1 : w'.frozen? ⟨w.heap.size + 1, 1, none⟩ = false
  f2 : w'.frozen? ⟨w.heap.size + 1, 2, none⟩ = false
  f3 : w'.frozen? ⟨w.heap.size + 1, 3, none⟩ = false
theorem cells8_at (w : World) (s : Int) (neg : Bool) (v : Value) (e : Int) : Cells8 (boxA2 w s neg v e) w s neg v e := by
  have hb : Below (boxA w s neg v e).heap.size (boxA w s neg v e) (boxA2 w s neg v e) := (Below.refl _ _).alloc (Nat.le_refl _) _
  have hs : w.heap.size < (boxA w s neg v e).heap.size := by simp
  have e1 : w.heap.size + 1 = (boxA w s neg v e).heap.size := by simp
  refine ⟨?_, ?_, ?_, ?_, ?_, ?_, ?_, ?_, ?_, ?_, ?_, ?_⟩
  · rw [hb.cell (p := ⟨w.heap.size, 0, none⟩) hs]; simp
  · rw [hb.cell (p := ⟨w.heap.size, 1, none⟩) hs]; simp
  · rw [hb.cell (p := ⟨w.heap.size, 2, none⟩) hs]; simp
  · rw [hb.cell (p := ⟨w.heap.size, 3, none⟩) hs]; simp
  · rw [e1]; simp
  · rw [e1]; simp
  · rw [e1]; simp
  · rw [e1]; simp
  · rw [e1]; exact World.frozen?_alloc_new _ _ _ _
  · rw [e1]; exact World.frozen?_alloc_new _ _ _ _
  · rw [e1]; exact World.frozen?_alloc_new _ _ _ _
  · rw [e1]; exact World.frozen?_alloc_new _ _ _ _
theorem Cells8.below {w1 w2 w : World} {s : Int} {neg : Bool} {v : Value} {e : Int} {b : Nat} (h : Cells8 w1 w s neg v e) (hb : Below b w1 w2) (hs : w.heap.size + 1 < b) : Cells8 w2 w s neg v e := by
  have h0 : w.heap.size < b := by omega
  exact ⟨(hb.cell (p := ⟨w.heap.size, 0, none⟩) h0).trans h.c0, (hb.cell (p := ⟨w.heap.size, 1, none⟩) h0).trans h.c1, (hb.cell (p := ⟨w.heap.size, 2, none⟩) h0).trans h.c2, (hb.cell (p := ⟨w.heap.size, 3, none⟩) h0).trans h.c3,
    (hb.cell (p := ⟨w.heap.size + 1, 0, none⟩) hs).trans h.d0, (hb.cell (p := ⟨w.heap.size + 1, 1, none⟩) hs).trans h.d1, (hb.cell (p := ⟨w.heap.size + 1, 2, none⟩) hs).trans h.d2, (hb.cell (p := ⟨w.heap.size + 1, 3, none⟩) hs).trans h.d3,
    (hb.frozen (p := ⟨w.heap.size + 1, 0, none⟩) hs).trans h.f0, (hb.frozen (p := ⟨w.heap.size + 1, 1, none⟩) hs).trans h.f1, (hb.frozen (p := ⟨w.heap.size + 1, 2, none⟩) hs).trans h.f2, (hb.frozen (p := ⟨w.heap.size + 1, 3, none⟩) hs).trans h.f3⟩
abbrev put4 (w : World) (b : Nat) (s : Int) (neg : Bool) (v : Value) (e : Int) : World :=
  (((w.setCell ⟨b, 0, none⟩ (.int .i64 s)).setCell ⟨b, 1, none⟩ (.bool neg)).setCell ⟨b, 2, none⟩ v).setCell ⟨b, 3, none⟩ (.int .i64 e)
theorem put4_below {w w1 : World} {B b : Nat} {s : Int} {neg : Bool} {v : Value} {e : Int} (h : Below B w w1) (hb : B ≤ b) : Below B w (put4 w1 b s neg v e) :=
  (((h.setCell (p := ⟨b, 0, none⟩) hb _).setCell (p := ⟨b, 1, none⟩) hb _).setCell (p := ⟨b, 2, none⟩) hb _).setCell (p := ⟨b, 3, none⟩) hb _
theorem put4_dn {w : World} {b B M : Nat} {s : Int} {neg : Bool} {v u : Value} {e : Int} (h : DN w u M) (hf : From B u) (hb : b < B) : DN (put4 w b s neg v e) u M :=
  (((h.set hf (a := ⟨b, 0, none⟩) hb _).set hf (a := ⟨b, 1, none⟩) hb _).set hf (a := ⟨b, 2, none⟩) hb _).set hf (a := ⟨b, 3, none⟩) hb _

theorem mt_inf (s : Nat) (t : Nat) (hs : s ≤ 3) (ht : t = 1 ∨ t = 2) : A.mt s t = if s = 0 ∨ s = t then t else 3 := by
  unfold A.mt
  rcases ht with rfl | rfl
  all_goals rcases (show s = 0 ∨ s = 1 ∨ s = 2 ∨ s = 3 by omega) with rfl | rfl | rfl | rfl <;> decide

set_option maxHeartbeats 1600000 in
theorem refInfS (s : Nat) (neg b : Bool) (v : Value) (e : Int) (w : World) (hs : s ≤ 3) :
    Calls Tryz.prog 61 #[AV (s : Int) neg v e, .bool b] w fun x w' => x = .returned (AV (A.mt s (if b then 2 else 1) : Nat) false (.slice none 0 0) 0) ∧ Below w.heap.size w w' := by
  cases b
  all_goals
    rcases (show s = 0 ∨ s = 1 ∨ s = 2 ∨ s = 3 by omega) with rfl | rfl | rfl | rfl
    all_goals
      go_enter Tryz.func61, Tryz.ntmps61
      go_wp2_with fail
      refine bodyPost_ret (v := .agg #[.int .i64 _, .bool false, .slice none 0 0, .int .i64 0]) (by simp [results, Tryz.results61, go_sem]; rfl) rfl ⟨rfl, ?_⟩
      exact ((Below.refl _ _).alloc (Nat.le_refl _) _).trans (((Below.refl _ _).alloc (Nat.le_refl _) _).mono (by simp))
end Go.Proofs.YteglnchcnacjlaaGreat
namespace Go.Proofs.YteglnchcnacjlaaGreat
open Go.RowKit

structure DV (s : Nat) (neg : Bool) (M : Nat) (e N : Int) (k : Nat) : Prop where
  s3 : s ≤ 3
  lo : -2148 ≤ e
  hi : e ≤ 2000
  val : sg neg M * ((2 ^ (e + 2148).toNat : Nat) : Int) = N
  none : s ≠ 0 → N = 0
  bd : ∃ K, K = 4200 ∧ N.natAbs ≤ k * 2 ^ K
theorem DV.zero {s : Nat} (h : s ≤ 3) (k : Nat) : DV s false 0 0 0 k :=
  ⟨h, by decide, by decide, by rw [sg_zero_any, Int.zero_mul], fun _ => rfl, 4200, rfl, Nat.zero_le _⟩
theorem DV.mono {s : Nat} {neg : Bool} {M : Nat} {e N : Int} {k k' : Nat} (h : DV s neg M e N k) (hk : k ≤ k') : DV s neg M e N k' := by
  obtain ⟨K, hK, hb⟩ := h.bd
  exact ⟨h.s3, h.lo, h.hi, h.val, h.none, K, hK, Nat.le_trans hb (Nat.mul_le_mul_right _ hk)⟩
theorem DV.le {s : Nat} {neg : Bool} {M : Nat} {e N : Int} {k : Nat} (h : DV s neg M e N k) : M ≤ N.natAbs := by
  rw [← h.val, Int.natAbs_mul, sgn_abs, Int.natAbs_natCast]
  exact Nat.le_mul_of_pos_right _ (Nat.two_pow_pos _)
def FewK (k : Nat) : Prop := ∃ j, j = 150 ∧ k ≤ 2 ^ j
theorem fewK_of {k : Nat} (h : k ≤ 1000) : FewK k := ⟨150, rfl, Nat.le_trans h (by decide)⟩
theorem DV.nd {s : Nat} {neg : Bool} {M : Nat} {e N : Int} {k : Nat} (h : DV s neg M e N k) (hk : FewK k) : nd M ≤ 1000 ∧ nd M ≤ 137 := by
  obtain ⟨K, hK, hb⟩ := h.bd
  obtain ⟨j, hj, hk⟩ := hk
  have h1 : M < 2 ^ (K + j + 1) := by
    have h0 := h.le
    have h2 : k * 2 ^ K ≤ 2 ^ j * 2 ^ K := Nat.mul_le_mul_right _ hk
    rw [← Nat.pow_add] at h2
    rw [Nat.pow_succ, Nat.add_comm K j]
    have h3 := Nat.two_pow_pos (j + K)
    generalize 2 ^ (j + K) = P at *
    omega
  obtain ⟨c, hc⟩ : ∃ c : Nat, c = 137 := ⟨_, rfl⟩
  have := nd_mono (N := M) (k := c) (Nat.lt_of_lt_of_le h1 (Nat.pow_le_pow_right (by decide) (by omega)))
  omega

structure PL (M X : Nat) (nm nx : Bool) (e ex E : Int) (n m : Nat) (S T : Int) (k : Nat) : Prop where
  hn : M ≠ 0 → e - E = (n : Int)
  hm : X ≠ 0 → ex - E = (m : Int)
  hn1 : n ≤ 5000
  hm1 : m ≤ 5000
  lo : -2148 ≤ E
  hi : E ≤ 2000
  hk : E + 2148 = (k : Int)
  had : nd (M * 2 ^ n) ≤ 10000000
  hbd : nd (X * 2 ^ m) ≤ 10000000
  val : S * ((2 ^ k : Nat) : Int) = T
theorem nd_shift {M n : Nat} (h : nd M ≤ 1000) (hn : n ≤ 5000) : nd (M * 2 ^ n) ≤ 10000000 := by
  have h1 : M * 2 ^ n < 2 ^ (32 * nd M) * 2 ^ n := Nat.mul_lt_mul_of_pos_right (nd_lt M) (Nat.two_pow_pos _)
  rw [← Nat.pow_add] at h1
  have := nd_mono (N := M * 2 ^ n) (k := nd M + n / 32 + 1) (Nat.lt_of_lt_of_le h1 (Nat.pow_le_pow_right (by decide) (by omega)))
  omega
theorem piece_val {M n k : Nat} {neg : Bool} {e : Int} (hk : M ≠ 0 → n + k = (e + 2148).toNat) : sg neg (M * 2 ^ n) * ((2 ^ k : Nat) : Int) = sg neg M * ((2 ^ (e + 2148).toNat : Nat) : Int) := by
  rw [← sg_mul_nat, ← sg_mul_nat, Nat.mul_assoc, ← Nat.pow_add]
  by_cases h0 : M = 0
  · rw [h0, Nat.zero_mul, Nat.zero_mul]
  · rw [hk h0]
theorem pl_of {M X : Nat} {nm nx : Bool} {e ex E : Int} (h1 : -2148 ≤ e) (h2 : e ≤ 2000) (h3 : -2148 ≤ ex) (h4 : ex ≤ 2000) (hM : nd M ≤ 1000) (hX : nd X ≤ 1000) (hE : bothE M e X ex = E) :
    ∃ n m k, PL M X nm nx e ex E n m (sg nm (M * 2 ^ n) + sg nx (X * 2 ^ m)) (sg nm M * ((2 ^ (e + 2148).toNat : Nat) : Int) + sg nx X * ((2 ^ (ex + 2148).toNat : Nat) : Int)) k := by
  have hEr : -2148 ≤ E ∧ E ≤ 2000 ∧ (M ≠ 0 → E ≤ e) ∧ (X ≠ 0 → E ≤ ex) := by
    rw [← hE]; unfold bothE
    by_cases a : M = 0
    · rw [if_pos a]; refine ⟨h3, h4, fun h => absurd a h, fun _ => Int.le_refl _⟩
    · rw [if_neg a]
      by_cases b : X = 0
      · rw [if_pos b]; exact ⟨h1, h2, fun _ => Int.le_refl _, fun h => absurd b h⟩
      · rw [if_neg b]; refine ⟨by omega, by omega, fun _ => by omega, fun _ => by omega⟩
  obtain ⟨e1, e2, e3, e4⟩ := hEr
  refine ⟨(e - E).toNat, (ex - E).toNat, (E + 2148).toNat, fun h => by have := e3 h; omega, fun h => by have := e4 h; omega, by omega, by omega, e1, e2, by omega, nd_shift hM (by omega), nd_shift hX (by omega), ?_⟩
  rw [Int.add_mul, piece_val (e := e) (fun h => by have := e3 h; omega), piece_val (e := ex) (fun h => by have := e4 h; omega)]
theorem plus_dv {s M X N' n m k kk kk' : Nat} {nm nx neg' : Bool} {e ex E E' T : Int} (h : PL M X nm nx e ex E n m (sg nm (M * 2 ^ n) + sg nx (X * 2 ^ m)) T k) (hs : sg neg' N' = sg nm (M * 2 ^ n) + sg nx (X * 2 ^ m)) (hE : E' = E ∨ (E' = 0 ∧ N' = 0)) (hs0 : s = 0) (hb : ∃ K, K = 4200 ∧ T.natAbs ≤ kk * 2 ^ K) (hkk : kk ≤ kk') : DV s neg' N' E' T kk' := by
  obtain ⟨K, hK, hb⟩ := hb
  have hv := h.val
  rw [← hs] at hv
  have hlo := h.lo
  have hhi := h.hi
  have hk := h.hk
  refine ⟨by omega, by omega, by omega, ?_, fun c => absurd hs0 c, K, hK, Nat.le_trans hb (Nat.mul_le_mul_right _ hkk)⟩
  rcases hE with e1 | ⟨e1, e2⟩
  · rw [e1, show (E + 2148).toNat = k by omega]; exact hv
  · rw [e2, sg_zero_any, Int.zero_mul] at hv ⊢; exact hv

theorem split_at {p : Nat} {neg : Bool} {N : Nat} {e : Int} (h : OfR p neg N e) (h64 : p < 18446744073709551616) (hn : NumB p) : splM (p : Int) * ((2 ^ (splE (p : Int) + 2148).toNat : Nat) : Int) = sg neg N * ((2 ^ (e + 2148).toNat : Nat) : Int) ∧ splOk (p : Int) = true ∧ (N ≠ 0 → splM (p : Int) = sg neg N ∧ splE (p : Int) = e) ∧ (N = 0 → splM (p : Int) = 0) := by
  have hsz := szI_nat p
  have hn' := hn
  unfold NumB at hn'
  have hok : splOk (p : Int) = true := by unfold splOk; rw [hsz]; simp; omega
  have key : (N ≠ 0 → splM (p : Int) = sg neg N ∧ splE (p : Int) = e) ∧ (N = 0 → splM (p : Int) = 0) := by
    refine ⟨fun h0 => ?_, fun h0 => ?_⟩
    · obtain ⟨m1, m2⟩ := h.mag h0
      have hr0 : p % 9223372036854775808 ≠ 0 := by
        intro e0; rw [e0] at m1; exact h0 (by rw [m1]; decide)
      have g1 : magI ((p % 9223372036854775808 : Nat) : Int) = (mg (p % 9223372036854775808) : Int) := by
        generalize p % 9223372036854775808 = r at *
        unfold magI mg
        by_cases c : r < 4503599627370496
        · rw [if_pos c, if_pos (by omega)]
        · rw [if_neg c, if_neg (by omega)]; omega
      have g2 : plcI ((p % 9223372036854775808 : Nat) : Int) = -1074 + (pl (p % 9223372036854775808) : Int) := by
        generalize p % 9223372036854775808 = r at *
        unfold plcI pl
        by_cases c : r < 4503599627370496
        · rw [if_pos (by omega)]; omega
        · rw [if_neg (by omega)]; omega
      constructor
      · unfold splM
        rw [hok, if_pos rfl, hsz, g1, ← m1, sgB_nat h64, ← h.sgn h0]
        rfl
      · unfold splE
        rw [hok, hsz, g2, ← m2, show decide (((p % 9223372036854775808 : Nat) : Int) ≠ 0) = true by simpa using fun h => hr0 (by omega)]
        rfl
    · have hz : p % 9223372036854775808 = 0 := by
        have := h.val
        rw [h0, Nat.zero_mul] at this
        have e9 := V_eq_iff (r := p % 9223372036854775808) (s := 0)
        rw [V_zero] at e9
        exact e9.1 this.symm
      unfold splM
      rw [hok, if_pos rfl, hsz, hz, show magI ((0 : Nat) : Int) = 0 from rfl]
      split <;> rfl
  refine ⟨?_, hok, key⟩
  by_cases h0 : N = 0
  · rw [key.2 h0, h0, sg_zero_any, Int.zero_mul, Int.zero_mul]
  · rw [(key.1 h0).1, (key.1 h0).2]
theorem of_unit {x : Nat} {nx : Bool} {X : Nat} {ex : Int} (h : OfR x nx X ex) (h64 : x < 18446744073709551616) (hn : NumB x) : sg nx X * ((2 ^ (ex + 2148).toNat : Nat) : Int) = A.unitI (x : Int) := by
  rw [← (split_at h h64 hn).1]
  unfold A.unitI
  rw [Int.natCast_pow]; rfl
theorem of_small {x : Nat} {nx : Bool} {X : Nat} {ex : Int} (h : OfR x nx X ex) : ∃ K, K = 4200 ∧ (sg nx X * ((2 ^ (ex + 2148).toNat : Nat) : Int)).natAbs ≤ 1 * 2 ^ K := by
  refine ⟨4200, rfl, ?_⟩
  obtain ⟨K, hK⟩ : ∃ K : Nat, K = 4200 := ⟨_, rfl⟩
  rw [← hK]
  rw [Int.natAbs_mul, sgn_abs, Int.natAbs_natCast, Nat.one_mul]
  have h1 := h.lt
  have h2 := h.hi
  have h3 : X * 2 ^ (ex + 2148).toNat ≤ 2 ^ 53 * 2 ^ (ex + 2148).toNat := Nat.mul_le_mul_right _ (by omega)
  rw [← Nat.pow_add] at h3
  exact Nat.le_trans h3 (Nat.pow_le_pow_right (by decide) (by omega))
theorem sum_bd {A B : Int} {k : Nat} (hA : ∃ K, K = 4200 ∧ A.natAbs ≤ k * 2 ^ K) (hB : ∃ K, K = 4200 ∧ B.natAbs ≤ 1 * 2 ^ K) : ∃ K, K = 4200 ∧ (A + B).natAbs ≤ (k + 1) * 2 ^ K := by
  obtain ⟨K, hK, a⟩ := hA
  obtain ⟨K', hK', b⟩ := hB
  have : K' = K := by omega
  subst this
  refine ⟨K', hK, ?_⟩
  rw [Nat.add_mul]
  generalize k * 2 ^ K' = P at *
  generalize 1 * 2 ^ K' = Q at *
  omega
end Go.Proofs.YteglnchcnacjlaaGreat
namespace Go.Proofs.YteglnchcnacjlaaGreat
open Go.RowKit

theorem cells8_drew {w1 w : World} {s : Int} {neg : Bool} {v : Value} {e : Int} (h : Cells8 w1 w s neg v e) : Cells8 w1.drew w s neg v e := ⟨h.c0, h.c1, h.c2, h.c3, h.d0, h.d1, h.d2, h.d3, h.f0, h.f1, h.f2, h.f3⟩
theorem from_mono' {A B : Nat} {v : Value} (h : From B v) (hle : A ≤ B) : From A v := fun a l c e => Nat.le_trans hle (h a l c e)
def AddEnd (w : World) (v : Value) (M : Nat) (a : A.St) (k : Nat) (r : Ending) (w' : World) : Prop :=
  ∃ neg' v' M' e', r = .returned (AV (a.s : Int) neg' v' e') ∧ DN w' v' M' ∧ (v' = v ∧ M' = M ∨ From w.heap.size v') ∧ DV a.s neg' M' e' a.N k ∧ Below w.heap.size w w'
theorem addEnd_none {w w2 : World} {v : Value} {M : Nat} {a : A.St} {k : Nat} {s : Int} (hs : (a.s : Int) = s) (h3 : a.s ≤ 3) (hN : a.N = 0) (hb : Below w.heap.size w w2) :
    AddEnd w v M a k (.returned (AV s false (.slice none 0 0) 0)) w2 := by
  refine ⟨false, .slice none 0 0, 0, 0, by rw [hs], Or.inl ⟨rfl, _, _, rfl⟩, Or.inr (from_nil _), by rw [hN]; exact DV.zero h3 k, hb⟩
theorem merge_nan (s : Nat) (N : Int) (hs : s ≤ 3) : A.St.merge ⟨s, N⟩ ⟨3, 0⟩ = ⟨3, 0⟩ := by
  unfold A.St.merge A.mt
  rcases (show s = 0 ∨ s = 1 ∨ s = 2 ∨ s = 3 by omega) with rfl | rfl | rfl | rfl <;> rfl
theorem merge_num0 {s : Nat} {N M : Int} : A.St.merge ⟨s, N⟩ ⟨0, M⟩ = ⟨s, if s = 0 then N + M else 0⟩ := by
  unfold A.St.merge
  have e : A.mt s 0 = s := by simp [A.mt]
  simp only [e]
theorem ones_nan {u : Int} (h : nanB u = true) : A.oneS u = ⟨3, 0⟩ := by
  have h1 : splOk u = false := by
    unfold splOk; unfold nanB at h
    rw [decide_eq_true_eq] at h
    rw [decide_eq_false_iff_not]; omega
  unfold A.oneS A.endN
  rw [h1, h]; rfl
theorem ones_inf {u : Int} (h : infB u = true) : A.oneS u = ⟨if sgB u then 2 else 1, 0⟩ := by
  have h2 : szI u = 9218868437227405312 := by unfold infB at h; simpa using h
  have h1 : splOk u = false := by unfold splOk; rw [h2]; rfl
  have h3 : nanB u = false := by unfold nanB; rw [h2]; rfl
  unfold A.oneS A.endN
  rw [h1, h3]; rfl

set_option maxHeartbeats 1600000 in
theorem dAdd_nan (s : Nat) (neg : Bool) (v : Value) (M : Nat) (e : Int) (N : Int) (k : Nat) (u : Int) (w : World) (hs : s ≤ 3) (h : U64 u) (hn : nanB u = true) :
    Calls Tryz.prog 31 #[AV (s : Int) neg v e, .int .u64 u] w (AddEnd w v M (A.St.merge ⟨s, N⟩ (A.oneS u)) k) := by
  have HN := hide (refNaN_any u · h)
  rw [hn] at HN
  obtain ⟨tg, htg⟩ : ∃ tg, A.St.merge ⟨s, N⟩ (A.oneS u) = tg := ⟨_, rfl⟩
  have HT : Hid (tg = ⟨3, 0⟩) := by show _ = _; rw [← htg, ones_nan hn, merge_nan s N hs]
  rw [htg]
  have H8 := hide (cells8_at w (s : Int) neg v e)
  have HB := hide (boxA2_below w (s : Int) neg v e)
  obtain ⟨c0, c1, c2, c3, d0, d1, d2, d3, f0, f1, f2, f3⟩ := H8.out
  clear h hn htg
  go_enter Tryz.func31, Tryz.ntmps31
  go_wp2_with fail
  refine (turnedR (HN.out _)).mono ?_
  rintro x w' ⟨rfl, rfl⟩
  go_wp2_with fail
  refine bodyPost_ret (v := .agg #[.int .i64 3, .bool false, .slice none 0 0, .int .i64 0]) (by simp [results, Tryz.results31, go_sem]) rfl ?_
  exact addEnd_none (v := v) (M := M) (a := tg) (k := k) (s := 3) (by rw [HT.out]; rfl) (by rw [HT.out]; decide) (by rw [HT.out]) (((Below.refl _ _).alloc (Nat.le_refl _) _).trans (((Below.refl _ _).alloc (Nat.le_refl _) _).mono (by simp)))

set_option maxHeartbeats 1600000 in
theorem dAdd_inf (s : Nat) (neg : Bool) (v : Value) (M : Nat) (e : Int) (N : Int) (k : Nat) (u : Int) (w : World) (hs : s ≤ 3) (h : U64 u) (hn : nanB u = false) (hi : infB u = true) :
    Calls Tryz.prog 31 #[AV (s : Int) neg v e, .int .u64 u] w (AddEnd w v M (A.St.merge ⟨s, N⟩ (A.oneS u)) k) := by
  have HN := hide (refNaN_any u · h)
  have HI := hide (refInf_any u · h)
  rw [hn] at HN
  rw [hi] at HI
  obtain ⟨b, hb⟩ : ∃ b, sgB u = b := ⟨_, rfl⟩
  have HNg : Hid (∀ w, Calls Tryz.prog 62 #[.int .u64 u] w fun e w' => e = .returned (.bool b) ∧ w = w') := fun w => by
    have := refNegative_any u w
    rw [hb] at this
    exact turnedR this
  obtain ⟨tg, htg⟩ : ∃ tg, A.St.merge ⟨s, N⟩ (A.oneS u) = tg := ⟨_, rfl⟩
  obtain ⟨m, hm⟩ : ∃ m : Nat, A.mt s (if b then 2 else 1) = m := ⟨_, rfl⟩
  have hm3 : m ≤ 3 := by rw [← hm]; exact A.mt_lt hs (by split <;> omega)
  have hm0 : m ≠ 0 := by
    rw [← hm, mt_inf s _ hs (by cases b <;> simp)]
    cases b <;> simp <;> split <;> omega
  have HT : Hid (tg = ⟨m, 0⟩) := by
    show _ = _
    rw [← htg, ones_inf hi, hb]
    unfold A.St.merge
    dsimp only
    rw [hm, if_neg hm0]
  rw [htg]
  have HInf := hide fun w => refInfS s neg b v e w hs
  rw [hm] at HInf
  obtain ⟨mi, hmi⟩ : ∃ mi : Int, (m : Int) = mi := ⟨_, rfl⟩
  rw [hmi] at HInf
  have HE := hide fun (w2 : World) (hb : Below w.heap.size w w2) => addEnd_none (v := v) (M := M) (a := tg) (k := k) (s := mi) (by rw [HT.out]; exact hmi) (by rw [HT.out]; exact hm3) (by rw [HT.out]) hb
  have H8 := hide (cells8_at w (s : Int) neg v e)
  have HB := hide (boxA2_below w (s : Int) neg v e)
  have HZ := hide (boxA2_size w (s : Int) neg v e)
  obtain ⟨c0, c1, c2, c3, d0, d1, d2, d3, f0, f1, f2, f3⟩ := H8.out
  clear h hn hi htg hb hm hm0 hm3 hmi HT
  go_enter Tryz.func31, Tryz.ntmps31
  go_wp2_with fail
  refine (turnedR (HN.out _)).mono ?_
  rintro x w' ⟨rfl, rfl⟩
  go_wp2_with fail
  refine (turnedR (HI.out _)).mono ?_
  rintro x w' ⟨rfl, rfl⟩
  go_wp2_with fail
  go_region_with (first | ((go_at_call 62; refine (HNg.out _).mono ?_; rintro x w' ⟨rfl, rfl⟩)) | ((go_at_call 61; refine (HInf.out _).mono ?_; rintro x w4 ⟨rfl, hb4⟩; have HB4 := hide (HB.out.drew.trans (hb4.mono (show w.heap.size ≤ (boxA2 w (s : Int) neg v e).heap.size by rw [HZ.out]; omega))); have G8 := hide (Cells8.below (cells8_drew H8.out) hb4 (show w.heap.size + 1 < (boxA2 w (s : Int) neg v e).heap.size by rw [HZ.out]; omega)); have k0 := G8.out.d0; have k1 := G8.out.d1; have k2 := G8.out.d2; have k3 := G8.out.d3; have l0 := G8.out.f0; have l1 := G8.out.f1; have l2 := G8.out.f2; have l3 := G8.out.f3; clear hb4)))
  all_goals
    go_wp2_with fail
    refine bodyPost_ret (v := .agg #[.int .i64 mi, .bool false, .slice none 0 0, .int .i64 0]) (by simp [results, Tryz.results31, go_sem, k0, k1, k2, k3]) rfl ?_
    exact HE.out _ (put4_below HB4.out (by omega))

set_option maxHeartbeats 1600000 in
theorem dAdd_stay (s : Nat) (neg : Bool) (v : Value) (M : Nat) (e : Int) (N : Int) (k x : Nat) (u : Int) (w : World) (hd : DN w v M) (hv : DV s neg M e N k) (hs0 : s ≠ 0) (h : U64 u) (hn : nanB u = false) (hi : infB u = false) (hu : u = (x : Int)) :
    Calls Tryz.prog 31 #[AV (s : Int) neg v e, .int .u64 u] w (AddEnd w v M (A.St.merge ⟨s, N⟩ (A.oneS u)) (k + 1)) := by
  have HN := hide (refNaN_any u · h)
  have HI := hide (refInf_any u · h)
  rw [hn] at HN
  rw [hi] at HI
  obtain ⟨tg, htg⟩ : ∃ tg, A.St.merge ⟨s, N⟩ (A.oneS u) = tg := ⟨_, rfl⟩
  have HT : Hid (tg = ⟨s, N⟩) := by
    show _ = _
    have h1 : splOk u = true := by
      have := num_of hu hn hi
      unfold NumB at this
      unfold splOk; rw [hu, szI_nat]; simp; omega
    have h2 : A.oneS u = ⟨0, A.unitI u⟩ := by unfold A.oneS; rw [h1]; rfl
    rw [← htg, h2, merge_num0, if_neg hs0, hv.none hs0]
  rw [htg]
  obtain ⟨p, l, c, rfl⟩ := hd.shape
  have HD := hide hd
  have HV := hide (hv.mono (show k ≤ k + 1 by omega))
  have hne : (((s : Int) != 0)) = true := by simp; omega
  have hne2 : ((s : Int) == 0) = false := by simp; omega
  have H8 := hide (cells8_at w (s : Int) neg (.slice p l c) e)
  have HB := hide (boxA2_below w (s : Int) neg (.slice p l c) e)
  obtain ⟨c0, c1, c2, c3, d0, d1, d2, d3, f0, f1, f2, f3⟩ := H8.out
  clear h hn hi htg hd hv hu hs0
  go_enter Tryz.func31, Tryz.ntmps31
  go_wp2_with fail
  refine (turnedR (HN.out _)).mono ?_
  rintro x w' ⟨rfl, rfl⟩
  go_wp2_with fail
  refine (turnedR (HI.out _)).mono ?_
  rintro x w' ⟨rfl, rfl⟩
  go_wp2_with fail
  refine bodyPost_ret (v := .agg #[.int .i64 (s : Int), .bool neg, .slice p l c, .int .i64 e]) (by simp [results, Tryz.results31, go_sem]) rfl ?_
  have hbl : Below w.heap.size w ((w.alloc (.cells #[.int .i64 (s : Int), .bool neg, .slice p l c, .int .i64 e] 75)).alloc (.cells #[.int .i64 (s : Int), .bool neg, .slice p l c, .int .i64 e] 75)) := ((Below.refl _ _).alloc (Nat.le_refl _) _).trans (((Below.refl _ _).alloc (Nat.le_refl _) _).mono (by simp))
  rw [HT.out]
  exact ⟨neg, .slice p l c, M, e, rfl, HD.out.below hbl, Or.inl ⟨rfl, rfl⟩, HV.out, hbl⟩

set_option maxHeartbeats 1600000 in
theorem dAdd_num (neg : Bool) (v : Value) (M : Nat) (e : Int) (N : Int) (k x : Nat) (u : Int) (w : World) (hd : DN w v M) (hv : DV 0 neg M e N k) (hk : FewK k) (h : U64 u) (hn : nanB u = false) (hi : infB u = false) (hu : Hid (u = (x : Int))) :
    Calls Tryz.prog 31 #[AV 0 neg v e, .int .u64 u] w (AddEnd w v M (A.St.merge ⟨0, N⟩ (A.oneS u)) (k + 1)) := by
  have HN := hide (refNaN_any u · h)
  have HI := hide (refInf_any u · h)
  rw [hn] at HN
  rw [hi] at HI
  have hxn := num_of hu.out hn hi
  have hx64 : x < 18446744073709551616 := by have := h.2; rw [hu.out] at this; omega
  have HO := hide fun w => of_num x u w hu h hxn
  obtain ⟨tg, htg⟩ : ∃ tg, A.St.merge ⟨0, N⟩ (A.oneS u) = tg := ⟨_, rfl⟩
  have HT : Hid (tg = ⟨0, N + A.unitI (x : Int)⟩) := by
    show _ = _
    have h1 : splOk u = true := by
      unfold NumB at hxn
      unfold splOk; rw [hu.out, szI_nat]; simp; omega
    have h2 : A.oneS u = ⟨0, A.unitI u⟩ := by unfold A.oneS; rw [h1]; rfl
    rw [← htg, h2, merge_num0, if_pos rfl, hu.out]
  rw [htg]
  obtain ⟨p, l, c, rfl⟩ := hd.shape
  have HD := hide fun w' (hb : Below w.heap.size w w') => hd.below hb
  have HV := hide hv
  have H8 := hide (cells8_at w 0 neg (.slice p l c) e)
  have HB := hide (boxA2_below w 0 neg (.slice p l c) e)
  have HZ := hide (boxA2_size w 0 neg (.slice p l c) e)
  have HX := hide (And.intro hxn hx64)
  obtain ⟨c0, c1, c2, c3, d0, d1, d2, d3, f0, f1, f2, f3⟩ := H8.out
  clear h hn hi htg hd hv hxn hx64
  go_enter Tryz.func31, Tryz.ntmps31
  go_wp2_with fail
  refine (turnedR (HN.out _)).mono ?_
  rintro x w' ⟨rfl, rfl⟩
  go_wp2_with fail
  refine (turnedR (HI.out _)).mono ?_
  rintro x w' ⟨rfl, rfl⟩
  go_wp2_with fail
  go_region_with (first | ((go_at_call 55; refine (HO.out _).mono ?_; rintro r w3 ⟨nx, vx, X, ex, rfl, hdx, hX, hb3⟩; obtain ⟨px, lx, cx, rfl⟩ := hdx.shape; have HB3 := hide (HB.out.drew.trans (hb3.mono (show w.heap.size ≤ (boxA2 w 0 neg (.slice p l c) e).heap.size by rw [HZ.out]; omega))); have G8 := hide (Cells8.below (cells8_drew H8.out) hb3 (show w.heap.size + 1 < (boxA2 w 0 neg (.slice p l c) e).heap.size by rw [HZ.out]; omega)); have hz3 : w.heap.size + 2 ≤ w3.heap.size := (by have h9 := hb3.size; have h8 : (boxA2 w 0 neg (.slice p l c) e).heap.size ≤ w3.heap.size := h9; rw [HZ.out] at h8; exact h8); have HDx := hide hdx; have HOX := hide hX; have g1 := G8.out.c1; have g2 := G8.out.c2; have g3 := G8.out.c3; clear hb3 hdx hX)) | ((go_at_call 63; obtain ⟨E, hE⟩ : ∃ E, bothE M e X ex = E := ⟨_, rfl⟩; obtain ⟨n, m, kk, hPL⟩ := pl_of (nm := neg) (nx := nx) HV.out.lo HV.out.hi (show -2148 ≤ ex by have := HOX.out.lo; omega) (show ex ≤ 2000 by have := HOX.out.hi; omega) (HV.out.nd hk).1 (show nd X ≤ 1000 by have := nd_two HOX.out.lt; omega) hE; refine (plus_any neg nx (.slice p l c) (.slice px lx cx) e ex E M X n m w3 (HD.out _ HB3.out) HDx.out hE hPL.hn hPL.hm (by have := hPL.hn1; omega) (by have := hPL.hm1; omega) (by have := HV.out.nd hk; omega) (by have := nd_two HOX.out.lt; omega) hPL.had hPL.hbd).mono ?_; rintro r w4 ⟨neg', v', N', E', rfl, hd4, hf4, hs4, hE4, hb4⟩; obtain ⟨p4, l4, c4, rfl⟩ := hd4.shape; have HDV : Hid (DV 0 neg' N' E' (N + A.unitI (x : Int)) (k + 1)) := (by have hT := plus_dv (s := 0) (kk := k + 1) (kk' := k + 1) hPL hs4 hE4 rfl (by rw [HV.out.val]; exact sum_bd HV.out.bd (of_small HOX.out)) (Nat.le_refl _); rw [HV.out.val, of_unit HOX.out HX.out.2 HX.out.1] at hT; exact hT); have HB4 := hide (HB3.out.trans (hb4.mono HB3.out.size)); have K8 := hide (G8.out.below hb4 (show w.heap.size + 1 < w3.heap.size by omega)); have HD4 := hide hd4; have HF4 := hide (from_mono' hf4 hz3); have k0 := K8.out.d0; have k1 := K8.out.d1; have k2 := K8.out.d2; have k3 := K8.out.d3; have l0 := K8.out.f0; have l1 := K8.out.f1; have l2 := K8.out.f2; have l3 := K8.out.f3; clear hd4 hf4 hs4 hE4 hb4 hPL hE)))
  all_goals
    go_wp2_with fail
    refine bodyPost_ret (v := .agg #[.int .i64 0, .bool neg', .slice p4 l4 c4, .int .i64 E']) (by simp [results, Tryz.results31, go_sem, k0, k1, k2, k3]) rfl ?_
    rw [HT.out]
    exact ⟨neg', _, N', E', rfl, put4_dn HD4.out HF4.out (by omega), Or.inr (from_mono' HF4.out (by omega)), HDV.out, put4_below HB4.out (by omega)⟩

theorem dAdd (s : Nat) (neg : Bool) (v : Value) (M : Nat) (e : Int) (N : Int) (k x : Nat) (u : Int) (w : World) (hd : DN w v M) (hv : DV s neg M e N k) (hk : FewK k) (h : U64 u) (hu : Hid (u = (x : Int))) :
    Calls Tryz.prog 31 #[AV (s : Int) neg v e, .int .u64 u] w (AddEnd w v M (A.St.merge ⟨s, N⟩ (A.oneS u)) (k + 1)) := by
  cases hn : nanB u with
  | true => exact dAdd_nan s neg v M e N (k + 1) u w hv.s3 h hn
  | false =>
    cases hi : infB u with
    | true => exact dAdd_inf s neg v M e N (k + 1) u w hv.s3 h hn hi
    | false =>
      by_cases h0 : s = 0
      · subst h0; exact dAdd_num neg v M e N k x u w hd hv hk h hn hi hu
      · exact dAdd_stay s neg v M e N k x u w hd hv h0 h hn hi hu.out
end Go.Proofs.YteglnchcnacjlaaGreat
namespace Go.Proofs.YteglnchcnacjlaaGreat.A
open Go.RowKit

end Go.Proofs.YteglnchcnacjlaaGreat.A
namespace Go.Proofs.YteglnchcnacjlaaGreat
open Go.RowKit

end Go.Proofs.YteglnchcnacjlaaGreat
namespace Go.Proofs.YteglnchcnacjlaaGreat
open Go.RowKit

def Three (w' : World) (B : Nat) (neg : Bool) (v : Value) (e : Int) : Prop :=
  w'.cell? ⟨B, 1, none⟩ = some (.bool neg) ∧ w'.cell? ⟨B, 2, none⟩ = some v ∧ w'.cell? ⟨B, 3, none⟩ = some (.int .i64 e)
end Go.Proofs.YteglnchcnacjlaaGreat
namespace Go.Proofs.YteglnchcnacjlaaGreat
open Go.RowKit

theorem valSt_0 (N : Int) : A.valSt ⟨0, N⟩ = valF N := by unfold A.valSt; rw [if_pos rfl]
theorem valSt_1 (N : Int) : A.valSt ⟨1, N⟩ = 9218868437227405312 := by unfold A.valSt; dsimp only; rw [if_neg (by decide), if_pos rfl]
theorem valSt_2 (N : Int) : A.valSt ⟨2, N⟩ = 18442240474082181120 := by unfold A.valSt; dsimp only; rw [if_neg (by decide), if_neg (by decide), if_pos rfl]
theorem valSt_3 (N : Int) : A.valSt ⟨3, N⟩ = 9221120237041090561 := by unfold A.valSt; dsimp only; rw [if_neg (by decide), if_neg (by decide), if_neg (by decide)]
theorem near_valF {neg : Bool} {M k : Nat} {e N : Int} (hv : DV 0 neg M e N k) : nearM neg M e false = (valF N : Int) := by
  have hval := hv.val
  have hlo := hv.lo
  unfold valF
  by_cases h0 : M = 0
  · rw [h0, sg_zero_any, Int.zero_mul] at hval
    rw [h0, ← hval]; unfold nearM joinN; rw [if_pos rfl, if_pos rfl]; rfl
  · obtain ⟨q, hq⟩ : ∃ q, (e + 2148).toNat = q := ⟨_, rfl⟩
    rw [hq] at hval
    obtain ⟨m1, m2⟩ := mul_pow_neg (S := sg neg M) q
    have hS0 : sg neg M ≠ 0 := by
      intro c
      have := sgn_abs neg M
      rw [c] at this; exact h0 this.symm
    rw [nearM_eq neg e h0, ← hval]
    unfold joinN
    rw [if_neg (fun c => hS0 (m2.1 c)), natAbs_mul_pow, sgn_abs]
    have h7 := nearR_scale h0 q e
    rw [show e - (q : Int) = -2148 by omega] at h7
    rw [h7]
    have hd := sg_neg_iff (neg := neg) h0
    cases neg
    · rw [if_neg (by decide), if_neg (fun c => by have := m1.1 c; simp at hd; omega)]; omega
    · rw [if_pos rfl, if_pos (m1.2 (by simpa using hd))]; omega

set_option maxHeartbeats 1600000 in
theorem dOver (s : Nat) (neg : Bool) (v : Value) (M : Nat) (e : Int) (N : Int) (k : Nat) (w : World) (hd : DN w v M) (hv : DV s neg M e N k) (hk : FewK k) :
    Calls Tryz.prog 64 #[AV (s : Int) neg v e, .int .i64 1] w fun r w' => r = .returned (.int .u64 (A.valSt ⟨s, N⟩ : Int)) ∧ Below w.heap.size w w' := by
  obtain ⟨p, l, c, rfl⟩ := hd.shape
  obtain ⟨res, hres⟩ : ∃ res : Int, (A.valSt ⟨s, N⟩ : Int) = res := ⟨_, rfl⟩
  rw [hres]
  have hs3 := hv.s3
  have HB : Hid (Below w.heap.size w (boxA w (s : Int) neg (.slice p l c) e)) := (Below.refl _ _).alloc (Nat.le_refl _) _
  rcases (show s = 0 ∨ s = 1 ∨ s = 2 ∨ s = 3 by omega) with rfl | rfl | rfl | rfl
  · have hN := near_valF hv
    have hr : (valF N : Int) = res := by rw [← hres, valSt_0]
    have HNr : Hid (Calls Tryz.prog 53 #[.agg #[.bool neg, .slice p l c, .int .i64 e]] (boxA w 0 neg (.slice p l c) e) fun r w' => r = .returned (.int .u64 res) ∧ Below (boxA w 0 neg (.slice p l c) e).heap.size (boxA w 0 neg (.slice p l c) e) w') := by
      rw [← hr, ← hN]
      exact near_agg neg _ e M _ (hd.below HB.out) (by have := hv.nd hk; omega) (by have := hv.lo; omega) (by have := hv.hi; omega)
    clear hd hv hres hN hr
    go_enter Tryz.func64, Tryz.ntmps64
    go_wp2_with fail
    refine HNr.out.mono ?_
    rintro r w1 ⟨rfl, hb⟩
    have HB1 := hide (HB.out.trans (hb.mono HB.out.size))
    clear hb
    go_wp2_with fail
    go_ret
    exact ⟨rfl, HB1.out⟩
  · have hr : (9218868437227405312 : Int) = res := by rw [← hres, valSt_1]; rfl
    have HR := hide hr
    clear hd hv hres hr
    go_enter Tryz.func64, Tryz.ntmps64
    go_wp2_with fail
    go_ret
    exact ⟨ret_int HR.out, HB.out⟩
  · have hr : (18442240474082181120 : Int) = res := by rw [← hres, valSt_2]; rfl
    have HR := hide hr
    have HF := hide fun w => refFlip_at 9218868437227405312 9218868437227405312 18442240474082181120 w rfl (by unfold U64; omega) rfl
    clear hd hv hres hr
    go_enter Tryz.func64, Tryz.ntmps64
    go_wp2_with fail
    refine (HF.out _).mono ?_
    rintro r w' ⟨rfl, rfl⟩
    go_wp2_with fail
    go_ret
    exact ⟨ret_int HR.out, HB.out⟩
  · have hr : (9221120237041090561 : Int) = res := by rw [← hres, valSt_3]; rfl
    have HR := hide hr
    clear hd hv hres hr
    go_enter Tryz.func64, Tryz.ntmps64
    go_wp2_with fail
    go_ret
    exact ⟨ret_int HR.out, HB.out⟩

set_option maxHeartbeats 400000 in
theorem dValue (s : Nat) (neg : Bool) (v : Value) (M : Nat) (e : Int) (N : Int) (k : Nat) (w : World) (hd : DN w v M) (hv : DV s neg M e N k) (hk : FewK k) :
    Calls Tryz.prog 32 #[AV (s : Int) neg v e] w fun r w' => r = .returned (.int .u64 (A.valSt ⟨s, N⟩ : Int)) ∧ Below w.heap.size w w' := by
  obtain ⟨p, l, c, rfl⟩ := hd.shape
  have HB : Hid (Below w.heap.size w (boxA w (s : Int) neg (.slice p l c) e)) := (Below.refl _ _).alloc (Nat.le_refl _) _
  have HO := hide (dOver s neg (.slice p l c) M e N k _ (hd.below HB.out) hv hk)
  obtain ⟨res, hres⟩ : ∃ res : Int, (A.valSt ⟨s, N⟩ : Int) = res := ⟨_, rfl⟩
  rw [hres] at HO ⊢
  clear hd hv hres
  go_enter Tryz.func32, Tryz.ntmps32
  go_wp2_with fail
  refine HO.out.mono ?_
  rintro r w1 ⟨rfl, hb⟩
  have HB1 := hide (HB.out.trans (hb.mono HB.out.size))
  clear hb
  go_wp2_with fail
  go_ret
  exact ⟨rfl, HB1.out⟩
end Go.Proofs.YteglnchcnacjlaaGreat
namespace Go.Proofs.YteglnchcnacjlaaGreat
open Go.RowKit

structure Held (w wr : World) (B : Nat) (a : A.St) (k : Nat) : Prop where
  ex : ∃ neg v M e, wr.heap[B]? = some (.cells #[.int .i64 (a.s : Int), .bool neg, v, .int .i64 e] 75 (0, 0)) ∧ DN wr v M ∧ From (B + 1) v ∧ DV a.s neg M e a.N k
  bl : Below w.heap.size w wr
  lo : w.heap.size ≤ B
  lt : B < wr.heap.size
theorem held_new (w : World) : Held w (boxA w 0 false (.slice none 0 0) 0) w.heap.size ⟨0, 0⟩ 0 :=
  ⟨⟨false, .slice none 0 0, 0, 0, heap_alloc_new w _, Or.inl ⟨rfl, _, _, rfl⟩, from_nil _, DV.zero (by decide) 0⟩, (Below.refl _ _).alloc (Nat.le_refl _) _, Nat.le_refl _, by simp⟩
structure Held4 (wr : World) (B : Nat) (s : Int) (neg : Bool) (v : Value) (e : Int) : Prop where
  c0 : wr.cell? ⟨B, 0, none⟩ = some (.int .i64 s)
  c1 : wr.cell? ⟨B, 1, none⟩ = some (.bool neg)
  c2 : wr.cell? ⟨B, 2, none⟩ = some v
  c3 : wr.cell? ⟨B, 3, none⟩ = some (.int .i64 e)
  f0 : wr.frozen? ⟨B, 0, none⟩ = false
  f1 : wr.frozen? ⟨B, 1, none⟩ = false
  f2 : wr.frozen? ⟨B, 2, none⟩ = false
  f3 : wr.frozen? ⟨B, 3, none⟩ = false
theorem held4_of {wr : World} {B : Nat} {s : Int} {neg : Bool} {v : Value} {e : Int} (hb : wr.heap[B]? = some (.cells #[.int .i64 s, .bool neg, v, .int .i64 e] 75 (0, 0))) : Held4 wr B s neg v e := by
  refine ⟨?_, ?_, ?_, ?_, ?_, ?_, ?_, ?_⟩
  · simp [World.cell?, hb]
  · simp [World.cell?, hb]
  · simp [World.cell?, hb]
  · simp [World.cell?, hb]
  · simp [World.frozen?, hb]
  · simp [World.frozen?, hb]
  · simp [World.frozen?, hb]
  · simp [World.frozen?, hb]
theorem put4_heap {w : World} {B : Nat} {s s' : Int} {neg neg' : Bool} {v v' : Value} {e e' : Int} (hb : w.heap[B]? = some (.cells #[.int .i64 s, .bool neg, v, .int .i64 e] 75 (0, 0))) : (put4 w B s' neg' v' e').heap[B]? = some (.cells #[.int .i64 s', .bool neg', v', .int .i64 e'] 75 (0, 0)) := by
  have h1 := heap_setCell_same w B 0 _ _ (.int .i64 s') hb
  have h2 := heap_setCell_same _ B 1 _ _ (.bool neg') h1
  have h3 := heap_setCell_same _ B 2 _ _ v' h2
  have h4 := heap_setCell_same _ B 3 _ _ (.int .i64 e') h3
  rw [h4]; rfl
theorem held_put {w wr w1 : World} {B k : Nat} {s : Int} {neg : Bool} {v : Value} {M : Nat} {e : Int} {a : A.St} {r : Ending} (hb : wr.heap[B]? = some (.cells #[.int .i64 s, .bool neg, v, .int .i64 e] 75 (0, 0))) (hv : From (B + 1) v) (hbl : Below w.heap.size w wr) (hlo : w.heap.size ≤ B) (hlt : B < wr.heap.size) (h : AddEnd wr v M a k r w1) :
    ∃ neg' p l c e', r = .returned (AV (a.s : Int) neg' (.slice p l c) e') ∧ Held4 w1 B s neg v e ∧ Held w (put4 w1 B (a.s : Int) neg' (.slice p l c) e') B a k := by
  obtain ⟨neg', v', M', e', rfl, hd, hn, hdv, hb1⟩ := h
  obtain ⟨p, l, c, rfl⟩ := hd.shape
  have hb' : w1.heap[B]? = some (.cells #[.int .i64 s, .bool neg, v, .int .i64 e] 75 (0, 0)) := by rw [hb1.block B hlt]; exact hb
  have hf : From (B + 1) (.slice p l c) := by
    rcases hn with ⟨hn, _⟩ | hn
    · rw [hn]; exact hv
    · exact from_mono' hn hlt
  have hbw : Below w.heap.size w w1 := hbl.trans (hb1.mono hbl.size)
  refine ⟨neg', p, l, c, e', rfl, held4_of hb', ⟨neg', _, M', e', put4_heap hb', put4_dn hd hf (by omega), hf, hdv⟩, put4_below hbw hlo, hlo, ?_⟩
  have := hb1.size
  simp
  omega

theorem st_eta (a : A.St) : (⟨a.s, a.N⟩ : A.St) = a := rfl

end Go.Proofs.YteglnchcnacjlaaGreat
