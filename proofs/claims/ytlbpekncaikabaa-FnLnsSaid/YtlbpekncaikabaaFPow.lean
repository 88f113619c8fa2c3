/- The contracts of whole and Pow where every product is exact; of Pow at 0 and 1. -/
import Derived.Test.YtlbpekncaikabaaFTerms
import Derived.Test.YtlbpekncaikabaaPlain2
namespace Go.Proofs.Ytlbpekncaikabaa
open Go.RowKit

theorem i64_and_one (n : Nat) : bits .and .i64 (n : Int) 1 = (n % 2 : Nat) := by
  rw [i64_and1]; omega

set_option maxHeartbeats 800000 in
theorem whole_pow (F : Nat → Nat) (n : Nat) (w : World) (h0 : F 0 = 4607182418800017408) (hm : ∀ i j, i + j ≤ n → floatBits .mul .f64 (F i) (F j) = some (F (i + j))) (hn : n ≤ 1048576) :
    Calls Try.prog 51 #[.float .f64 (F 1), .int .i64 (n : Int)] w fun e w' => e = .returned (.float .f64 (F n)) ∧ w' = w := by
  have HM := hideS hm
  obtain ⟨x, hx⟩ : ∃ x, F 1 = x := ⟨_, rfl⟩
  rw [hx]
  have HX := hideS hx
  obtain ⟨res, hres⟩ : ∃ res, F n = res := ⟨_, rfl⟩
  rw [hres]
  have HRes := hideS hres
  have H0 := hideS h0
  clear hm hx hres h0
  go_enter Try.func51, Try.ntmps51
  go_wp2_with fail
  go_loop [1, 5, 6] (fun m r b => ∃ k a c i j : Nat, k ≤ n ∧ m = .int .i64 k ∧ r = .float .f64 a ∧ b = .float .f64 c ∧ Hid (a = F i ∧ c = F j ∧ i + j * k = n)) (fun m _ _ => (intOf m).toNat)
  case atStart => exact ⟨n, _, x, 0, 1, Nat.le_refl _, rfl, rfl, rfl, ⟨H0.out.symm, HX.out.symm, by omega⟩⟩
  case round =>
    obtain ⟨k, a, c, i, j, hk, rfl, rfl, rfl, HR⟩ := hrel
    by_cases hz : k = 0
    · subst hz
      have HE : Hid (a = res) := by
        obtain ⟨e1, _, e3⟩ := HR.out
        show _ = _
        rw [e1, ← HRes.out]
        congr 1
      go_wp2
      go_ret
      exact ⟨ret_f64 HE.out, rfl⟩
    · have hk1 : 1 ≤ k := by omega
      have hand := i64_and_one k
      have hdiv : (k : Int) / 2 = ((k / 2 : Nat) : Int) := by omega
      have hjk : k / 2 * 2 + k % 2 = k := by omega
      have hjn : j ≤ n := by
        obtain ⟨_, _, e3⟩ := HR.out
        have : j * 1 ≤ j * k := Nat.mul_le_mul_left _ hk1
        omega
      obtain ⟨k2, hk2⟩ : ∃ k2, k / 2 = k2 := ⟨_, rfl⟩
      rw [hk2] at hdiv hjk
      have hmb : 1 ≤ k2 → floatBits .mul .f64 c c = some (F (j + j)) := fun h => by
        obtain ⟨e1, e2, e3⟩ := HR.out
        rw [e2]
        refine HM.out j j ?_
        have : j * 2 ≤ j * k := Nat.mul_le_mul_left _ (by omega)
        omega
      have hma : floatBits .mul .f64 a c = some (F (i + j)) := by
        obtain ⟨e1, e2, e3⟩ := HR.out
        rw [e1, e2]
        refine HM.out i j ?_
        have : j * 1 ≤ j * k := Nat.mul_le_mul_left _ hk1
        omega
      rcases (show k % 2 = 0 ∨ k % 2 = 1 by omega) with hpar | hpar
      · rw [hpar] at hand hjk
        have hk20 : 1 ≤ k2 := by omega
        obtain ⟨cc, hcc⟩ : ∃ cc, F (j + j) = cc := ⟨_, rfl⟩
        have HR2 : Hid (a = F i ∧ cc = F (j + j) ∧ i + (j + j) * k2 = n) := by
          obtain ⟨e1, e2, e3⟩ := HR.out
          refine ⟨e1, hcc.symm, ?_⟩
          rw [← e3, ← hjk, Nat.add_zero, Nat.add_mul, Nat.mul_comm k2 2, ← Nat.mul_assoc, Nat.mul_two, Nat.add_mul]
        have hmb := hmb hk20
        rw [hcc] at hmb
        have r1 := fun w => run_float_arith (P := Try.prog) w .mul 22 .f64 c c cc hmb
        have hgt : (0 : Int) < (k2 : Int) := by omega
        clear hma hmb HR hpar hjn hcc hk2
        go_wp2_with fail
        go_round
        case rel => exact ⟨k2, a, cc, i, j + j, by omega, rfl, rfl, rfl, HR2⟩
        case measure => simp [intOf]; omega
      · rw [hpar] at hand hjk
        obtain ⟨aa, haa⟩ : ∃ aa, F (i + j) = aa := ⟨_, rfl⟩
        rw [haa] at hma
        have r0 := fun w => run_float_arith (P := Try.prog) w .mul 22 .f64 a c aa hma
        by_cases hk20 : k2 = 0
        · subst hk20
          have HR2 : Hid (aa = F (i + j) ∧ c = F j ∧ i + j + j * 0 = n) := by
            obtain ⟨e1, e2, e3⟩ := HR.out
            refine ⟨haa.symm, e2, ?_⟩
            rw [← e3, ← hjk]; omega
          clear hma hmb HR hpar hjn haa hk2
          go_wp2_with fail
          go_round
          case rel => exact ⟨0, aa, c, i + j, j, by omega, rfl, rfl, rfl, HR2⟩
          case measure => simp [intOf]; omega
        · obtain ⟨cc, hcc⟩ : ∃ cc, F (j + j) = cc := ⟨_, rfl⟩
          have HR2 : Hid (aa = F (i + j) ∧ cc = F (j + j) ∧ i + j + (j + j) * k2 = n) := by
            obtain ⟨e1, e2, e3⟩ := HR.out
            refine ⟨haa.symm, hcc.symm, ?_⟩
            rw [← e3, ← hjk, Nat.mul_add, Nat.mul_one, Nat.mul_comm k2 2, ← Nat.mul_assoc, Nat.mul_two]; omega
          have hmb := hmb (by omega)
          rw [hcc] at hmb
          have r1 := fun w => run_float_arith (P := Try.prog) w .mul 22 .f64 c c cc hmb
          have hgt : (0 : Int) < (k2 : Int) := by omega
          clear hma hmb HR hpar hjn hcc haa hk2
          go_wp2_with fail
          go_round
          case rel => exact ⟨k2, aa, cc, i + j, j + j, by omega, rfl, rfl, rfl, HR2⟩
          case measure => simp [intOf]; omega

set_option maxHeartbeats 800000 in
theorem pow_pos (F : Nat → Nat) (n : Nat) (w : World) (h0 : F 0 = 4607182418800017408) (hm : ∀ i j, i + j ≤ n → floatBits .mul .f64 (F i) (F j) = some (F (i + j))) (hn : n ≤ 1048576) :
    Calls Try.prog 16 #[.float .f64 (F 1), .int .i64 (n : Int)] w fun e w' => e = .returned (.float .f64 (F n)) ∧ w' = w := by
  have H := hideS (whole_pow F n w h0 hm hn)
  clear h0 hm
  generalize F 1 = x at H
  generalize F n = r at H
  go_enter Try.func16, Try.ntmps16
  go_wp2_with (go_at_call 51; refine H.out.mono ?_; rintro e w' ⟨rfl, rfl⟩)
  go_ret
  exact ⟨rfl, rfl⟩

set_option maxHeartbeats 800000 in
theorem pow_neg (F : Nat → Nat) (n r : Nat) (w : World) (h0 : F 0 = 4607182418800017408) (hm : ∀ i j, i + j ≤ n → floatBits .mul .f64 (F i) (F j) = some (F (i + j))) (hn : n ≤ 1048576) (hn1 : 1 ≤ n) (hd : floatBits .quo .f64 4607182418800017408 (F n) = some r) :
    Calls Try.prog 16 #[.float .f64 (F 1), .int .i64 (-(n : Int))] w fun e w' => e = .returned (.float .f64 r) ∧ w' = w := by
  have H := hideS (whole_pow F n w h0 hm hn)
  have r1 := fun w => run_float_arith (P := Try.prog) w .quo 22 .f64 4607182418800017408 (F n) r hd
  clear h0 hm hd
  generalize F 1 = x at H
  generalize F n = y at H r1
  go_enter Try.func16, Try.ntmps16
  go_wp2_with (go_at_call 51; refine H.out.mono ?_; rintro e w' ⟨rfl, rfl⟩)
  go_ret
  exact ⟨rfl, rfl⟩

/-- Powers of 2. -/
theorem pow2_pos (n : Nat) (w : World) (hn : n ≤ 1023) :
    Calls Try.prog 16 #[.float .f64 4611686018427387904, .int .i64 (n : Int)] w fun e w' => e = .returned (.float .f64 (P2 n)) ∧ w' = w := by
  have := pow_pos (fun i => P2 (i : Int)) n w P2_zero (fun i j h => by
    show floatBits .mul .f64 (P2 i) (P2 j) = some (P2 ((i + j : Nat) : Int))
    rw [mul_P2 (by omega) (by omega) (by omega) (by omega), Int.natCast_add]) (by omega)
  rw [show P2 ((1 : Nat) : Int) = 4611686018427387904 from P2_one] at this
  exact this
theorem pow2_neg (n : Nat) (w : World) (hn : n ≤ 1022) (hn1 : 1 ≤ n) :
    Calls Try.prog 16 #[.float .f64 4611686018427387904, .int .i64 (-(n : Int))] w fun e w' => e = .returned (.float .f64 (P2 (-(n : Int)))) ∧ w' = w := by
  have := pow_neg (fun i => P2 (i : Int)) n (P2 (-(n : Int))) w P2_zero (fun i j h => by
    show floatBits .mul .f64 (P2 i) (P2 j) = some (P2 ((i + j : Nat) : Int))
    rw [mul_P2 (by omega) (by omega) (by omega) (by omega), Int.natCast_add]) (by omega) hn1 (div_P2 (by omega) (by omega))
  rw [show P2 ((1 : Nat) : Int) = 4611686018427387904 from P2_one] at this
  exact this
/-- Powers of whole numbers. -/
theorem pow_whole (x : Int) (n : Nat) (w : World) (hn : n ≤ 1048576) (hx : -9007199254740992 ≤ x ∧ x ≤ 9007199254740992) (hb : ∀ i, i ≤ n → -9007199254740992 ≤ x ^ i ∧ x ^ i ≤ 9007199254740992) :
    Calls Try.prog 16 #[.float .f64 (fi x), .int .i64 (n : Int)] w fun e w' => e = .returned (.float .f64 (fi (x ^ n))) ∧ w' = w := by
  have := pow_pos (fun i => fi (x ^ i)) n w (by show fi (x ^ 0) = _; rw [Int.pow_zero]; exact fi_one) (fun i j h => by
    show floatBits .mul .f64 (fi (x ^ i)) (fi (x ^ j)) = some (fi (x ^ (i + j)))
    have hi := hb i (by omega)
    have hj := hb j (by omega)
    rw [Int.pow_add]
    refine mul_fi hi.1 hi.2 hj.1 hj.2 ?_
    by_cases h0 : x = 0
    · right
      subst h0
      constructor
      · cases i with
        | zero => decide
        | succ i => rw [Int.pow_succ]; simp
      · cases j with
        | zero => decide
        | succ j => rw [Int.pow_succ]; simp
    · left
      exact Int.mul_ne_zero (Int.pow_ne_zero h0) (Int.pow_ne_zero h0)) hn
  rw [show fi (x ^ 1) = fi x by rw [Int.pow_succ, Int.pow_zero, Int.one_mul]] at this
  exact this
end Go.Proofs.Ytlbpekncaikabaa
