/- The walk of AccNear. -/
import Derived.Test.YtejpplcccbiplaaWAccGone
import Derived.Test.YtejpplcccbiplaaMids
namespace Go.Proofs.Ytejpplcccbiplaa
open Go.RowKit

theorem xor_low {c : Nat} (h : c < 9223372036854775808) : c ^^^ 9223372036854775808 = 9223372036854775808 + c := by
  rw [show (9223372036854775808 : Nat) = 2 ^ 63 from rfl] at *
  apply Nat.eq_of_testBit_eq
  intro i
  rw [Nat.testBit_xor, Nat.testBit_two_pow]
  by_cases h1 : i = 63
  · subst h1
    rw [Nat.testBit_two_pow_add_eq]
    simp
  · by_cases h2 : i < 63
    · have e : decide (63 = i) = false := by rw [decide_eq_false_iff_not]; omega
      rw [Nat.testBit_two_pow_add_gt h2, e, Bool.xor_false]
    · have h3 : c.testBit i = false := Nat.testBit_lt_two_pow (Nat.lt_of_lt_of_le h (Nat.pow_le_pow_right (by decide) (by omega)))
      have h4 : (2 ^ 63 + c).testBit i = false := Nat.testBit_lt_two_pow (Nat.lt_of_lt_of_le (show 2 ^ 63 + c < 2 ^ 64 by omega) (Nat.pow_le_pow_right (by decide) (by omega)))
      have e : decide (63 = i) = false := by rw [decide_eq_false_iff_not]; omega
      rw [h3, h4, e]; rfl
theorem neg_bits {b : Nat} (h : b < 18446744073709551616) : Op.negFloat .f64 b = if b < 9223372036854775808 then 9223372036854775808 + b else b - 9223372036854775808 := by
  show b ^^^ 9223372036854775808 = _
  by_cases h1 : b < 9223372036854775808
  · rw [if_pos h1, xor_low h1]
  · rw [if_neg h1]
    obtain ⟨c, rfl⟩ : ∃ c, b = 9223372036854775808 + c := ⟨b - 9223372036854775808, by omega⟩
    rw [← xor_low (c := c) (by omega), Nat.xor_assoc, Nat.xor_self, Nat.xor_zero]
    have := xor_low (c := c) (by omega)
    omega
theorem neg_num {b K : Nat} (hK : K = 1074) (h : b < 18446744073709551616) (hf : b % 9223372036854775808 < 9218868437227405312) : Op.negFloat .f64 b < 18446744073709551616 ∧ splOk (Op.negFloat .f64 b : Int) = true ∧ unitI (Op.negFloat .f64 b : Int) = -unitI (b : Int) := by
  have e := neg_bits h
  have hlt : Op.negFloat .f64 b < 18446744073709551616 := by rw [e]; split <;> omega
  have hm : Op.negFloat .f64 b % 9223372036854775808 = b % 9223372036854775808 := by rw [e]; split <;> omega
  have hd : (Op.negFloat .f64 b / 9223372036854775808 % 2 == 1) = !(b / 9223372036854775808 % 2 == 1) := by
    rw [e]
    split
    · have e1 : (9223372036854775808 + b) / 9223372036854775808 % 2 = 1 := by omega
      have e2 : b / 9223372036854775808 % 2 = 0 := by omega
      rw [e1, e2]; rfl
    · have e1 : (b - 9223372036854775808) / 9223372036854775808 % 2 = 0 := by omega
      have e2 : b / 9223372036854775808 % 2 = 1 := by omega
      rw [e1, e2]; rfl
  refine ⟨hlt, (splOk_iff _).2 (by rw [hm]; exact hf), ?_⟩
  rw [unit_vI hK hlt (by rw [hm]; exact hf), unit_vI hK h hf, vI_eq, vI_eq, hm, hd]
  generalize mg (b % 9223372036854775808) * 2 ^ pl (b % 9223372036854775808) = X
  cases (b / 9223372036854775808 % 2 == 1) <;> simp [sgZ, Int.neg_mul]
/-- The units of a rank. -/
theorem unit_rank {r : Int} {K : Nat} (hK : K = 1074) (h1 : -9218868437227405312 < r) (h2 : r < 9218868437227405312) : (atI r).toNat < 18446744073709551616 ∧ (atI r).toNat % 9223372036854775808 < 9218868437227405312 ∧ unitI ((atI r).toNat : Int) = wR r * ((2 ^ K : Nat) : Int) ∧ ((atI r).toNat : Int) = atI r := by
  have hok : atOk r = true := (atOk_iff r).2 ⟨by omega, by omega⟩
  by_cases hn : r < 0
  · have e := atI_neg hok hn
    have e1 : (atI r).toNat = 9223372036854775808 + r.natAbs := by rw [e]; omega
    rw [e1]
    refine ⟨by omega, by omega, ?_, by rw [e]; omega⟩
    rw [unit_vI hK (by omega) (by omega)]
    congr 1
    unfold vI wR
    rw [if_pos hn, show (9223372036854775808 + r.natAbs) / 9223372036854775808 % 2 = 1 by omega, show (9223372036854775808 + r.natAbs) % 9223372036854775808 = r.natAbs by omega]
    rfl
  · have e := atI_pos hok (by omega)
    have e1 : (atI r).toNat = r.natAbs := by rw [e]; omega
    rw [e1]
    refine ⟨by omega, by omega, ?_, by rw [e]; omega⟩
    rw [unit_vI hK (by omega) (by omega)]
    congr 1
    unfold vI wR
    rw [if_neg hn, show r.natAbs / 9223372036854775808 % 2 = 0 by omega, show r.natAbs % 9223372036854775808 = r.natAbs by omega]
    rfl
theorem unit_own {b K : Nat} (hK : K = 1074) (hb : b < 18446744073709551616) (hf : b % 9223372036854775808 < 9218868437227405312) : unitI (b : Int) = wR (rankI b) * ((2 ^ K : Nat) : Int) ∧ -9218868437227405312 < rankI b ∧ rankI b < 9218868437227405312 ∧ nanB (b : Int) = false := by
  have hsz : szI (b : Int) = ((b % 9223372036854775808 : Nat) : Int) := by unfold szI; omega
  have hnan : nanB (b : Int) = false := by unfold nanB; rw [hsz, decide_eq_false_iff_not]; omega
  rw [unit_vI hK hb hf]
  by_cases hs : b < 9223372036854775808
  · have hsg : sgB (b : Int) = false := by unfold sgB; rw [decide_eq_false_iff_not]; omega
    rw [rank_pos hnan hsg, hsz]
    refine ⟨?_, by omega, by omega, hnan⟩
    congr 1
    unfold vI wR
    rw [show b / 9223372036854775808 % 2 = 0 by omega]
    simp only [show ((0 : Nat) == 1) = false from rfl, Bool.false_eq_true, if_false, Int.natAbs_natCast]
    rw [if_neg (by omega)]
  · have hsg : sgB (b : Int) = true := by unfold sgB; rw [decide_eq_true_eq]; omega
    rw [rank_neg hnan hsg, hsz]
    refine ⟨?_, by omega, by omega, hnan⟩
    congr 1
    unfold vI wR
    rw [show b / 9223372036854775808 % 2 = 1 by omega, Int.natAbs_neg, Int.natAbs_natCast]
    simp only [beq_self_eq_true, if_true]
    by_cases h0 : b % 9223372036854775808 = 0
    · rw [h0]; rfl
    · rw [if_pos (by omega)]

theorem aside_res (N a b : Int) : sgSt ((((⟨0, N⟩ : St).merge ⟨0, N⟩).merge ⟨0, a⟩).merge ⟨0, b⟩) = sgnI (N + N + a + b) := rfl
theorem two_less (N a b : Int) : N + N + -a + -b = 2 * N - a - b := by omega
theorem one_num {b : Nat} (h : splOk (b : Int) = true) : oneS (b : Int) = ⟨0, unitI (b : Int)⟩ := by unfold oneS; rw [h, if_pos rfl]
theorem run_neg64 (P : Program) (w : World) (x : Nat) : (Op.unary .neg (.float .f64 x)).run P w = .ok (.float .f64 (Op.negFloat .f64 x)) w := rfl

set_option maxRecDepth 100000 in
set_option maxHeartbeats 1600000 in
theorem aside_core (B b : Nat) (v : Value) (L : Nat) (A : St) (x y nx ny : Nat) (w : World) (h : AccAt w B b v L A) (hB : B ≤ w.heap.size) (hL : L ≤ 30000) (hyf : y % 9223372036854775808 < 9218868437227405312) (hnx : Op.negFloat .f64 x = nx) (hny : Op.negFloat .f64 y = ny) (hx : U64 nx) (hy : U64 ny) :
    Calls Try.prog 24 #[.pointer (some ⟨b, 0, none⟩), .float .f64 x, .float .f64 y] w fun e w' => e = .returned (.int .i64 (sgSt (((A.merge A).merge (oneS (nx : Int))).merge (oneS (ny : Int))))) ∧ Below w.heap.size w w' := by
  have hsub := fun w => run_float_arith (P := Try.prog) w .sub 29 .f64 y y 0 (sub_self_num hyf)
  have o00 : (FloatKind.f64.format.order 0 0 == some .eq) = true := by kernel_rfl
  have n1 : ∀ w, (Op.unary .neg (.float .f64 x)).run Try.prog w = .ok (.float .f64 nx) w := fun w => by rw [run_neg64, hnx]
  have n2 : ∀ w, (Op.unary .neg (.float .f64 y)).run Try.prog w = .ok (.float .f64 ny) w := fun w => by rw [run_neg64, hny]
  have HCo := hideS (copy_any B b v L A w h hB (by omega))
  obtain ⟨res, hres⟩ : ∃ res, sgSt (((A.merge A).merge (oneS (nx : Int))).merge (oneS (ny : Int))) = res := ⟨_, rfl⟩
  rw [hres]
  have HRes := hideS hres
  have HX := hideS hx
  have HY := hideS hy
  have HA := hideS h
  clear h hres hx hy hyf
  go_enter Try.func24, Try.ntmps24
  go_wp2_with fail
  refine HCo.out.mono ?_
  rintro e w2 ⟨cc, vc, rfl, ac, fc, bc⟩
  have hA2 := HA.out.below bc
  have hap : Apart cc vc b v := fun j h1 h2 => by have := (HA.out.base j h2).2; have := fc j h1; omega
  have hsz := bc.size
  have HMe := hideS (merge_any B cc b vc v L L A A w2 ac hA2 hap (by omega) (by omega) (by omega))
  have R := hideS (And.intro ac (And.intro fc bc))
  clear hA2 hap ac fc bc HCo HA hsz
  go_wp2_with fail
  refine HMe.out.mono ?_
  rintro e w3 ⟨rfl, v3, hd⟩
  have hw3 : Below w.heap.size w w3 := R.out.2.2.trans (hd.wrote.below (fun k hk => R.out.2.1 k hk) R.out.2.2.size)
  have hs3 := hw3.size
  have hs2 := R.out.2.2.size
  have HA1 := hideS (add_any B cc v3 _ _ nx nx w3 hd.acc (by omega) rfl HX.out (by omega))
  have R3 : Hid (Below w.heap.size w w3 ∧ (∀ k, Ft cc v3 k → w.heap.size ≤ k)) := ⟨hw3, fun k hk => by
    rcases hk with rfl | hk
    · exact R.out.2.1 _ (Or.inl rfl)
    · rcases hd.new k hk with h5 | h5
      · exact R.out.2.1 _ (Or.inr h5)
      · omega⟩
  clear hd hw3 hs3 HMe R hs2
  go_wp2_with fail
  refine HA1.out.mono ?_
  rintro e w4 ⟨rfl, v4, hd⟩
  have hw4 : Below w.heap.size w w4 := R3.out.1.trans (hd.wrote.below (fun k hk => R3.out.2 k hk) R3.out.1.size)
  have hs4 := hw4.size
  have hs3 := R3.out.1.size
  have HA2 := hideS (add_any B cc v4 _ _ ny ny w4 hd.acc (by omega) rfl HY.out (by omega))
  have R4 : Hid (Below w.heap.size w w4 ∧ (∀ k, Ft cc v4 k → w.heap.size ≤ k)) := ⟨hw4, fun k hk => by
    rcases hk with rfl | hk
    · exact R3.out.2 _ (Or.inl rfl)
    · rcases hd.new k hk with h5 | h5
      · exact R3.out.2 _ (Or.inr h5)
      · omega⟩
  clear hd hw4 hs4 HA1 R3 hs3
  go_wp2_with fail
  refine HA2.out.mono ?_
  rintro e w5 ⟨rfl, v5, hd⟩
  have B5 : Hid (Below w.heap.size w w5) := R4.out.1.trans (hd.wrote.below (fun k hk => R4.out.2 k hk) R4.out.1.size)
  have HSi := hideS (signA_any B cc v5 _ _ w5 hd.acc (by omega))
  rw [HRes.out] at HSi
  clear hd HA2 R4
  go_wp2_with fail
  refine (turned HSi.out).mono ?_
  rintro e w6 ⟨rfl, rfl⟩
  go_wp2_with fail
  go_ret
  exact ⟨rfl, B5.out⟩
theorem aside_num (B b : Nat) (v : Value) (L : Nat) (N : Int) (x y K : Nat) (w : World) (hK : K = 1074) (h : AccAt w B b v L ⟨0, N⟩) (hB : B ≤ w.heap.size) (hL : L ≤ 30000) (hx : x < 18446744073709551616) (hxf : x % 9223372036854775808 < 9218868437227405312) (hy : y < 18446744073709551616) (hyf : y % 9223372036854775808 < 9218868437227405312) :
    Calls Try.prog 24 #[.pointer (some ⟨b, 0, none⟩), .float .f64 x, .float .f64 y] w fun e w' => e = .returned (.int .i64 (sgnI (2 * N - unitI (x : Int) - unitI (y : Int)))) ∧ Below w.heap.size w w' := by
  obtain ⟨nx1, nx2, nx3⟩ := neg_num hK hx hxf
  obtain ⟨ny1, ny2, ny3⟩ := neg_num hK hy hyf
  obtain ⟨nx, hnx⟩ : ∃ nx, Op.negFloat .f64 x = nx := ⟨_, rfl⟩
  obtain ⟨ny, hny⟩ : ∃ ny, Op.negFloat .f64 y = ny := ⟨_, rfl⟩
  rw [hnx] at nx1 nx2 nx3
  rw [hny] at ny1 ny2 ny3
  have key := aside_core B b v L ⟨0, N⟩ x y nx ny w h hB hL hyf hnx hny (u64_of_nat nx1) (u64_of_nat ny1)
  rw [one_num nx2, one_num ny2, nx3, ny3, aside_res, two_less] at key
  exact key

set_option maxHeartbeats 800000 in
theorem aside_inf (b x y : Nat) (w : World) (pos : Bool) (hno : 9218868437227405312 ≤ y % 9223372036854775808) (hgt : (FloatKind.f64.format.order y 0 == some .gt) = pos) :
    Calls Try.prog 24 #[.pointer (some ⟨b, 0, none⟩), .float .f64 x, .float .f64 y] w fun e w' => e = .returned (.int .i64 (if pos then -1 else 1)) ∧ Below w.heap.size w w' := by
  have hsub := run_sub_nan (P := Try.prog) 29 y y (sub_self_no hno)
  have hord := fun w => order_nanAns y y 0 w
  clear hno
  cases pos
  all_goals
    go_enter Try.func24, Try.ntmps24
    go_wp2_with fail
    go_ret
    exact ⟨rfl, ⟨rfl, rfl, rfl, Nat.le_refl _, fun _ _ => rfl⟩⟩

set_option maxHeartbeats 400000 in
theorem rank3_any (r : Nat) (w : World) (h : U64 r) : Calls Try.prog 23 #[.float .f64 r] w fun e w' => e = .returned (.int .i64 (rankI r)) ∧ w' = w := by
  have HR := hideS (fun w => refRank_any r w h)
  generalize rankI (r : Int) = q at *
  generalize nanB (r : Int) = z at *
  clear h
  go_enter Try.func23, Try.ntmps23
  go_wp2_with (first | (go_at_call 20; refine (turned (bits_any _ _)).mono ?_; rintro e w' ⟨rfl, rfl⟩) | (go_at_call 47; refine (turned (HR.out _)).mono ?_; rintro e w' ⟨rfl, rfl⟩))
  go_ret
  exact ⟨rfl, rfl⟩
theorem joinN_lt' (N : Int) : valF N < 18446744073709551616 := by
  unfold valF joinN
  have := nearR_le N.natAbs (-2148)
  split
  · decide
  · split <;> omega
theorem sgn_le {z : Int} (h : z ≤ 0) : sgnI z ≤ 0 := by unfold sgnI; split <;> (try split) <;> omega
theorem sgn_ge {z : Int} (h : 0 ≤ z) : 0 ≤ sgnI z := by unfold sgnI; split <;> (try split) <;> omega
theorem mid_up {N a b P : Int} (h : 2 * N ≤ (a + b) * P) : 2 * N - a * P - b * P ≤ 0 := by rw [Int.add_mul] at h; omega
theorem mid_dn {N a b P : Int} (h : (a + b) * P ≤ 2 * N) : 0 ≤ 2 * N - a * P - b * P := by rw [Int.add_mul] at h; omega
/-- What the two calls of aside tell, at any number. -/
theorem sides (B b : Nat) (v : Value) (L : Nat) (N : Int) (w0 : World) (h : AccAt w0 B b v L ⟨0, N⟩) (hB : B ≤ w0.heap.size) (hL : L ≤ 30000) (hf : valF N % 9223372036854775808 < 9218868437227405312) :
    (∃ z : Int, z ≤ 0 ∧ ∀ w, Below w0.heap.size w0 w → Calls Try.prog 24 #[.pointer (some ⟨b, 0, none⟩), .float .f64 (valF N), .float .f64 (atI (rankI (valF N) + 1)).toNat] w fun e w' => e = .returned (.int .i64 z) ∧ Below w.heap.size w w') ∧
    (∃ z : Int, 0 ≤ z ∧ ∀ w, Below w0.heap.size w0 w → Calls Try.prog 24 #[.pointer (some ⟨b, 0, none⟩), .float .f64 (valF N), .float .f64 (atI (rankI (valF N) - 1)).toNat] w fun e w' => e = .returned (.int .i64 z) ∧ Below w.heap.size w w') := by
  obtain ⟨K, hK⟩ : ∃ K, K = 1074 := ⟨_, rfl⟩
  have hlt : valF N < 18446744073709551616 := joinN_lt' N
  obtain ⟨u1, u2, u3, _⟩ := unit_own hK hlt hf
  obtain ⟨m1, m2⟩ := near_between (N := N) hK hf
  generalize valF N = x at *
  generalize rankI (x : Int) = q at *
  refine ⟨?_, ?_⟩
  · by_cases hq : q + 1 < 9218868437227405312
    · obtain ⟨a1, a2, a3, _⟩ := unit_rank (r := q + 1) hK (by omega) hq
      refine ⟨_, ?_, fun w hw => aside_num B b v L N x _ K w hK (h.below hw) (Nat.le_trans hB hw.size) hL hlt hf a1 a2⟩
      rw [a3, u1]
      exact sgn_le (mid_up m1)
    · have e : q + 1 = 9218868437227405312 := by omega
      rw [e]
      exact ⟨-1, by decide, fun w _ => aside_inf b x _ w true (by decide) (by kernel_rfl)⟩
  · by_cases hq : -9218868437227405312 < q - 1
    · obtain ⟨a1, a2, a3, _⟩ := unit_rank (r := q - 1) hK hq (by omega)
      refine ⟨_, ?_, fun w hw => aside_num B b v L N x _ K w hK (h.below hw) (Nat.le_trans hB hw.size) hL hlt hf a1 a2⟩
      rw [a3, u1]
      exact sgn_ge (mid_dn m2)
    · have e : q - 1 = -9218868437227405312 := by omega
      rw [e]
      exact ⟨1, by decide, fun w _ => aside_inf b x _ w false (by decide) (by kernel_rfl)⟩
end Go.Proofs.Ytejpplcccbiplaa
