/- Factor, Yield and Forward: program and document tell the same; the laws' awake. -/
import Derived.Test.YtbkmbdbjeiffpaaRaG
namespace Go.Proofs.Ytbkmbdbjeiffpaa
open Go.RowKit

/-- A number with its bits, as both tell it. -/
structure SameA (f g : Nat) (xs ys : Array Value) (F : Nat) (E : Int) : Prop where
  prog : ∀ w, Calls Try.prog f xs w fun e w' => e = .returned (.tuple #[.float .f64 F, .int .i64 E]) ∧ Below w.heap.size w w'
  doc : ∀ w, Calls Try.prog g ys w fun e w' => e = .returned (.tuple #[.int .u64 (F : Int), .int .i64 E]) ∧ Below w.heap.size w w'
  lt : F < 18446744073709551616
theorem endN_lt {z : Nat} (h : z < 18446744073709551616) : endN z < 18446744073709551616 := by unfold endN; split <;> omega
theorem enyN_lt {z : Nat} (h : z < 18446744073709551616) : enyN z < 18446744073709551616 := by unfold enyN; split <;> omega

theorem factor_both (k : Int) (r t : Nat) (hr : r < 18446744073709551616) (ht : t < 18446744073709551616) : ∃ F E, SameA 7 8 #[.int .i64 k, .float .f64 r, .float .f64 t] #[.int .i64 k, .int .u64 (r : Int), .int .u64 (t : Int)] F E := by
  by_cases hk : 1 ≤ k ∧ k ≤ 6
  · cases ask : askB (r : Int) (t : Int) with
    | false => exact ⟨0, 91, fun w => factor_bad k r t w hk hr ht ask, fun w => refFactor_bad k r t w hk (u64_of_nat hr) (u64_of_nat ht) ask int_max, by decide⟩
    | true =>
      obtain ⟨z, hz, hd⟩ := docFactor hk hr ht ask
      refine ⟨endN z, endE (z : Int), fun w => factor_ok k r t z w hk hr ht ask hz.1, ?_, endN_lt hz.2⟩
      rw [endN_cast]; exact hd
  · exact ⟨0, 90, fun w => factor_kind k r t w hk, fun w => refFactor_kind k r t w hk, by decide⟩

theorem yield_both (k : Int) (f t : Nat) (hf : f < 18446744073709551616) (ht : t < 18446744073709551616) : ∃ F E, SameA 12 13 #[.int .i64 k, .float .f64 f, .float .f64 t] #[.int .i64 k, .int .u64 (f : Int), .int .u64 (t : Int)] F E := by
  by_cases hk : 1 ≤ k ∧ k ≤ 6
  · cases ask : asyB (f : Int) (t : Int) with
    | false => exact ⟨0, 91, fun w => yield_bad k f t w hk hf ht ask, fun w => refYield_bad k f t w hk (u64_of_nat hf) (u64_of_nat ht) ask int_max, by decide⟩
    | true =>
      obtain ⟨z, hz, hd⟩ := docYield hk hf ht ask
      refine ⟨enyN z, enyE (z : Int), fun w => yield_ok k f t z w hk hf ht ask hz.1, ?_, enyN_lt hz.2⟩
      rw [enyN_cast]; exact hd
  · exact ⟨0, 90, fun w => yield_kind k f t w hk, fun w => refYield_kind k f t w hk, by decide⟩

theorem awake_sim : facO 1 4598175219545276416 4607182418800017408 = some 4605380978949069210 := by
  unfold facO
  rw [if_pos rfl]
  decide +kernel
theorem awake_yie : yieO 1 4605380978949069210 4607182418800017408 = some 4598175219545276416 := by
  unfold yieO
  rw [if_pos rfl]
  decide +kernel
theorem awake_fwd : fwdO 4607182418800017408 4602678819172646912 4611686018427387904 = some 4602678819172646912 := by decide +kernel

set_option maxHeartbeats 1600000 in
theorem awake9 (w : World) : Calls Try.prog 11 #[] w fun e w' => e = .returned (.bool true) ∧ Below w.heap.size w w' := by
  have H1 : Hid (∀ w, Calls Try.prog 7 #[.int .i64 1, .float .f64 4598175219545276416, .float .f64 4607182418800017408] w fun e w' => e = .returned (.tuple #[.float .f64 4605380978949069210, .int .i64 0]) ∧ Below w.heap.size w w') := fun w => by
    have := factor_ok 1 4598175219545276416 4607182418800017408 4605380978949069210 w (by decide) (by decide) (by decide) (by decide) (by rw [awake_sim]; exact rfl)
    rw [show endN 4605380978949069210 = 4605380978949069210 by decide, show endE ((4605380978949069210 : Nat) : Int) = 0 by decide] at this
    exact this
  have H2 : Hid (∀ w, Calls Try.prog 12 #[.int .i64 1, .float .f64 4605380978949069210, .float .f64 4607182418800017408] w fun e w' => e = .returned (.tuple #[.float .f64 4598175219545276416, .int .i64 0]) ∧ Below w.heap.size w w') := fun w => by
    have := yield_ok 1 4605380978949069210 4607182418800017408 4598175219545276416 w (by decide) (by decide) (by decide) (by decide) (by rw [awake_yie]; exact rfl)
    rw [show enyN 4598175219545276416 = 4598175219545276416 by decide, show enyE ((4598175219545276416 : Nat) : Int) = 0 by decide] at this
    exact this
  have H3 : Hid (∀ w, Calls Try.prog 15 #[.float .f64 4607182418800017408, .float .f64 4602678819172646912, .float .f64 4611686018427387904] w fun e w' => e = .returned (.tuple #[.float .f64 4602678819172646912, .int .i64 0]) ∧ Below w.heap.size w w') := fun w => by
    have := forward_ok 4607182418800017408 4602678819172646912 4611686018427387904 4602678819172646912 w (by decide) (by decide) (by decide) (by decide) (by rw [awake_fwd]; exact rfl)
    rw [show enyN 4602678819172646912 = 4602678819172646912 by decide, show enyE ((4602678819172646912 : Nat) : Int) = 0 by decide] at this
    exact this
  have o1 : (FloatKind.f64.format.order 4605380978949069210 4605380978949069210 == some .eq) = true := by decide +kernel
  have o2 : (FloatKind.f64.format.order 4598175219545276416 4598175219545276416 == some .eq) = true := by decide +kernel
  have o3 : (FloatKind.f64.format.order 4602678819172646912 4602678819172646912 == some .eq) = true := by decide +kernel
  go_enter Try.func11, Try.ntmps11
  go_wp2_with fail
  refine (H1.out _).mono ?_
  rintro e w1 ⟨rfl, hb1⟩
  go_wp2_with fail
  refine (H2.out _).mono ?_
  rintro e w2 ⟨rfl, hb2⟩
  go_wp2_with fail
  refine (H3.out _).mono ?_
  rintro e w3 ⟨rfl, hb3⟩
  go_wp2_with fail
  go_ret
  exact ⟨rfl, (hb1.trans (hb2.mono hb1.size)).trans (hb3.mono (Nat.le_trans hb1.size hb2.size))⟩
end Go.Proofs.Ytbkmbdbjeiffpaa
