/- The law's awake: what the document fixes. -/
import Derived.Test.YtlbpekncaikabaaFLn
namespace Go.Proofs.Ytlbpekncaikabaa
open Go.RowKit

theorem num_dec4 (b : Nat) (h : decide (b % 9223372036854775808 < 9218868437227405312) = true) : NumB b := by unfold NumB; exact of_decide_eq_true h
theorem floor_half (w : World) : Calls Try.prog 25 #[.float .f64 4602678819172646912] w fun e w' => e = .returned (.float .f64 0) ∧ w' = w :=
  floor_at _ 0 w (num_dec4 _ (by decide)) (by decide +kernel)
theorem exp0 (w : World) : Calls Try.prog 10 #[.float .f64 0] w fun e w' => e = .returned (.float .f64 4607182418800017408) ∧ Below w.heap.size w w' := by
  have := exp_mid 0 0 4602678819172646912 0 0 0 0 0 4607182418800017408 0 w (by unfold U64; omega) (by decide) (by decide) (by decide) (by decide) (by decide) (by decide +kernel) (by decide +kernel) floor_half (by decide +kernel) (by decide +kernel) (by decide +kernel) (by decide +kernel) (by show _ = _; decide +kernel) (by show U64 _; unfold U64; omega) (by decide +kernel) (by omega) (by decide +kernel) (by decide +kernel)
  rw [show joinN (splM (4607182418800017408 : Nat)) (splE (4607182418800017408 : Nat) + 0) = 4607182418800017408 by decide +kernel] at this
  exact this
theorem about1_one (w : World) : Calls Try.prog 43 #[.float .f64 4607182418800017408] w fun r w' => r = .returned (.tuple #[.float .f64 4607182418800017408, .int .i64 0]) ∧ ∃ q, w' = w.drewN q := by
  have hS : Hid (∀ w, Calls Try.prog 28 #[.float .f64 4607182418800017408] w fun r w' => r = .returned (.tuple #[.int .i64 4503599627370496, .int .i64 (-52), .bool true]) ∧ w' = w) := fun w => by
    have := split_as 4607182418800017408 4607182418800017408 w rfl (by unfold U64; omega)
    rw [show splM 4607182418800017408 = 4503599627370496 by decide +kernel, show splE 4607182418800017408 = -52 by decide +kernel, show splOk 4607182418800017408 = true by decide +kernel] at this
    exact this
  have hL : Hid (∀ w, Calls Try.prog 70 #[.int .u64 4503599627370496] w fun r w' => r = .returned (.int .i64 53) ∧ w' = w) := fun w => by
    have := Try.bits_Len 4503599627370496 w (by omega) (by omega)
    rw [show (Lib.bitLen (4503599627370496 : Int).toNat : Int) = 53 by decide +kernel] at this
    exact this
  have hJ : Hid (∀ w, Calls Try.prog 29 #[.int .i64 4503599627370496, .int .i64 (1 - 53)] w fun r w' => r = .returned (.float .f64 4607182418800017408) ∧ ∃ q, w' = w.drewN q) := fun w => by
    have := join_any 4503599627370496 (1 - 53) w (by omega) (by omega)
    rw [show joinN 4503599627370496 (1 - 53) = 4607182418800017408 by decide +kernel] at this
    exact this
  exact about1_at _ _ 4602678819172646912 _ _ _ _ false w hS (by omega) (by omega) hL (by omega) hJ (by decide +kernel) (by decide +kernel)
theorem ln1 (w : World) : Calls Try.prog 14 #[.float .f64 4607182418800017408] w fun e w' => e = .returned (.float .f64 0) ∧ Below w.heap.size w w' :=
  ln_mid _ 4607182418800017408 0 4611686018427387904 0 0 0 4607182418800017408 0 0 0 0 0 0 0 w (by unfold U64; omega) (by decide +kernel) (by decide +kernel) (by decide +kernel) (by decide +kernel) about1_one (by decide +kernel) (by decide +kernel) (by decide +kernel) (by decide +kernel) (by decide +kernel) (by show _ = _; decide +kernel) (by decide +kernel) rfl (by decide +kernel) (by decide +kernel) (by decide +kernel) (by decide +kernel)
theorem horner17 (g c : Nat) (w : World) (hs : Src w (some ⟨g, 0, none⟩) g 0 [4607182418800017408, 4611686018427387904, 4613937818241073152]) :
    Calls Try.prog 19 #[.slice (some ⟨g, 0, none⟩) 3 c, .float .f64 4611686018427387904] w fun e w' => e = .returned (.float .f64 4625478292286210048) ∧ ∃ q, w' = w.drewN q := by
  refine (horner_any _ g 0 c 4611686018427387904 3 _ w hs rfl (by omega)).mono ?_
  rintro e w' ⟨r, rfl, hag, q⟩
  rw [show hornO [4607182418800017408, 4611686018427387904, 4613937818241073152] 4611686018427387904 = some 4625478292286210048 by decide +kernel] at hag
  rw [ag_some hag]
  exact ⟨rfl, q⟩
theorem pow1024 (w : World) : Calls Try.prog 16 #[.float .f64 4611686018427387904, .int .i64 10] w fun e w' => e = .returned (.float .f64 4652218415073722368) ∧ w' = w := by
  have := pow2_pos 10 w (by omega)
  rw [show P2 ((10 : Nat) : Int) = 4652218415073722368 by decide +kernel] at this
  exact this

theorem src_lit3 (w : World) (a b c : Nat) : Src (w.alloc (.cells #[.float .f64 a, .float .f64 b, .float .f64 c] 22)) (some ⟨w.heap.size, 0, none⟩) w.heap.size 0 [a, b, c] :=
  ⟨fun _ => rfl, fun _ => by simp, fun j hj => by
    match j, hj with
    | 0, _ => simp
    | 1, _ => simp
    | 2, _ => simp⟩

set_option maxRecDepth 20000 in
set_option maxHeartbeats 1600000 in
theorem awake4 (w : World) : Calls Try.prog 13 #[] w fun e w' => e = .returned (.bool true) ∧ Below w.heap.size w w' := by
  have o1 : (FloatKind.f64.format.order 4652218415073722368 4652218415073722368 == some .eq) = true := by decide +kernel
  have o2 : (FloatKind.f64.format.order 4607182418800017408 4607182418800017408 == some .eq) = true := by decide +kernel
  have o3 : (FloatKind.f64.format.order 4625478292286210048 4625478292286210048 == some .eq) = true := by decide +kernel
  go_enter Try.func13, Try.ntmps13
  go_wp2_with fail
  refine (turned (pow1024 _)).mono ?_
  rintro e w' ⟨rfl, rfl⟩
  go_wp2_with fail
  refine (exp0 _).mono ?_
  rintro e w1 ⟨rfl, hb⟩
  have B1 := hideS hb
  clear hb
  go_wp2_with fail
  refine (ln1 _).mono ?_
  rintro e w2 ⟨rfl, hb⟩
  have B2 : Hid (Below w.heap.size w w2) := B1.out.trans (hb.mono B1.out.size)
  clear hb B1
  go_wp2_with fail
  refine (turned (bits_any _ _)).mono ?_
  rintro e w' ⟨rfl, rfl⟩
  go_wp2_with fail
  have HS := hideS (src_lit3 w2 4607182418800017408 4611686018427387904 4613937818241073152)
  refine (horner17 w2.heap.size 3 _ HS.out).mono ?_
  rintro e w3 ⟨rfl, q, h3⟩
  have B3 : Hid (Below w.heap.size w w3) := by
    rw [h3]
    have := B2.out.alloc B2.out.size (.cells #[.float .f64 4607182418800017408, .float .f64 4611686018427387904, .float .f64 4613937818241073152] 22)
    exact ⟨this.os, this.tape, this.output, this.size, this.block⟩
  clear h3 HS B2
  go_wp2_with fail
  go_ret
  exact ⟨rfl, B3.out⟩
end Go.Proofs.Ytlbpekncaikabaa
