/- The law's awake: what the document fixes. -/
import Derived.Test.YtbkmbdbjeiffpaaHbe
namespace Go.Proofs.Ytbkmbdbjeiffpaa
open Go.RowKit

theorem num_dec4 (b : Nat) (h : decide (b % 9223372036854775808 < 9218868437227405312) = true) : NumB b := by unfold NumB; exact of_decide_eq_true h
theorem floor_half (w : World) : Calls Try.prog 77 #[.float .f64 4602678819172646912] w fun e w' => e = .returned (.float .f64 0) ∧ w' = w :=
  floor_at _ 0 w (num_dec4 _ (by decide)) (by decide +kernel)
theorem exp0 (w : World) : Calls Try.prog 60 #[.float .f64 0] w fun e w' => e = .returned (.float .f64 4607182418800017408) ∧ Below w.heap.size w w' := by
  have := exp_mid 0 0 4602678819172646912 0 0 0 0 0 4607182418800017408 0 w (by unfold U64; omega) (by decide) (by decide) (by decide) (by decide) (by decide) (by decide +kernel) (by decide +kernel) floor_half (by decide +kernel) (by decide +kernel) (by decide +kernel) (by decide +kernel) (by show _ = _; decide +kernel) (by show U64 _; unfold U64; omega) (by decide +kernel) (by omega) (by decide +kernel) (by decide +kernel)
  rw [show joinN (splM (4607182418800017408 : Nat)) (splE (4607182418800017408 : Nat) + 0) = 4607182418800017408 by decide +kernel] at this
  exact this

theorem about1_one (w : World) : Calls Try.prog 84 #[.float .f64 4607182418800017408] w fun r w' => r = .returned (.tuple #[.float .f64 4607182418800017408, .int .i64 0]) ∧ ∃ q, w' = w.drewN q := by
  have hS : Hid (∀ w, Calls Try.prog 81 #[.float .f64 4607182418800017408] w fun r w' => r = .returned (.tuple #[.int .i64 4503599627370496, .int .i64 (-52), .bool true]) ∧ w' = w) := fun w => by
    have := split_as 4607182418800017408 4607182418800017408 w rfl (by unfold U64; omega)
    rw [show splM 4607182418800017408 = 4503599627370496 by decide +kernel, show splE 4607182418800017408 = -52 by decide +kernel, show splOk 4607182418800017408 = true by decide +kernel] at this
    exact this
  have hL : Hid (∀ w, Calls Try.prog 97 #[.int .u64 4503599627370496] w fun r w' => r = .returned (.int .i64 53) ∧ w' = w) := fun w => by
    have := Try.bits_Len 4503599627370496 w (by omega) (by omega)
    rw [show (Lib.bitLen (4503599627370496 : Int).toNat : Int) = 53 by decide +kernel] at this
    exact this
  have hJ : Hid (∀ w, Calls Try.prog 82 #[.int .i64 4503599627370496, .int .i64 (1 - 53)] w fun r w' => r = .returned (.float .f64 4607182418800017408) ∧ ∃ q, w' = w.drewN q) := fun w => by
    have := join_any 4503599627370496 (1 - 53) w (by omega) (by omega)
    rw [show joinN 4503599627370496 (1 - 53) = 4607182418800017408 by decide +kernel] at this
    exact this
  exact about1_at _ _ 4602678819172646912 _ _ _ _ false w hS (by omega) (by omega) hL (by omega) hJ (by decide +kernel) (by decide +kernel)

theorem ln1 (w : World) : Calls Try.prog 61 #[.float .f64 4607182418800017408] w fun e w' => e = .returned (.float .f64 0) ∧ Below w.heap.size w w' :=
  ln_mid _ 4607182418800017408 0 4611686018427387904 0 0 0 4607182418800017408 0 0 0 0 0 0 0 w (by unfold U64; omega) (by decide +kernel) (by decide +kernel) (by decide +kernel) (by decide +kernel) about1_one (by decide +kernel) (by decide +kernel) (by decide +kernel) (by decide +kernel) (by decide +kernel) (by show _ = _; decide +kernel) (by decide +kernel) rfl (by decide +kernel) (by decide +kernel) (by decide +kernel) (by decide +kernel)

theorem horner17 (g c : Nat) (w : World) (hs : Src w (some ⟨g, 0, none⟩) g 0 [4607182418800017408, 4611686018427387904, 4613937818241073152]) :
    Calls Try.prog 79 #[.slice (some ⟨g, 0, none⟩) 3 c, .float .f64 4611686018427387904] w fun e w' => e = .returned (.float .f64 4625478292286210048) ∧ ∃ q, w' = w.drewN q := by
  refine (horner_any _ g 0 c 4611686018427387904 3 _ w hs rfl (by omega)).mono ?_
  rintro e w' ⟨r, rfl, hag, q⟩
  rw [show hornO [4607182418800017408, 4611686018427387904, 4613937818241073152] 4611686018427387904 = some 4625478292286210048 by decide +kernel] at hag
  rw [ag_some hag]
  exact ⟨rfl, q⟩

theorem src_lit3 (w : World) (a b c : Nat) : Src (w.alloc (.cells #[.float .f64 a, .float .f64 b, .float .f64 c] 22)) (some ⟨w.heap.size, 0, none⟩) w.heap.size 0 [a, b, c] :=
  ⟨fun _ => rfl, fun _ => by simp, fun j hj => by
    match j, hj with
    | 0, _ => simp
    | 1, _ => simp
    | 2, _ => simp⟩
