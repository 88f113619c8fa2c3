/- The contracts of about1 and Ln, step by step. The law's awake: what the document fixes. The contract of the document's Factor. The contract of the document's Yield. The contracts of the document's Forward and Convert. -/
import Derived.Test.YtnmjljijgmmakaaHak
import Derived.Test.YtnmjljijgmmakaaHad
import Derived.Test.YtnmjljijgmmakaaHaj
namespace Go.Proofs.Ytnmjljijgmmakaa
open Go.RowKit

set_option maxHeartbeats 400000 in
theorem inf_neg (w : World) :
    Calls Try.prog 59 #[.int .i64 (-1)] w fun e w' => e = .returned (.float .f64 18442240474082181120) ∧ w' = w := by
  have h2 := call_frombits
  go_enter Try.func59, Try.ntmps59
  go_wp2
  go_ret
  exact ⟨rfl, rfl⟩
set_option maxHeartbeats 400000 in
theorem nan_math (w : World) :
    Calls Try.prog 65 #[] w fun e w' => e = .returned (.float .f64 9221120237041090561) ∧ w' = w := by
  have h2 := call_frombits
  go_enter Try.func65, Try.ntmps65
  go_wp2
  go_ret
  exact ⟨rfl, rfl⟩
set_option maxHeartbeats 400000 in
theorem isInf_pos (x : Nat) (g : Bool) (w : World) (hg : (FloatKind.f64.format.order x 9218868437227405311 == some .gt) = g) :
    Calls Try.prog 39 #[.float .f64 x, .int .i64 1] w fun e w' => e = .returned (.bool g) ∧ w' = w := by
  go_enter Try.func39, Try.ntmps39
  go_wp2
  go_ret
  exact ⟨rfl, rfl⟩

set_option maxRecDepth 20000 in
set_option maxHeartbeats 800000 in
theorem about1_at (x m0 m1 : Nat) (n e L : Int) (ok g : Bool) (w : World) (hS : Hid (∀ w, Calls Try.prog 50 #[.float .f64 x] w fun r w' => r = .returned (.tuple #[.int .i64 n, .int .i64 e, .bool ok]) ∧ w' = w))
    (hn : 0 < n ∧ n < 9007199254740992) (he : -2000 ≤ e ∧ e ≤ 2000) (hL : Hid (∀ w, Calls Try.prog 83 #[.int .u64 n] w fun r w' => r = .returned (.int .i64 L) ∧ w' = w)) (hL2 : 0 ≤ L ∧ L ≤ 64)
    (hJ : Hid (∀ w, Calls Try.prog 64 #[.int .i64 n, .int .i64 (1 - L)] w fun r w' => r = .returned (.float .f64 m0) ∧ ∃ q, w' = w.drewN q))
    (hg : (FloatKind.f64.format.order m0 4609047870845172685 == some .gt) = g) (hd : floatBits .quo .f64 m0 4611686018427387904 = some m1) :
    Calls Try.prog 66 #[.float .f64 x] w fun r w' => r = .returned (.tuple #[.float .f64 (if g then m1 else m0), .int .i64 (if g then e + L else e + L - 1)]) ∧ ∃ q, w' = w.drewN q := by
  have r1 := fun w => run_float_arith (P := Try.prog) w .quo 38 .f64 _ _ _ hd
  clear hd
  cases g
  all_goals
    simp only [Bool.false_eq_true, if_true, if_false]
    go_enter Try.func66, Try.ntmps66
    go_wp2_with fail
    refine (turned (hS.out _)).mono ?_
    rintro r w' ⟨rfl, rfl⟩
    go_wp2_with fail
    refine (turned (hL.out _)).mono ?_
    rintro r w' ⟨rfl, rfl⟩
    go_wp2_with fail
    refine (hJ.out _).mono ?_
    rintro r w' ⟨rfl, q, rfl⟩
    go_wp2_with fail
    go_ret2
    exact ⟨rfl, _, rfl⟩

set_option maxHeartbeats 400000 in
theorem ln_nan (x : Nat) (w : World) (h : U64 x) (hn : nanB x = true) :
    Calls Try.prog 47 #[.float .f64 x] w fun e w' => e = .returned (.float .f64 9221120237041090561) ∧ w' = w := by
  have H := hideS (isNaN_math x w h)
  rw [hn] at H
  clear h hn
  go_enter Try.func47, Try.ntmps47
  go_wp2_with fail
  refine H.out.mono ?_
  rintro e w' ⟨rfl, rfl⟩
  go_wp2_with fail
  refine (nan_math _).mono ?_
  rintro e w' ⟨rfl, rfl⟩
  go_wp2_with fail
  go_ret
  exact ⟨rfl, rfl⟩

set_option maxHeartbeats 400000 in
theorem ln_neg (x : Nat) (w : World) (h : U64 x) (hn : nanB x = false) (hl : (FloatKind.f64.format.order x 0 == some .lt) = true) :
    Calls Try.prog 47 #[.float .f64 x] w fun e w' => e = .returned (.float .f64 9221120237041090561) ∧ w' = w := by
  have H := hideS (isNaN_math x w h)
  rw [hn] at H
  clear h hn
  go_enter Try.func47, Try.ntmps47
  go_wp2_with fail
  refine H.out.mono ?_
  rintro e w' ⟨rfl, rfl⟩
  go_wp2_with fail
  refine (nan_math _).mono ?_
  rintro e w' ⟨rfl, rfl⟩
  go_wp2_with fail
  go_ret
  exact ⟨rfl, rfl⟩

set_option maxHeartbeats 400000 in
theorem ln_zero (x : Nat) (w : World) (h : U64 x) (hn : nanB x = false) (hl : (FloatKind.f64.format.order x 0 == some .lt) = false) (he : (FloatKind.f64.format.order x 0 == some .eq) = true) :
    Calls Try.prog 47 #[.float .f64 x] w fun e w' => e = .returned (.float .f64 18442240474082181120) ∧ w' = w := by
  have H := hideS (isNaN_math x w h)
  rw [hn] at H
  clear h hn
  go_enter Try.func47, Try.ntmps47
  go_wp2_with fail
  refine H.out.mono ?_
  rintro e w' ⟨rfl, rfl⟩
  go_wp2_with fail
  refine (inf_neg _).mono ?_
  rintro e w' ⟨rfl, rfl⟩
  go_wp2_with fail
  go_ret
  exact ⟨rfl, rfl⟩

set_option maxHeartbeats 400000 in
theorem ln_inf (x : Nat) (w : World) (h : U64 x) (hn : nanB x = false) (hl : (FloatKind.f64.format.order x 0 == some .lt) = false) (he : (FloatKind.f64.format.order x 0 == some .eq) = false) (hi : (FloatKind.f64.format.order x 9218868437227405311 == some .gt) = true) :
    Calls Try.prog 47 #[.float .f64 x] w fun e w' => e = .returned (.float .f64 x) ∧ w' = w := by
  have H := hideS (isNaN_math x w h)
  rw [hn] at H
  have HI := hideS (isInf_pos x true w hi)
  clear h hn hi
  go_enter Try.func47, Try.ntmps47
  go_wp2_with fail
  refine H.out.mono ?_
  rintro e w' ⟨rfl, rfl⟩
  go_wp2_with fail
  refine HI.out.mono ?_
  rintro e w' ⟨rfl, rfl⟩
  go_wp2_with fail
  go_ret
  exact ⟨rfl, rfl⟩

end Go.Proofs.Ytnmjljijgmmakaa
namespace Go.Proofs.Ytnmjljijgmmakaa
open Go.RowKit

end Go.Proofs.Ytnmjljijgmmakaa
namespace Go.Proofs.Ytnmjljijgmmakaa
open Go.RowKit

end Go.Proofs.Ytnmjljijgmmakaa
namespace Go.Proofs.Ytnmjljijgmmakaa
open Go.RowKit

end Go.Proofs.Ytnmjljijgmmakaa
namespace Go.Proofs.Ytnmjljijgmmakaa
open Go.RowKit

end Go.Proofs.Ytnmjljijgmmakaa
