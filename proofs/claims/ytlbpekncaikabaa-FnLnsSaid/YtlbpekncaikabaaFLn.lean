/- The contracts of about1 and Ln, step by step. -/
import Derived.Test.YtlbpekncaikabaaFExp
import Derived.Test.YtlbpekncaikabaaLShelf
namespace Go.Proofs.Ytlbpekncaikabaa
open Go.RowKit

set_option maxHeartbeats 400000 in
theorem inf_neg (w : World) :
    Calls Try.prog 24 #[.int .i64 (-1)] w fun e w' => e = .returned (.float .f64 18442240474082181120) ∧ w' = w := by
  have h2 := call_frombits
  go_enter Try.func24, Try.ntmps24
  go_wp2
  go_ret
  exact ⟨rfl, rfl⟩
set_option maxHeartbeats 400000 in
theorem nan_math (w : World) :
    Calls Try.prog 41 #[] w fun e w' => e = .returned (.float .f64 9221120237041090561) ∧ w' = w := by
  have h2 := call_frombits
  go_enter Try.func41, Try.ntmps41
  go_wp2
  go_ret
  exact ⟨rfl, rfl⟩
set_option maxHeartbeats 400000 in
theorem isInf_pos (x : Nat) (g : Bool) (w : World) (hg : (FloatKind.f64.format.order x 9218868437227405311 == some .gt) = g) :
    Calls Try.prog 42 #[.float .f64 x, .int .i64 1] w fun e w' => e = .returned (.bool g) ∧ w' = w := by
  go_enter Try.func42, Try.ntmps42
  go_wp2
  go_ret
  exact ⟨rfl, rfl⟩

set_option maxRecDepth 20000 in
set_option maxHeartbeats 800000 in
theorem about1_at (x m0 m1 : Nat) (n e L : Int) (ok g : Bool) (w : World) (hS : Hid (∀ w, Calls Try.prog 28 #[.float .f64 x] w fun r w' => r = .returned (.tuple #[.int .i64 n, .int .i64 e, .bool ok]) ∧ w' = w))
    (hn : 0 < n ∧ n < 9007199254740992) (he : -2000 ≤ e ∧ e ≤ 2000) (hL : Hid (∀ w, Calls Try.prog 70 #[.int .u64 n] w fun r w' => r = .returned (.int .i64 L) ∧ w' = w)) (hL2 : 0 ≤ L ∧ L ≤ 64)
    (hJ : Hid (∀ w, Calls Try.prog 29 #[.int .i64 n, .int .i64 (1 - L)] w fun r w' => r = .returned (.float .f64 m0) ∧ ∃ q, w' = w.drewN q))
    (hg : (FloatKind.f64.format.order m0 4609047870845172685 == some .gt) = g) (hd : floatBits .quo .f64 m0 4611686018427387904 = some m1) :
    Calls Try.prog 43 #[.float .f64 x] w fun r w' => r = .returned (.tuple #[.float .f64 (if g then m1 else m0), .int .i64 (if g then e + L else e + L - 1)]) ∧ ∃ q, w' = w.drewN q := by
  have r1 := fun w => run_float_arith (P := Try.prog) w .quo 22 .f64 _ _ _ hd
  clear hd
  cases g
  all_goals
    simp only [Bool.false_eq_true, if_true, if_false]
    go_enter Try.func43, Try.ntmps43
    go_wp2_with fail
    refine (turned (hS.out _)).mono ?_
    rintro r w' ⟨rfl, rfl⟩
    go_wp2_with fail
    refine (turned (hL.out _)).mono ?_
    rintro r w' ⟨rfl, rfl⟩
    go_wp2_with fail
    refine (hJ.out _).mono ?_
    rintro r w' ⟨rfl, q, rfl⟩
    go_wp2_with fail
    go_ret2
    exact ⟨rfl, _, rfl⟩

set_option maxHeartbeats 400000 in
theorem ln_nan (x : Nat) (w : World) (h : U64 x) (hn : nanB x = true) :
    Calls Try.prog 14 #[.float .f64 x] w fun e w' => e = .returned (.float .f64 9221120237041090561) ∧ w' = w := by
  have H := hideS (isNaN_math x w h)
  rw [hn] at H
  clear h hn
  go_enter Try.func14, Try.ntmps14
  go_wp2_with fail
  refine H.out.mono ?_
  rintro e w' ⟨rfl, rfl⟩
  go_wp2_with fail
  refine (nan_math _).mono ?_
  rintro e w' ⟨rfl, rfl⟩
  go_wp2_with fail
  go_ret
  exact ⟨rfl, rfl⟩

set_option maxHeartbeats 400000 in
theorem ln_neg (x : Nat) (w : World) (h : U64 x) (hn : nanB x = false) (hl : (FloatKind.f64.format.order x 0 == some .lt) = true) :
    Calls Try.prog 14 #[.float .f64 x] w fun e w' => e = .returned (.float .f64 9221120237041090561) ∧ w' = w := by
  have H := hideS (isNaN_math x w h)
  rw [hn] at H
  clear h hn
  go_enter Try.func14, Try.ntmps14
  go_wp2_with fail
  refine H.out.mono ?_
  rintro e w' ⟨rfl, rfl⟩
  go_wp2_with fail
  refine (nan_math _).mono ?_
  rintro e w' ⟨rfl, rfl⟩
  go_wp2_with fail
  go_ret
  exact ⟨rfl, rfl⟩

set_option maxHeartbeats 400000 in
theorem ln_zero (x : Nat) (w : World) (h : U64 x) (hn : nanB x = false) (hl : (FloatKind.f64.format.order x 0 == some .lt) = false) (he : (FloatKind.f64.format.order x 0 == some .eq) = true) :
    Calls Try.prog 14 #[.float .f64 x] w fun e w' => e = .returned (.float .f64 18442240474082181120) ∧ w' = w := by
  have H := hideS (isNaN_math x w h)
  rw [hn] at H
  clear h hn
  go_enter Try.func14, Try.ntmps14
  go_wp2_with fail
  refine H.out.mono ?_
  rintro e w' ⟨rfl, rfl⟩
  go_wp2_with fail
  refine (inf_neg _).mono ?_
  rintro e w' ⟨rfl, rfl⟩
  go_wp2_with fail
  go_ret
  exact ⟨rfl, rfl⟩

set_option maxHeartbeats 400000 in
theorem ln_inf (x : Nat) (w : World) (h : U64 x) (hn : nanB x = false) (hl : (FloatKind.f64.format.order x 0 == some .lt) = false) (he : (FloatKind.f64.format.order x 0 == some .eq) = false) (hi : (FloatKind.f64.format.order x 9218868437227405311 == some .gt) = true) :
    Calls Try.prog 14 #[.float .f64 x] w fun e w' => e = .returned (.float .f64 x) ∧ w' = w := by
  have H := hideS (isNaN_math x w h)
  rw [hn] at H
  have HI := hideS (isInf_pos x true w hi)
  clear h hn hi
  go_enter Try.func14, Try.ntmps14
  go_wp2_with fail
  refine H.out.mono ?_
  rintro e w' ⟨rfl, rfl⟩
  go_wp2_with fail
  refine HI.out.mono ?_
  rintro e w' ⟨rfl, rfl⟩
  go_wp2_with fail
  go_ret
  exact ⟨rfl, rfl⟩

set_option maxRecDepth 20000 in
set_option maxHeartbeats 1600000 in
theorem ln_mid (x m a b s s2 z hv v kf hi lo c res : Nat) (k : Int) (w : World) (h : U64 x) (hn : nanB x = false) (hl : (FloatKind.f64.format.order x 0 == some .lt) = false) (he : (FloatKind.f64.format.order x 0 == some .eq) = false) (hi0 : (FloatKind.f64.format.order x 9218868437227405311 == some .gt) = false)
    (hA : Hid (∀ w, Calls Try.prog 43 #[.float .f64 x] w fun r w' => r = .returned (.tuple #[.float .f64 m, .int .i64 k]) ∧ ∃ q, w' = w.drewN q))
    (q1 : floatBits .sub .f64 m 4607182418800017408 = some a) (q2 : floatBits .add .f64 m 4607182418800017408 = some b) (q3 : floatBits .quo .f64 a b = some s) (q4 : floatBits .mul .f64 4611686018427387904 s = some s2) (q5 : floatBits .mul .f64 s s = some z)
    (q6 : Hid (hornO lnL z = some hv)) (q7 : floatBits .mul .f64 s2 hv = some v) (hkf : fi k = kf) (q8 : floatBits .mul .f64 kf 4604418534311723008 = some hi) (q9 : floatBits .mul .f64 kf 4461442080421002358 = some lo) (q10 : floatBits .add .f64 v lo = some c) (q11 : floatBits .add .f64 hi c = some res) :
    Calls Try.prog 14 #[.float .f64 x] w fun e w' => e = .returned (.float .f64 res) ∧ Below w.heap.size w w' := by
  have H := hideS (isNaN_math x w h)
  rw [hn] at H
  have HI := hideS (isInf_pos x false w hi0)
  have r1 := fun w => run_float_arith (P := Try.prog) w .sub 22 .f64 _ _ _ q1
  have r2 := fun w => run_float_arith (P := Try.prog) w .add 22 .f64 _ _ _ q2
  have r3 := fun w => run_float_arith (P := Try.prog) w .quo 22 .f64 _ _ _ q3
  have r4 := fun w => run_float_arith (P := Try.prog) w .mul 22 .f64 _ _ _ q4
  have r5 := fun w => run_float_arith (P := Try.prog) w .mul 22 .f64 _ _ _ q5
  have r7 := fun w => run_float_arith (P := Try.prog) w .mul 22 .f64 _ _ _ q7
  have r10 := fun w => run_float_arith (P := Try.prog) w .add 22 .f64 _ _ _ q10
  have r11 := fun w => run_float_arith (P := Try.prog) w .add 22 .f64 _ _ _ q11
  have hfo := (floatOf_fi k).trans hkf
  have HL : Hid (∀ w, Calls Try.prog 26 #[.float .f64 kf] w fun e w' => e = .returned (.tuple #[.float .f64 hi, .float .f64 lo]) ∧ w' = w) := fun w => logs_at kf hi lo w q8 q9
  clear h hn q1 q2 q3 q4 q5 q7 q8 q9 q10 q11 hi0 hkf
  go_enter Try.func14, Try.ntmps14
  go_wp2_with fail
  refine (turned H.out).mono ?_
  rintro e w' ⟨rfl, rfl⟩
  clear H
  go_wp2_with fail
  refine (turned HI.out).mono ?_
  rintro e w' ⟨rfl, rfl⟩
  clear HI
  go_wp2_with fail
  refine (hA.out _).mono ?_
  rintro e w' ⟨rfl, q, hw'⟩
  have B0 : Hid (Below w.heap.size w w') := by rw [hw']; exact ⟨rfl, rfl, rfl, Nat.le_refl _, fun _ _ => rfl⟩
  clear hw'
  go_wp2_with fail
  have HT := hideS (lnTerms_any w')
  refine HT.out.mono ?_
  rintro e w1 ⟨rfl, hs, hb⟩
  have HB : Hid (Below w.heap.size w w1) := B0.out.trans (hb.mono B0.out.size)
  have HH : Hid (Calls Try.prog 19 #[.slice (some ⟨w'.heap.size, 0, none⟩) 11 11, .float .f64 z] w1 fun e w2 => ∃ r', e = .returned (.float .f64 r') ∧ Ag (hornO lnL z) r' ∧ ∃ q, w2 = w1.drewN q) := horner_any _ _ _ 11 z 11 lnL w1 hs rfl (by decide)
  rw [q6.out] at HH
  clear hs hb HT B0
  go_wp2_with fail
  refine HH.out.mono ?_
  rintro e w2 ⟨r', rfl, hag, q', rfl⟩
  obtain rfl := ag_some hag
  go_wp2_with fail
  refine (turned (HL.out _)).mono ?_
  rintro e w' ⟨rfl, rfl⟩
  go_wp2_with fail
  go_ret
  exact ⟨rfl, ⟨HB.out.os, HB.out.tape, HB.out.output, HB.out.size, HB.out.block⟩⟩
end Go.Proofs.Ytlbpekncaikabaa
