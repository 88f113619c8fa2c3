/- The contracts of about1 and Ln, step by step. The program's Ln, whatever its steps tell. -/
import Derived.Test.YtbkmbdbjeiffpaaHay
import Derived.Test.YtbkmbdbjeiffpaaHbd
import Derived.Test.YtbkmbdbjeiffpaaHba
namespace Go.Proofs.Ytbkmbdbjeiffpaa
open Go.RowKit

set_option maxHeartbeats 400000 in
theorem inf_neg (w : World) :
    Calls Try.prog 76 #[.int .i64 (-1)] w fun e w' => e = .returned (.float .f64 18442240474082181120) ∧ w' = w := by
  have h2 := call_frombits
  go_enter Try.func76, Try.ntmps76
  go_wp2
  go_ret
  exact ⟨rfl, rfl⟩
set_option maxHeartbeats 400000 in
theorem nan_math (w : World) :
    Calls Try.prog 83 #[] w fun e w' => e = .returned (.float .f64 9221120237041090561) ∧ w' = w := by
  have h2 := call_frombits
  go_enter Try.func83, Try.ntmps83
  go_wp2
  go_ret
  exact ⟨rfl, rfl⟩
set_option maxHeartbeats 400000 in
theorem isInf_pos (x : Nat) (g : Bool) (w : World) (hg : (FloatKind.f64.format.order x 9218868437227405311 == some .gt) = g) :
    Calls Try.prog 43 #[.float .f64 x, .int .i64 1] w fun e w' => e = .returned (.bool g) ∧ w' = w := by
  go_enter Try.func43, Try.ntmps43
  go_wp2
  go_ret
  exact ⟨rfl, rfl⟩

set_option maxRecDepth 20000 in
set_option maxHeartbeats 800000 in
theorem about1_at (x m0 m1 : Nat) (n e L : Int) (ok g : Bool) (w : World) (hS : Hid (∀ w, Calls Try.prog 81 #[.float .f64 x] w fun r w' => r = .returned (.tuple #[.int .i64 n, .int .i64 e, .bool ok]) ∧ w' = w))
    (hn : 0 < n ∧ n < 9007199254740992) (he : -2000 ≤ e ∧ e ≤ 2000) (hL : Hid (∀ w, Calls Try.prog 97 #[.int .u64 n] w fun r w' => r = .returned (.int .i64 L) ∧ w' = w)) (hL2 : 0 ≤ L ∧ L ≤ 64)
    (hJ : Hid (∀ w, Calls Try.prog 82 #[.int .i64 n, .int .i64 (1 - L)] w fun r w' => r = .returned (.float .f64 m0) ∧ ∃ q, w' = w.drewN q))
    (hg : (FloatKind.f64.format.order m0 4609047870845172685 == some .gt) = g) (hd : floatBits .quo .f64 m0 4611686018427387904 = some m1) :
    Calls Try.prog 84 #[.float .f64 x] w fun r w' => r = .returned (.tuple #[.float .f64 (if g then m1 else m0), .int .i64 (if g then e + L else e + L - 1)]) ∧ ∃ q, w' = w.drewN q := by
  have r1 := fun w => run_float_arith (P := Try.prog) w .quo 22 .f64 _ _ _ hd
  clear hd
  cases g
  all_goals
    simp only [Bool.false_eq_true, if_true, if_false]
    go_enter Try.func84, Try.ntmps84
    go_wp2_with fail
    refine (turned (hS.out _)).mono ?_
    rintro r w' ⟨rfl, rfl⟩
    go_wp2_with fail
    refine (turned (hL.out _)).mono ?_
    rintro r w' ⟨rfl, rfl⟩
    go_wp2_with fail
    refine (hJ.out _).mono ?_
    rintro r w' ⟨rfl, q, rfl⟩
    go_wp2_with fail
    go_ret2
    exact ⟨rfl, _, rfl⟩

set_option maxHeartbeats 400000 in
theorem ln_nan (x : Nat) (w : World) (h : U64 x) (hn : nanB x = true) :
    Calls Try.prog 61 #[.float .f64 x] w fun e w' => e = .returned (.float .f64 9221120237041090561) ∧ w' = w := by
  have H := hideS (isNaN_math x w h)
  rw [hn] at H
  clear h hn
  go_enter Try.func61, Try.ntmps61
  go_wp2_with fail
  refine H.out.mono ?_
  rintro e w' ⟨rfl, rfl⟩
  go_wp2_with fail
  refine (nan_math _).mono ?_
  rintro e w' ⟨rfl, rfl⟩
  go_wp2_with fail
  go_ret
  exact ⟨rfl, rfl⟩

set_option maxHeartbeats 400000 in
theorem ln_neg (x : Nat) (w : World) (h : U64 x) (hn : nanB x = false) (hl : (FloatKind.f64.format.order x 0 == some .lt) = true) :
    Calls Try.prog 61 #[.float .f64 x] w fun e w' => e = .returned (.float .f64 9221120237041090561) ∧ w' = w := by
  have H := hideS (isNaN_math x w h)
  rw [hn] at H
  clear h hn
  go_enter Try.func61, Try.ntmps61
  go_wp2_with fail
  refine H.out.mono ?_
  rintro e w' ⟨rfl, rfl⟩
  go_wp2_with fail
  refine (nan_math _).mono ?_
  rintro e w' ⟨rfl, rfl⟩
  go_wp2_with fail
  go_ret
  exact ⟨rfl, rfl⟩

set_option maxHeartbeats 400000 in
theorem ln_zero (x : Nat) (w : World) (h : U64 x) (hn : nanB x = false) (hl : (FloatKind.f64.format.order x 0 == some .lt) = false) (he : (FloatKind.f64.format.order x 0 == some .eq) = true) :
    Calls Try.prog 61 #[.float .f64 x] w fun e w' => e = .returned (.float .f64 18442240474082181120) ∧ w' = w := by
  have H := hideS (isNaN_math x w h)
  rw [hn] at H
  clear h hn
  go_enter Try.func61, Try.ntmps61
  go_wp2_with fail
  refine H.out.mono ?_
  rintro e w' ⟨rfl, rfl⟩
  go_wp2_with fail
  refine (inf_neg _).mono ?_
  rintro e w' ⟨rfl, rfl⟩
  go_wp2_with fail
  go_ret
  exact ⟨rfl, rfl⟩

set_option maxHeartbeats 400000 in
theorem ln_inf (x : Nat) (w : World) (h : U64 x) (hn : nanB x = false) (hl : (FloatKind.f64.format.order x 0 == some .lt) = false) (he : (FloatKind.f64.format.order x 0 == some .eq) = false) (hi : (FloatKind.f64.format.order x 9218868437227405311 == some .gt) = true) :
    Calls Try.prog 61 #[.float .f64 x] w fun e w' => e = .returned (.float .f64 x) ∧ w' = w := by
  have H := hideS (isNaN_math x w h)
  rw [hn] at H
  have HI := hideS (isInf_pos x true w hi)
  clear h hn hi
  go_enter Try.func61, Try.ntmps61
  go_wp2_with fail
  refine H.out.mono ?_
  rintro e w' ⟨rfl, rfl⟩
  go_wp2_with fail
  refine HI.out.mono ?_
  rintro e w' ⟨rfl, rfl⟩
  go_wp2_with fail
  go_ret
  exact ⟨rfl, rfl⟩

set_option maxRecDepth 20000 in
set_option maxHeartbeats 1600000 in
theorem ln_mid (x m a b s s2 z hv v kf hi lo c res : Nat) (k : Int) (w : World) (h : U64 x) (hn : nanB x = false) (hl : (FloatKind.f64.format.order x 0 == some .lt) = false) (he : (FloatKind.f64.format.order x 0 == some .eq) = false) (hi0 : (FloatKind.f64.format.order x 9218868437227405311 == some .gt) = false)
    (hA : Hid (∀ w, Calls Try.prog 84 #[.float .f64 x] w fun r w' => r = .returned (.tuple #[.float .f64 m, .int .i64 k]) ∧ ∃ q, w' = w.drewN q))
    (q1 : floatBits .sub .f64 m 4607182418800017408 = some a) (q2 : floatBits .add .f64 m 4607182418800017408 = some b) (q3 : floatBits .quo .f64 a b = some s) (q4 : floatBits .mul .f64 4611686018427387904 s = some s2) (q5 : floatBits .mul .f64 s s = some z)
    (q6 : Hid (hornO lnL z = some hv)) (q7 : floatBits .mul .f64 s2 hv = some v) (hkf : fi k = kf) (q8 : floatBits .mul .f64 kf 4604418534311723008 = some hi) (q9 : floatBits .mul .f64 kf 4461442080421002358 = some lo) (q10 : floatBits .add .f64 v lo = some c) (q11 : floatBits .add .f64 hi c = some res) :
    Calls Try.prog 61 #[.float .f64 x] w fun e w' => e = .returned (.float .f64 res) ∧ Below w.heap.size w w' := by
  have H := hideS (isNaN_math x w h)
  rw [hn] at H
  have HI := hideS (isInf_pos x false w hi0)
  have r1 := fun w => run_float_arith (P := Try.prog) w .sub 22 .f64 _ _ _ q1
  have r2 := fun w => run_float_arith (P := Try.prog) w .add 22 .f64 _ _ _ q2
  have r3 := fun w => run_float_arith (P := Try.prog) w .quo 22 .f64 _ _ _ q3
  have r4 := fun w => run_float_arith (P := Try.prog) w .mul 22 .f64 _ _ _ q4
  have r5 := fun w => run_float_arith (P := Try.prog) w .mul 22 .f64 _ _ _ q5
  have r7 := fun w => run_float_arith (P := Try.prog) w .mul 22 .f64 _ _ _ q7
  have r10 := fun w => run_float_arith (P := Try.prog) w .add 22 .f64 _ _ _ q10
  have r11 := fun w => run_float_arith (P := Try.prog) w .add 22 .f64 _ _ _ q11
  have hfo := (floatOf_fi k).trans hkf
  have HL : Hid (∀ w, Calls Try.prog 78 #[.float .f64 kf] w fun e w' => e = .returned (.tuple #[.float .f64 hi, .float .f64 lo]) ∧ w' = w) := fun w => logs_at kf hi lo w q8 q9
  clear h hn q1 q2 q3 q4 q5 q7 q8 q9 q10 q11 hi0 hkf
  go_enter Try.func61, Try.ntmps61
  go_wp2_with fail
  refine (turned H.out).mono ?_
  rintro e w' ⟨rfl, rfl⟩
  clear H
  go_wp2_with fail
  refine (turned HI.out).mono ?_
  rintro e w' ⟨rfl, rfl⟩
  clear HI
  go_wp2_with fail
  refine (hA.out _).mono ?_
  rintro e w' ⟨rfl, q, hw'⟩
  have B0 : Hid (Below w.heap.size w w') := by rw [hw']; exact ⟨rfl, rfl, rfl, Nat.le_refl _, fun _ _ => rfl⟩
  clear hw'
  go_wp2_with fail
  have HT := hideS (lnTerms_any w')
  refine HT.out.mono ?_
  rintro e w1 ⟨rfl, hs, hb⟩
  have HB : Hid (Below w.heap.size w w1) := B0.out.trans (hb.mono B0.out.size)
  have HH : Hid (Calls Try.prog 79 #[.slice (some ⟨w'.heap.size, 0, none⟩) 11 11, .float .f64 z] w1 fun e w2 => ∃ r', e = .returned (.float .f64 r') ∧ Ag (hornO lnL z) r' ∧ ∃ q, w2 = w1.drewN q) := horner_any _ _ _ 11 z 11 lnL w1 hs rfl (by decide)
  rw [q6.out] at HH
  clear hs hb HT B0
  go_wp2_with fail
  refine HH.out.mono ?_
  rintro e w2 ⟨r', rfl, hag, q', rfl⟩
  obtain rfl := ag_some hag
  go_wp2_with fail
  refine (turned (HL.out _)).mono ?_
  rintro e w' ⟨rfl, rfl⟩
  go_wp2_with fail
  go_ret
  exact ⟨rfl, ⟨HB.out.os, HB.out.tape, HB.out.output, HB.out.size, HB.out.block⟩⟩
end Go.Proofs.Ytbkmbdbjeiffpaa
namespace Go.Proofs.Ytbkmbdbjeiffpaa
open Go.RowKit

theorem horn_nan {cs : List Nat} {x : Nat} (hx : nanB (x : Int) = true) (hl : 2 ≤ cs.length) : hornO cs x = none := by
  obtain ⟨k, hk⟩ : ∃ k, cs.length - 1 = k + 1 := ⟨cs.length - 2, by omega⟩
  unfold hornO
  rw [if_neg (by omega), hk]
  show stepO x (hornAt cs x k) _ = none
  unfold stepO
  cases hornAt cs x k with
  | none => rfl
  | some p =>
    show (floatBits .mul .f64 p x).bind _ = none
    rw [nan_right hx]; rfl
theorem horn_ag {cs : List Nat} {z : Option Nat} {x : Nat} (h : Ag z x) (hl : 2 ≤ cs.length) : (z.bind fun z => hornO cs z) = hornO cs x := by
  cases z with
  | none => rw [horn_nan (ag_none h).1 hl]; rfl
  | some r => rw [ag_some h]; rfl
/-- What Ln's last steps tell. -/
def lnO (a b hi lo : Nat) : Option Nat :=
  opO .add (some hi) (opO .add (opO .mul (opO .mul (some 4611686018427387904) (floatBits .quo .f64 a b)) ((opO .mul (floatBits .quo .f64 a b) (floatBits .quo .f64 a b)).bind fun z => hornO lnL z)) (some lo))
theorem lnL_len : lnL.length = 11 := by decide
theorem ln_steps {a b hi lo s s2 z h v c r : Nat} (g3 : Ag (floatBits .quo .f64 a b) s) (g4 : Ag (floatBits .mul .f64 4611686018427387904 s) s2) (g5 : Ag (floatBits .mul .f64 s s) z) (g6 : Ag (hornO lnL z) h) (g7 : Ag (floatBits .mul .f64 s2 h) v) (g8 : Ag (floatBits .add .f64 v lo) c) (g9 : Ag (floatBits .add .f64 hi c) r) : Ag (lnO a b hi lo) r := by
  unfold lnO
  have e0 : Ag (some 4611686018427387904) 4611686018427387904 := rfl
  have e4 : Ag (opO .mul (some 4611686018427387904) (floatBits .quo .f64 a b)) s2 := by rw [opO_ag e0 g3]; exact g4
  have e5 : Ag (opO .mul (floatBits .quo .f64 a b) (floatBits .quo .f64 a b)) z := by rw [opO_ag g3 g3]; exact g5
  have e6 : Ag ((opO .mul (floatBits .quo .f64 a b) (floatBits .quo .f64 a b)).bind fun z => hornO lnL z) h := by rw [horn_ag e5 (by rw [lnL_len]; decide)]; exact g6
  have e7 : Ag (opO .mul (opO .mul (some 4611686018427387904) (floatBits .quo .f64 a b)) ((opO .mul (floatBits .quo .f64 a b) (floatBits .quo .f64 a b)).bind fun z => hornO lnL z)) v := by rw [opO_ag e4 e6]; exact g7
  have e8 := opO_ag (op := .add) (o' := some lo) (c := lo) e7 rfl
  rw [← e8] at g8
  have e9 := opO_ag (op := .add) (o := some hi) (a := hi) rfl g8
  rw [← e9] at g9
  exact g9

set_option maxRecDepth 20000 in
set_option maxHeartbeats 1600000 in
theorem ln_ag (x m a b kf hi lo : Nat) (k : Int) (w : World) (h : U64 x) (hn : nanB x = false) (hl : (FloatKind.f64.format.order x 0 == some .lt) = false) (he : (FloatKind.f64.format.order x 0 == some .eq) = false) (hi0 : (FloatKind.f64.format.order x 9218868437227405311 == some .gt) = false)
    (hA : Hid (∀ w, Calls Try.prog 84 #[.float .f64 x] w fun r w' => r = .returned (.tuple #[.float .f64 m, .int .i64 k]) ∧ ∃ q, w' = w.drewN q))
    (q1 : floatBits .sub .f64 m 4607182418800017408 = some a) (q2 : floatBits .add .f64 m 4607182418800017408 = some b) (hkf : fi k = kf) (q8 : floatBits .mul .f64 kf 4604418534311723008 = some hi) (q9 : floatBits .mul .f64 kf 4461442080421002358 = some lo) :
    Calls Try.prog 61 #[.float .f64 x] w fun e w' => ∃ r, e = .returned (.float .f64 r) ∧ Ag (lnO a b hi lo) r ∧ Below w.heap.size w w' := by
  have H := hideS (isNaN_math x w h)
  rw [hn] at H
  have HI := hideS (isInf_pos x false w hi0)
  have r1 := fun w => run_float_arith (P := Try.prog) w .sub 22 .f64 _ _ _ q1
  have r2 := fun w => run_float_arith (P := Try.prog) w .add 22 .f64 _ _ _ q2
  have hfo := (floatOf_fi k).trans hkf
  have HL : Hid (∀ w, Calls Try.prog 78 #[.float .f64 kf] w fun e w' => e = .returned (.tuple #[.float .f64 hi, .float .f64 lo]) ∧ w' = w) := fun w => logs_at kf hi lo w q8 q9
  clear h hn q1 q2 q8 q9 hi0 hkf
  go_enter Try.func61, Try.ntmps61
  go_wp2_with fail
  refine (turned H.out).mono ?_
  rintro e w' ⟨rfl, rfl⟩
  clear H
  go_wp2_with fail
  refine (turned HI.out).mono ?_
  rintro e w' ⟨rfl, rfl⟩
  clear HI
  go_wp2_with fail
  refine (hA.out _).mono ?_
  rintro e w' ⟨rfl, q, hw'⟩
  have B0 : Hid (Below w.heap.size w w') := by rw [hw']; exact ⟨rfl, rfl, rfl, Nat.le_refl _, fun _ _ => rfl⟩
  clear hw'
  obtain ⟨s, ⟨q3, r3⟩, g3⟩ := run_op_ag .quo (by simp) 22 a b w'
  obtain ⟨s2, ⟨q4, r4⟩, g4⟩ := run_op_ag .mul (by simp) 22 4611686018427387904 s (w'.drewN q3)
  have G3 := hideS g3
  have G4 := hideS g4
  clear g3 g4
  go_wp2_with fail
  obtain ⟨w2, hw2⟩ : ∃ w2, w2 = w'.drewN (q3 + q4) := ⟨_, rfl⟩
  rw [← hw2]
  have B2 : Hid (Below w.heap.size w w2) := by rw [hw2]; exact ⟨B0.out.os, B0.out.tape, B0.out.output, B0.out.size, B0.out.block⟩
  clear hw2 r3 r4 B0
  have HT := hideS (lnTerms_any w2)
  refine HT.out.mono ?_
  rintro e w3 ⟨rfl, hs, hb⟩
  have B3 : Hid (Below w.heap.size w w3) := B2.out.trans (hb.mono B2.out.size)
  obtain ⟨z, ⟨q5, r5⟩, g5⟩ := run_op_ag .mul (by simp) 22 s s w3
  have HH : Hid (Calls Try.prog 79 #[.slice (some ⟨w2.heap.size, 0, none⟩) 11 11, .float .f64 z] (w3.drewN q5) fun e w4 => ∃ r', e = .returned (.float .f64 r') ∧ Ag (hornO lnL z) r' ∧ ∃ q, w4 = (w3.drewN q5).drewN q) := horner_any _ w2.heap.size 0 11 z 11 lnL (w3.drewN q5) (hs.below ⟨rfl, rfl, rfl, Nat.le_refl _, fun _ _ => rfl⟩) rfl (by decide)
  have G5 := hideS g5
  clear hs hb HT B2 g5
  go_wp2_with fail
  refine HH.out.mono ?_
  rintro e w4 ⟨h', rfl, hag, q6, hw4⟩
  have B4 : Hid (Below w.heap.size w w4) := by rw [hw4]; exact ⟨B3.out.os, B3.out.tape, B3.out.output, B3.out.size, B3.out.block⟩
  obtain ⟨v, ⟨q7, r7⟩, g7⟩ := run_op_ag .mul (by simp) 22 s2 h' w4
  have G6 := hideS hag
  have G7 := hideS g7
  clear hag g7 hw4 HH B3 r5
  go_wp2_with fail
  obtain ⟨w5, hw5⟩ : ∃ w5, w5 = w4.drewN q7 := ⟨_, rfl⟩
  rw [← hw5]
  have B5 : Hid (Below w.heap.size w w5) := by rw [hw5]; exact ⟨B4.out.os, B4.out.tape, B4.out.output, B4.out.size, B4.out.block⟩
  clear hw5 r7 B4
  refine (turned (HL.out _)).mono ?_
  rintro e w' ⟨rfl, rfl⟩
  obtain ⟨c, ⟨q8, r8⟩, g8⟩ := run_op_ag .add (by simp) 22 v lo w5
  obtain ⟨r, ⟨q9, r9⟩, g9⟩ := run_op_ag .add (by simp) 22 hi c (w5.drewN q8)
  have GE := hideS (ln_steps G3.out G4.out G5.out G6.out G7.out g8 g9)
  clear g8 g9 G3 G4 G5 G6 G7
  go_wp2_with fail
  go_ret
  exact ⟨r, rfl, GE.out, ⟨B5.out.os, B5.out.tape, B5.out.output, B5.out.size, B5.out.block⟩⟩
end Go.Proofs.Ytbkmbdbjeiffpaa
