/- The contracts of logs and Exp, step by step. -/
import Derived.Test.YtlbpekncaikabaaFFloor
import Derived.Test.YtlbpekncaikabaaFlo
namespace Go.Proofs.Ytlbpekncaikabaa
open Go.RowKit

set_option maxHeartbeats 400000 in
theorem isNaN_math (b : Nat) (w : World) (h : U64 b) :
    Calls Try.prog 23 #[.float .f64 b] w fun e w' => e = .returned (.bool (nanB b)) ∧ w' = w := by
  have h1 : (FloatKind.f64.format.order b b != some .eq) = nanB b := by rw [bne, eq_self h, Bool.not_not]
  clear h
  go_enter Try.func23, Try.ntmps23
  go_wp2
  go_ret
  exact ⟨rfl, rfl⟩

set_option maxHeartbeats 400000 in
theorem logs_at (k h l : Nat) (w : World) (h1 : floatBits .mul .f64 k 4604418534311723008 = some h) (h2 : floatBits .mul .f64 k 4461442080421002358 = some l) :
    Calls Try.prog 26 #[.float .f64 k] w fun e w' => e = .returned (.tuple #[.float .f64 h, .float .f64 l]) ∧ w' = w := by
  have r1 := fun w => run_float_arith (P := Try.prog) w .mul 22 .f64 _ _ _ h1
  have r2 := fun w => run_float_arith (P := Try.prog) w .mul 22 .f64 _ _ _ h2
  clear h1 h2
  go_enter Try.func26, Try.ntmps26
  go_wp2
  go_ret2
  exact ⟨rfl, rfl⟩

set_option maxHeartbeats 400000 in
theorem inf_pos (w : World) :
    Calls Try.prog 24 #[.int .i64 1] w fun e w' => e = .returned (.float .f64 9218868437227405312) ∧ w' = w := by
  have h2 := call_frombits
  go_enter Try.func24, Try.ntmps24
  go_wp2
  go_ret
  exact ⟨rfl, rfl⟩

set_option maxHeartbeats 400000 in
theorem exp_nan (x : Nat) (w : World) (h : U64 x) (hn : nanB x = true) :
    Calls Try.prog 10 #[.float .f64 x] w fun e w' => e = .returned (.float .f64 x) ∧ w' = w := by
  have H := hideS (isNaN_math x w h)
  rw [hn] at H
  clear h hn
  go_enter Try.func10, Try.ntmps10
  go_wp2_with fail
  refine H.out.mono ?_
  rintro e w' ⟨rfl, rfl⟩
  go_wp2_with fail
  go_ret
  exact ⟨rfl, rfl⟩

theorem compare_gt_iff (x y : Int) : (compare x y == .gt) = decide (y < x) := by
  show (compareOfLessAndEq x y == .gt) = _
  unfold compareOfLessAndEq
  by_cases a : x < y
  · have : ¬ y < x := by omega
    simp [a, this]
  · by_cases b : x = y
    · simp [b]
    · have : y < x := by omega
      simp [a, b, this]
theorem gt_rank {a b : Nat} (ha : U64 a) (hb : U64 b) (hna : nanB a = false) (hnb : nanB b = false) : (FloatKind.f64.format.order a b == some .gt) = decide (rankI b < rankI a) := by
  rw [order_rank (by have := ha.2; omega) (by have := hb.2; omega) hna hnb, ← compare_gt_iff]; rfl

set_option maxHeartbeats 400000 in
theorem exp_hi (x : Nat) (g e : Bool) (w : World) (h : U64 x) (hn : nanB x = false) (hg : (FloatKind.f64.format.order x 4649456441864749056 == some .gt) = g) (he : (FloatKind.f64.format.order x 4649456441864749056 == some .eq) = e) (hge : (g || e) = true) :
    Calls Try.prog 10 #[.float .f64 x] w fun e w' => e = .returned (.float .f64 9218868437227405312) ∧ w' = w := by
  have H := hideS (isNaN_math x w h)
  rw [hn] at H
  clear h hn
  cases g <;> cases e <;> first | (cases hge; done) | skip
  all_goals
    clear hge
    go_enter Try.func10, Try.ntmps10
    go_wp2_with fail
    refine H.out.mono ?_
    rintro e w' ⟨rfl, rfl⟩
    go_wp2_with fail
    refine (inf_pos _).mono ?_
    rintro e w' ⟨rfl, rfl⟩
    go_wp2_with fail
    go_ret
    exact ⟨rfl, rfl⟩

set_option maxHeartbeats 400000 in
theorem exp_lo (x : Nat) (g e : Bool) (w : World) (h : U64 x) (hn : nanB x = false) (hg1 : (FloatKind.f64.format.order x 4649456441864749056 == some .gt) = false) (he1 : (FloatKind.f64.format.order x 4649456441864749056 == some .eq) = false)
    (hg : (FloatKind.f64.format.order x 13873145138068324352 == some .lt) = g) (he : (FloatKind.f64.format.order x 13873145138068324352 == some .eq) = e) (hge : (g || e) = true) :
    Calls Try.prog 10 #[.float .f64 x] w fun e w' => e = .returned (.float .f64 0) ∧ w' = w := by
  have H := hideS (isNaN_math x w h)
  rw [hn] at H
  clear h hn
  cases g <;> cases e <;> first | (cases hge; done) | skip
  all_goals
    clear hge
    go_enter Try.func10, Try.ntmps10
    go_wp2_with fail
    refine H.out.mono ?_
    rintro e w' ⟨rfl, rfl⟩
    go_wp2_with fail
    go_ret
    exact ⟨rfl, rfl⟩

set_option maxRecDepth 20000 in
set_option maxHeartbeats 1600000 in
theorem exp_mid (x y t f hi lo d r p : Nat) (k : Int) (w : World) (h : U64 x) (hn : nanB x = false) (hg1 : (FloatKind.f64.format.order x 4649456441864749056 == some .gt) = false) (he1 : (FloatKind.f64.format.order x 4649456441864749056 == some .eq) = false)
    (hg2 : (FloatKind.f64.format.order x 13873145138068324352 == some .lt) = false) (he2 : (FloatKind.f64.format.order x 13873145138068324352 == some .eq) = false)
    (q1 : floatBits .mul .f64 x 4609176140021203710 = some y) (q2 : floatBits .add .f64 y 4602678819172646912 = some t) (hf : Hid (∀ w, Calls Try.prog 25 #[.float .f64 t] w fun e w' => e = .returned (.float .f64 f) ∧ w' = w))
    (q3 : floatBits .mul .f64 f 4604418534311723008 = some hi) (q4 : floatBits .mul .f64 f 4461442080421002358 = some lo) (q5 : floatBits .sub .f64 x hi = some d) (q6 : floatBits .sub .f64 d lo = some r)
    (q7 : Hid (hornO expL r = some p)) (up : Hid (U64 p)) (q8 : floatToIntVal .f64 f .i64 = some k) (hk : -2000 ≤ k ∧ k ≤ 2000) (hsp : -2000 ≤ splE p ∧ splE p ≤ 2000) (hsm : -9223372036854775808 ≤ splM p ∧ splM p ≤ 9223372036854775807) :
    Calls Try.prog 10 #[.float .f64 x] w fun e w' => e = .returned (.float .f64 (joinN (splM p) (splE p + k))) ∧ Below w.heap.size w w' := by
  have H := hideS (isNaN_math x w h)
  rw [hn] at H
  have r1 := fun w => run_float_arith (P := Try.prog) w .mul 22 .f64 _ _ _ q1
  have r2 := fun w => run_float_arith (P := Try.prog) w .add 22 .f64 _ _ _ q2
  have r5 := fun w => run_float_arith (P := Try.prog) w .sub 22 .f64 _ _ _ q5
  have r6 := fun w => run_float_arith (P := Try.prog) w .sub 22 .f64 _ _ _ q6
  have r8 := fun w => run_convert_float_int (P := Try.prog) w 22 3 .f64 .i64 f k (by kernel_rfl) Try.underlying3 q8
  have HL : Hid (∀ w, Calls Try.prog 26 #[.float .f64 f] w fun e w' => e = .returned (.tuple #[.float .f64 hi, .float .f64 lo]) ∧ w' = w) := fun w => logs_at f hi lo w q3 q4
  have HSp : Hid (∀ w, Calls Try.prog 28 #[.float .f64 p] w fun e w' => e = .returned (.tuple #[.int .i64 (splM p), .int .i64 (splE p), .bool (splOk p)]) ∧ w' = w) := fun w => split_as p p w rfl up.out
  have HJ : Hid (∀ w, Calls Try.prog 29 #[.int .i64 (splM p), .int .i64 (splE p + k)] w fun e w' => e = .returned (.float .f64 (joinN (splM p) (splE p + k))) ∧ ∃ n, w' = w.drewN n) := fun w => join_any _ _ w hsm.1 hsm.2
  clear h hn q1 q2 q3 q4 q5 q6 q8 hsm
  generalize joinN (splM p) (splE p + k) = res at HJ
  generalize splM p = sm at HJ HSp
  generalize splE p = se at HJ HSp hsp
  generalize splOk p = so at HSp
  go_enter Try.func10, Try.ntmps10
  go_wp2_with fail
  refine (turned H.out).mono ?_
  rintro e w' ⟨rfl, rfl⟩
  clear H
  go_wp2_with fail
  refine (turned (hf.out _)).mono ?_
  rintro e w' ⟨rfl, rfl⟩
  go_wp2_with fail
  refine (turned (HL.out _)).mono ?_
  rintro e w' ⟨rfl, rfl⟩
  go_wp2_with fail
  have HT := hideS (expTerms_any w)
  refine HT.out.mono ?_
  rintro e w1 ⟨rfl, hs, hb⟩
  have HB := hideS hb
  have HH : Hid (Calls Try.prog 19 #[.slice (some ⟨w.heap.size, 0, none⟩) 14 14, .float .f64 r] w1 fun e w' => ∃ r', e = .returned (.float .f64 r') ∧ Ag (hornO expL r) r' ∧ ∃ q, w' = w1.drewN q) := horner_any _ _ _ 14 r 14 expL w1 hs rfl (by decide)
  rw [q7.out] at HH
  clear hs hb HT
  go_wp2_with fail
  refine HH.out.mono ?_
  rintro e w2 ⟨r', rfl, hag, q, rfl⟩
  obtain rfl := ag_some hag
  go_wp2_with fail
  refine (turned (HSp.out _)).mono ?_
  rintro e w' ⟨rfl, rfl⟩
  go_wp2_with fail
  refine (HJ.out _).mono ?_
  rintro e w' ⟨rfl, q', rfl⟩
  go_wp2_with fail
  go_ret
  exact ⟨rfl, ⟨HB.out.os, HB.out.tape, HB.out.output, HB.out.size, HB.out.block⟩⟩
end Go.Proofs.Ytlbpekncaikabaa
