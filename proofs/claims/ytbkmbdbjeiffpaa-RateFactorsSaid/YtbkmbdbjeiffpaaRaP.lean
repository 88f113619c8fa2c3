/- The contracts of package rate's small functions: isNumber, isPositive, number. -/
import Derived.Test.YtbkmbdbjeiffpaaRaExp
namespace Go.Proofs.Ytbkmbdbjeiffpaa
open Go.RowKit

set_option maxHeartbeats 400000 in
theorem abs_math (x : Nat) (w : World) (h : U64 x) :
    Calls Try.prog 63 #[.float .f64 x] w fun e w' => e = .returned (.float .f64 (x % 9223372036854775808)) ∧ w' = w := by
  have h1 := call_bits
  have h2 := call_frombits
  have h3 := andNot_sz h
  have h4 : (szI (x : Int)).toNat = x % 9223372036854775808 := by rw [szI_nat]; rfl
  clear h
  go_enter Try.func63, Try.ntmps63
  go_wp2
  go_ret
  exact ⟨rfl, rfl⟩

set_option maxHeartbeats 400000 in
theorem isInf_both (x : Nat) (g : Bool) (w : World) (h : U64 x) (hg : (FloatKind.f64.format.order (x % 9223372036854775808) 9218868437227405311 == some .gt) = g) :
    Calls Try.prog 43 #[.float .f64 x, .int .i64 0] w fun e w' => e = .returned (.bool g) ∧ w' = w := by
  have H := hideS fun w => abs_math x w h
  clear h
  generalize x % 9223372036854775808 = a at *
  go_enter Try.func43, Try.ntmps43
  go_wp2_with fail
  refine (H.out _).mono ?_
  rintro e w' ⟨rfl, rfl⟩
  go_wp2_with fail
  go_ret
  exact ⟨rfl, rfl⟩

theorem inf_gt {x : Nat} (h : nanB (x : Int) = false) : (FloatKind.f64.format.order (x % 9223372036854775808) 9218868437227405311 == some .gt) = !finB (x : Int) := by
  have h1 := nan_false h
  have e : finB (x : Int) = decide (x % 9223372036854775808 < 9218868437227405312) := by
    unfold finB; rw [szI_nat]; exact decide_eq_decide.2 (by omega)
  rw [e]
  generalize x % 9223372036854775808 = a at *
  obtain ⟨r1, r2, r3⟩ := rk_pos h1
  obtain ⟨s1, s2, s3⟩ := rk_pos (r := 9218868437227405311) (by omega)
  rw [gt_rank (u64_of_nat r2) (u64_of_nat s2) r3 s3, r1, s1]
  by_cases c : a < 9218868437227405312
  · rw [decide_eq_true c]; exact decide_eq_false (by omega)
  · rw [decide_eq_false c]; exact decide_eq_true (by omega)
theorem fin_nan {x : Nat} (h : nanB (x : Int) = true) : finB (x : Int) = false := by
  unfold nanB at h; unfold finB
  have := of_decide_eq_true h
  exact decide_eq_false (by omega)

set_option maxHeartbeats 400000 in
theorem isNum_any (x : Nat) (w : World) (h : U64 x) :
    Calls Try.prog 17 #[.float .f64 x] w fun e w' => e = .returned (.bool (finB (x : Int))) ∧ w' = w := by
  have H1 := hideS fun w => isNaN_math x w h
  cases hn : nanB (x : Int) with
  | true =>
    rw [hn] at H1
    rw [fin_nan hn]
    clear h hn
    go_enter Try.func17, Try.ntmps17
    go_wp2_with fail
    refine (H1.out _).mono ?_
    rintro e w' ⟨rfl, rfl⟩
    go_wp2_with fail
    go_ret
    exact ⟨rfl, rfl⟩
  | false =>
    have H2 := hideS fun w => isInf_both x _ w h (inf_gt hn)
    rw [hn] at H1
    clear h hn
    generalize finB (x : Int) = b at *
    cases b
    all_goals
      go_enter Try.func17, Try.ntmps17
      go_wp2_with fail
      refine (H1.out _).mono ?_
      rintro e w' ⟨rfl, rfl⟩
      go_wp2_with fail
      refine (H2.out _).mono ?_
      rintro e w' ⟨rfl, rfl⟩
      go_wp2_with fail
      go_ret
      exact ⟨rfl, rfl⟩

theorem zero_rank : rankI ((0 : Nat) : Int) = 0 := by decide
theorem gt_lt {x : Nat} (h : U64 (x : Int)) : (FloatKind.f64.format.order x 0 == some .gt) = ltB 0 (x : Int) := by
  cases hn : nanB (x : Int) with
  | true =>
    rw [order_nan_left hn]
    unfold ltB
    rw [hn]; rfl
  | false =>
    rw [gt_rank h (by unfold U64; omega) hn (by decide), zero_rank]
    unfold ltB
    rw [hn, show nanB 0 = false by decide, show rankI 0 = 0 by decide]; rfl

set_option maxHeartbeats 400000 in
theorem isPos_any (x : Nat) (w : World) (h : U64 x) :
    Calls Try.prog 18 #[.float .f64 x] w fun e w' => e = .returned (.bool (posB (x : Int))) ∧ w' = w := by
  have H1 := hideS fun w => isNum_any x w h
  have hg := gt_lt h
  unfold posB
  clear h
  generalize finB (x : Int) = b at *
  generalize ltB 0 (x : Int) = c at *
  cases b <;> cases c
  all_goals
    go_enter Try.func18, Try.ntmps18
    go_wp2_with fail
    refine (H1.out _).mono ?_
    rintro e w' ⟨rfl, rfl⟩
    go_wp2_with fail
    go_ret
    exact ⟨rfl, rfl⟩

/-- What number tells: the number, or 0 and an error. -/
def enyN (x : Nat) : Nat := if finB (x : Int) = true then x else 0
theorem enyN_cast (x : Nat) : (enyN x : Int) = enyU (x : Int) := by unfold enyN enyU; split <;> rfl

set_option maxHeartbeats 400000 in
theorem number_any (x : Nat) (w : World) (h : U64 x) :
    Calls Try.prog 35 #[.float .f64 x] w fun e w' => e = .returned (.tuple #[.float .f64 (enyN x), .int .i64 (enyE (x : Int))]) ∧ w' = w := by
  have H1 := hideS fun w => isNum_any x w h
  unfold enyN enyE
  clear h
  generalize finB (x : Int) = b at *
  cases b
  all_goals
    go_enter Try.func35, Try.ntmps35
    go_wp2_with fail
    refine (H1.out _).mono ?_
    rintro e w' ⟨rfl, rfl⟩
    go_wp2_with fail
    go_ret2
    exact ⟨rfl, rfl⟩
theorem eny_ag {o : Option Nat} {x y : Nat} (h : Ag o x) (h' : Ag o y) : enyN x = enyN y ∧ enyE (x : Int) = enyE (y : Int) := by
  cases o with
  | none =>
    unfold enyN enyE
    rw [fin_nan (ag_none h).1, fin_nan (ag_none h').1]
    exact ⟨rfl, rfl⟩
  | some r => rw [ag_some h, ag_some h']; exact ⟨rfl, rfl⟩

/-- What Factor tells at the end. -/
def endN (x : Nat) : Nat := if finB (x : Int) = true ∧ szI (x : Int) ≠ 0 then x else 0
theorem endN_cast (x : Nat) : (endN x : Int) = endU (x : Int) := by unfold endN endU; split <;> rfl
theorem end_ag {o : Option Nat} {x y : Nat} (h : Ag o x) (h' : Ag o y) : endN x = endN y ∧ endE (x : Int) = endE (y : Int) := by
  cases o with
  | none =>
    unfold endN endE
    rw [fin_nan (ag_none h).1, fin_nan (ag_none h').1]
    exact ⟨rfl, rfl⟩
  | some r => rw [ag_some h, ag_some h']; exact ⟨rfl, rfl⟩
/-- Of what is not below 0: above 0 is other than 0. -/
theorem pos_end {o : Option Nat} {x : Nat} (h : AgU o x) (hu : UpO o) : posB (x : Int) = decide (finB (x : Int) = true ∧ szI (x : Int) ≠ 0) := by
  unfold posB
  cases o with
  | none => rw [fin_nan (ag_none h.1).1]; simp
  | some r =>
    obtain rfl := ag_some h.1
    obtain ⟨a, b, _⟩ := hu _ rfl
    cases hf : finB (x : Int)
    · simp
    · unfold ltB
      rw [a, show nanB 0 = false by decide, show rankI 0 = 0 by decide]
      have hl := szI_lo (x : Int)
      have hr : rankI (x : Int) = szI (x : Int) := by
        unfold rankI at b ⊢
        rw [a, if_neg (by decide)] at b ⊢
        split
        · rename_i hs; rw [hs, if_pos rfl] at b; omega
        · rfl
      rw [hr]
      simp only [Bool.not_false, Bool.true_and, true_and]
      exact decide_eq_decide.2 (by omega)
end Go.Proofs.Ytbkmbdbjeiffpaa
