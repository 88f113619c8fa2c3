/- The contracts of place, Less, cmp.Compare and the comparing closure of Sort; of the document's Lt and Less. -/
import Derived.Test.YtkmhfjklldhfjaaSPlain
namespace Go.Proofs.Ytkmhfjklldhfjaa
open Go.RowKit

theorem u64_not (a : Nat) (ha : a < 18446744073709551616) : bits .xor .u64 18446744073709551615 (a : Int) = 18446744073709551615 - (a : Int) := by
  show IntKind.u64.wrap ((BitVec.ofInt 64 18446744073709551615 ^^^ BitVec.ofInt 64 (a : Int)).toNat : Int) = _
  have h1 : BitVec.ofInt 64 18446744073709551615 = BitVec.allOnes 64 := by decide
  rw [h1, BitVec.allOnes_xor, BitVec.toNat_not, ofInt_u64 a (by omega)]
  simp [IntKind.wrap, IntKind.bits, IntKind.signed]
  omega
theorem not_place {u : Int} (h : U64 u) : bits .xor .u64 IntKind.u64.max u = 18446744073709551615 - u := by
  rw [show IntKind.u64.max = 18446744073709551615 from rfl]
  obtain ⟨b, rfl⟩ := Int.eq_ofNat_of_zero_le h.1
  exact u64_not b (by have := h.2; omega)

theorem bits_as (b : Nat) (u : Int) (w : World) (hu : Hid (u = b)) :
    Calls Try.prog 10 #[.float .f64 b] w fun e w' => e = .returned (.int .u64 u) ∧ w' = w := by
  have e := hu.out; subst e; exact bits_any b w

set_option maxHeartbeats 400000 in
theorem place_as (b : Nat) (u : Int) (w : World) (hu : Hid (u = b)) (h : U64 u) :
    Calls Try.prog 16 #[.float .f64 b] w fun e w' => e = .returned (.int .u64 (placeI u)) ∧ w' = w := by
  cases h1 : nanB u
  · cases h2 : sgB u
    · rw [place_pos h1 h2]
      have ho := or_sg h.1 ((pos_iff u).1 h2)
      go_enter Try.func16, Try.ntmps16
      go_wp2_with (first | (go_at_call 31; refine (isNaN_as _ _ _ hu h).mono ?_; rintro e w' ⟨rfl, rfl⟩) | (go_at_call 32; refine (signed_as _ _ _ hu h).mono ?_; rintro e w' ⟨rfl, rfl⟩) | (go_at_call 10; refine (bits_as _ _ _ hu).mono ?_; rintro e w' ⟨rfl, rfl⟩))
      go_ret
      exact ⟨rfl, rfl⟩
    · rw [place_neg h1 h2]
      have hU := h
      go_enter Try.func16, Try.ntmps16
      go_wp2_with (first | (go_at_call 31; refine (isNaN_as _ _ _ hu h).mono ?_; rintro e w' ⟨rfl, rfl⟩) | (go_at_call 32; refine (signed_as _ _ _ hu h).mono ?_; rintro e w' ⟨rfl, rfl⟩) | (go_at_call 10; refine (bits_as _ _ _ hu).mono ?_; rintro e w' ⟨rfl, rfl⟩))
      go_ret
      exact ⟨ret_int (not_place hU), rfl⟩
  · rw [place_nan h1]
    go_enter Try.func16, Try.ntmps16
    go_wp2_with (go_at_call 31; refine (isNaN_as _ _ _ hu h).mono ?_; rintro e w' ⟨rfl, rfl⟩)
    go_ret
    exact ⟨rfl, rfl⟩

theorem place_any (b : Nat) (w : World) (h : U64 b) :
    Calls Try.prog 16 #[.float .f64 b] w fun e w' => e = .returned (.int .u64 (placeI b)) ∧ w' = w := place_as b b w rfl h

set_option maxHeartbeats 400000 in
theorem cmpNaN_any (x : Int) (w : World) :
    Calls Try.prog 30 #[.int .u64 x] w fun e w' => e = .returned (.bool false) ∧ w' = w := by
  go_enter Try.func30, Try.ntmps30
  go_wp2
  go_ret
  exact ⟨rfl, rfl⟩

def cmpI (x y : Int) : Int := if x < y then -1 else if y < x then 1 else 0

set_option maxHeartbeats 400000 in
theorem compare_any (x y : Int) (w : World) :
    Calls Try.prog 15 #[.int .u64 x, .int .u64 y] w fun e w' => e = .returned (.int .i64 (cmpI x y)) ∧ w' = w := by
  by_cases h1 : x < y
  · have e : cmpI x y = -1 := by simp [cmpI, h1]
    rw [e]
    go_enter Try.func15, Try.ntmps15
    go_wp2_with (go_at_call 30; refine (cmpNaN_any _ _).mono ?_; rintro e w' ⟨rfl, rfl⟩)
    go_ret
    exact ⟨rfl, rfl⟩
  · by_cases h2 : y < x
    · have e : cmpI x y = 1 := by simp [cmpI, h1, h2]
      rw [e]
      go_enter Try.func15, Try.ntmps15
      go_wp2_with (go_at_call 30; refine (cmpNaN_any _ _).mono ?_; rintro e w' ⟨rfl, rfl⟩)
      go_ret
      exact ⟨rfl, rfl⟩
    · have e : cmpI x y = 0 := by simp [cmpI, h1, h2]
      rw [e]
      go_enter Try.func15, Try.ntmps15
      go_wp2_with (go_at_call 30; refine (cmpNaN_any _ _).mono ?_; rintro e w' ⟨rfl, rfl⟩)
      go_ret
      exact ⟨rfl, rfl⟩

set_option maxHeartbeats 400000 in
theorem less_any (a b : Nat) (w : World) (h : U64 a) (h' : U64 b) :
    Calls Try.prog 8 #[.float .f64 a, .float .f64 b] w fun e w' => e = .returned (.bool (lessB a b)) ∧ w' = w := by
  have P1 := fun w => place_any a w h
  have P2 := fun w => place_any b w h'
  unfold lessB
  generalize placeI a = p at P1 ⊢
  generalize placeI b = q at P2 ⊢
  go_enter Try.func8, Try.ntmps8
  go_wp2_with fail
  refine (P1 _).mono ?_
  rintro e w' ⟨rfl, rfl⟩
  go_wp2_with (go_at_call 16; refine (P2 _).mono ?_; rintro e w' ⟨rfl, rfl⟩)
  go_ret
  exact ⟨rfl, rfl⟩

set_option maxHeartbeats 400000 in
/-- The closure that Sort hands to slices.SortFunc. -/
theorem closure_any (a b : Nat) (w : World) (h : U64 a) (h' : U64 b) :
    Calls Try.prog 14 #[.float .f64 a, .float .f64 b] w fun e w' => e = .returned (.int .i64 (cmpI (placeI a) (placeI b))) ∧ w' = w := by
  have P1 := fun w => place_any a w h
  have P2 := fun w => place_any b w h'
  generalize placeI a = p at P1 ⊢
  generalize placeI b = q at P2 ⊢
  go_enter Try.func14, Try.ntmps14
  go_wp2_with fail
  refine (P1 _).mono ?_
  rintro e w' ⟨rfl, rfl⟩
  go_wp2_with (first | (go_at_call 16; refine (P2 _).mono ?_; rintro e w' ⟨rfl, rfl⟩) | (go_at_call 15; refine (compare_any _ _ _).mono ?_; rintro e w' ⟨rfl, rfl⟩))
  go_ret
  exact ⟨rfl, rfl⟩

set_option maxHeartbeats 400000 in
theorem refLt_num (u v : Int) (w : World) (h : U64 u) (h' : U64 v) (n1 : nanB u = false) (n2 : nanB v = false) :
    Calls Try.prog 19 #[.int .u64 u, .int .u64 v] w fun e w' => e = .returned (.bool (decide (rankI u < rankI v))) ∧ w' = w := by
  go_enter Try.func19, Try.ntmps19
  go_wp2_with fail
  refine (refRank_any _ _ h).mono ?_
  rintro e w' ⟨rfl, rfl⟩
  go_wp2_with (go_at_call 33; refine (refRank_any _ _ h').mono ?_; rintro e w' ⟨rfl, rfl⟩)
  go_ret
  exact ⟨rfl, rfl⟩

set_option maxHeartbeats 800000 in
theorem refLess_any (u v : Int) (w : World) (h : U64 u) (h' : U64 v) :
    Calls Try.prog 9 #[.int .u64 u, .int .u64 v] w fun e w' => e = .returned (.bool (lessB u v)) ∧ w' = w := by
  by_cases hn : nanB u = true ∨ nanB v = true
  · rw [less_nan h h' hn]
    cases h1 : nanB u <;> cases h2 : nanB v
    · simp [h1, h2] at hn
    all_goals
      clear hn
      go_enter Try.func9, Try.ntmps9
      go_wp2_with fail
      refine (refNaN_any _ _ h).mono ?_
      rintro e w' ⟨rfl, rfl⟩
      go_wp2_with fail
      first
        | (refine (refNaN_any _ _ h').mono ?_
           rintro e w' ⟨rfl, rfl⟩
           go_wp2_with fail
           refine (refNaN_any _ _ h).mono ?_
           rintro e w' ⟨rfl, rfl⟩
           go_wp2_with (go_at_call 17; refine (refNaN_any _ _ h').mono ?_; rintro e w' ⟨rfl, rfl⟩)
           go_ret
           exact ⟨rfl, rfl⟩)
        | (refine (refNaN_any _ _ h).mono ?_
           rintro e w' ⟨rfl, rfl⟩
           go_wp2_with (go_at_call 17; refine (refNaN_any _ _ h').mono ?_; rintro e w' ⟨rfl, rfl⟩)
           go_ret
           exact ⟨rfl, rfl⟩)
  · have n1 : nanB u = false := by simpa using fun e => hn (Or.inl e)
    have n2 : nanB v = false := by simpa using fun e => hn (Or.inr e)
    clear hn
    have R1 := fun w => refNaN_any u w h
    have R2 := fun w => refNaN_any v w h'
    rw [n1] at R1
    rw [n2] at R2
    by_cases z1 : szI u = 0
    · have S1 := fun w => refSize_any u w h
      rw [z1] at S1
      by_cases z2 : szI v = 0
      · have S2 := fun w => refSize_any v w h'
        rw [z2] at S2
        rw [less_zero h h' z1 z2]
        clear z1 z2
        go_enter Try.func9, Try.ntmps9
        go_wp2_with fail
        refine (R1 _).mono ?_
        rintro e w' ⟨rfl, rfl⟩
        go_wp2_with fail
        refine (R2 _).mono ?_
        rintro e w' ⟨rfl, rfl⟩
        go_wp2_with fail
        refine (S1 _).mono ?_
        rintro e w' ⟨rfl, rfl⟩
        go_wp2_with (go_at_call 18; refine (S2 _).mono ?_; rintro e w' ⟨rfl, rfl⟩)
        go_ret
        exact ⟨rfl, rfl⟩
      · rw [less_num h h' n1 n2 (Or.inr z2)]
        have L := fun w => refLt_num u v w h h' n1 n2
        have z3 : (szI v == 0) = false := by simpa using z2
        clear z1 z2
        have S2 := fun w => refSize_any v w h'
        generalize szI v = sv at S2 z3
        generalize decide (rankI u < rankI v) = r at L ⊢
        go_enter Try.func9, Try.ntmps9
        go_wp2_with fail
        refine (R1 _).mono ?_
        rintro e w' ⟨rfl, rfl⟩
        go_wp2_with fail
        refine (R2 _).mono ?_
        rintro e w' ⟨rfl, rfl⟩
        go_wp2_with fail
        refine (S1 _).mono ?_
        rintro e w' ⟨rfl, rfl⟩
        go_wp2_with (first | (go_at_call 18; refine (S2 _).mono ?_; rintro e w' ⟨rfl, rfl⟩) | (go_at_call 19; refine (L _).mono ?_; rintro e w' ⟨rfl, rfl⟩))
        go_ret
        exact ⟨rfl, rfl⟩
    · rw [less_num h h' n1 n2 (Or.inl z1)]
      have L := fun w => refLt_num u v w h h' n1 n2
      have z3 : (szI u == 0) = false := by simpa using z1
      clear z1
      have S1 := fun w => refSize_any u w h
      generalize szI u = su at S1 z3
      generalize decide (rankI u < rankI v) = r at L ⊢
      go_enter Try.func9, Try.ntmps9
      go_wp2_with fail
      refine (R1 _).mono ?_
      rintro e w' ⟨rfl, rfl⟩
      go_wp2_with fail
      refine (R2 _).mono ?_
      rintro e w' ⟨rfl, rfl⟩
      go_wp2_with (first | (go_at_call 18; refine (S1 _).mono ?_; rintro e w' ⟨rfl, rfl⟩) | (go_at_call 19; refine (L _).mono ?_; rintro e w' ⟨rfl, rfl⟩))
      go_ret
      exact ⟨rfl, rfl⟩

end Go.Proofs.Ytkmhfjklldhfjaa
