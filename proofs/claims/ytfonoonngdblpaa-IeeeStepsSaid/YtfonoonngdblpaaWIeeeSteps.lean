/- The walk of IeeeSteps. -/
import Derived.Test.YtfonoonngdblpaaWIeeeRanks
namespace Go.Proofs.Ytfonoonngdblpaa
open Go.RowKit

theorem upI_u64 {u : Int} (h : U64 u) (d : Int) : U64 (upI u d) := by
  unfold upI; split
  · exact h
  · split
    · exact atI_u64 _
    · exact h
theorem refUpI_u64 {u : Int} (h : U64 u) (d : Int) : U64 (refUpI u d) := by
  unfold refUpI; split
  · exact ⟨by omega, by omega⟩
  · exact upI_u64 h d
theorem up_same {u : Int} (d : Int) : sameB (upI u d) (refUpI u d) = true := by
  cases h : nanB u
  · rw [show refUpI u d = upI u d by simp [refUpI, h]]; exact sameB_refl _
  · rw [show refUpI u d = 9221120237041090561 by simp [refUpI, h], show upI u d = u by simp [upI, h]]
    exact sameB_nan h (by simp [nanB, szI])
theorem is_up (u d : Int) (w : World) (h : U64 u) :
    Calls Try.prog 21 #[.float .f64 (upI u d).toNat, .int .u64 (refUpI u d)] w fun e w' => e = .returned (.bool true) ∧ w' = w := by
  have e : ((upI u d).toNat : Int) = upI u d := Int.toNat_of_nonneg (upI_u64 h d).1
  have := is_any (upI u d).toNat (refUpI u d) w (by rw [e]; exact upI_u64 h d) (refUpI_u64 h d)
  rw [e, up_same] at this; exact this
theorem midA_u64 (u v : Int) : U64 (midA u v) := by
  unfold midA; split
  · exact atI_u64 _
  · exact ⟨by omega, by omega⟩
theorem midA_toNat (u v : Int) : Hid (((midA u v).toNat : Int) = midA u v) := Int.toNat_of_nonneg (midA_u64 u v).1

theorem mid_any (a b : Nat) (w : World) (h : U64 a) (h' : U64 b) :
    Calls Try.prog 22 #[.float .f64 a, .float .f64 b] w fun e w' => e = .returned (.tuple #[.float .f64 (midA a b).toNat, .bool (midOk a b)]) ∧ w' = w := mid_as a b a b w rfl rfl h h'
theorem gap_any (a b : Nat) (w : World) (h : U64 a) (h' : U64 b) :
    Calls Try.prog 24 #[.float .f64 a, .float .f64 b] w fun e w' => e = .returned (.tuple #[.int .u64 (gapI a b), .bool (bothB a b)]) ∧ w' = w := gap_as a b a b w rfl rfl h h'
theorem up_any (a : Nat) (w : World) (h : U64 a) :
    Calls Try.prog 26 #[.float .f64 a] w fun e w' => e = .returned (.float .f64 (upI a 1).toNat) ∧ w' = w := up_as a a w rfl h
theorem down_any (a : Nat) (w : World) (h : U64 a) :
    Calls Try.prog 28 #[.float .f64 a] w fun e w' => e = .returned (.float .f64 (upI a (-1)).toNat) ∧ w' = w := down_as a a w rfl h

set_option maxHeartbeats 400000 in
theorem ieeeSteps_walk (x y : Nat) (wx : (Lit.float .f64 x).wf = true) (wy : (Lit.float .f64 y).wf = true) (w : World) :
    Calls Try.prog 5 #[.float .f64 x, .float .f64 y] w fun e w' => e = .returned (.bool true) ∧ Grown w w' := by
  have hx := u64_of_wf wx
  have hy := u64_of_wf wy
  clear wx wy
  go_enter Try.func5, Try.ntmps5
  go_wp2_with (first | (go_at_call 8; refine (bits_any _ _).mono ?_; rintro e w' ⟨rfl, rfl⟩) | (go_at_call 22; refine (mid_any _ _ _ hx hy).mono ?_; rintro e w' ⟨rfl, rfl⟩) | (go_at_call 23; refine (refMid_any _ _ _ hx hy).mono ?_; rintro e w' ⟨rfl, rfl⟩) | (go_at_call 24; refine (gap_any _ _ _ hx hy).mono ?_; rintro e w' ⟨rfl, rfl⟩) | (go_at_call 25; refine (refGap_any _ _ _ hx hy).mono ?_; rintro e w' ⟨rfl, rfl⟩) | (go_at_call 26; refine (up_any _ _ hx).mono ?_; rintro e w' ⟨rfl, rfl⟩) | (go_at_call 27; refine (refUp_any _ _ hx).mono ?_; rintro e w' ⟨rfl, rfl⟩) | (go_at_call 28; refine (down_any _ _ hx).mono ?_; rintro e w' ⟨rfl, rfl⟩) | (go_at_call 29; refine (refDown_any _ _ hx).mono ?_; rintro e w' ⟨rfl, rfl⟩))
  refine (is_up _ _ _ hx).mono ?_
  rintro e w' ⟨rfl, rfl⟩
  go_wp2_with (first | (go_at_call 28; refine (down_any _ _ hx).mono ?_; rintro e w' ⟨rfl, rfl⟩) | (go_at_call 29; refine (refDown_any _ _ hx).mono ?_; rintro e w' ⟨rfl, rfl⟩))
  refine (is_up _ _ _ hx).mono ?_
  rintro e w' ⟨rfl, rfl⟩
  go_wp2_with fail
  refine (is_at _ _ _ (midA_toNat _ _) (midA_u64 _ _)).mono ?_
  rintro e w' ⟨rfl, rfl⟩
  go_wp2_with (go_at_call 16; refine (awake_true _).mono ?_; rintro e w' ⟨rfl, nq, rfl⟩)
  all_goals
    go_ret
    exact ⟨rfl, grown_drewN _ _⟩

end Go.Proofs.Ytfonoonngdblpaa
