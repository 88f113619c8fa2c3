/- The contracts of Months, of the program and of the document's answer. -/
import Derived.Test.YtgigmepilpfefaaDCiv
import Derived.Test.YtgigmepilpfefaaDRefCiv
namespace Go.Proofs.Ytgigmepilpfefaa
open Go.RowKit

/-- The month that lies k months on, counted from January 1900. -/
def atI (y m k : Int) : Int := 12 * (y - 1900) + m - 1 + k
def toY (y m k : Int) : Int := 1900 + atI y m k / 12
def toM (y m k : Int) : Int := atI y m k % 12 + 1
/-- The day's number there: L the new month's length, l the elder one's. -/
def toD (d L l : Int) (e : Bool) : Int := if L < d then L else if e = true ∧ d = l then L else d
def monI (y m d k : Int) (e : Bool) : Int := dayI (toY y m k) (toM y m k) (toD d (lenI (toY y m k) (toM y m k)) (lenI y m) e)
theorem toD_ok {d L l : Int} {e : Bool} (h : 1 ≤ d) (hL : 28 ≤ L) : 1 ≤ toD d L l e ∧ toD d L l e ≤ L := by
  unfold toD
  split
  · omega
  · split <;> omega
theorem toYM {y m k : Int} (h0 : 0 ≤ atI y m k) (h1 : atI y m k < 3600) : ymB (toY y m k) (toM y m k) := by
  unfold ymB toY toM
  omega
theorem mon_ok {y m d k : Int} {e : Bool} (hd : 1 ≤ d) (h0 : 0 ≤ atI y m k) (h1 : atI y m k < 3600) :
    okD (toY y m k) (toM y m k) (toD d (lenI (toY y m k) (toM y m k)) (lenI y m) e) := by
  obtain ⟨a, b, c, f⟩ := toYM h0 h1
  have := toD_ok (l := lenI y m) (e := e) hd (len_lo (toY y m k) (toM y m k))
  exact ⟨a, b, c, f, this.1, this.2⟩

set_option maxHeartbeats 1600000 in
theorem months_ok (n y m d k : Int) (en : Bool) (w : World) (h : IsD n y m d) (h0 : 0 ≤ atI y m k) (h1 : atI y m k < 3600) :
    Calls Try.prog 18 #[.int .i64 n, .int .i64 k, .bool en] w fun e w' => e = .returned (.tuple #[.int .i64 (monI y m d k en), .int .i64 0]) ∧ w' = w := by
  have HC := hideS (civil_ok n y m d w h)
  obtain ⟨y1, y2, m1, m2, d1, d2⟩ := h.1
  have HO := hideS (ofP_ok _ _ _ w (mon_ok (y := y) (m := m) (d := d) (k := k) (e := en) d1 h0 h1))
  obtain ⟨a1, a2, a3, a4⟩ := toYM h0 h1
  have HL1 := hideS (fun wx => length_any (toY y m k) (toM y m k) wx a3 a4)
  have HL2 := hideS (fun wx => length_any y m wx m1 m2)
  unfold monI
  have hY : 1900 + (12 * (y - 1900) + m - 1 + k) / 12 = toY y m k := rfl
  have hM : (12 * (y - 1900) + m - 1 + k) % 12 + 1 = toM y m k := rfl
  unfold atI at h0 h1
  have l1 := len_lo (toY y m k) (toM y m k)
  have l2 := len_lo y m
  clear h
  generalize toY y m k = Y at *
  generalize toM y m k = M at *
  generalize lenI Y M = L at *
  generalize lenI y m = l at *
  rcases (show L < d ∨ (d ≤ L ∧ ((en = true ∧ d = l) ∨ (en = true ∧ d ≠ l) ∨ en = false)) by cases en <;> simp <;> omega) with hd | ⟨hd, ⟨rfl, he⟩ | ⟨rfl, he⟩ | rfl⟩
  · have hD : toD d L l en = L := by unfold toD; rw [if_pos hd]
    rw [hD] at HO ⊢
    clear hD
    generalize dayI Y M L = R at *
    go_enter Try.func18, Try.ntmps18
    go_wp2_with (first | (go_at_call 11; refine HC.out.mono ?_; rintro e w' ⟨rfl, rfl⟩) | (go_at_call_of 26 (Value.int IntKind.i64 Y); refine (HL1.out _).mono ?_; rintro e w' ⟨rfl, rfl⟩) | (go_at_call_of 26 (Value.int IntKind.i64 y); refine (HL2.out _).mono ?_; rintro e w' ⟨rfl, rfl⟩) | (go_at_call 9; refine HO.out.mono ?_; rintro e w' ⟨rfl, rfl⟩))
    go_ret2
    exact ⟨rfl, rfl⟩
  · have hD : toD d L l true = L := by unfold toD; rw [if_neg (by omega), if_pos ⟨rfl, he⟩]
    rw [hD] at HO ⊢
    clear hD
    have he' : (d == l) = true := by rw [beq_iff_eq]; exact he
    clear he
    generalize dayI Y M L = R at *
    go_enter Try.func18, Try.ntmps18
    go_wp2_with (first | (go_at_call 11; refine HC.out.mono ?_; rintro e w' ⟨rfl, rfl⟩) | (go_at_call_of 26 (Value.int IntKind.i64 Y); refine (HL1.out _).mono ?_; rintro e w' ⟨rfl, rfl⟩) | (go_at_call_of 26 (Value.int IntKind.i64 y); refine (HL2.out _).mono ?_; rintro e w' ⟨rfl, rfl⟩) | (go_at_call 9; refine HO.out.mono ?_; rintro e w' ⟨rfl, rfl⟩))
    go_ret2
    exact ⟨rfl, rfl⟩
  · have hD : toD d L l true = d := by unfold toD; rw [if_neg (by omega), if_neg (fun a => he a.2)]
    rw [hD] at HO ⊢
    clear hD
    have he' : (d == l) = false := by rw [beq_eq_false_iff_ne]; exact he
    clear he
    generalize dayI Y M d = R at *
    go_enter Try.func18, Try.ntmps18
    go_wp2_with (first | (go_at_call 11; refine HC.out.mono ?_; rintro e w' ⟨rfl, rfl⟩) | (go_at_call_of 26 (Value.int IntKind.i64 Y); refine (HL1.out _).mono ?_; rintro e w' ⟨rfl, rfl⟩) | (go_at_call_of 26 (Value.int IntKind.i64 y); refine (HL2.out _).mono ?_; rintro e w' ⟨rfl, rfl⟩) | (go_at_call 9; refine HO.out.mono ?_; rintro e w' ⟨rfl, rfl⟩))
    go_ret2
    exact ⟨rfl, rfl⟩
  · have hD : toD d L l false = d := by unfold toD; rw [if_neg (by omega), if_neg (fun a => Bool.noConfusion a.1)]
    rw [hD] at HO ⊢
    clear hD
    generalize dayI Y M d = R at *
    go_enter Try.func18, Try.ntmps18
    go_wp2_with (first | (go_at_call 11; refine HC.out.mono ?_; rintro e w' ⟨rfl, rfl⟩) | (go_at_call_of 26 (Value.int IntKind.i64 Y); refine (HL1.out _).mono ?_; rintro e w' ⟨rfl, rfl⟩) | (go_at_call_of 26 (Value.int IntKind.i64 y); refine (HL2.out _).mono ?_; rintro e w' ⟨rfl, rfl⟩) | (go_at_call 9; refine HO.out.mono ?_; rintro e w' ⟨rfl, rfl⟩))
    go_ret2
    exact ⟨rfl, rfl⟩
theorem months_far (n y m d k : Int) (en : Bool) (w : World) (h : IsD n y m d) (hk : ¬ (0 ≤ atI y m k ∧ atI y m k < 3600)) (k0 : -9223372036854775808 ≤ k) (k1 : k ≤ 9223372036854775807) :
    Calls Try.prog 18 #[.int .i64 n, .int .i64 k, .bool en] w fun e w' => e = .returned (.tuple #[.int .i64 0, .int .i64 51]) ∧ w' = w := by
  have HC := hideS (civil_ok n y m d w h)
  obtain ⟨y1, y2, m1, m2, d1, d2⟩ := h.1
  unfold atI at hk
  clear h
  rcases (show k < -(12 * (y - 1900) + m - 1) ∨ (¬ k < -(12 * (y - 1900) + m - 1) ∧ 3600 - (12 * (y - 1900) + m - 1) ≤ k) by omega) with hd | ⟨hd, hd'⟩
  all_goals
    clear hk
    go_enter Try.func18, Try.ntmps18
    go_wp2_with (go_at_call 11; refine HC.out.mono ?_; rintro e w' ⟨rfl, rfl⟩)
    go_ret2
    exact ⟨rfl, rfl⟩
theorem months_bad (n k : Int) (en : Bool) (w : World) (h : ¬ (0 ≤ n ∧ n ≤ 109572)) :
    Calls Try.prog 18 #[.int .i64 n, .int .i64 k, .bool en] w fun e w' => e = .returned (.tuple #[.int .i64 0, .int .i64 51]) ∧ w' = w := by
  have HC := hideS (civil_bad n w h)
  clear h
  go_enter Try.func18, Try.ntmps18
  go_wp2_with (go_at_call 11; refine HC.out.mono ?_; rintro e w' ⟨rfl, rfl⟩)
  go_ret2
  exact ⟨rfl, rfl⟩
end Go.Proofs.Ytgigmepilpfefaa
