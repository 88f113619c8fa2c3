/- The law's function in no order, and its literal. -/
import Derived.Test.YtoeifjnknhjchaaVAw
namespace Go.Proofs.Ytoeifjnknhjchaa
open Go.RowKit
theorem tNaN_any (w : World) : Calls Try.prog 30 #[] w fun e w' => e = .returned (.float .f64 9221120237041090561) ∧ w' = w := by
  go_enter Try.func30, Try.ntmps30
  go_wp2_with fail
  refine (float_any _ _).mono ?_
  rintro e w' ⟨rfl, rfl⟩
  go_wp2_with fail
  go_ret
  exact ⟨rfl, rfl⟩
/-- The number that the answer hangs on, and the answer. -/
def oddI (u b : Int) : Int := IntKind.u64.wrap (bits .xor .u64 (IntKind.u64.wrap (IntKind.u64.wrap (u + b) * 11400714819323198485)) (IntKind.u64.wrap (IntKind.u64.wrap (u + b) * 11400714819323198485) / 536870912) * 13787848793156543929)
def oddV (u b : Int) : Nat := if ((oddI u b / 1099511627776).tmod 97 == 0) = true then 0 else if ((oddI u b / 1099511627776).tmod 97 == 1) = true ∧ (b % 5 == 0) = true then 9221120237041090561 else if ((oddI u b / 2199023255552).tmod 2 == 0) = true then 13830554455654793216 else 4607182418800017408
theorem oddV_word (u b : Int) : U64 (oddV u b : Int) := by
  unfold oddV
  split
  · unfold U64; omega
  · split
    · unfold U64; omega
    · split <;> (unfold U64; omega)

set_option maxHeartbeats 1600000 in
theorem odd_any (u b : Int) (w : World) (hu : U64 u) (hb : U64 b) :
    Calls Try.prog 19 #[.int .u64 u, .int .u64 b] w fun e w' => e = .returned (.float .f64 (oddV u b)) ∧ w' = w := by
  obtain ⟨h1, h2⟩ := hu
  obtain ⟨h3, h4⟩ := hb
  have hV : IntKind.u64.wrap (bits .xor .u64 (IntKind.u64.wrap (IntKind.u64.wrap (u + b) * 11400714819323198485)) (IntKind.u64.wrap (IntKind.u64.wrap (u + b) * 11400714819323198485) / 536870912) * 13787848793156543929) = oddI u b := rfl
  unfold oddV
  generalize oddI u b = V at *
  cases q1 : ((V / 1099511627776).tmod 97 == 0) with
  | true =>
    rw [if_pos rfl]
    go_enter Try.func19, Try.ntmps19
    go_wp2_with fail
    go_ret
    exact ⟨rfl, rfl⟩
  | false =>
    rw [if_neg (by simp)]
    cases q2 : ((V / 1099511627776).tmod 97 == 1) with
    | true =>
      cases q3 : (b % 5 == 0) with
      | true =>
        rw [if_pos ⟨rfl, rfl⟩]
        go_enter Try.func19, Try.ntmps19
        go_wp2_with fail
        refine (tNaN_any _).mono ?_
        rintro e w' ⟨rfl, rfl⟩
        go_wp2_with fail
        go_ret
        exact ⟨rfl, rfl⟩
      | false =>
        rw [if_neg (by simp)]
        cases q4 : ((V / 2199023255552).tmod 2 == 0) with
        | true =>
          rw [if_pos rfl]
          go_enter Try.func19, Try.ntmps19
          go_wp2_with fail
          go_ret
          exact ⟨rfl, rfl⟩
        | false =>
          rw [if_neg (by simp)]
          go_enter Try.func19, Try.ntmps19
          go_wp2_with fail
          go_ret
          exact ⟨rfl, rfl⟩
    | false =>
      rw [if_neg (by simp)]
      cases q4 : ((V / 2199023255552).tmod 2 == 0) with
      | true =>
        rw [if_pos rfl]
        go_enter Try.func19, Try.ntmps19
        go_wp2_with fail
        go_ret
        exact ⟨rfl, rfl⟩
      | false =>
        rw [if_neg (by simp)]
        go_enter Try.func19, Try.ntmps19
        go_wp2_with fail
        go_ret
        exact ⟨rfl, rfl⟩

theorem enter_odd (args : Array Value) (w : World) : (callFunc 18 args).run Try.prog w = .ok (.enter 18 args) w := enter_of Try.func18 (by kernel_rfl) rfl args w
set_option maxHeartbeats 800000 in
theorem oddLit_any (y g : Nat) (b : Int) (w : World) (hy : U64 (y : Int)) (hb : U64 b) (hc : w.cell? ⟨g, 0, none⟩ = some (.int .u64 b)) :
    Calls Try.prog 18 #[.float .f64 y, .pointer (some ⟨g, 0, none⟩)] w fun e w' => e = .returned (.float .f64 (oddV (y : Int) b)) ∧ ∃ q, w' = w.drewN q := by
  have HB := hideS (bits_any y)
  have HO := hideS fun w => odd_any (y : Int) b w hy hb
  generalize (y : Int) = yi at *
  clear hy hb
  go_enter Try.func18, Try.ntmps18
  go_wp2_with fail
  go_quiet (first | (go_at_call 12; exact Calls.quiet_of_same (HB.out _)) | (go_at_call 19; exact Calls.quiet_of_same (HO.out _)))
  go_wp2_with fail
  go_ret
  exact ⟨rfl, _, rfl⟩
end Go.Proofs.Ytoeifjnknhjchaa
