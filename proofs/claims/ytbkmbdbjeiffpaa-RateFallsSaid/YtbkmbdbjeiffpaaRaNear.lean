/- The walk of RateFalls, where no forwards are asked: all ways. -/
import Derived.Test.YtbkmbdbjeiffpaaRaFallA
namespace Go.Proofs.Ytbkmbdbjeiffpaa
open Go.RowKit

set_option maxRecDepth 20000 in
set_option maxHeartbeats 16000000 in
theorem rateFalls_near_n (r s t u A B C : Nat) (E F G : Int) (g1 e1 g2 e2 : Bool) (w : World) (H : FallH r s t u g1 e1 g2 e2)
    (HA : Hid (∀ w, Calls Try.prog 7 #[.int .i64 1, .float .f64 r, .float .f64 t] w fun e w' => e = .returned (.tuple #[.float .f64 A, .int .i64 E]) ∧ Below w.heap.size w w'))
    (HB : Hid (∀ w, Calls Try.prog 7 #[.int .i64 1, .float .f64 r, .float .f64 u] w fun e w' => e = .returned (.tuple #[.float .f64 B, .int .i64 F]) ∧ Below w.heap.size w w'))
    (HC : Hid (∀ w, Calls Try.prog 7 #[.int .i64 1, .float .f64 s, .float .f64 t] w fun e w' => e = .returned (.tuple #[.float .f64 C, .int .i64 G]) ∧ Below w.heap.size w w'))
    (x0 : (E == 0) = false)
    (hp : ((FloatKind.f64.format.order r 0 == some .gt) = false) ∨ ((FloatKind.f64.format.order r 0 == some .gt) = true ∧ (FloatKind.f64.format.order t 0 == some .gt) = false)) :
    Calls Try.prog 6 #[.float .f64 r, .float .f64 s, .float .f64 t, .float .f64 u] w fun e w' => e = .returned (.bool true) ∧ Below w.heap.size w w' := by
  obtain ⟨o1, o2, o3, o4, hge, hgs, hft, hfu, htu, hns⟩ := H
  have HFt := hideS hft
  have HFu := hideS hfu
  have hs := fun w => run_float_arith (P := Try.prog) w .sub 22 .f64 _ _ _ hns
  have z1 : (FloatKind.f64.format.order 0 0 != some .eq) = false := by decide +kernel
  clear hft hfu hns
  rcases hp with hp | ⟨hp, hq⟩
  all_goals try rw [o1] at hp
  all_goals try subst hp
  all_goals
    go_enter Try.func6, Try.ntmps6
    go_wp2_with fail
    refine (HFt.out _).mono ?_
    rintro e w' ⟨rfl, rfl⟩
    go_wp2_with fail
    refine (HFu.out _).mono ?_
    rintro e w' ⟨rfl, rfl⟩
    go_wp2_with fail
    refine (HA.out _).mono ?_
    rintro e w1 ⟨rfl, hb1⟩
    go_wp2_with fail
    refine (HB.out _).mono ?_
    rintro e w2 ⟨rfl, hb2⟩
    have B2 := hideS (hb1.trans (hb2.mono hb1.size))
    clear hb1 hb2
    go_wp2_with fail
    refine (HC.out _).mono ?_
    rintro e w3 ⟨rfl, hb3⟩
    have B3 := hideS (B2.out.trans (hb3.mono B2.out.size))
    clear hb3 B2
    go_wp2_with (go_at_call 11; refine (awake9 _).mono ?_; rintro e w9 ⟨rfl, hb9⟩)
    go_ret
    exact ⟨rfl, B3.out.trans (hb9.mono B3.out.size)⟩


set_option maxRecDepth 20000 in
set_option maxHeartbeats 16000000 in
theorem rateFalls_near_ff (r s t u A B C : Nat) (E F G : Int) (g1 e1 g2 e2 : Bool) (w : World) (H : FallH r s t u g1 e1 g2 e2)
    (HA : Hid (∀ w, Calls Try.prog 7 #[.int .i64 1, .float .f64 r, .float .f64 t] w fun e w' => e = .returned (.tuple #[.float .f64 A, .int .i64 E]) ∧ Below w.heap.size w w'))
    (HB : Hid (∀ w, Calls Try.prog 7 #[.int .i64 1, .float .f64 r, .float .f64 u] w fun e w' => e = .returned (.tuple #[.float .f64 B, .int .i64 F]) ∧ Below w.heap.size w w'))
    (HC : Hid (∀ w, Calls Try.prog 7 #[.int .i64 1, .float .f64 s, .float .f64 t] w fun e w' => e = .returned (.tuple #[.float .f64 C, .int .i64 G]) ∧ Below w.heap.size w w'))
    (x0 : (E == 0) = true) (x1 : (F == 0) = false) (x2 : (G == 0) = false)
    (hp : ((FloatKind.f64.format.order r 0 == some .gt) = false) ∨ ((FloatKind.f64.format.order r 0 == some .gt) = true ∧ (FloatKind.f64.format.order t 0 == some .gt) = false)) :
    Calls Try.prog 6 #[.float .f64 r, .float .f64 s, .float .f64 t, .float .f64 u] w fun e w' => e = .returned (.bool true) ∧ Below w.heap.size w w' := by
  obtain ⟨o1, o2, o3, o4, hge, hgs, hft, hfu, htu, hns⟩ := H
  have HFt := hideS hft
  have HFu := hideS hfu
  have hs := fun w => run_float_arith (P := Try.prog) w .sub 22 .f64 _ _ _ hns
  have z1 : (FloatKind.f64.format.order 0 0 != some .eq) = false := by decide +kernel
  clear hft hfu hns
  rcases hp with hp | ⟨hp, hq⟩
  all_goals try rw [o1] at hp
  all_goals try subst hp
  all_goals
    go_enter Try.func6, Try.ntmps6
    go_wp2_with fail
    refine (HFt.out _).mono ?_
    rintro e w' ⟨rfl, rfl⟩
    go_wp2_with fail
    refine (HFu.out _).mono ?_
    rintro e w' ⟨rfl, rfl⟩
    go_wp2_with fail
    refine (HA.out _).mono ?_
    rintro e w1 ⟨rfl, hb1⟩
    go_wp2_with fail
    refine (HB.out _).mono ?_
    rintro e w2 ⟨rfl, hb2⟩
    have B2 := hideS (hb1.trans (hb2.mono hb1.size))
    clear hb1 hb2
    go_wp2_with fail
    refine (HC.out _).mono ?_
    rintro e w3 ⟨rfl, hb3⟩
    have B3 := hideS (B2.out.trans (hb3.mono B2.out.size))
    clear hb3 B2
    go_wp2_with (go_at_call 11; refine (awake9 _).mono ?_; rintro e w9 ⟨rfl, hb9⟩)
    go_ret
    exact ⟨rfl, B3.out.trans (hb9.mono B3.out.size)⟩


set_option maxRecDepth 20000 in
set_option maxHeartbeats 16000000 in
theorem rateFalls_near_tf (r s t u A B C : Nat) (E F G : Int) (g1 e1 g2 e2 : Bool) (w : World) (H : FallH r s t u g1 e1 g2 e2)
    (HA : Hid (∀ w, Calls Try.prog 7 #[.int .i64 1, .float .f64 r, .float .f64 t] w fun e w' => e = .returned (.tuple #[.float .f64 A, .int .i64 E]) ∧ Below w.heap.size w w'))
    (HB : Hid (∀ w, Calls Try.prog 7 #[.int .i64 1, .float .f64 r, .float .f64 u] w fun e w' => e = .returned (.tuple #[.float .f64 B, .int .i64 F]) ∧ Below w.heap.size w w'))
    (HC : Hid (∀ w, Calls Try.prog 7 #[.int .i64 1, .float .f64 s, .float .f64 t] w fun e w' => e = .returned (.tuple #[.float .f64 C, .int .i64 G]) ∧ Below w.heap.size w w'))
    (l1 : (FloatKind.f64.format.order A B == some .lt) = false) (x0 : (E == 0) = true) (x1 : (F == 0) = true) (x2 : (G == 0) = false)
    (hp : ((FloatKind.f64.format.order r 0 == some .gt) = false) ∨ ((FloatKind.f64.format.order r 0 == some .gt) = true ∧ (FloatKind.f64.format.order t 0 == some .gt) = false)) :
    Calls Try.prog 6 #[.float .f64 r, .float .f64 s, .float .f64 t, .float .f64 u] w fun e w' => e = .returned (.bool true) ∧ Below w.heap.size w w' := by
  obtain ⟨o1, o2, o3, o4, hge, hgs, hft, hfu, htu, hns⟩ := H
  have HFt := hideS hft
  have HFu := hideS hfu
  have hs := fun w => run_float_arith (P := Try.prog) w .sub 22 .f64 _ _ _ hns
  have z1 : (FloatKind.f64.format.order 0 0 != some .eq) = false := by decide +kernel
  clear hft hfu hns
  rcases hp with hp | ⟨hp, hq⟩
  all_goals try rw [o1] at hp
  all_goals try subst hp
  all_goals
    go_enter Try.func6, Try.ntmps6
    go_wp2_with fail
    refine (HFt.out _).mono ?_
    rintro e w' ⟨rfl, rfl⟩
    go_wp2_with fail
    refine (HFu.out _).mono ?_
    rintro e w' ⟨rfl, rfl⟩
    go_wp2_with fail
    refine (HA.out _).mono ?_
    rintro e w1 ⟨rfl, hb1⟩
    go_wp2_with fail
    refine (HB.out _).mono ?_
    rintro e w2 ⟨rfl, hb2⟩
    have B2 := hideS (hb1.trans (hb2.mono hb1.size))
    clear hb1 hb2
    go_wp2_with fail
    refine (HC.out _).mono ?_
    rintro e w3 ⟨rfl, hb3⟩
    have B3 := hideS (B2.out.trans (hb3.mono B2.out.size))
    clear hb3 B2
    go_wp2_with (go_at_call 11; refine (awake9 _).mono ?_; rintro e w9 ⟨rfl, hb9⟩)
    go_ret
    exact ⟨rfl, B3.out.trans (hb9.mono B3.out.size)⟩


set_option maxRecDepth 20000 in
set_option maxHeartbeats 16000000 in
theorem rateFalls_near_ft (r s t u A B C : Nat) (E F G : Int) (g1 e1 g2 e2 : Bool) (w : World) (H : FallH r s t u g1 e1 g2 e2)
    (HA : Hid (∀ w, Calls Try.prog 7 #[.int .i64 1, .float .f64 r, .float .f64 t] w fun e w' => e = .returned (.tuple #[.float .f64 A, .int .i64 E]) ∧ Below w.heap.size w w'))
    (HB : Hid (∀ w, Calls Try.prog 7 #[.int .i64 1, .float .f64 r, .float .f64 u] w fun e w' => e = .returned (.tuple #[.float .f64 B, .int .i64 F]) ∧ Below w.heap.size w w'))
    (HC : Hid (∀ w, Calls Try.prog 7 #[.int .i64 1, .float .f64 s, .float .f64 t] w fun e w' => e = .returned (.tuple #[.float .f64 C, .int .i64 G]) ∧ Below w.heap.size w w'))
    (l2 : (FloatKind.f64.format.order A C == some .lt) = false) (x0 : (E == 0) = true) (x1 : (F == 0) = false) (x2 : (G == 0) = true)
    (hp : ((FloatKind.f64.format.order r 0 == some .gt) = false) ∨ ((FloatKind.f64.format.order r 0 == some .gt) = true ∧ (FloatKind.f64.format.order t 0 == some .gt) = false)) :
    Calls Try.prog 6 #[.float .f64 r, .float .f64 s, .float .f64 t, .float .f64 u] w fun e w' => e = .returned (.bool true) ∧ Below w.heap.size w w' := by
  obtain ⟨o1, o2, o3, o4, hge, hgs, hft, hfu, htu, hns⟩ := H
  have HFt := hideS hft
  have HFu := hideS hfu
  have hs := fun w => run_float_arith (P := Try.prog) w .sub 22 .f64 _ _ _ hns
  have z1 : (FloatKind.f64.format.order 0 0 != some .eq) = false := by decide +kernel
  clear hft hfu hns
  rcases hp with hp | ⟨hp, hq⟩
  all_goals try rw [o1] at hp
  all_goals try subst hp
  all_goals
    go_enter Try.func6, Try.ntmps6
    go_wp2_with fail
    refine (HFt.out _).mono ?_
    rintro e w' ⟨rfl, rfl⟩
    go_wp2_with fail
    refine (HFu.out _).mono ?_
    rintro e w' ⟨rfl, rfl⟩
    go_wp2_with fail
    refine (HA.out _).mono ?_
    rintro e w1 ⟨rfl, hb1⟩
    go_wp2_with fail
    refine (HB.out _).mono ?_
    rintro e w2 ⟨rfl, hb2⟩
    have B2 := hideS (hb1.trans (hb2.mono hb1.size))
    clear hb1 hb2
    go_wp2_with fail
    refine (HC.out _).mono ?_
    rintro e w3 ⟨rfl, hb3⟩
    have B3 := hideS (B2.out.trans (hb3.mono B2.out.size))
    clear hb3 B2
    go_wp2_with (go_at_call 11; refine (awake9 _).mono ?_; rintro e w9 ⟨rfl, hb9⟩)
    go_ret
    exact ⟨rfl, B3.out.trans (hb9.mono B3.out.size)⟩


set_option maxRecDepth 20000 in
set_option maxHeartbeats 16000000 in
theorem rateFalls_near_tt (r s t u A B C : Nat) (E F G : Int) (g1 e1 g2 e2 : Bool) (w : World) (H : FallH r s t u g1 e1 g2 e2)
    (HA : Hid (∀ w, Calls Try.prog 7 #[.int .i64 1, .float .f64 r, .float .f64 t] w fun e w' => e = .returned (.tuple #[.float .f64 A, .int .i64 E]) ∧ Below w.heap.size w w'))
    (HB : Hid (∀ w, Calls Try.prog 7 #[.int .i64 1, .float .f64 r, .float .f64 u] w fun e w' => e = .returned (.tuple #[.float .f64 B, .int .i64 F]) ∧ Below w.heap.size w w'))
    (HC : Hid (∀ w, Calls Try.prog 7 #[.int .i64 1, .float .f64 s, .float .f64 t] w fun e w' => e = .returned (.tuple #[.float .f64 C, .int .i64 G]) ∧ Below w.heap.size w w'))
    (l1 : (FloatKind.f64.format.order A B == some .lt) = false) (l2 : (FloatKind.f64.format.order A C == some .lt) = false) (x0 : (E == 0) = true) (x1 : (F == 0) = true) (x2 : (G == 0) = true)
    (hp : ((FloatKind.f64.format.order r 0 == some .gt) = false) ∨ ((FloatKind.f64.format.order r 0 == some .gt) = true ∧ (FloatKind.f64.format.order t 0 == some .gt) = false)) :
    Calls Try.prog 6 #[.float .f64 r, .float .f64 s, .float .f64 t, .float .f64 u] w fun e w' => e = .returned (.bool true) ∧ Below w.heap.size w w' := by
  obtain ⟨o1, o2, o3, o4, hge, hgs, hft, hfu, htu, hns⟩ := H
  have HFt := hideS hft
  have HFu := hideS hfu
  have hs := fun w => run_float_arith (P := Try.prog) w .sub 22 .f64 _ _ _ hns
  have z1 : (FloatKind.f64.format.order 0 0 != some .eq) = false := by decide +kernel
  clear hft hfu hns
  rcases hp with hp | ⟨hp, hq⟩
  all_goals try rw [o1] at hp
  all_goals try subst hp
  all_goals
    go_enter Try.func6, Try.ntmps6
    go_wp2_with fail
    refine (HFt.out _).mono ?_
    rintro e w' ⟨rfl, rfl⟩
    go_wp2_with fail
    refine (HFu.out _).mono ?_
    rintro e w' ⟨rfl, rfl⟩
    go_wp2_with fail
    refine (HA.out _).mono ?_
    rintro e w1 ⟨rfl, hb1⟩
    go_wp2_with fail
    refine (HB.out _).mono ?_
    rintro e w2 ⟨rfl, hb2⟩
    have B2 := hideS (hb1.trans (hb2.mono hb1.size))
    clear hb1 hb2
    go_wp2_with fail
    refine (HC.out _).mono ?_
    rintro e w3 ⟨rfl, hb3⟩
    have B3 := hideS (B2.out.trans (hb3.mono B2.out.size))
    clear hb3 B2
    go_wp2_with (go_at_call 11; refine (awake9 _).mono ?_; rintro e w9 ⟨rfl, hb9⟩)
    go_ret
    exact ⟨rfl, B3.out.trans (hb9.mono B3.out.size)⟩


end Go.Proofs.Ytbkmbdbjeiffpaa
