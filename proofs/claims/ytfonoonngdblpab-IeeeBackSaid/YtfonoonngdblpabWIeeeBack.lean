/- The walk of IeeeBack. -/
import Derived.Test.YtfonoonngdblpabBack
namespace Go.Proofs.Ytfonoonngdblpab
open Go.RowKit

theorem self_good {a : Nat} {r : Int} (h : Good a r) : (FloatKind.f64.format.order a a == some .eq) = true := by rw [eq_good h h]; simp
theorem self_bad {a : Nat} (h : nanB a = true) : (FloatKind.f64.format.order a a == some .eq) = false := by rw [order_nan_left h]; rfl
theorem negative_pos (b : Nat) (w : World) (h : U64 b) (hs : Hid (sgB b = false)) :
    Calls Try.prog 18 #[.float .f64 b] w fun e w' => e = .returned (.bool false) ∧ w' = w := by
  have := negative_any b w h
  rw [hs.out] at this; exact this

theorem zero_case {z : Nat} {r : Int} (h : Good z r) (hr : r = 0) : (FloatKind.f64.format.order z 0 == some .eq) = true := by rw [eq_good h good_zero, hr]; rfl
theorem zero_case' {z : Nat} {r : Int} (h : Good z r) (hr : r ≠ 0) : (FloatKind.f64.format.order z 0 == some .eq) = false := by rw [eq_good h good_zero]; simpa using hr

set_option maxRecDepth 10000 in
set_option maxHeartbeats 1000000 in
theorem back_g_zero (x y : Nat) (rx ry : Int) (hx : Good x rx) (hy : Good y ry) (z d : Nat) (rd : Int) (gz : Good z rx) (gd : Good d rd)
    (HZ : Hid (∀ w, Calls Try.prog 17 #[.int .i64 rx] w fun e w' => e = .returned (.tuple #[.float .f64 z, .bool true]) ∧ w' = w))
    (HD : Hid (∀ w, Calls Try.prog 21 #[.float .f64 x] w fun e w' => e = .returned (.float .f64 d) ∧ w' = w))
    (h0 : Hid (rx = 0)) (SZ : Hid (sgB z = false))
    (hf : Hid (splOk x = true))
    (h1 : Hid (-9218868437227405312 < rd)) (h2 : Hid (rd + 1 = rx))
    (w : World) :
    Calls Try.prog 4 #[.float .f64 x, .float .f64 y] w fun e w' => e = .returned (.bool true) ∧ Grown w w' := by
  have xx := self_good hx
  have yy := self_good hy
  have hlt := lt_good hx hy
  have heq := eq_good hx hy
  have nz := neq_good gz hx
  have z0 := zero_case gz h0.out
  obtain ⟨m, e, j, gj, hS, hJ⟩ := join_good hx hf.out
  have HS := hide hS
  have HJ := hide hJ
  have nj' := neq_good gj hx
  clear hS hJ
  have hub : rd < 9218868437227405312 := by have := hx.hi; have := h2.out; omega
  have hsub := fun w => run_float_arith (P := Try.prog) w .sub 23 .f64 d d 0 (sub_self_fin (fin_of gd h1.out hub))
  have zz : (FloatKind.f64.format.order 0 0 == some .eq) = true := zero_case good_zero rfl
  obtain ⟨v, gv, hU⟩ := up_good gd hub
  rw [h2.out] at gv
  have HU := hide hU
  have nv := neq_good gv hx
  clear hU hub
  go_enter Try.func4, Try.ntmps4
  go_wp2_with fail
  refine (rank_good _ _ _ hx).mono ?_
  rintro e w' ⟨rfl, rfl⟩
  go_wp2_with fail
  refine (rank_good _ _ _ hy).mono ?_
  rintro e w' ⟨rfl, rfl⟩
  go_wp2_with fail
  refine (unhide HZ _).mono ?_
  rintro e w' ⟨rfl, rfl⟩
  go_wp2_with fail
  refine (negative_pos _ _ gz.1 SZ).mono ?_
  rintro e w' ⟨rfl, rfl⟩
  go_wp2_with fail
  refine (unhide HS _).mono ?_
  rintro e w' ⟨rfl, rfl⟩
  go_wp2_with fail
  refine (unhide HJ _).mono ?_
  rintro e w' ⟨rfl, nj, rfl⟩
  go_wp2_with fail
  refine (unhide HD _).mono ?_
  rintro e w' ⟨rfl, rfl⟩
  go_wp2_with fail
  refine (unhide HU _).mono ?_
  rintro e w' ⟨rfl, rfl⟩
  go_wp2_with fail
  refine (awake_true _).mono ?_
  rintro e w' ⟨rfl, nq, rfl⟩
  go_wp2_with fail
  go_ret
  exact ⟨rfl, grown_drewN _ _⟩

set_option maxRecDepth 10000 in
set_option maxHeartbeats 1000000 in
theorem back_g_fin (x y : Nat) (rx ry : Int) (hx : Good x rx) (hy : Good y ry) (z d : Nat) (rd : Int) (gz : Good z rx) (gd : Good d rd)
    (HZ : Hid (∀ w, Calls Try.prog 17 #[.int .i64 rx] w fun e w' => e = .returned (.tuple #[.float .f64 z, .bool true]) ∧ w' = w))
    (HD : Hid (∀ w, Calls Try.prog 21 #[.float .f64 x] w fun e w' => e = .returned (.float .f64 d) ∧ w' = w))
    (h0 : Hid (rx ≠ 0))
    (hf : Hid (splOk x = true))
    (h1 : Hid (-9218868437227405312 < rd)) (h2 : Hid (rd + 1 = rx))
    (w : World) :
    Calls Try.prog 4 #[.float .f64 x, .float .f64 y] w fun e w' => e = .returned (.bool true) ∧ Grown w w' := by
  have xx := self_good hx
  have yy := self_good hy
  have hlt := lt_good hx hy
  have heq := eq_good hx hy
  have nz := neq_good gz hx
  have z0 := zero_case' gz h0.out
  obtain ⟨m, e, j, gj, hS, hJ⟩ := join_good hx hf.out
  have HS := hide hS
  have HJ := hide hJ
  have nj' := neq_good gj hx
  clear hS hJ
  have hub : rd < 9218868437227405312 := by have := hx.hi; have := h2.out; omega
  have hsub := fun w => run_float_arith (P := Try.prog) w .sub 23 .f64 d d 0 (sub_self_fin (fin_of gd h1.out hub))
  have zz : (FloatKind.f64.format.order 0 0 == some .eq) = true := zero_case good_zero rfl
  obtain ⟨v, gv, hU⟩ := up_good gd hub
  rw [h2.out] at gv
  have HU := hide hU
  have nv := neq_good gv hx
  clear hU hub
  go_enter Try.func4, Try.ntmps4
  go_wp2_with fail
  refine (rank_good _ _ _ hx).mono ?_
  rintro e w' ⟨rfl, rfl⟩
  go_wp2_with fail
  refine (rank_good _ _ _ hy).mono ?_
  rintro e w' ⟨rfl, rfl⟩
  go_wp2_with fail
  refine (unhide HZ _).mono ?_
  rintro e w' ⟨rfl, rfl⟩
  go_wp2_with fail
  refine (unhide HS _).mono ?_
  rintro e w' ⟨rfl, rfl⟩
  go_wp2_with fail
  refine (unhide HJ _).mono ?_
  rintro e w' ⟨rfl, nj, rfl⟩
  go_wp2_with fail
  refine (unhide HD _).mono ?_
  rintro e w' ⟨rfl, rfl⟩
  go_wp2_with fail
  refine (unhide HU _).mono ?_
  rintro e w' ⟨rfl, rfl⟩
  go_wp2_with fail
  refine (awake_true _).mono ?_
  rintro e w' ⟨rfl, nq, rfl⟩
  go_wp2_with fail
  go_ret
  exact ⟨rfl, grown_drewN _ _⟩

set_option maxRecDepth 10000 in
set_option maxHeartbeats 1000000 in
theorem back_g_low (x y : Nat) (rx ry : Int) (hx : Good x rx) (hy : Good y ry) (z d : Nat) (rd : Int) (gz : Good z rx) (gd : Good d rd)
    (HZ : Hid (∀ w, Calls Try.prog 17 #[.int .i64 rx] w fun e w' => e = .returned (.tuple #[.float .f64 z, .bool true]) ∧ w' = w))
    (HD : Hid (∀ w, Calls Try.prog 21 #[.float .f64 x] w fun e w' => e = .returned (.float .f64 d) ∧ w' = w))
    (h0 : Hid (rx ≠ 0))
    (hf : Hid (splOk x = true))
    (h1 : Hid (rd = -9218868437227405312))
    (w : World) :
    Calls Try.prog 4 #[.float .f64 x, .float .f64 y] w fun e w' => e = .returned (.bool true) ∧ Grown w w' := by
  have xx := self_good hx
  have yy := self_good hy
  have hlt := lt_good hx hy
  have heq := eq_good hx hy
  have nz := neq_good gz hx
  have z0 := zero_case' gz h0.out
  obtain ⟨m, e, j, gj, hS, hJ⟩ := join_good hx hf.out
  have HS := hide hS
  have HJ := hide hJ
  have nj' := neq_good gj hx
  clear hS hJ
  have hsub := fun w => run_sub_nan (P := Try.prog) 23 d d (sub_self_inf (inf_of gd h1.out)) w
  have nn : ∀ w, (FloatKind.f64.format.order (nanAns d d w) 0 == some .eq) = false := fun w => by rw [order_nan_left (nanAns_nan d d w)]; rfl
  go_enter Try.func4, Try.ntmps4
  go_wp2_with fail
  refine (rank_good _ _ _ hx).mono ?_
  rintro e w' ⟨rfl, rfl⟩
  go_wp2_with fail
  refine (rank_good _ _ _ hy).mono ?_
  rintro e w' ⟨rfl, rfl⟩
  go_wp2_with fail
  refine (unhide HZ _).mono ?_
  rintro e w' ⟨rfl, rfl⟩
  go_wp2_with fail
  refine (unhide HS _).mono ?_
  rintro e w' ⟨rfl, rfl⟩
  go_wp2_with fail
  refine (unhide HJ _).mono ?_
  rintro e w' ⟨rfl, nj, rfl⟩
  go_wp2_with fail
  refine (unhide HD _).mono ?_
  rintro e w' ⟨rfl, rfl⟩
  go_wp2_with fail
  refine (awake_true _).mono ?_
  rintro e w' ⟨rfl, nq, rfl⟩
  go_wp2_with fail
  go_ret
  exact ⟨rfl, grown_drewN _ _⟩

set_option maxRecDepth 10000 in
set_option maxHeartbeats 1000000 in
theorem back_g_top (x y : Nat) (rx ry : Int) (hx : Good x rx) (hy : Good y ry) (z d : Nat) (rd : Int) (gz : Good z rx) (gd : Good d rd)
    (HZ : Hid (∀ w, Calls Try.prog 17 #[.int .i64 rx] w fun e w' => e = .returned (.tuple #[.float .f64 z, .bool true]) ∧ w' = w))
    (HD : Hid (∀ w, Calls Try.prog 21 #[.float .f64 x] w fun e w' => e = .returned (.float .f64 d) ∧ w' = w))
    (h0 : Hid (rx ≠ 0))
    (hf : Hid (splOk x = false))
    (h1 : Hid (-9218868437227405312 < rd)) (h2 : Hid (rd + 1 = rx))
    (w : World) :
    Calls Try.prog 4 #[.float .f64 x, .float .f64 y] w fun e w' => e = .returned (.bool true) ∧ Grown w w' := by
  have xx := self_good hx
  have yy := self_good hy
  have hlt := lt_good hx hy
  have heq := eq_good hx hy
  have nz := neq_good gz hx
  have z0 := zero_case' gz h0.out
  have HS := hide (split_bad hx.1 hf.out)
  have hub : rd < 9218868437227405312 := by have := hx.hi; have := h2.out; omega
  have hsub := fun w => run_float_arith (P := Try.prog) w .sub 23 .f64 d d 0 (sub_self_fin (fin_of gd h1.out hub))
  have zz : (FloatKind.f64.format.order 0 0 == some .eq) = true := zero_case good_zero rfl
  obtain ⟨v, gv, hU⟩ := up_good gd hub
  rw [h2.out] at gv
  have HU := hide hU
  have nv := neq_good gv hx
  clear hU hub
  go_enter Try.func4, Try.ntmps4
  go_wp2_with fail
  refine (rank_good _ _ _ hx).mono ?_
  rintro e w' ⟨rfl, rfl⟩
  go_wp2_with fail
  refine (rank_good _ _ _ hy).mono ?_
  rintro e w' ⟨rfl, rfl⟩
  go_wp2_with fail
  refine (unhide HZ _).mono ?_
  rintro e w' ⟨rfl, rfl⟩
  go_wp2_with fail
  refine (unhide HS _).mono ?_
  rintro e w' ⟨rfl, rfl⟩
  go_wp2_with fail
  refine (unhide HD _).mono ?_
  rintro e w' ⟨rfl, rfl⟩
  go_wp2_with fail
  refine (unhide HU _).mono ?_
  rintro e w' ⟨rfl, rfl⟩
  go_wp2_with fail
  refine (awake_true _).mono ?_
  rintro e w' ⟨rfl, nq, rfl⟩
  go_wp2_with fail
  go_ret
  exact ⟨rfl, grown_drewN _ _⟩

set_option maxRecDepth 10000 in
set_option maxHeartbeats 1000000 in
theorem back_g_bot (x y : Nat) (rx ry : Int) (hx : Good x rx) (hy : Good y ry) (z d : Nat) (rd : Int) (gz : Good z rx) (gd : Good d rd)
    (HZ : Hid (∀ w, Calls Try.prog 17 #[.int .i64 rx] w fun e w' => e = .returned (.tuple #[.float .f64 z, .bool true]) ∧ w' = w))
    (HD : Hid (∀ w, Calls Try.prog 21 #[.float .f64 x] w fun e w' => e = .returned (.float .f64 d) ∧ w' = w))
    (h0 : Hid (rx ≠ 0))
    (hf : Hid (splOk x = false))
    (h1 : Hid (rd = -9218868437227405312))
    (w : World) :
    Calls Try.prog 4 #[.float .f64 x, .float .f64 y] w fun e w' => e = .returned (.bool true) ∧ Grown w w' := by
  have xx := self_good hx
  have yy := self_good hy
  have hlt := lt_good hx hy
  have heq := eq_good hx hy
  have nz := neq_good gz hx
  have z0 := zero_case' gz h0.out
  have HS := hide (split_bad hx.1 hf.out)
  have hsub := fun w => run_sub_nan (P := Try.prog) 23 d d (sub_self_inf (inf_of gd h1.out)) w
  have nn : ∀ w, (FloatKind.f64.format.order (nanAns d d w) 0 == some .eq) = false := fun w => by rw [order_nan_left (nanAns_nan d d w)]; rfl
  go_enter Try.func4, Try.ntmps4
  go_wp2_with fail
  refine (rank_good _ _ _ hx).mono ?_
  rintro e w' ⟨rfl, rfl⟩
  go_wp2_with fail
  refine (rank_good _ _ _ hy).mono ?_
  rintro e w' ⟨rfl, rfl⟩
  go_wp2_with fail
  refine (unhide HZ _).mono ?_
  rintro e w' ⟨rfl, rfl⟩
  go_wp2_with fail
  refine (unhide HS _).mono ?_
  rintro e w' ⟨rfl, rfl⟩
  go_wp2_with fail
  refine (unhide HD _).mono ?_
  rintro e w' ⟨rfl, rfl⟩
  go_wp2_with fail
  refine (awake_true _).mono ?_
  rintro e w' ⟨rfl, nq, rfl⟩
  go_wp2_with fail
  go_ret
  exact ⟨rfl, grown_drewN _ _⟩

set_option maxRecDepth 10000 in
set_option maxHeartbeats 1000000 in
theorem back_n_zero (x y : Nat) (rx : Int) (hx : Good x rx) (hy : U64 y) (hn : Hid (nanB y = true)) (z d : Nat) (rd : Int) (gz : Good z rx) (gd : Good d rd)
    (HZ : Hid (∀ w, Calls Try.prog 17 #[.int .i64 rx] w fun e w' => e = .returned (.tuple #[.float .f64 z, .bool true]) ∧ w' = w))
    (HD : Hid (∀ w, Calls Try.prog 21 #[.float .f64 x] w fun e w' => e = .returned (.float .f64 d) ∧ w' = w))
    (h0 : Hid (rx = 0)) (SZ : Hid (sgB z = false))
    (hf : Hid (splOk x = true))
    (h1 : Hid (-9218868437227405312 < rd)) (h2 : Hid (rd + 1 = rx))
    (w : World) :
    Calls Try.prog 4 #[.float .f64 x, .float .f64 y] w fun e w' => e = .returned (.bool true) ∧ Grown w w' := by
  have xx := self_good hx
  have yy := self_bad hn.out
  have nz := neq_good gz hx
  have z0 := zero_case gz h0.out
  obtain ⟨m, e, j, gj, hS, hJ⟩ := join_good hx hf.out
  have HS := hide hS
  have HJ := hide hJ
  have nj' := neq_good gj hx
  clear hS hJ
  have hub : rd < 9218868437227405312 := by have := hx.hi; have := h2.out; omega
  have hsub := fun w => run_float_arith (P := Try.prog) w .sub 23 .f64 d d 0 (sub_self_fin (fin_of gd h1.out hub))
  have zz : (FloatKind.f64.format.order 0 0 == some .eq) = true := zero_case good_zero rfl
  obtain ⟨v, gv, hU⟩ := up_good gd hub
  rw [h2.out] at gv
  have HU := hide hU
  have nv := neq_good gv hx
  clear hU hub
  go_enter Try.func4, Try.ntmps4
  go_wp2_with fail
  refine (rank_good _ _ _ hx).mono ?_
  rintro e w' ⟨rfl, rfl⟩
  go_wp2_with fail
  refine (rank_bad _ _ hy hn).mono ?_
  rintro e w' ⟨rfl, rfl⟩
  go_wp2_with fail
  refine (unhide HZ _).mono ?_
  rintro e w' ⟨rfl, rfl⟩
  go_wp2_with fail
  refine (negative_pos _ _ gz.1 SZ).mono ?_
  rintro e w' ⟨rfl, rfl⟩
  go_wp2_with fail
  refine (unhide HS _).mono ?_
  rintro e w' ⟨rfl, rfl⟩
  go_wp2_with fail
  refine (unhide HJ _).mono ?_
  rintro e w' ⟨rfl, nj, rfl⟩
  go_wp2_with fail
  refine (unhide HD _).mono ?_
  rintro e w' ⟨rfl, rfl⟩
  go_wp2_with fail
  refine (unhide HU _).mono ?_
  rintro e w' ⟨rfl, rfl⟩
  go_wp2_with fail
  refine (awake_true _).mono ?_
  rintro e w' ⟨rfl, nq, rfl⟩
  go_wp2_with fail
  go_ret
  exact ⟨rfl, grown_drewN _ _⟩

set_option maxRecDepth 10000 in
set_option maxHeartbeats 1000000 in
theorem back_n_fin (x y : Nat) (rx : Int) (hx : Good x rx) (hy : U64 y) (hn : Hid (nanB y = true)) (z d : Nat) (rd : Int) (gz : Good z rx) (gd : Good d rd)
    (HZ : Hid (∀ w, Calls Try.prog 17 #[.int .i64 rx] w fun e w' => e = .returned (.tuple #[.float .f64 z, .bool true]) ∧ w' = w))
    (HD : Hid (∀ w, Calls Try.prog 21 #[.float .f64 x] w fun e w' => e = .returned (.float .f64 d) ∧ w' = w))
    (h0 : Hid (rx ≠ 0))
    (hf : Hid (splOk x = true))
    (h1 : Hid (-9218868437227405312 < rd)) (h2 : Hid (rd + 1 = rx))
    (w : World) :
    Calls Try.prog 4 #[.float .f64 x, .float .f64 y] w fun e w' => e = .returned (.bool true) ∧ Grown w w' := by
  have xx := self_good hx
  have yy := self_bad hn.out
  have nz := neq_good gz hx
  have z0 := zero_case' gz h0.out
  obtain ⟨m, e, j, gj, hS, hJ⟩ := join_good hx hf.out
  have HS := hide hS
  have HJ := hide hJ
  have nj' := neq_good gj hx
  clear hS hJ
  have hub : rd < 9218868437227405312 := by have := hx.hi; have := h2.out; omega
  have hsub := fun w => run_float_arith (P := Try.prog) w .sub 23 .f64 d d 0 (sub_self_fin (fin_of gd h1.out hub))
  have zz : (FloatKind.f64.format.order 0 0 == some .eq) = true := zero_case good_zero rfl
  obtain ⟨v, gv, hU⟩ := up_good gd hub
  rw [h2.out] at gv
  have HU := hide hU
  have nv := neq_good gv hx
  clear hU hub
  go_enter Try.func4, Try.ntmps4
  go_wp2_with fail
  refine (rank_good _ _ _ hx).mono ?_
  rintro e w' ⟨rfl, rfl⟩
  go_wp2_with fail
  refine (rank_bad _ _ hy hn).mono ?_
  rintro e w' ⟨rfl, rfl⟩
  go_wp2_with fail
  refine (unhide HZ _).mono ?_
  rintro e w' ⟨rfl, rfl⟩
  go_wp2_with fail
  refine (unhide HS _).mono ?_
  rintro e w' ⟨rfl, rfl⟩
  go_wp2_with fail
  refine (unhide HJ _).mono ?_
  rintro e w' ⟨rfl, nj, rfl⟩
  go_wp2_with fail
  refine (unhide HD _).mono ?_
  rintro e w' ⟨rfl, rfl⟩
  go_wp2_with fail
  refine (unhide HU _).mono ?_
  rintro e w' ⟨rfl, rfl⟩
  go_wp2_with fail
  refine (awake_true _).mono ?_
  rintro e w' ⟨rfl, nq, rfl⟩
  go_wp2_with fail
  go_ret
  exact ⟨rfl, grown_drewN _ _⟩

set_option maxRecDepth 10000 in
set_option maxHeartbeats 1000000 in
theorem back_n_low (x y : Nat) (rx : Int) (hx : Good x rx) (hy : U64 y) (hn : Hid (nanB y = true)) (z d : Nat) (rd : Int) (gz : Good z rx) (gd : Good d rd)
    (HZ : Hid (∀ w, Calls Try.prog 17 #[.int .i64 rx] w fun e w' => e = .returned (.tuple #[.float .f64 z, .bool true]) ∧ w' = w))
    (HD : Hid (∀ w, Calls Try.prog 21 #[.float .f64 x] w fun e w' => e = .returned (.float .f64 d) ∧ w' = w))
    (h0 : Hid (rx ≠ 0))
    (hf : Hid (splOk x = true))
    (h1 : Hid (rd = -9218868437227405312))
    (w : World) :
    Calls Try.prog 4 #[.float .f64 x, .float .f64 y] w fun e w' => e = .returned (.bool true) ∧ Grown w w' := by
  have xx := self_good hx
  have yy := self_bad hn.out
  have nz := neq_good gz hx
  have z0 := zero_case' gz h0.out
  obtain ⟨m, e, j, gj, hS, hJ⟩ := join_good hx hf.out
  have HS := hide hS
  have HJ := hide hJ
  have nj' := neq_good gj hx
  clear hS hJ
  have hsub := fun w => run_sub_nan (P := Try.prog) 23 d d (sub_self_inf (inf_of gd h1.out)) w
  have nn : ∀ w, (FloatKind.f64.format.order (nanAns d d w) 0 == some .eq) = false := fun w => by rw [order_nan_left (nanAns_nan d d w)]; rfl
  go_enter Try.func4, Try.ntmps4
  go_wp2_with fail
  refine (rank_good _ _ _ hx).mono ?_
  rintro e w' ⟨rfl, rfl⟩
  go_wp2_with fail
  refine (rank_bad _ _ hy hn).mono ?_
  rintro e w' ⟨rfl, rfl⟩
  go_wp2_with fail
  refine (unhide HZ _).mono ?_
  rintro e w' ⟨rfl, rfl⟩
  go_wp2_with fail
  refine (unhide HS _).mono ?_
  rintro e w' ⟨rfl, rfl⟩
  go_wp2_with fail
  refine (unhide HJ _).mono ?_
  rintro e w' ⟨rfl, nj, rfl⟩
  go_wp2_with fail
  refine (unhide HD _).mono ?_
  rintro e w' ⟨rfl, rfl⟩
  go_wp2_with fail
  refine (awake_true _).mono ?_
  rintro e w' ⟨rfl, nq, rfl⟩
  go_wp2_with fail
  go_ret
  exact ⟨rfl, grown_drewN _ _⟩

set_option maxRecDepth 10000 in
set_option maxHeartbeats 1000000 in
theorem back_n_top (x y : Nat) (rx : Int) (hx : Good x rx) (hy : U64 y) (hn : Hid (nanB y = true)) (z d : Nat) (rd : Int) (gz : Good z rx) (gd : Good d rd)
    (HZ : Hid (∀ w, Calls Try.prog 17 #[.int .i64 rx] w fun e w' => e = .returned (.tuple #[.float .f64 z, .bool true]) ∧ w' = w))
    (HD : Hid (∀ w, Calls Try.prog 21 #[.float .f64 x] w fun e w' => e = .returned (.float .f64 d) ∧ w' = w))
    (h0 : Hid (rx ≠ 0))
    (hf : Hid (splOk x = false))
    (h1 : Hid (-9218868437227405312 < rd)) (h2 : Hid (rd + 1 = rx))
    (w : World) :
    Calls Try.prog 4 #[.float .f64 x, .float .f64 y] w fun e w' => e = .returned (.bool true) ∧ Grown w w' := by
  have xx := self_good hx
  have yy := self_bad hn.out
  have nz := neq_good gz hx
  have z0 := zero_case' gz h0.out
  have HS := hide (split_bad hx.1 hf.out)
  have hub : rd < 9218868437227405312 := by have := hx.hi; have := h2.out; omega
  have hsub := fun w => run_float_arith (P := Try.prog) w .sub 23 .f64 d d 0 (sub_self_fin (fin_of gd h1.out hub))
  have zz : (FloatKind.f64.format.order 0 0 == some .eq) = true := zero_case good_zero rfl
  obtain ⟨v, gv, hU⟩ := up_good gd hub
  rw [h2.out] at gv
  have HU := hide hU
  have nv := neq_good gv hx
  clear hU hub
  go_enter Try.func4, Try.ntmps4
  go_wp2_with fail
  refine (rank_good _ _ _ hx).mono ?_
  rintro e w' ⟨rfl, rfl⟩
  go_wp2_with fail
  refine (rank_bad _ _ hy hn).mono ?_
  rintro e w' ⟨rfl, rfl⟩
  go_wp2_with fail
  refine (unhide HZ _).mono ?_
  rintro e w' ⟨rfl, rfl⟩
  go_wp2_with fail
  refine (unhide HS _).mono ?_
  rintro e w' ⟨rfl, rfl⟩
  go_wp2_with fail
  refine (unhide HD _).mono ?_
  rintro e w' ⟨rfl, rfl⟩
  go_wp2_with fail
  refine (unhide HU _).mono ?_
  rintro e w' ⟨rfl, rfl⟩
  go_wp2_with fail
  refine (awake_true _).mono ?_
  rintro e w' ⟨rfl, nq, rfl⟩
  go_wp2_with fail
  go_ret
  exact ⟨rfl, grown_drewN _ _⟩

set_option maxRecDepth 10000 in
set_option maxHeartbeats 1000000 in
theorem back_n_bot (x y : Nat) (rx : Int) (hx : Good x rx) (hy : U64 y) (hn : Hid (nanB y = true)) (z d : Nat) (rd : Int) (gz : Good z rx) (gd : Good d rd)
    (HZ : Hid (∀ w, Calls Try.prog 17 #[.int .i64 rx] w fun e w' => e = .returned (.tuple #[.float .f64 z, .bool true]) ∧ w' = w))
    (HD : Hid (∀ w, Calls Try.prog 21 #[.float .f64 x] w fun e w' => e = .returned (.float .f64 d) ∧ w' = w))
    (h0 : Hid (rx ≠ 0))
    (hf : Hid (splOk x = false))
    (h1 : Hid (rd = -9218868437227405312))
    (w : World) :
    Calls Try.prog 4 #[.float .f64 x, .float .f64 y] w fun e w' => e = .returned (.bool true) ∧ Grown w w' := by
  have xx := self_good hx
  have yy := self_bad hn.out
  have nz := neq_good gz hx
  have z0 := zero_case' gz h0.out
  have HS := hide (split_bad hx.1 hf.out)
  have hsub := fun w => run_sub_nan (P := Try.prog) 23 d d (sub_self_inf (inf_of gd h1.out)) w
  have nn : ∀ w, (FloatKind.f64.format.order (nanAns d d w) 0 == some .eq) = false := fun w => by rw [order_nan_left (nanAns_nan d d w)]; rfl
  go_enter Try.func4, Try.ntmps4
  go_wp2_with fail
  refine (rank_good _ _ _ hx).mono ?_
  rintro e w' ⟨rfl, rfl⟩
  go_wp2_with fail
  refine (rank_bad _ _ hy hn).mono ?_
  rintro e w' ⟨rfl, rfl⟩
  go_wp2_with fail
  refine (unhide HZ _).mono ?_
  rintro e w' ⟨rfl, rfl⟩
  go_wp2_with fail
  refine (unhide HS _).mono ?_
  rintro e w' ⟨rfl, rfl⟩
  go_wp2_with fail
  refine (unhide HD _).mono ?_
  rintro e w' ⟨rfl, rfl⟩
  go_wp2_with fail
  refine (awake_true _).mono ?_
  rintro e w' ⟨rfl, nq, rfl⟩
  go_wp2_with fail
  go_ret
  exact ⟨rfl, grown_drewN _ _⟩

theorem down_nan {x : Nat} (h : U64 x) (hn : nanB x = true) (w : World) : Calls Try.prog 21 #[.float .f64 x] w fun e w' => e = .returned (.float .f64 x) ∧ w' = w := by
  have := down_as x x w rfl h
  rw [show upI x (-1) = x by simp [upI, hn], Int.toNat_natCast] at this; exact this
theorem spl_nan {x : Nat} (hn : nanB x = true) : splOk x = false := by
  have := of_decide_eq_true hn
  unfold splOk; rw [decide_eq_false_iff_not]; omega

set_option maxRecDepth 10000 in
set_option maxHeartbeats 1000000 in
theorem back_nan (x y : Nat) (hx : U64 x) (hn : nanB x = true) (hy : U64 y) (w : World) :
    Calls Try.prog 4 #[.float .f64 x, .float .f64 y] w fun e w' => e = .returned (.bool true) ∧ Grown w w' := by
  have xx := self_bad hn
  have HS := hide (split_bad hx (spl_nan hn))
  have HD := hide (down_nan hx hn)
  have HN := hide hn
  clear hn
  cases h2 : nanB y
  · have gy := good_of hy h2
    generalize rankI y = ry at gy
    have yy := self_good gy
    clear h2
    go_enter Try.func4, Try.ntmps4
    go_wp2_with fail
    refine (rank_bad _ _ hx HN).mono ?_
    rintro e w' ⟨rfl, rfl⟩
    go_wp2_with fail
    refine (rank_good _ _ _ gy).mono ?_
    rintro e w' ⟨rfl, rfl⟩
    go_wp2_with fail
    refine (unhide HS _).mono ?_
    rintro e w' ⟨rfl, rfl⟩
    go_wp2_with fail
    refine (unhide HD _).mono ?_
    rintro e w' ⟨rfl, rfl⟩
    go_wp2_with fail
    refine (awake_true _).mono ?_
    rintro e w' ⟨rfl, nq, rfl⟩
    go_wp2_with fail
    go_ret
    exact ⟨rfl, grown_drewN _ _⟩
  · have yy := self_bad h2
    have HM := hide h2
    clear h2
    go_enter Try.func4, Try.ntmps4
    go_wp2_with fail
    refine (rank_bad _ _ hx HN).mono ?_
    rintro e w' ⟨rfl, rfl⟩
    go_wp2_with fail
    refine (rank_bad _ _ hy HM).mono ?_
    rintro e w' ⟨rfl, rfl⟩
    go_wp2_with fail
    refine (unhide HS _).mono ?_
    rintro e w' ⟨rfl, rfl⟩
    go_wp2_with fail
    refine (unhide HD _).mono ?_
    rintro e w' ⟨rfl, rfl⟩
    go_wp2_with fail
    refine (awake_true _).mono ?_
    rintro e w' ⟨rfl, nq, rfl⟩
    go_wp2_with fail
    go_ret
    exact ⟨rfl, grown_drewN _ _⟩

theorem spl_iff {x : Nat} {r : Int} (h : Good x r) : splOk x = true ↔ -9218868437227405312 < r ∧ r < 9218868437227405312 := by
  have hl := nan_false h.2.1
  have := sgn_rank (by have := h.1.2; omega) h.2.1
  rw [h.2.2] at this
  unfold sgn at this
  unfold splOk szI
  rw [decide_eq_true_eq]
  split at this <;> omega

theorem ieeeBack_walk (x y : Nat) (wx : (Lit.float .f64 x).wf = true) (wy : (Lit.float .f64 y).wf = true) (w : World) :
    Calls Try.prog 4 #[.float .f64 x, .float .f64 y] w fun e w' => e = .returned (.bool true) ∧ Grown w w' := by
  have hx := u64_of_wf wx
  have hy := u64_of_wf wy
  cases h1 : nanB x
  · have gx := good_of hx h1
    generalize rankI x = rx at gx
    obtain ⟨z, gz, sz, hz⟩ := at_good gx
    obtain ⟨d, rd, gd, hd, hdown⟩ := down_good gx
    have hlo := gx.lo
    have hhi := gx.hi
    have hdl := gd.lo
    have hsp := spl_iff gx
    cases hf : splOk x
    · have hends : rx = -9218868437227405312 ∨ rx = 9218868437227405312 := by
        have h9 : ¬ (-9218868437227405312 < rx ∧ rx < 9218868437227405312) := fun h => by rw [hsp.2 h] at hf; cases hf
        omega
      cases h2 : nanB y
      · have gy := good_of hy h2
        generalize rankI y = ry at gy
        rcases hends with he | he
        · exact back_g_bot x y rx ry gx gy z d rd gz gd hz hdown (by show _ ≠ _; omega) hf (by show _ = _; omega) w
        · exact back_g_top x y rx ry gx gy z d rd gz gd hz hdown (by show _ ≠ _; omega) hf (by show _ < _; omega) (by show _ = _; omega) w
      · rcases hends with he | he
        · exact back_n_bot x y rx gx hy h2 z d rd gz gd hz hdown (by show _ ≠ _; omega) hf (by show _ = _; omega) w
        · exact back_n_top x y rx gx hy h2 z d rd gz gd hz hdown (by show _ ≠ _; omega) hf (by show _ < _; omega) (by show _ = _; omega) w
    · have hb := hsp.1 hf
      by_cases h0 : rx = 0
      · have hs0 : sgB z = false := by rw [sz, h0]; rfl
        cases h2 : nanB y
        · have gy := good_of hy h2
          generalize rankI y = ry at gy
          exact back_g_zero x y rx ry gx gy z d rd gz gd hz hdown h0 hs0 hf (by show _ < _; omega) (by show _ = _; omega) w
        · exact back_n_zero x y rx gx hy h2 z d rd gz gd hz hdown h0 hs0 hf (by show _ < _; omega) (by show _ = _; omega) w
      · by_cases hq : rd = -9218868437227405312
        · cases h2 : nanB y
          · have gy := good_of hy h2
            generalize rankI y = ry at gy
            exact back_g_low x y rx ry gx gy z d rd gz gd hz hdown h0 hf hq w
          · exact back_n_low x y rx gx hy h2 z d rd gz gd hz hdown h0 hf hq w
        · cases h2 : nanB y
          · have gy := good_of hy h2
            generalize rankI y = ry at gy
            exact back_g_fin x y rx ry gx gy z d rd gz gd hz hdown h0 hf (by show _ < _; omega) (by show _ = _; omega) w
          · exact back_n_fin x y rx gx hy h2 z d rd gz gd hz hdown h0 hf (by show _ < _; omega) (by show _ = _; omega) w
  · exact back_nan x y hx h1 hy w
end Go.Proofs.Ytfonoonngdblpab
