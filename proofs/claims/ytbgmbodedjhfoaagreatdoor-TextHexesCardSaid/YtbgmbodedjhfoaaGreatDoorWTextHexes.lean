/- The walk of TextHexes. -/
import Derived.Test.YtbgmbodedjhfoaaGreatDoorHax
namespace Go.Proofs.YtbgmbodedjhfoaaGreatDoor
open Go.RowKit

set_option maxHeartbeats 400000 in
theorem sameT (z : Int) (w : World) : Calls Tryz.prog 27 #[.int .u64 z, .int .u64 z] w fun e w' => e = .returned (.bool true) ∧ w' = w := by
  have hb : (z == z) = true := beq_self_eq_true _
  go_enter Tryz.func27, Tryz.ntmps27
  go_wp2_with fail
  go_ret
  exact ⟨rfl, rfl⟩
set_option maxHeartbeats 400000 in
theorem isT (z : Nat) (w : World) : Calls Tryz.prog 10 #[.float .f64 z, .int .u64 (z : Int)] w fun e w' => e = .returned (.bool true) ∧ w' = w := by
  have HB := hidT (bits_fin z w)
  have HS := hidT (sameT (z : Int) w)
  go_enter Tryz.func10, Tryz.ntmps10
  go_wp2_with fail
  refine (turned0 HB.out).mono ?_
  rintro e w2 ⟨rfl, rfl⟩
  go_wp2_with fail
  refine (turned0 HS.out).mono ?_
  rintro e w2 ⟨rfl, rfl⟩
  go_wp2_with fail
  go_ret
  exact ⟨rfl, rfl⟩
set_option maxRecDepth 20000 in
set_option maxHeartbeats 6400000 in
theorem textHexes_walk (x : Nat) (s : ByteArray) (w : World) (hx : U64 (x : Int)) (_ : s.size ≤ 281474976710656) (hA : AwT w) (hTb : Lib.TabBelow Tryz.prog w.heap.size w "internal/strconv.uint64pow10" .u64 Lib.pow10Tab) :
    Calls Tryz.prog 3 #[.float .f64 x, .string s] w fun e w' => e = .returned (.bool true) ∧ Below w.heap.size w w' := by
  obtain ⟨XS, hXS⟩ : ∃ XS, hxA x = XS := ⟨_, rfl⟩
  obtain ⟨XE, hXE⟩ : ∃ XE : Int, (if splOk (x : Int) then 0 else 20) = XE := ⟨_, rfl⟩
  obtain ⟨Z, hZ⟩ : ∃ Z, (unO s).getD 0 = Z := ⟨_, rfl⟩
  obtain ⟨ZE, hZE⟩ : ∃ ZE : Int, (if (unO s).isSome then 0 else 20) = ZE := ⟨_, rfl⟩
  have HX : Hid (∀ w1, Below w.heap.size w w1 → Calls Tryz.prog 5 #[.float .f64 x] w1 fun e w' => e = .returned (.tuple #[.string XS, .int .i64 XE]) ∧ Below w.heap.size w w') := fun w1 hb => by rw [← hXS, ← hXE]; exact hex_both x hx w1 hb hA.db hTb
  have HXd : Hid (∀ w1, Below w.heap.size w w1 → Calls Tryz.prog 6 #[.int .u64 (x : Int)] w1 fun e w' => e = .returned (.tuple #[.string XS, .int .i64 XE]) ∧ Below w.heap.size w w') := fun w1 hb => by
    rw [← hXS, ← hXE]
    unfold hxA
    cases hk : splOk (x : Int)
    · exact (hexD_bad x w1 hx hk).mono fun _ _ ⟨he, hw⟩ => ⟨he, by rw [hw]; exact hb⟩
    · exact (hexD_ok x w1 hx hk).mono fun _ _ ⟨he, hb'⟩ => ⟨he, hb.trans (hb'.mono hb.size)⟩
  have HU : Hid (∀ w1, Below w.heap.size w w1 → Calls Tryz.prog 8 #[.string s] w1 fun e w' => e = .returned (.tuple #[.float .f64 Z, .int .i64 ZE]) ∧ Below w.heap.size w w') := fun w1 hb => by rw [← hZ, ← hZE]; exact unhex_both s w1 hb hA.db hTb
  have HUd : Hid (∀ w1, Below w.heap.size w w1 → Calls Tryz.prog 9 #[.string s] w1 fun e w' => e = .returned (.tuple #[.int .u64 (Z : Int), .int .i64 ZE]) ∧ Below w.heap.size w w') := fun w1 hb => by rw [← hZ, ← hZE]; exact (unhexD_any s w1).mono fun _ _ ⟨he, hb'⟩ => ⟨he, hb.trans (hb'.mono hb.size)⟩
  have HIs : Hid (∀ w1, Below w.heap.size w w1 → Calls Tryz.prog 10 #[.float .f64 Z, .int .u64 (Z : Int)] w1 fun e w' => e = .returned (.bool true) ∧ Below w.heap.size w w') := fun w1 hb => (isT Z w1).mono fun _ _ ⟨he, hw⟩ => ⟨he, by rw [hw]; exact hb⟩
  have HAw : Hid (∀ w1, Below w.heap.size w w1 → Calls Tryz.prog 11 #[] w1 fun e w' => e = .returned (.bool true) ∧ Below w.heap.size w w') := fun w1 hb => (awake2 w1 (hA.below hb)).mono fun e w' ⟨he, hb'⟩ => ⟨he, hb.trans (hb'.mono hb.size)⟩
  have HBi := hidT (fun w => bits_fin x w)
  have e1 : (XS.toList == XS.toList) = true := beq_self_eq_true _
  have e2 : (XE == XE) = true := beq_self_eq_true _
  have e3 : (ZE == ZE) = true := beq_self_eq_true _
  clear hx hA hTb hXS hXE hZ hZE
  go_enter Tryz.func3, Tryz.ntmps3
  go_wp2_with fail
  refine (HX.out _ (Below.refl _ _)).mono ?_
  rintro e w1 ⟨rfl, hb⟩
  have H1 := hidT hb
  clear hb
  go_wp2_with fail
  refine (turned0 (HBi.out _)).mono ?_
  rintro e w2 ⟨rfl, rfl⟩
  go_wp2_with fail
  refine (HXd.out _ H1.out).mono ?_
  rintro e w3 ⟨rfl, hb⟩
  have H3 := hidT hb
  clear hb
  go_wp2_with fail
  refine (HU.out _ H3.out).mono ?_
  rintro e w4 ⟨rfl, hb⟩
  have H4 := hidT hb
  clear hb
  go_wp2_with fail
  refine (HUd.out _ H4.out).mono ?_
  rintro e w5 ⟨rfl, hb⟩
  have H5 := hidT hb
  clear hb
  go_wp2_with fail
  refine (HIs.out _ H5.out).mono ?_
  rintro e w6 ⟨rfl, hb⟩
  have H6 := hidT hb
  clear hb
  go_wp2_with fail
  refine (HAw.out _ H6.out).mono ?_
  rintro e w7 ⟨rfl, hb⟩
  have H7 := hidT hb
  clear hb
  go_wp2_with fail
  go_ret
  exact ⟨rfl, H7.out⟩
end Go.Proofs.YtbgmbodedjhfoaaGreatDoor
