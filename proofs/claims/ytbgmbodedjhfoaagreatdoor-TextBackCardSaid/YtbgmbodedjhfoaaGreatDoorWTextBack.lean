/- The walk of TextBack. -/
import Derived.Test.YtbgmbodedjhfoaaGreatDoorHar
namespace Go.Proofs.YtbgmbodedjhfoaaGreatDoor
open Go.RowKit

theorem sub_tb (r : Nat) (hr : U64 (r : Int)) (w : World) : ∃ d q, (binOp .sub 22 (.float .f64 r) (.float .f64 r)).run Tryz.prog w = .ok (.float .f64 d) (w.drewN q) ∧ (FloatKind.f64.format.order d 0 == some .eq) = splOk (r : Int) := by
  have hr' : r < 18446744073709551616 := by have := hr.2; omega
  have hk : splOk (r : Int) = decide (NumB r) := by
    unfold splOk NumB szI
    by_cases h : r % 9223372036854775808 < 9218868437227405312
    · rw [decide_eq_true h]; exact decide_eq_true (by omega)
    · rw [decide_eq_false h]; exact decide_eq_false (by omega)
  rw [hk]
  by_cases h : NumB r
  · refine ⟨0, 0, ?_, ?_⟩
    · have h2 := sub_self h
      unfold floatBits at h2
      simp only at h2
      simp [binOp, Op.floatArith, h2, World.drewN]
    · rw [decide_eq_true h]; decide +kernel
  · refine ⟨nanAns r r w, 1, run_arith_nan .sub (by simp) 22 r r (sub_inf hr' h) w, ?_⟩
    rw [decide_eq_false h, order_nan_left (nanAns_nan r r w).1]; rfl
set_option maxHeartbeats 400000 in
theorem bits_fin (x : Nat) (w : World) : Calls Tryz.prog 7 #[.float .f64 x] w fun e w' => e = .returned (.int .u64 (x : Int)) ∧ w' = w := by
  have h1 := call_bits
  go_enter Tryz.func7, Tryz.ntmps7
  go_wp2
  go_ret
  exact ⟨rfl, rfl⟩
def hxA (x : Nat) : ByteArray := if splOk (x : Int) then bsA (hexS x) else ⟨#[]⟩
theorem hex_both (x : Nat) (hx : U64 (x : Int)) {W : World} (w : World) (hb : Below W.heap.size W w) (hd : W.cell? ⟨11, 15, none⟩ = some (.int .u8 4)) (hTb : Lib.TabBelow Tryz.prog W.heap.size W "internal/strconv.uint64pow10" .u64 Lib.pow10Tab) :
    Calls Tryz.prog 5 #[.float .f64 x] w fun e w' => e = .returned (.tuple #[.string (hxA x), .int .i64 (if splOk (x : Int) then 0 else 20)]) ∧ Below W.heap.size W w' := by
  unfold hxA
  cases hk : splOk (x : Int)
  · exact (hex_bad x hx hk w).mono fun _ _ ⟨he, hw⟩ => ⟨he, by rw [hw]; exact hb⟩
  · exact (hex_ok x hx hk w ((World.cell?_of_block (w := W) (a := ⟨11, 15, none⟩) (hb.block _ (World.block_lt_of_cell? _ _ hd))).trans hd) (fun w' h' => hTb w' (hb.trans (h'.mono hb.size)))).mono fun e w' ⟨he, hb'⟩ => ⟨he, hb.trans (hb'.mono hb.size)⟩
theorem unhex_both (s : ByteArray) {W : World} (w : World) (hb : Below W.heap.size W w) (hd : W.cell? ⟨11, 15, none⟩ = some (.int .u8 4)) (hTb : Lib.TabBelow Tryz.prog W.heap.size W "internal/strconv.uint64pow10" .u64 Lib.pow10Tab) :
    Calls Tryz.prog 8 #[.string s] w fun e w' => e = .returned (.tuple #[.float .f64 ((unO s).getD 0), .int .i64 (if (unO s).isSome then 0 else 20)]) ∧ Below W.heap.size W w' :=
  (unhex_any s w ((World.cell?_of_block (w := W) (a := ⟨11, 15, none⟩) (hb.block _ (World.block_lt_of_cell? _ _ hd))).trans hd) (fun w' h' => hTb w' (hb.trans (h'.mono hb.size)))).mono fun _ _ ⟨he, hb'⟩ => ⟨he, hb.trans (hb'.mono hb.size)⟩
theorem hexS_inj {x y : Nat} (hx : U64 (x : Int)) (hy : U64 (y : Int)) (kx : splOk (x : Int) = true) (ky : splOk (y : Int) = true) : (bsA (hexS x)).toList = (bsA (hexS y)).toList ↔ x = y := by
  constructor
  · intro e
    rw [Lib.toList_data, Lib.toList_data] at e
    have e2 : bsA (hexS x) = bsA (hexS y) := ByteArray.ext (Array.toList_inj.1 e)
    have h1 := hex_back x hx kx
    have h2 := hex_back y hy ky
    rw [e2, h2] at h1
    exact (Option.some.inj h1).symm
  · rintro rfl; rfl
set_option maxRecDepth 20000 in
set_option maxHeartbeats 6400000 in
theorem textBack_walk (x y : Nat) (s : ByteArray) (w : World) (hx : U64 (x : Int)) (hy : U64 (y : Int)) (_ : s.size ≤ 281474976710656) (hA : AwT w) (hTb : Lib.TabBelow Tryz.prog w.heap.size w "internal/strconv.uint64pow10" .u64 Lib.pow10Tab) :
    Calls Tryz.prog 4 #[.float .f64 x, .float .f64 y, .string s] w fun e w' => e = .returned (.bool true) ∧ Below w.heap.size w w' := by
  have HX : Hid (∀ w1, Below w.heap.size w w1 → Calls Tryz.prog 5 #[.float .f64 x] w1 fun e w' => e = .returned (.tuple #[.string (hxA x), .int .i64 (if splOk (x : Int) then 0 else 20)]) ∧ Below w.heap.size w w') := fun w1 hb => hex_both x hx w1 hb hA.db hTb
  have HY : Hid (∀ w1, Below w.heap.size w w1 → Calls Tryz.prog 5 #[.float .f64 y] w1 fun e w' => e = .returned (.tuple #[.string (hxA y), .int .i64 (if splOk (y : Int) then 0 else 20)]) ∧ Below w.heap.size w w') := fun w1 hb => hex_both y hy w1 hb hA.db hTb
  have HAw : Hid (∀ w1, Below w.heap.size w w1 → Calls Tryz.prog 11 #[] w1 fun e w' => e = .returned (.bool true) ∧ Below w.heap.size w w') := fun w1 hb => (awake2 w1 (hA.below hb)).mono fun e w' ⟨he, hb'⟩ => ⟨he, hb.trans (hb'.mono hb.size)⟩
  have HU : Hid (∀ s w1, Below w.heap.size w w1 → Calls Tryz.prog 8 #[.string s] w1 fun e w' => e = .returned (.tuple #[.float .f64 ((unO s).getD 0), .int .i64 (if (unO s).isSome then 0 else 20)]) ∧ Below w.heap.size w w') := fun s w1 hb => unhex_both s w1 hb hA.db hTb
  have SX : Hid (∀ w1, ∃ d q, (binOp .sub 22 (.float .f64 x) (.float .f64 x)).run Tryz.prog w1 = .ok (.float .f64 d) (w1.drewN q) ∧ (FloatKind.f64.format.order d 0 == some .eq) = splOk (x : Int)) := fun w1 => sub_tb x hx w1
  have SY : Hid (∀ w1, ∃ d q, (binOp .sub 22 (.float .f64 y) (.float .f64 y)).run Tryz.prog w1 = .ok (.float .f64 d) (w1.drewN q) ∧ (FloatKind.f64.format.order d 0 == some .eq) = splOk (y : Int)) := fun w1 => sub_tb y hy w1
  have HZ : Hid (∀ z, unO s = some z → (hxA z = s) ∧ ∀ w1, Below w.heap.size w w1 → Calls Tryz.prog 5 #[.float .f64 z] w1 fun e w' => e = .returned (.tuple #[.string s, .int .i64 0]) ∧ Below w.heap.size w w') := fun z hz => by
    obtain ⟨h1, h2, h3⟩ := unO_some hz
    have e : hxA z = s := by unfold hxA; rw [h1, if_pos rfl]; exact h2
    refine ⟨e, fun w1 hb => ?_⟩
    have := hex_both z h3 w1 hb hA.db hTb
    rw [e, h1] at this
    exact this
  have HB : Hid (splOk (x : Int) = true → unO (hxA x) = some x ∧ ∀ w, Calls Tryz.prog 7 #[.float .f64 x] w fun e w' => e = .returned (.int .u64 (x : Int)) ∧ w' = w) := fun h => ⟨by unfold hxA; rw [h, if_pos rfl]; exact hex_back x hx h, fun w => bits_fin x w⟩
  have HB2 : Hid (splOk (y : Int) = true → ∀ w, Calls Tryz.prog 7 #[.float .f64 y] w fun e w' => e = .returned (.int .u64 (y : Int)) ∧ w' = w) := fun _ w => bits_fin y w
  have HE : Hid (splOk (x : Int) = true → splOk (y : Int) = true → (((hxA x).toList == (hxA y).toList) = decide (x = y) ∧ (((x : Int)) == (y : Int)) = decide (x = y))) := fun h1 h2 => by
    have hi := hexS_inj hx hy h1 h2
    unfold hxA
    rw [h1, h2, if_pos rfl, if_pos rfl]
    by_cases e : x = y
    · rw [decide_eq_true e]
      exact ⟨by rw [beq_iff_eq]; exact hi.2 e, by rw [beq_iff_eq]; omega⟩
    · rw [decide_eq_false e]
      exact ⟨by rw [beq_eq_false_iff_ne]; exact fun h => e (hi.1 h), by rw [beq_eq_false_iff_ne]; omega⟩
  clear hx hy hA hTb
  cases kx : splOk (x : Int)
  all_goals cases ky : splOk (y : Int)
  all_goals
    rw [kx] at HX SX HB HE
    rw [ky] at HY SY HB2 HE
    clear kx ky
    go_enter Tryz.func4, Tryz.ntmps4
    go_wp2_with fail
    refine (HX.out _ (Below.refl _ _)).mono ?_
    rintro e w1 ⟨rfl, hb⟩
    have H1 := hidT hb
    clear hb
    go_wp2_with fail
    refine (HY.out _ H1.out).mono ?_
    rintro e w2 ⟨rfl, hb⟩
    have H2 := hidT hb
    clear hb
    obtain ⟨dx, qx, rx, ox⟩ := SX.out w2
    obtain ⟨dy, qy, ry, oy⟩ := SY.out (w2.drewN qx)
    have H3 : Hid (Below w.heap.size w (w2.drewN (qx + qy))) := below_drewNt H2.out
    clear SX SY
    go_wp2_with fail
  · have HFu := HU.out s _ H3.out
    cases hu : unO s with
    | none =>
      rw [hu] at HFu
      refine HFu.mono ?_
      rintro e w4 ⟨rfl, hb⟩
      have H4 := hidT hb
      clear hb HFu
      go_wp2_with fail
      refine (HAw.out _ H4.out).mono ?_
      rintro e w5 ⟨rfl, hb⟩
      have H5 := hidT hb
      clear hb
      go_wp2_with fail
      go_ret
      exact ⟨rfl, H5.out⟩
    | some z =>
      rw [hu] at HFu
      have HZ2 := hidT (HZ.out z hu).2
      have hss : (s.toList == s.toList) = true := beq_self_eq_true _
      refine HFu.mono ?_
      rintro e w4 ⟨rfl, hb⟩
      have H4 := hidT hb
      clear hb HFu hu
      go_wp2_with fail
      refine (HZ2.out _ H4.out).mono ?_
      rintro e w5 ⟨rfl, hb⟩
      have H5 := hidT hb
      clear hb
      go_wp2_with fail
      refine (HAw.out _ H5.out).mono ?_
      rintro e w6 ⟨rfl, hb⟩
      have H6 := hidT hb
      clear hb
      go_wp2_with fail
      go_ret
      exact ⟨rfl, H6.out⟩
  · have HFu := HU.out s _ H3.out
    cases hu : unO s with
    | none =>
      rw [hu] at HFu
      refine HFu.mono ?_
      rintro e w4 ⟨rfl, hb⟩
      have H4 := hidT hb
      clear hb HFu
      go_wp2_with fail
      refine (HAw.out _ H4.out).mono ?_
      rintro e w5 ⟨rfl, hb⟩
      have H5 := hidT hb
      clear hb
      go_wp2_with fail
      go_ret
      exact ⟨rfl, H5.out⟩
    | some z =>
      rw [hu] at HFu
      have HZ2 := hidT (HZ.out z hu).2
      have hss : (s.toList == s.toList) = true := beq_self_eq_true _
      refine HFu.mono ?_
      rintro e w4 ⟨rfl, hb⟩
      have H4 := hidT hb
      clear hb HFu hu
      go_wp2_with fail
      refine (HZ2.out _ H4.out).mono ?_
      rintro e w5 ⟨rfl, hb⟩
      have H5 := hidT hb
      clear hb
      go_wp2_with fail
      refine (HAw.out _ H5.out).mono ?_
      rintro e w6 ⟨rfl, hb⟩
      have H6 := hidT hb
      clear hb
      go_wp2_with fail
      go_ret
      exact ⟨rfl, H6.out⟩
  · have hx1 := (HB.out (by trivial)).1
    have HBx := hidT (HB.out (by trivial)).2
    have HFx := HU.out (hxA x) _ H3.out
    rw [hx1] at HFx
    clear HB
    refine HFx.mono ?_
    rintro e w3 ⟨rfl, hb⟩
    have H9 := hidT hb
    clear hb HFx hx1
    go_wp2_with ((first | (go_at_call 7; refine (turned0 (HBx.out _)).mono ?_; rintro e9 w9 ⟨rfl, rfl⟩)))
    have HFu := HU.out s _ H9.out
    cases hu : unO s with
    | none =>
      rw [hu] at HFu
      refine HFu.mono ?_
      rintro e w4 ⟨rfl, hb⟩
      have H4 := hidT hb
      clear hb HFu
      go_wp2_with fail
      refine (HAw.out _ H4.out).mono ?_
      rintro e w5 ⟨rfl, hb⟩
      have H5 := hidT hb
      clear hb
      go_wp2_with fail
      go_ret
      exact ⟨rfl, H5.out⟩
    | some z =>
      rw [hu] at HFu
      have HZ2 := hidT (HZ.out z hu).2
      have hss : (s.toList == s.toList) = true := beq_self_eq_true _
      refine HFu.mono ?_
      rintro e w4 ⟨rfl, hb⟩
      have H4 := hidT hb
      clear hb HFu hu
      go_wp2_with fail
      refine (HZ2.out _ H4.out).mono ?_
      rintro e w5 ⟨rfl, hb⟩
      have H5 := hidT hb
      clear hb
      go_wp2_with fail
      refine (HAw.out _ H5.out).mono ?_
      rintro e w6 ⟨rfl, hb⟩
      have H6 := hidT hb
      clear hb
      go_wp2_with fail
      go_ret
      exact ⟨rfl, H6.out⟩
  · have hx1 := (HB.out (by trivial)).1
    have HBx := hidT (HB.out (by trivial)).2
    have HFx := HU.out (hxA x) _ H3.out
    rw [hx1] at HFx
    clear HB
    refine HFx.mono ?_
    rintro e w3 ⟨rfl, hb⟩
    have H9 := hidT hb
    clear hb HFx hx1
    have HBy := hidT (HB2.out (by trivial))
    obtain ⟨q1, q2⟩ := HE.out (by trivial) (by trivial)
    by_cases hxy : x = y
    · rw [decide_eq_true hxy] at q1 q2
      go_wp2_with ((first | (go_at_call 7; first | (refine (turned0 (HBx.out _)).mono ?_; rintro e9 w9 ⟨rfl, rfl⟩) | (refine (turned0 (HBy.out _)).mono ?_; rintro e9 w9 ⟨rfl, rfl⟩))))
      have HFu := HU.out s _ H9.out
      cases hu : unO s with
      | none =>
        rw [hu] at HFu
        refine HFu.mono ?_
        rintro e w4 ⟨rfl, hb⟩
        have H4 := hidT hb
        clear hb HFu
        go_wp2_with fail
        refine (HAw.out _ H4.out).mono ?_
        rintro e w5 ⟨rfl, hb⟩
        have H5 := hidT hb
        clear hb
        go_wp2_with fail
        go_ret
        exact ⟨rfl, H5.out⟩
      | some z =>
        rw [hu] at HFu
        have HZ2 := hidT (HZ.out z hu).2
        have hss : (s.toList == s.toList) = true := beq_self_eq_true _
        refine HFu.mono ?_
        rintro e w4 ⟨rfl, hb⟩
        have H4 := hidT hb
        clear hb HFu hu
        go_wp2_with fail
        refine (HZ2.out _ H4.out).mono ?_
        rintro e w5 ⟨rfl, hb⟩
        have H5 := hidT hb
        clear hb
        go_wp2_with fail
        refine (HAw.out _ H5.out).mono ?_
        rintro e w6 ⟨rfl, hb⟩
        have H6 := hidT hb
        clear hb
        go_wp2_with fail
        go_ret
        exact ⟨rfl, H6.out⟩
    · rw [decide_eq_false hxy] at q1 q2
      go_wp2_with ((first | (go_at_call 7; first | (refine (turned0 (HBx.out _)).mono ?_; rintro e9 w9 ⟨rfl, rfl⟩) | (refine (turned0 (HBy.out _)).mono ?_; rintro e9 w9 ⟨rfl, rfl⟩))))
      have HFu := HU.out s _ H9.out
      cases hu : unO s with
      | none =>
        rw [hu] at HFu
        refine HFu.mono ?_
        rintro e w4 ⟨rfl, hb⟩
        have H4 := hidT hb
        clear hb HFu
        go_wp2_with fail
        refine (HAw.out _ H4.out).mono ?_
        rintro e w5 ⟨rfl, hb⟩
        have H5 := hidT hb
        clear hb
        go_wp2_with fail
        go_ret
        exact ⟨rfl, H5.out⟩
      | some z =>
        rw [hu] at HFu
        have HZ2 := hidT (HZ.out z hu).2
        have hss : (s.toList == s.toList) = true := beq_self_eq_true _
        refine HFu.mono ?_
        rintro e w4 ⟨rfl, hb⟩
        have H4 := hidT hb
        clear hb HFu hu
        go_wp2_with fail
        refine (HZ2.out _ H4.out).mono ?_
        rintro e w5 ⟨rfl, hb⟩
        have H5 := hidT hb
        clear hb
        go_wp2_with fail
        refine (HAw.out _ H5.out).mono ?_
        rintro e w6 ⟨rfl, hb⟩
        have H6 := hidT hb
        clear hb
        go_wp2_with fail
        go_ret
        exact ⟨rfl, H6.out⟩
end Go.Proofs.YtbgmbodedjhfoaaGreatDoor
