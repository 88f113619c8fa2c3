/- Package deal: closed words are read: 1 as a whole number, 2030-01-01 as a day. -/
import Derived.Test.YtienedhaogjahaaGreatDoorHah
import Derived.Test.YtienedhaogjahaaGreatDoorHan
import Derived.Test.YtienedhaogjahaaGreatDoorHar
import Derived.Lib.ConvBytes
namespace Go.Proofs.YtienedhaogjahaaGreatDoor
open Go.RowKit

theorem conv_1 (w : World) : ∃ C W1, (convert 9 265 (.string ⟨#[49]⟩)).run Tryz.prog w = .ok (.slice (some ⟨w.heap.size, 0, none⟩) 1 C) W1 ∧ W1.cell? ⟨w.heap.size, 0, none⟩ = some (.int .u8 49) ∧ Below w.heap.size w W1 := by
  refine ⟨_, _, Go.Lib.run_convert_string_bytes w 9 265 5 ⟨#[49]⟩ Tryz.underlying9 Tryz.underlying265 Tryz.underlying5, Go.Lib.bytesWorld_cell w _ _ 0 (by decide), ⟨rfl, rfl, rfl, by rw [Go.Lib.bytesWorld_size]; omega, fun k hk => Go.Lib.bytesWorld_at_old w _ _ k hk⟩⟩
set_option maxRecDepth 20000 in
set_option maxHeartbeats 3200000 in
theorem atoi_1 (w : World) : Calls Tryz.prog 180 #[.string ⟨#[49]⟩] w fun e w' => e = .returned (.tuple #[.int .i64 1, .nilIface]) ∧ Below w.heap.size w w' := by
  have hb0 : ∀ h, ({ data := #[49] } : ByteArray)[0]'h = 49 := fun _ => rfl
  obtain ⟨C, W1, hcv, hc0, hbl⟩ := conv_1 w
  have HB := hidD hbl
  clear hbl
  go_enter Tryz.func180, Tryz.ntmps180
  go_wp2
  refine wp_loop_rounds 3 ?_
  rw [rounds_succ]
  go_wp2
  rw [rounds_succ]
  go_wp2
  go_ret2
  exact ⟨rfl, HB.out⟩
def day20 : ByteArray := ⟨#[50, 48, 51, 48, 45, 48, 49, 45, 48, 49]⟩
theorem parse_20 (w : World) : Calls Tryz.prog 148 #[.string day20] w fun e w' => e = .returned (.tuple #[.int .i64 47482, .int .i64 0]) ∧ Below w.heap.size w w' := by
  have h := parse_day day20 w (by unfold txtOk; decide) (by unfold okD; decide)
  rw [show dayI (parseY day20) (parseM day20) (parseD day20) = 47482 by decide] at h
  exact h
theorem whp_1 : WhP ⟨#[49]⟩ := Or.inr ⟨0, by decide, by decide, by decide, by decide, fun j h1 h2 => absurd h2 (by show ¬ j < 1; omega)⟩
set_option maxRecDepth 20000 in
theorem satoi_1 (w : World) : Calls Tryz.prog 151 #[.string ⟨#[49]⟩] w fun e w' => e = .returned (.tuple #[.int .i64 1, .nilIface]) ∧ Below w.heap.size w w' := by
  have H := hidD (atoi_1 w)
  go_enter Tryz.func151, Tryz.ntmps151
  go_wp2_with fail
  refine H.out.mono ?_
  rintro e w1 ⟨rfl, hb⟩
  have HB := hidD hb
  clear hb
  go_wp2_with fail
  go_ret2
  exact ⟨rfl, HB.out⟩
set_option maxRecDepth 20000 in
theorem int_1 (w : World) : Calls Tryz.prog 109 #[.string ⟨#[49]⟩] w fun e w' => e = .returned (.tuple #[.int .i64 1, .bool true]) ∧ Below w.heap.size w w' := by
  have H := hidD (whole_any ⟨#[49]⟩ w (by decide))
  have HA := hidD satoi_1
  go_enter Tryz.func109, Tryz.ntmps109
  go_wp2_with fail
  refine H.out.mono ?_
  rintro e w1 ⟨B, rfl, hB, rfl⟩
  obtain rfl : B = true := hB.2 whp_1
  clear hB
  go_wp2_with fail
  refine (HA.out _).mono ?_
  rintro e w2 ⟨rfl, hb⟩
  have HB := hidD hb
  clear hb
  go_wp2_with fail
  go_ret2
  exact ⟨rfl, HB.out⟩
set_option maxRecDepth 20000 in
theorem readDay_20 (w : World) : Calls Tryz.prog 107 #[.string day20] w fun e w' => e = .returned (.tuple #[.int .i64 47482, .bool true]) ∧ Below w.heap.size w w' := by
  have H := hidD (parse_20 w)
  go_enter Tryz.func107, Tryz.ntmps107
  go_wp2_with fail
  refine H.out.mono ?_
  rintro e w1 ⟨rfl, hb⟩
  have HB := hidD hb
  clear hb
  go_wp2_with fail
  go_ret2
  exact ⟨rfl, HB.out⟩
def setT (t : Trm) (i : Nat) (v : Int) : Trm := if i = 5 then { t with day := v } else if i = 6 then { t with to := v } else if i = 7 then { t with cur := v } else if i = 8 then { t with count := v } else if i = 9 then { t with n := v } else { t with months := v }
theorem TrB.setI {w : World} {g : Nat} {t : Trm} (h : TrB w g t) {i : Nat} (h5 : 5 ≤ i) (hi : i ≤ 10) (v : Int) : TrB (w.setCell ⟨g, i, none⟩ (.int .i64 v)) g (setT t i v) := by
  unfold TrB trC at h ⊢
  rcases (show i = 5 ∨ i = 6 ∨ i = 7 ∨ i = 8 ∨ i = 9 ∨ i = 10 by omega) with rfl | rfl | rfl | rfl | rfl | rfl <;> exact (heap_setCell_same w g _ _ _ _ h).trans rfl
theorem TrB.setX {w : World} {g : Nat} {t : Trm} (h : TrB w g t) (v : Nat) : TrB (w.setCell ⟨g, 3, none⟩ (.float .f64 v)) g { t with x := v } := by
  unfold TrB trC at h ⊢
  exact (heap_setCell_same w g _ _ _ _ h).trans rfl
set_option maxRecDepth 20000 in
set_option maxHeartbeats 1600000 in
theorem readWho (f b i rd wr g : Nat) (lo hi v : Int) (ok : Bool) (s : ByteArray) (ha : AcF f i) (t : Trm) (w : World) (hb : WhoB b f lo hi rd wr w) (ht : TrB w g t) (h5 : 5 ≤ i) (h10 : i ≤ 10) (en : ∀ xs w, (callFunc rd xs).run Tryz.prog w = .ok (.enter rd xs) w) (hr : ∀ wx, Below w.heap.size w wx → Calls Tryz.prog rd #[.string s] wx fun e w' => e = .returned (.tuple #[.int .i64 v, .bool ok]) ∧ Below wx.heap.size wx w') :
    Calls Tryz.prog 142 #[.pointer (some ⟨g, 0, none⟩), .string s, .pointer (some ⟨b + 3, 0, none⟩), .pointer (some ⟨b, 0, none⟩)] w fun e w' => e = .returned (.bool ok) ∧ ∃ w1, Below w.heap.size w w1 ∧ w' = w1.setCell ⟨g, i, none⟩ (.int .i64 v) := by
  obtain ⟨c0, _, _, c3, _⟩ := hb.cells
  have HR := hidD (hr w (Below.refl _ _))
  have HW := hidD (And.intro hb ht)
  have HA := hidD ha.at_
  have he := ha.en
  unfold fnB at c0 c3
  clear hb ht hr ha
  go_enter Tryz.func142, Tryz.ntmps142
  go_wp2_with fail
  refine HR.out.mono ?_
  rintro e w1 ⟨rfl, hb⟩
  have d0 := (HW.out.1.below hb).cells.1
  have ht := HW.out.2.below hb
  have dc : w1.cell? ⟨g, i, none⟩ = some (.int .i64 (tAt t i)) := by
    have h := ht
    unfold TrB at h
    simp only [World.cell?, h, Option.isSome_none, Bool.false_eq_true, if_false]
    exact trC_at t h5 h10
  have df := ht.frozen i
  have HB := hidD hb
  unfold fnB at d0
  clear hb ht c0 c3 HR
  go_wp2_with fail
  refine (HA.out _ _).mono ?_
  rintro e w2 ⟨rfl, rfl⟩
  go_wp2_with fail
  go_ret
  exact ⟨rfl, _, HB.out, rfl⟩
end Go.Proofs.YtienedhaogjahaaGreatDoor
