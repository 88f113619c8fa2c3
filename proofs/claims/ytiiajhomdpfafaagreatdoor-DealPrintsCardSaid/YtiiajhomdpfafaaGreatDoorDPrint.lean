/- The contract of Print. -/
import Derived.Test.YtiiajhomdpfafaaGreatDoorHas
import Derived.Test.YtiiajhomdpfafaaGreatDoorDDig
import Derived.Test.YtiiajhomdpfafaaGreatDoorHau
import Derived.Lib.AppendIntMem
namespace Go.Proofs.YtiiajhomdpfafaaGreatDoor
open Go.RowKit

def Tab (B : Nat) (w : World) : Prop := Lib.TabBelow Tryz.prog B w "internal/strconv.uint64pow10" .u64 Lib.pow10Tab
theorem Tab.below {B : Nat} {w w' : World} (h : Tab B w) (hb : Below B w w') : Tab B w' := fun w2 h2 => h w2 (hb.trans h2)

theorem itoa_any (n : Nat) (w : World) (B : Nat) (hT : Tab B w) (h : n < 100000) :
    Calls Tryz.prog 83 #[.int .i64 (n : Int)] w fun e w' => e = .returned (.string ⟨(Lib.decDigits n).toArray⟩) ∧ Below w.heap.size w w' := by
  have := Any.strconv_Itoa Tryz.laysM171 (n : Int) (by omega) (by omega) w (hT w (Below.refl _ _))
  refine this.mono ?_
  rintro e w' ⟨rfl, k, os, rfl⟩
  refine ⟨?_, Lib.below_grow _ _ (Nat.le_refl _) _ _⟩
  unfold Lib.itoa
  rw [if_neg (by omega)]
  rfl
theorem size4 (n : Nat) : (t4 n).size = 4 := rfl
theorem size2 (n : Nat) : (t2 n).size = 2 := rfl
theorem size3 (n : Nat) : (⟨#[dg (n / 100), dg (n / 10), dg n]⟩ : ByteArray).size = 3 := rfl

set_option maxHeartbeats 400000 in
theorem two_any (x : Nat) (w : World) (B : Nat) (hT : Tab B w) (h : x < 100) :
    Calls Tryz.prog 158 #[.int .i64 (x : Int)] w fun e w' => e = .returned (.string (t2 x)) ∧ Below w.heap.size w w' := by
  have hi := itoa_any (100 + x) w B hT (by omega)
  rw [dec3 (by omega) (by omega), show (((100 + x : Nat) : Int)) = 100 + (x : Int) by omega] at hi
  have hc := two_cut x
  have hz := size3 (100 + x)
  have HI := hideS hi
  clear hi hT
  generalize (⟨#[dg ((100 + x) / 100), dg ((100 + x) / 10), dg (100 + x)]⟩ : ByteArray) = s at *
  generalize t2 x = R at *
  have x0 : 0 ≤ (x : Int) := by omega
  have x1 : (x : Int) < 100 := by omega
  generalize (x : Int) = X at *
  go_enter Tryz.func158, Tryz.ntmps158
  go_wp2_with (go_at_call 83; refine HI.out.mono ?_; rintro e w' ⟨rfl, hb⟩)
  go_ret
  exact ⟨rfl, hb⟩

set_option maxHeartbeats 800000 in
theorem print_ok (n : Int) (y m d : Nat) (w : World) (hT : Tab w.heap.size w) (h : IsD n y m d) :
    Calls Tryz.prog 120 #[.int .i64 n] w fun e w' => e = .returned (.tuple #[.string (dateT y m d), .int .i64 0]) ∧ Below w.heap.size w w' := by
  have HC := hideS (civil_ok n y m d w h)
  obtain ⟨y1, y2, m1, m2, d1, d2⟩ := h.1
  have d3 := len_hi (y : Int) (m : Int)
  have h1 := itoa_any y w w.heap.size hT (by omega)
  rw [dec4 (by omega) (by omega)] at h1
  have H1 := hideS h1
  have H2 : Hid (∀ w', Below w.heap.size w w' → Calls Tryz.prog 158 #[.int .i64 (m : Int)] w' fun e w'' => e = .returned (.string (t2 m)) ∧ Below w'.heap.size w' w'') := fun w' hb =>
    two_any m w' w.heap.size (hT.below hb) (by omega)
  have H3 : Hid (∀ w', Below w.heap.size w w' → Calls Tryz.prog 158 #[.int .i64 (d : Int)] w' fun e w'' => e = .returned (.string (t2 d)) ∧ Below w'.heap.size w' w'') := fun w' hb =>
    two_any d w' w.heap.size (hT.below hb) (by omega)
  unfold dateT dash
  have z1 := size4 y
  have z2 := size2 m
  have z3 := size2 d
  clear h1 h hT d2 d3
  generalize t4 y = s1 at *
  generalize t2 m = s2 at *
  generalize t2 d = s3 at *
  generalize (y : Int) = Y at *
  generalize (m : Int) = M at *
  generalize (d : Int) = D at *
  go_enter Tryz.func120, Tryz.ntmps120
  go_wp2_with fail
  refine HC.out.mono ?_
  rintro e w' ⟨rfl, hw⟩
  obtain rfl := hw.symm
  go_wp2_with fail
  refine H1.out.mono ?_
  rintro e w1 ⟨rfl, hb1⟩
  have HB1 := hideS hb1
  clear hb1
  go_wp2_with fail
  refine (H2.out _ HB1.out).mono ?_
  rintro e w2 ⟨rfl, hb2⟩
  have HB2 := hideS (HB1.out.trans (hb2.mono HB1.out.size))
  clear hb2
  go_wp2_with fail
  refine (H3.out _ HB2.out).mono ?_
  rintro e w3 ⟨rfl, hb3⟩
  have HB3 := hideS (HB2.out.trans (hb3.mono HB2.out.size))
  clear hb3
  go_wp2_with fail
  go_ret2
  exact ⟨rfl, HB3.out⟩
end Go.Proofs.YtiiajhomdpfafaaGreatDoor
