/- The closed look of every statement of this layer: the document's fixed answers. -/
import Derived.Test.YtgigmepilpfefaaDoorDParse
import Derived.Test.YtgigmepilpfefaaDoorDCiv
import Derived.Test.YtgigmepilpfefaaDoorDNamed
namespace Go.Proofs.YtgigmepilpfefaaDoor
open Go.RowKit

def easterText : ByteArray := ⟨#[50, 48, 50, 53, 45, 48, 52, 45, 50, 48]⟩
theorem et_txt : txtOk easterText := by decide +kernel
theorem et_ok : okD (parseY easterText) (parseM easterText) (parseD easterText) := by
  have e1 : parseY easterText = 2025 := by decide +kernel
  have e2 : parseM easterText = 4 := by decide +kernel
  have e3 : parseD easterText = 20 := by decide +kernel
  rw [e1, e2, e3]
  unfold okD; decide
theorem et_day : dayI (parseY easterText) (parseM easterText) (parseD easterText) = 45765 := by decide +kernel

set_option maxHeartbeats 800000 in
theorem awake_true (w : World) :
    Calls Tryd.prog 9 #[] w fun e w' => e = .returned (.bool true) ∧ Below w.heap.size w w' := by
  have H1 : Hid (∀ w, Calls Tryd.prog 12 #[.int .i64 1970, .int .i64 1, .int .i64 1] w fun e w' => e = .returned (.tuple #[.int .i64 25567, .int .i64 0]) ∧ w' = w) := fun w => by
    have := ofP_ok 1970 1 1 w (by unfold okD; decide)
    rw [show dayI 1970 1 1 = 25567 by decide] at this; exact this
  have H2 : Hid (∀ w, Calls Tryd.prog 14 #[.int .i64 45656] w fun e w' => e = .returned (.tuple #[.int .i64 2, .int .i64 0]) ∧ w' = w) := fun w => by
    have := weekday_ok 45656 w (by decide)
    rw [show (45656 % 7 : Int) = 2 by decide] at this; exact this
  have H3 : Hid (∀ w, Calls Tryd.prog 23 #[.int .i64 2025] w fun e w' => e = .returned (.tuple #[.int .i64 45765, .int .i64 0]) ∧ w' = w) := fun w => by
    have := easter_ok 2025 w (by decide) (by decide)
    rw [show eaDay 2025 = 45765 by decide] at this; exact this
  have H4 : Hid (∀ w, Calls Tryd.prog 5 #[.string ⟨#[50, 48, 50, 53, 45, 48, 52, 45, 50, 48]⟩] w fun e w' => e = .returned (.tuple #[.int .i64 45765, .int .i64 0]) ∧ Below w.heap.size w w') := fun w => by
    have := parse_day easterText w et_txt et_ok
    rw [et_day] at this; exact this
  go_enter Tryd.func9, Tryd.ntmps9
  go_wp2_with (first | (go_at_call 12; refine (H1.out _).mono ?_; rintro e w' ⟨rfl, rfl⟩) | (go_at_call 14; refine (H2.out _).mono ?_; rintro e w' ⟨rfl, rfl⟩) | (go_at_call 23; refine (H3.out _).mono ?_; rintro e w' ⟨rfl, rfl⟩) | (go_at_call 5; refine (H4.out _).mono ?_; rintro e w' ⟨rfl, hb⟩))
  go_ret
  exact ⟨rfl, hb⟩
end Go.Proofs.YtgigmepilpfefaaDoor
