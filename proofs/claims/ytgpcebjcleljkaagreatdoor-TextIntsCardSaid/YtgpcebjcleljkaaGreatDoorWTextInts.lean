/- The walk of TextInts. -/
import Derived.Test.YtgpcebjcleljkaaGreatDoorTqN
namespace Go.Proofs.YtgpcebjcleljkaaGreatDoor
open Go.RowKit

theorem int_both (s : ByteArray) (hs : s.size ≤ 281474976710656) : ∃ (n : Int) (ok : Bool), (∀ w, ErV 0 w → ErV 1 w → Calls Tryz.prog 4 #[.string s] w fun e w' => e = .returned (.tuple #[.int .i64 n, .bool ok]) ∧ Below w.heap.size w w') ∧ ∀ m is, IntD s m is → m = n ∧ is = ok := by
  by_cases hW : WhP s
  · by_cases hv : ∃ v, Lib.atoiAll s.data.toList = .ok v
    · obtain ⟨v, hv⟩ := hv
      exact ⟨v, true, fun w _ _ => int_ok s (by omega) hW v hv w, fun m is h => h.yes hW v hv⟩
    · have hv' : ∀ v, Lib.atoiAll s.data.toList ≠ .ok v := fun v h => hv ⟨v, h⟩
      exact ⟨0, false, fun w h1 h2 => int_bad s hs hW hv' w h1 h2, fun m is h => h.far hW hv'⟩
  · exact ⟨0, false, fun w _ _ => (int_no s w (by omega) hW).mono fun e w' ⟨he, hw⟩ => ⟨he, by rw [hw]; exact Below.refl _ _⟩, fun m is h => h.no hW⟩
set_option maxRecDepth 20000 in
set_option maxHeartbeats 6400000 in
theorem textInts_walk (s : ByteArray) (w : World) (hs : s.size ≤ 281474976710656) (hA : AwT w) (h1 : ErV 0 w) (h2 : ErV 1 w) :
    Calls Tryz.prog 3 #[.string s] w fun e w' => e = .returned (.bool true) ∧ Below w.heap.size w w' := by
  obtain ⟨n, ok, hI, hR⟩ := int_both s hs
  have HI := hide (hI w h1 h2)
  have HR : Hid (∀ w1, Below w.heap.size w w1 → Calls Tryz.prog 5 #[.string s] w1 fun e w' => e = .returned (.tuple #[.int .i64 n, .bool ok]) ∧ Below w.heap.size w w') := fun w1 hb => (ref2Int_any s hs w1).mono fun e w' ⟨m, is, he, hd, hb'⟩ => by
    obtain ⟨rfl, rfl⟩ := hR m is hd
    exact ⟨he, hb.trans (hb'.mono hb.size)⟩
  have HAw : Hid (∀ w1, Below w.heap.size w w1 → Calls Tryz.prog 6 #[] w1 fun e w' => e = .returned (.bool true) ∧ Below w.heap.size w w') := fun w1 hb => (awake2 w1 (hA.below hb)).mono fun e w' ⟨he, hb'⟩ => ⟨he, hb.trans (hb'.mono hb.size)⟩
  clear hs hA h1 h2 hI hR
  cases ok
  all_goals
    go_enter Tryz.func3, Tryz.ntmps3
    go_wp2_with fail
    refine HI.out.mono ?_
    rintro e w1 ⟨rfl, hb⟩
    have H1 := hide hb
    clear hb
    go_wp2_with fail
    refine (HR.out _ H1.out).mono ?_
    rintro e w2 ⟨rfl, hb⟩
    have H2 := hide hb
    clear hb
    go_wp2_with fail
    refine (HAw.out _ H2.out).mono ?_
    rintro e w3 ⟨rfl, hb⟩
    have H3 := hide hb
    clear hb
    go_wp2_with fail
    go_ret
    exact ⟨rfl, H3.out⟩
end Go.Proofs.YtgpcebjcleljkaaGreatDoor
