/- The walk of DateTexts: texts of days of the program are the document's. -/
import Derived.Test.YtgigmepilpfefaaDoorDAwake
import Derived.Test.YtgigmepilpfefaaDoorDPrint
import Derived.Test.YtgigmepilpfefaaDoorDRefPrt
namespace Go.Proofs.YtgigmepilpfefaaDoor
open Go.RowKit

theorem Tab.up {B : Nat} {w w' : World} (h : Tab B w) (hb : Below B w w') (hB : B ≤ w.heap.size) : Tab w'.heap.size w' := fun w2 h2 => h w2 (hb.trans (h2.mono (Nat.le_trans hB hb.size)))
theorem isD_nat {n y m d : Int} (h : IsD n y m d) : ∃ a b c : Nat, IsD n a b c ∧ (a : Int) = y ∧ (b : Int) = m ∧ (c : Int) = d := by
  obtain ⟨⟨h1, h2, h3, h4, h5, h6⟩, hn⟩ := h
  refine ⟨y.toNat, m.toNat, d.toNat, ?_, by omega, by omega, by omega⟩
  rw [show ((y.toNat : Nat) : Int) = y by omega, show ((m.toNat : Nat) : Int) = m by omega, show ((d.toNat : Nat) : Int) = d by omega]
  exact ⟨⟨h1, h2, h3, h4, h5, h6⟩, hn⟩
theorem parse_both (s : ByteArray) : ∃ A E : Int, (∀ w, Calls Tryd.prog 5 #[.string s] w fun e w' => e = .returned (.tuple #[.int .i64 A, .int .i64 E]) ∧ Below w.heap.size w w') ∧
    (∀ w, Calls Tryd.prog 6 #[.string s] w fun e w' => e = .returned (.tuple #[.int .i64 A, .int .i64 E]) ∧ Below w.heap.size w w') := by
  by_cases h : txtOk s ∧ okD (parseY s) (parseM s) (parseD s)
  · exact ⟨_, _, fun w => parse_day s w h.1 h.2, fun w => refParse_day s w h.1 h.2⟩
  · exact ⟨_, _, fun w => parse_none s w h, fun w => refParse_none s w h⟩
theorem print_both (n : Int) : ∃ (T : ByteArray) (E : Int), (∀ w, Tab w.heap.size w → Calls Tryd.prog 7 #[.int .i64 n] w fun e w' => e = .returned (.tuple #[.string T, .int .i64 E]) ∧ Below w.heap.size w w') ∧
    (∀ w, Calls Tryd.prog 8 #[.int .i64 n] w fun e w' => e = .returned (.tuple #[.string T, .int .i64 E]) ∧ Below w.heap.size w w') := by
  by_cases h : 0 ≤ n ∧ n ≤ 109572
  · obtain ⟨y, m, d, hd⟩ := isD_ex h.1 h.2
    obtain ⟨a, b, c, hd, _, _, _⟩ := isD_nat hd
    exact ⟨_, _, fun w hT => print_ok n a b c w hT hd, fun w => refPrint_ok n a b c w hd⟩
  · refine ⟨⟨#[]⟩, 51, fun w _ => (print_bad n w h).mono ?_, fun w => refPrint_bad n w h⟩
    rintro e w' ⟨rfl, rfl⟩
    exact ⟨rfl, Below.refl _ _⟩

set_option maxRecDepth 10000 in
set_option maxHeartbeats 800000 in
theorem dateTexts_walk (s : ByteArray) (n : Int) (w : World) (hT : Tab w.heap.size w) :
    Calls Tryd.prog 3 #[.string s, .int .i64 n] w fun e w' => e = .returned (.bool true) ∧ Below w.heap.size w w' := by
  obtain ⟨A1, E1, p1, r1⟩ := parse_both s
  obtain ⟨T, E2, p2, r2⟩ := print_both n
  have P1 := hideS p1
  have R1 := hideS r1
  have P2 := hideS p2
  have R2 := hideS r2
  have HT := hideS hT
  clear p1 r1 p2 r2 hT
  go_enter Tryd.func3, Tryd.ntmps3
  go_wp2_with fail
  refine (P1.out _).mono ?_
  rintro e w1 ⟨rfl, hb1⟩
  have HB1 := hideS hb1
  clear hb1
  go_wp2_with fail
  refine (R1.out _).mono ?_
  rintro e w2 ⟨rfl, hb2⟩
  have HB2 := hideS (HB1.out.trans (hb2.mono HB1.out.size))
  clear hb2
  go_wp2_with fail
  refine (P2.out _ (HT.out.up HB2.out (Nat.le_refl _))).mono ?_
  rintro e w3 ⟨rfl, hb3⟩
  have HB3 := hideS (HB2.out.trans (hb3.mono HB2.out.size))
  clear hb3
  go_wp2_with fail
  refine (R2.out _).mono ?_
  rintro e w4 ⟨rfl, hb4⟩
  have HB4 := hideS (HB3.out.trans (hb4.mono HB3.out.size))
  clear hb4
  go_wp2_with fail
  refine (awake_true _).mono ?_
  rintro e w5 ⟨rfl, hb5⟩
  have HB5 := hideS (HB4.out.trans (hb5.mono HB4.out.size))
  clear hb5
  go_wp2_with fail
  go_ret
  exact ⟨rfl, HB5.out⟩
end Go.Proofs.YtgigmepilpfefaaDoor
