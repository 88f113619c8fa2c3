/- The walk of RateForwards: Forward of any numbers, Convert of any kinds. -/
import Derived.Test.YtbkmbdbjeiffpaaGreatRaH
import Derived.Test.YtbkmbdbjeiffpaaGreatWFnHorners
namespace Go.Proofs.YtbkmbdbjeiffpaaGreat
open Go.RowKit

set_option maxHeartbeats 800000 in
theorem convert_kind (k k' : Int) (r t : Nat) (w : World) (h : ¬ (1 ≤ k' ∧ k' ≤ 6)) :
    Calls Tryz.prog 7 #[.int .i64 k, .int .i64 k', .float .f64 r, .float .f64 t] w fun e w' => e = .returned (.tuple #[.float .f64 0, .int .i64 90]) ∧ Below w.heap.size w w' := by
  have H := hideS fun w => forms_none k' w h
  clear h
  go_enter Tryz.func7, Tryz.ntmps7
  go_wp2_with fail
  refine (H.out _).mono ?_
  rintro e w1 ⟨rfl, hb⟩
  go_wp2_with fail
  go_ret2
  exact ⟨rfl, hb.alloc hb.size _⟩

set_option maxHeartbeats 1600000 in
theorem convert_err (k k' E : Int) (r t F : Nat) (w : World) (h : 1 ≤ k' ∧ k' ≤ 6) (hE : E ≠ 0) (HF : Hid (∀ w, Calls Tryz.prog 19 #[.int .i64 k, .float .f64 r, .float .f64 t] w fun e w' => e = .returned (.tuple #[.float .f64 F, .int .i64 E]) ∧ Below w.heap.size w w')) :
    Calls Tryz.prog 7 #[.int .i64 k, .int .i64 k', .float .f64 r, .float .f64 t] w fun e w' => e = .returned (.tuple #[.float .f64 0, .int .i64 E]) ∧ Below w.heap.size w w' := by
  have H := hideS fun w => forms_any k' w h
  have hE' : (E != 0) = true := bne_iff_ne.2 hE
  clear h hE
  go_enter Tryz.func7, Tryz.ntmps7
  go_wp2_with fail
  refine (H.out _).mono ?_
  rintro e w1 ⟨a, b, cap, rfl, _, hb⟩
  have HB : Hid (∀ o, Below w.heap.size w (w1.alloc o)) := fun o => hb.alloc hb.size o
  clear hb
  go_wp2_with fail
  refine (HF.out _).mono ?_
  rintro e w2 ⟨rfl, hb2⟩
  have B2 := hideS ((HB.out _).trans (hb2.mono (HB.out _).size))
  clear hb2
  go_wp2_with fail
  go_ret2
  exact ⟨rfl, B2.out⟩

set_option maxHeartbeats 1600000 in
theorem convert_ok (k k' E : Int) (r t F Y : Nat) (w : World) (h : 1 ≤ k' ∧ k' ≤ 6) (HF : Hid (∀ w, Calls Tryz.prog 19 #[.int .i64 k, .float .f64 r, .float .f64 t] w fun e w' => e = .returned (.tuple #[.float .f64 F, .int .i64 0]) ∧ Below w.heap.size w w')) (HY : Hid (∀ w, Calls Tryz.prog 20 #[.int .i64 k', .float .f64 F, .float .f64 t] w fun e w' => e = .returned (.tuple #[.float .f64 Y, .int .i64 E]) ∧ Below w.heap.size w w')) :
    Calls Tryz.prog 7 #[.int .i64 k, .int .i64 k', .float .f64 r, .float .f64 t] w fun e w' => e = .returned (.tuple #[.float .f64 Y, .int .i64 E]) ∧ Below w.heap.size w w' := by
  have H := hideS fun w => forms_any k' w h
  clear h
  go_enter Tryz.func7, Tryz.ntmps7
  go_wp2_with fail
  refine (H.out _).mono ?_
  rintro e w1 ⟨a, b, cap, rfl, _, hb⟩
  have HB : Hid (∀ o, Below w.heap.size w (w1.alloc o)) := fun o => hb.alloc hb.size o
  clear hb
  go_wp2_with fail
  refine (HF.out _).mono ?_
  rintro e w2 ⟨rfl, hb2⟩
  have B2 := hideS ((HB.out _).trans (hb2.mono (HB.out _).size))
  clear hb2
  go_wp2_with fail
  refine (HY.out _).mono ?_
  rintro e w3 ⟨rfl, hb3⟩
  have B3 := hideS (B2.out.trans (hb3.mono B2.out.size))
  clear hb3
  go_wp2_with fail
  go_ret2
  exact ⟨rfl, B3.out⟩

theorem convert_both (k k' : Int) (r t : Nat) (hr : r < 18446744073709551616) (ht : t < 18446744073709551616) : ∃ F E, SameA 7 8 #[.int .i64 k, .int .i64 k', .float .f64 r, .float .f64 t] #[.int .i64 k, .int .i64 k', .int .u64 (r : Int), .int .u64 (t : Int)] F E := by
  by_cases h' : 1 ≤ k' ∧ k' ≤ 6
  · by_cases h : 1 ≤ k ∧ k ≤ 6
    · obtain ⟨F, E, hF⟩ := factor_both k r t hr ht
      by_cases hE : E = 0
      · subst hE
        obtain ⟨Y, G, hY⟩ := yield_both k' F t hF.lt ht
        exact ⟨Y, G, fun w => convert_ok k k' G r t F Y w h' hF.prog hY.prog, fun w => refConvert_ok k k' r t F Y G w h h' hF.doc hY.doc, hY.lt⟩
      · exact ⟨0, E, fun w => convert_err k k' E r t F w h' hE hF.prog, fun w => refConvert_err k k' r t F E w h h' hE hF.doc, by decide⟩
    · exact ⟨0, 90, fun w => convert_err k k' 90 r t 0 w h' (by decide) (fun w => factor_kind k r t w h), fun w => refConvert_kind k k' r t w (fun a => h a.1), by decide⟩
  · exact ⟨0, 90, fun w => convert_kind k k' r t w h', fun w => refConvert_kind k k' r t w (fun a => h' a.2), by decide⟩

set_option maxRecDepth 20000 in
set_option maxHeartbeats 3200000 in
theorem rateForwards_walk (a b t : Nat) (k k' : Int) (wa : (Lit.float .f64 a).wf = true) (wb : (Lit.float .f64 b).wf = true) (wt : (Lit.float .f64 t).wf = true) (_ : (Lit.int .i64 k).wf = true) (_ : (Lit.int .i64 k').wf = true) (w : World) :
    Calls Tryz.prog 3 #[.float .f64 a, .float .f64 b, .float .f64 t, .int .i64 k, .int .i64 k'] w fun e w' => e = .returned (.bool true) ∧ Below w.heap.size w w' := by
  have ha : a < 18446744073709551616 := by have := (u64_of_wf wa).2; omega
  have hb : b < 18446744073709551616 := by have := (u64_of_wf wb).2; omega
  have ht : t < 18446744073709551616 := by have := (u64_of_wf wt).2; omega
  obtain ⟨F, E, h⟩ := forward_both a b t ha hb ht
  obtain ⟨G, D, g⟩ := convert_both k k' a t ha ht
  have HP := hideS h.prog
  have HD := hideS h.doc
  have GP := hideS g.prog
  have GD := hideS g.doc
  have B1 := hideS (bits_any a)
  have B2 := hideS (bits_any b)
  have B3 := hideS (bits_any t)
  have HIs := hideS fun w => isA F (F : Int) w (u64_of_nat h.lt) (u64_of_nat h.lt) (sameB_refl _)
  have GIs := hideS fun w => isA G (G : Int) w (u64_of_nat g.lt) (u64_of_nat g.lt) (sameB_refl _)
  clear wa wb wt ha hb ht h g
  generalize (F : Int) = u at HD HIs
  generalize (G : Int) = v at GD GIs
  generalize (a : Int) = ai at HD GD B1
  generalize (b : Int) = bi at HD B2
  generalize (t : Int) = ti at HD GD B3
  go_enter Tryz.func3, Tryz.ntmps3
  go_wp2_with fail
  refine (HP.out _).mono ?_
  rintro e w1 ⟨rfl, hb1⟩
  go_wp2_with fail
  refine (turned (B1.out _)).mono ?_
  rintro e w' ⟨rfl, rfl⟩
  go_wp2_with fail
  refine (turned (B2.out _)).mono ?_
  rintro e w' ⟨rfl, rfl⟩
  go_wp2_with fail
  refine (turned (B3.out _)).mono ?_
  rintro e w' ⟨rfl, rfl⟩
  go_wp2_with fail
  refine (HD.out _).mono ?_
  rintro e w2 ⟨rfl, hb2⟩
  have C2 := hideS (hb1.trans (hb2.mono hb1.size))
  clear hb1 hb2
  go_wp2_with fail
  refine (GP.out _).mono ?_
  rintro e w3 ⟨rfl, hb3⟩
  have C3 := hideS (C2.out.trans (hb3.mono C2.out.size))
  clear hb3 C2
  go_wp2_with fail
  refine (turned (B1.out _)).mono ?_
  rintro e w' ⟨rfl, rfl⟩
  go_wp2_with fail
  refine (turned (B3.out _)).mono ?_
  rintro e w' ⟨rfl, rfl⟩
  go_wp2_with fail
  refine (GD.out _).mono ?_
  rintro e w4 ⟨rfl, hb4⟩
  have C4 := hideS (C3.out.trans (hb4.mono C3.out.size))
  clear hb4 C3
  go_wp2_with fail
  refine (HIs.out _).mono ?_
  rintro e w' ⟨rfl, rfl⟩
  go_wp2_with fail
  refine (GIs.out _).mono ?_
  rintro e w' ⟨rfl, rfl⟩
  go_wp2_with (go_at_call 10; refine (awake9 _).mono ?_; rintro e w9 ⟨rfl, hb9⟩)
  go_ret
  exact ⟨rfl, C4.out.trans (hb9.mono C4.out.size)⟩
end Go.Proofs.YtbkmbdbjeiffpaaGreat
