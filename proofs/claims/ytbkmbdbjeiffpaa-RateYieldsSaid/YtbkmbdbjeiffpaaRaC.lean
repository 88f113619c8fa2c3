/- The contracts of package rate's compound formulas. -/
import Derived.Test.YtbkmbdbjeiffpaaRaPQ
namespace Go.Proofs.Ytbkmbdbjeiffpaa
open Go.RowKit

def timB (m r : Nat) : Option Nat := opO .add (some one64) (opO .quo (some r) (some m))
noncomputable def timO (m r t : Nat) : Option Nat := if leB (timB m r) = true then some 0 else expO (negO (opO .mul (opO .mul (some m) (some t)) (lnO1 (timB m r))))
theorem cell_dN {w : World} {p : Addr} {v : Value} (h : w.cell? p = some v) (q : Nat) : (w.drewN q).cell? p = some v := h
theorem cell_dr {w : World} {p : Addr} {v : Value} (h : w.cell? p = some v) : w.drew.cell? p = some v := h

set_option maxRecDepth 10000 in
set_option maxHeartbeats 3200000 in
theorem compFactor_ag (m r t p g : Nat) (w : World) (hm : m < 18446744073709551616) (hr : r < 18446744073709551616) (hp : floatBits .mul .f64 m t = some p) (hc : w.cell? ⟨g, 0, none⟩ = some (.float .f64 m)) (hg : g < w.heap.size) :
    Calls Try.prog 59 #[.float .f64 r, .float .f64 t, .pointer (some ⟨g, 0, none⟩)] w fun e w' => ∃ f, e = .returned (.float .f64 f) ∧ AgU (timO m r t) f ∧ Below w.heap.size w w' := by
  obtain ⟨d, ⟨q1, r1⟩, g1⟩ := op_prog .quo (by simp) 22 (agU_some hr) (agU_some hm) w
  obtain ⟨b, ⟨q2, r2⟩, g2⟩ := op_prog .add (by simp) 22 (agU_some (show one64 < 18446744073709551616 by decide)) g1 (w.drewN q1)
  obtain ⟨l, e, o1, o2, hle⟩ := leB_of (o := timB m r) g2
  have hpr := fun w => run_float_arith (P := Try.prog) w .mul 22 .f64 _ _ _ hp
  have hp64 : p < 18446744073709551616 := float_lt (by simp) hp
  have hpo : opO .mul (some m) (some t) = some p := hp
  have HL := hideS fun w => ln_prog g2 w
  have G0 : Hid ((l || e) = true → AgU (timO m r t) 0) := fun h => by
    unfold timO
    rw [if_pos (by rw [← hle]; exact h)]; exact ⟨rfl, by decide⟩
  have G3 : Hid ((l || e) = false → timO m r t = expO (negO (opO .mul (some p) (lnO1 (timB m r))))) := fun h => by
    unfold timO
    rw [if_neg (by rw [← hle, h]; decide), hpo]
  have HP := hideS hp64
  have hneg := run_neg9
  have HB : Hid (∀ q, Below w.heap.size w (w.drewN q)) := below_dN (Below.refl _ _)
  have HG := hideS hg
  clear g1 g2 hle hr hm hp hp64 hpo hg
  cases l <;> cases e
  case true.true | true.false | false.true =>
    go_enter Try.func59, Try.ntmps59
    go_wp2_with fail
    go_ret
    exact ⟨_, rfl, G0.out rfl, HB.out _⟩
  case false.false =>
    rw [World.drewN_drewN] at *
    go_enter Try.func59, Try.ntmps59
    go_wp2_with fail
    obtain ⟨w1, hw1⟩ : ∃ w1, w.drewN (q1 + q2) = w1 := ⟨_, rfl⟩
    have hc1 : w1.cell? ⟨g, 0, none⟩ = some (.float .f64 m) := by rw [← hw1]; exact hc
    have B1 : Hid (Below w.heap.size w w1) := by rw [← hw1]; exact HB.out _
    have L1 : Hid (g < w1.heap.size) := by rw [← hw1]; exact HG.out
    rw [hw1]
    clear hw1 r1 r2 hc
    have K1 := hideS hc1
    go_region_with (first
      | ((go_at_call 61; (with_reducible refine (HL.out _).mono ?_); rintro e w3 ⟨y, rfl, hy, hb3⟩; have B3 := hideS (Below.trans (show Below w.heap.size w w1.drew from below_dN B1.out 1) (hb3.mono B1.out.size)); have K3 : Hid (w3.cell? ⟨g, 0, none⟩ = some (.float .f64 m)) := (hb3.cell (p := ⟨g, 0, none⟩) L1.out).trans K1.out; have k3 := K3.out; have L3 : Hid (g < w3.heap.size) := Nat.lt_of_lt_of_le L1.out hb3.size; obtain ⟨s, ⟨q4, r4⟩, g4⟩ := op_prog .mul (by simp) 22 (agU_some HP.out) hy w3; have hfl := neg_flip g4.2; have HE := hideS fun w => exp_prog (negO_ag g4) w; clear hb3 hy g4; generalize flipN s = n at hfl HE))
      | ((go_at_call 60; (with_reducible refine (HE.out _).mono ?_); rintro e w5 ⟨f, rfl, hf, hb5⟩; have B5 := hideS (Below.trans (below_dN B3.out q4) (hb5.mono B3.out.size)); have k5 : w5.cell? ⟨g, 0, none⟩ = some (.float .f64 m) := (hb5.cell (p := ⟨g, 0, none⟩) L3.out).trans K3.out; have F5 := hideS hf; clear hb5 hf)))
    all_goals
      go_wp2_with fail
      go_ret
      exact ⟨_, rfl, by rw [G3.out rfl]; exact F5.out, B5.out⟩

noncomputable def timY (m f t : Nat) : Option Nat := opO .mul (some m) (opO .sub (expO (opO .quo (negO (lnO1 (some f))) (opO .mul (some m) (some t)))) (some one64))

set_option maxRecDepth 10000 in
set_option maxHeartbeats 3200000 in
theorem compYield_ag (m f t p g : Nat) (w : World) (hm : m < 18446744073709551616) (hf : f < 18446744073709551616) (hp : floatBits .mul .f64 m t = some p) (hc : w.cell? ⟨g, 0, none⟩ = some (.float .f64 m)) (hg : g < w.heap.size) :
    Calls Try.prog 62 #[.float .f64 f, .float .f64 t, .pointer (some ⟨g, 0, none⟩)] w fun e w' => ∃ r, e = .returned (.float .f64 r) ∧ AgU (timY m f t) r ∧ Below w.heap.size w w' := by
  have hpr := fun w => run_float_arith (P := Try.prog) w .mul 22 .f64 _ _ _ hp
  have hp64 : p < 18446744073709551616 := float_lt (by simp) hp
  have hpo : opO .mul (some m) (some t) = some p := hp
  have HL := hideS fun w => ln_prog (agU_some hf) w
  have G3 : Hid (timY m f t = opO .mul (some m) (opO .sub (expO (opO .quo (negO (lnO1 (some f))) (some p))) (some one64))) := by
    show _ = _
    unfold timY
    rw [hpo]
  have HP := hideS hp64
  have HM := hideS hm
  have hneg := run_neg9
  have L1 := hideS hg
  have K1 := hideS hc
  have B1 : Hid (Below w.heap.size w w.drew) := below_dN (Below.refl _ _) 1
  clear hf hp hp64 hpo hg hm
  go_enter Try.func62, Try.ntmps62
  go_wp2_with fail
  go_region_with (first
    | ((go_at_call 61; (with_reducible refine (HL.out _).mono ?_); rintro e w3 ⟨y, rfl, hy, hb3⟩; have B3 := hideS (Below.trans B1.out (hb3.mono B1.out.size)); have K3 : Hid (w3.cell? ⟨g, 0, none⟩ = some (.float .f64 m)) := (hb3.cell (p := ⟨g, 0, none⟩) L1.out).trans K1.out; have k3 := K3.out; have L3 : Hid (g < w3.heap.size) := Nat.lt_of_lt_of_le L1.out hb3.size; have hfl := neg_flip hy.2; have hny := negO_ag hy; clear hb3 hy; generalize flipN y = n at hfl hny; obtain ⟨s, ⟨q4, r4⟩, g4⟩ := op_prog .quo (by simp) 22 hny (agU_some HP.out) w3; have HE := hideS fun w => exp_prog g4 w; clear hny g4))
    | ((go_at_call 60; (with_reducible refine (HE.out _).mono ?_); rintro e w5 ⟨x, rfl, hx, hb5⟩; have B5 := hideS (Below.trans (below_dN B3.out q4) (hb5.mono B3.out.size)); have k5 : w5.cell? ⟨g, 0, none⟩ = some (.float .f64 m) := (hb5.cell (p := ⟨g, 0, none⟩) L3.out).trans K3.out; obtain ⟨d, ⟨q6, r6⟩, g6⟩ := op_prog .sub (by simp) 22 hx (agU_some (show one64 < 18446744073709551616 by decide)) w5; obtain ⟨r, ⟨q7, r7⟩, g7⟩ := op_prog .mul (by simp) 22 (agU_some HM.out) g6 (w5.drewN q6); have F7 := hideS g7; clear hb5 hx g6 g7)))
  all_goals
    go_wp2_with fail
    go_ret
    exact ⟨_, rfl, by rw [G3.out]; exact F7.out, below_dN B5.out _⟩
end Go.Proofs.Ytbkmbdbjeiffpaa
