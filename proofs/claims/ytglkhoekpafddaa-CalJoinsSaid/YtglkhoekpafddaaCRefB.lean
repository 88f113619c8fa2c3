/- The contract of the document's day. -/
import Derived.Test.YtglkhoekpafddaaCRule
import Derived.Test.YtglkhoekpafddaaCRefA
namespace Go.Proofs.Ytglkhoekpafddaa
open Go.RowKit

theorem day_none {W : Int} {r : Rul} {y : Int} (h : y < r.fr ∨ r.to < y) : dayO W r y = none := by unfold dayO baseO; rw [if_pos h]; rfl

set_option maxHeartbeats 1600000 in
theorem refDay_any (W y : Int) (r : Rul) (v : Value) (w : World) (h0 : 0 ≤ W) (h1 : W ≤ 126) (hf : fitB r = true) (hk : r.kind ≠ 4) :
    Calls Try.prog 55 #[.agg #[.int .i64 W, v], .agg #[.int .i64 r.kind, .int .i64 r.mon, .int .i64 r.day, .int .i64 r.nth, .int .i64 r.wd, .int .i64 r.off, .int .i64 r.fr, .int .i64 r.to, .int .i64 r.mv], .int .i64 y] w fun e w' => e = .returned (.tuple #[.int .i64 ((dayO W r y).getD 0), .bool (dayO W r y).isSome]) ∧ Below w.heap.size w w' := by
  have hb2 : ∀ (o1 o2 : Obj), Below w.heap.size w ((w.alloc o1).alloc o2) := fun o1 o2 => ((Below.refl w.heap.size w).alloc (Nat.le_refl _) _).alloc (by simp) _
  have HB2 := hideS hb2
  clear hb2
  by_cases hy : y < r.fr ∨ r.to < y
  · rw [day_none hy]
    obtain ⟨kind, mon, day, nth, wd, off, fr, to, mv⟩ := r
    dsimp only at *
    rcases (show y < fr ∨ (¬ y < fr ∧ to < y) by omega) with a | ⟨a, b⟩
    all_goals
      clear hy hf hk
      go_enter Try.func55, Try.ntmps55
      go_wp2_with fail
      go_ret2
      exact ⟨rfl, HB2.out _ _⟩
  · rcases fit_cases hf with ⟨a, _⟩ | ⟨⟨f0, f1, f2, v0, v1⟩, hkd⟩
    · exact absurd a hk
    · have y0 : 1900 ≤ y := by omega
      have y1 : y ≤ 2199 := by omega
      have hy1 : ¬ y < r.fr := by omega
      have hy2 : ¬ r.to < y := by omega
      obtain ⟨R, hR⟩ : ∃ R, dayO W r y = R := ⟨_, rfl⟩
      rw [hR]
      have HR := hideS hR
      clear hR
      rcases hkd with ⟨k1, m0, m1, d0, d1⟩ | ⟨k2, m0, m1, w0, w1, c0, c1⟩ | ⟨k3, o0, o1⟩
      · by_cases ho : okD y r.mon r.day
        · obtain ⟨n0, n1⟩ := (isD_of ho).range
          have HO := hideS (fun wx => refOf_ok y r.mon r.day wx ho)
          obtain ⟨u, d, hu⟩ := ups_ex h0 h1 (dayI y r.mon r.day)
          have HM := hideS (fun wx => refMoved_any W (dayI y r.mon r.day) r.mv v u d wx (by omega) (by omega) hu)
          have HE : Hid (some (movI W (dayI y r.mon r.day) r.mv u d) = R) := by
            show _ = R
            rw [← HR.out]
            unfold dayO baseO
            rw [if_neg hy, if_pos k1, if_pos ho, Option.map_some, mv_eq hu]
          generalize movI W (dayI y r.mon r.day) r.mv u d = X at *
          generalize dayI y r.mon r.day = N at *
          obtain ⟨kind, mon, day, nth, wd, off, fr, to, mv⟩ := r
          dsimp only at *
          subst k1
          clear hf hk hy ho hu HR d1
          go_enter Try.func55, Try.ntmps55
          go_wp2_with (first | (go_at_call 62; refine (HO.out _).mono ?_; rintro e w1 ⟨rfl, rfl⟩) | (go_at_call 65; refine (HM.out _).mono ?_; rintro e w1 ⟨rfl, hb1⟩))
          go_ret2
          obtain rfl := HE.out
          exact ⟨rfl, (HB2.out _ _).trans (hb1.mono (by simp; omega))⟩
        · have HO := hideS (fun wx => refOf_bad y r.mon r.day wx ho)
          have HE : Hid (none = R) := by
            show _ = R
            rw [← HR.out]
            unfold dayO baseO
            rw [if_neg hy, if_pos k1, if_neg ho]; rfl
          obtain ⟨kind, mon, day, nth, wd, off, fr, to, mv⟩ := r
          dsimp only at *
          subst k1
          clear hf hk hy ho HR d1
          go_enter Try.func55, Try.ntmps55
          go_wp2_with (go_at_call 62; refine (HO.out _).mono ?_; rintro e w1 ⟨rfl, rfl⟩)
          go_ret2
          obtain rfl := HE.out
          exact ⟨rfl, HB2.out _ _⟩
      · have hym : ymB y r.mon := ⟨y0, y1, m0, m1⟩
        obtain ⟨n0, n1⟩ := nth_rng hym w0 w1 c0 c1
        have HN := hideS (fun wx => refNth_any y r.mon r.wd r.nth wx hym w0 w1 c0 c1)
        obtain ⟨u, d, hu⟩ := ups_ex h0 h1 (nthI y r.mon r.wd r.nth)
        have HM := hideS (fun wx => refMoved_any W (nthI y r.mon r.wd r.nth) r.mv v u d wx (by omega) (by omega) hu)
        have HE : Hid (some (movI W (nthI y r.mon r.wd r.nth) r.mv u d) = R) := by
          show _ = R
          rw [← HR.out]
          unfold dayO baseO
          rw [if_neg hy, if_neg (by omega), if_pos k2, Option.map_some, mv_eq hu]
        generalize movI W (nthI y r.mon r.wd r.nth) r.mv u d = X at *
        generalize nthI y r.mon r.wd r.nth = N at *
        obtain ⟨kind, mon, day, nth, wd, off, fr, to, mv⟩ := r
        dsimp only at *
        subst k2
        clear hf hk hy hym hu HR
        go_enter Try.func55, Try.ntmps55
        go_wp2_with (first | (go_at_call 63; refine (HN.out _).mono ?_; rintro e w1 ⟨rfl, rfl⟩) | (go_at_call 65; refine (HM.out _).mono ?_; rintro e w1 ⟨rfl, hb1⟩))
        go_ret2
        obtain rfl := HE.out
        exact ⟨rfl, (HB2.out _ _).trans (hb1.mono (by simp; omega))⟩
      · obtain ⟨n0, n1⟩ : 0 ≤ eaDay y ∧ eaDay y ≤ 109572 := (isD_of (ea_ok y0 y1).ok).range
        have HN := hideS (fun wx => refEaster_ok y wx y0 y1)
        obtain ⟨u, d, hu⟩ := ups_ex h0 h1 (eaDay y + r.off)
        have HM := hideS (fun wx => refMoved_any W (eaDay y + r.off) r.mv v u d wx (by omega) (by omega) hu)
        have HE : Hid (some (movI W (eaDay y + r.off) r.mv u d) = R) := by
          show _ = R
          rw [← HR.out]
          unfold dayO baseO
          rw [if_neg hy, if_neg (by omega), if_neg (by omega), if_pos k3, Option.map_some, mv_eq hu]
        generalize movI W (eaDay y + r.off) r.mv u d = X at *
        generalize eaDay y = N at *
        obtain ⟨kind, mon, day, nth, wd, off, fr, to, mv⟩ := r
        dsimp only at *
        subst k3
        clear hf hk hy hu HR
        go_enter Try.func55, Try.ntmps55
        go_wp2_with (first | (go_at_call 64; refine (HN.out _).mono ?_; rintro e w1 ⟨rfl, rfl⟩) | (go_at_call 65; refine (HM.out _).mono ?_; rintro e w1 ⟨rfl, hb1⟩))
        go_ret2
        obtain rfl := HE.out
        exact ⟨rfl, (HB2.out _ _).trans (hb1.mono (by simp; omega))⟩
end Go.Proofs.Ytglkhoekpafddaa
