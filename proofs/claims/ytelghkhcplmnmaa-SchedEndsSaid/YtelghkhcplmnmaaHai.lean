/- The contract of the document's day. The contract of the document's holiday. -/
import Derived.Test.YtelghkhcplmnmaaHad
import Derived.Test.YtelghkhcplmnmaaHah
import Derived.Test.YtelghkhcplmnmaaHae
namespace Go.Proofs.Ytelghkhcplmnmaa
open Go.RowKit

theorem day_none {W : Int} {r : Rul} {y : Int} (h : y < r.fr ∨ r.to < y) : dayO W r y = none := by unfold dayO baseO; rw [if_pos h]; rfl

set_option maxHeartbeats 1600000 in
theorem refDay_any (W y : Int) (r : Rul) (v : Value) (w : World) (h0 : 0 ≤ W) (h1 : W ≤ 126) (hf : fitB r = true) (hk : r.kind ≠ 4) :
    Calls Try.prog 79 #[.agg #[.int .i64 W, v], .agg #[.int .i64 r.kind, .int .i64 r.mon, .int .i64 r.day, .int .i64 r.nth, .int .i64 r.wd, .int .i64 r.off, .int .i64 r.fr, .int .i64 r.to, .int .i64 r.mv], .int .i64 y] w fun e w' => e = .returned (.tuple #[.int .i64 ((dayO W r y).getD 0), .bool (dayO W r y).isSome]) ∧ Below w.heap.size w w' := by
  have hb2 : ∀ (o1 o2 : Obj), Below w.heap.size w ((w.alloc o1).alloc o2) := fun o1 o2 => ((Below.refl w.heap.size w).alloc (Nat.le_refl _) _).alloc (by simp) _
  have HB2 := hideS hb2
  clear hb2
  by_cases hy : y < r.fr ∨ r.to < y
  · rw [day_none hy]
    obtain ⟨kind, mon, day, nth, wd, off, fr, to, mv⟩ := r
    dsimp only at *
    rcases (show y < fr ∨ (¬ y < fr ∧ to < y) by omega) with a | ⟨a, b⟩
    all_goals
      clear hy hf hk
      go_enter Try.func79, Try.ntmps79
      go_wp2_with fail
      go_ret2
      exact ⟨rfl, HB2.out _ _⟩
  · rcases fit_cases hf with ⟨a, _⟩ | ⟨⟨f0, f1, f2, v0, v1⟩, hkd⟩
    · exact absurd a hk
    · have y0 : 1900 ≤ y := by omega
      have y1 : y ≤ 2199 := by omega
      have hy1 : ¬ y < r.fr := by omega
      have hy2 : ¬ r.to < y := by omega
      obtain ⟨R, hR⟩ : ∃ R, dayO W r y = R := ⟨_, rfl⟩
      rw [hR]
      have HR := hideS hR
      clear hR
      rcases hkd with ⟨k1, m0, m1, d0, d1⟩ | ⟨k2, m0, m1, w0, w1, c0, c1⟩ | ⟨k3, o0, o1⟩
      · by_cases ho : okD y r.mon r.day
        · obtain ⟨n0, n1⟩ := (isD_of ho).range
          have HO := hideS (fun wx => refOf_ok y r.mon r.day wx ho)
          obtain ⟨u, d, hu⟩ := ups_ex h0 h1 (dayI y r.mon r.day)
          have HM := hideS (fun wx => refMoved_any W (dayI y r.mon r.day) r.mv v u d wx (by omega) (by omega) hu)
          have HE : Hid (some (movI W (dayI y r.mon r.day) r.mv u d) = R) := by
            show _ = R
            rw [← HR.out]
            unfold dayO baseO
            rw [if_neg hy, if_pos k1, if_pos ho, Option.map_some, mv_eq hu]
          generalize movI W (dayI y r.mon r.day) r.mv u d = X at *
          generalize dayI y r.mon r.day = N at *
          obtain ⟨kind, mon, day, nth, wd, off, fr, to, mv⟩ := r
          dsimp only at *
          subst k1
          clear hf hk hy ho hu HR d1
          go_enter Try.func79, Try.ntmps79
          go_wp2_with (first | (go_at_call 45; refine (HO.out _).mono ?_; rintro e w1 ⟨rfl, rfl⟩) | (go_at_call 83; refine (HM.out _).mono ?_; rintro e w1 ⟨rfl, hb1⟩))
          go_ret2
          obtain rfl := HE.out
          exact ⟨rfl, (HB2.out _ _).trans (hb1.mono (by simp; omega))⟩
        · have HO := hideS (fun wx => refOf_bad y r.mon r.day wx ho)
          have HE : Hid (none = R) := by
            show _ = R
            rw [← HR.out]
            unfold dayO baseO
            rw [if_neg hy, if_pos k1, if_neg ho]; rfl
          obtain ⟨kind, mon, day, nth, wd, off, fr, to, mv⟩ := r
          dsimp only at *
          subst k1
          clear hf hk hy ho HR d1
          go_enter Try.func79, Try.ntmps79
          go_wp2_with (go_at_call 45; refine (HO.out _).mono ?_; rintro e w1 ⟨rfl, rfl⟩)
          go_ret2
          obtain rfl := HE.out
          exact ⟨rfl, HB2.out _ _⟩
      · have hym : ymB y r.mon := ⟨y0, y1, m0, m1⟩
        obtain ⟨n0, n1⟩ := nth_rng hym w0 w1 c0 c1
        have HN := hideS (fun wx => refNth_any y r.mon r.wd r.nth wx hym w0 w1 c0 c1)
        obtain ⟨u, d, hu⟩ := ups_ex h0 h1 (nthI y r.mon r.wd r.nth)
        have HM := hideS (fun wx => refMoved_any W (nthI y r.mon r.wd r.nth) r.mv v u d wx (by omega) (by omega) hu)
        have HE : Hid (some (movI W (nthI y r.mon r.wd r.nth) r.mv u d) = R) := by
          show _ = R
          rw [← HR.out]
          unfold dayO baseO
          rw [if_neg hy, if_neg (by omega), if_pos k2, Option.map_some, mv_eq hu]
        generalize movI W (nthI y r.mon r.wd r.nth) r.mv u d = X at *
        generalize nthI y r.mon r.wd r.nth = N at *
        obtain ⟨kind, mon, day, nth, wd, off, fr, to, mv⟩ := r
        dsimp only at *
        subst k2
        clear hf hk hy hym hu HR
        go_enter Try.func79, Try.ntmps79
        go_wp2_with (first | (go_at_call 81; refine (HN.out _).mono ?_; rintro e w1 ⟨rfl, rfl⟩) | (go_at_call 83; refine (HM.out _).mono ?_; rintro e w1 ⟨rfl, hb1⟩))
        go_ret2
        obtain rfl := HE.out
        exact ⟨rfl, (HB2.out _ _).trans (hb1.mono (by simp; omega))⟩
      · obtain ⟨n0, n1⟩ : 0 ≤ eaDay y ∧ eaDay y ≤ 109572 := (isD_of (ea_ok y0 y1).ok).range
        have HN := hideS (fun wx => refEaster_ok y wx y0 y1)
        obtain ⟨u, d, hu⟩ := ups_ex h0 h1 (eaDay y + r.off)
        have HM := hideS (fun wx => refMoved_any W (eaDay y + r.off) r.mv v u d wx (by omega) (by omega) hu)
        have HE : Hid (some (movI W (eaDay y + r.off) r.mv u d) = R) := by
          show _ = R
          rw [← HR.out]
          unfold dayO baseO
          rw [if_neg hy, if_neg (by omega), if_neg (by omega), if_pos k3, Option.map_some, mv_eq hu]
        generalize movI W (eaDay y + r.off) r.mv u d = X at *
        generalize eaDay y = N at *
        obtain ⟨kind, mon, day, nth, wd, off, fr, to, mv⟩ := r
        dsimp only at *
        subst k3
        clear hf hk hy hu HR
        go_enter Try.func79, Try.ntmps79
        go_wp2_with (first | (go_at_call 82; refine (HN.out _).mono ?_; rintro e w1 ⟨rfl, rfl⟩) | (go_at_call 83; refine (HM.out _).mono ?_; rintro e w1 ⟨rfl, hb1⟩))
        go_ret2
        obtain rfl := HE.out
        exact ⟨rfl, (HB2.out _ _).trans (hb1.mono (by simp; omega))⟩
end Go.Proofs.Ytelghkhcplmnmaa
namespace Go.Proofs.Ytelghkhcplmnmaa
open Go.RowKit

/-- What stands in memory while the rules are gone through: the calendar's box and the date's cells. -/
structure HK (w : World) (W : Int) (v : Value) (b5 : Nat) (Y m d : Int) (wr : World) : Prop where
  box : CBox w W v wr
  d0 : wr.cell? ⟨b5, 0, none⟩ = some (.int .i64 Y)
  d1 : wr.cell? ⟨b5, 1, none⟩ = some (.int .i64 m)
  d2 : wr.cell? ⟨b5, 2, none⟩ = some (.int .i64 d)
  lt : b5 < wr.heap.size
theorem HK.step {w wr w' : World} {W : Int} {v : Value} {b5 : Nat} {Y m d : Int} (h : HK w W v b5 Y m d wr) (hb : Below wr.heap.size wr w') : HK w W v b5 Y m d w' :=
  ⟨h.box.step hb, (hb.cell (p := ⟨b5, 0, none⟩) h.lt).trans h.d0, (hb.cell (p := ⟨b5, 1, none⟩) h.lt).trans h.d1, (hb.cell (p := ⟨b5, 2, none⟩) h.lt).trans h.d2, Nat.lt_of_lt_of_le h.lt hb.size⟩
theorem HK.first {w w1 : World} {W : Int} {v : Value} {Y m d : Int} (h : CBox w W v w1) : HK w W v w1.heap.size Y m d (w1.alloc (.cells #[.int .i64 Y, .int .i64 m, .int .i64 d] 73)) :=
  ⟨h.step ((Below.refl _ w1).alloc (Nat.le_refl _) _), by simp, by simp, by simp, by simp⟩

structure HK2 (w : World) (W : Int) (v : Value) (b5 : Nat) (Y m d : Int) (b8 : Nat) (r : Rul) (wr : World) : Prop where
  hk : HK w W v b5 Y m d wr
  rc : RCells wr b8 0 r
  lt8 : b8 < wr.heap.size
theorem HK2.step {w wr w' : World} {W : Int} {v : Value} {b5 : Nat} {Y m d : Int} {b8 : Nat} {r : Rul} (h : HK2 w W v b5 Y m d b8 r wr) (hb : Below wr.heap.size wr w') : HK2 w W v b5 Y m d b8 r w' :=
  ⟨h.hk.step hb, h.rc.below hb h.lt8, Nat.lt_of_lt_of_le h.lt8 hb.size⟩
theorem HK2.first {w wr : World} {W : Int} {v : Value} {b5 : Nat} {Y m d : Int} {r : Rul} (h : HK w W v b5 Y m d wr) :
    HK2 w W v b5 Y m d wr.heap.size r (wr.alloc (.cells #[.int .i64 r.kind, .int .i64 r.mon, .int .i64 r.day, .int .i64 r.nth, .int .i64 r.wd, .int .i64 r.off, .int .i64 r.fr, .int .i64 r.to, .int .i64 r.mv] 45)) :=
  ⟨h.step ((Below.refl _ wr).alloc (Nat.le_refl _) _), ⟨by simp, by simp, by simp, by simp, by simp, by simp, by simp, by simp, by simp⟩, by simp⟩

set_option maxHeartbeats 1600000 in
theorem refHol_any (W n Y m d : Int) (p : Option Addr) (b off c : Nat) (rs : List Rul) (w : World) (h0 : 0 ≤ W) (h1 : W ≤ 126) (hs : RSrc w p b off rs) (hf : ∀ r ∈ rs, fitB r = true) (hn : rs.length ≤ 100) (hd : IsD n Y m d) :
    Calls Try.prog 75 #[.agg #[.int .i64 W, .slice p rs.length c], .int .i64 n] w fun e w' => e = .returned (.bool (holB W rs n Y)) ∧ Below w.heap.size w w' := by
  have HC := hideS (fun wx => refCiv_ok n Y m d wx hd)
  unfold dateV at HC
  have HS := hideS hs
  have HF := hideS hf
  obtain ⟨N, hN⟩ : ∃ N, rs.length = N := ⟨_, rfl⟩
  have HN := hideS hN
  rw [hN] at hn ⊢
  obtain ⟨R, hR⟩ : ∃ R, holB W rs n Y = R := ⟨_, rfl⟩
  rw [hR]
  have HR := hideS hR
  obtain ⟨y0, y1, _, _, _, _⟩ := hd.1
  clear hN hR hs hf hd
  go_enter Try.func75, Try.ntmps75
  go_wp2_with (go_at_call 41; refine (HC.out _).mono ?_; rintro e w1 ⟨rfl, hb1⟩; have HB1 := hideS (CBox.first hb1); clear hb1)
  have HK1 := hideS (HK.first (Y := Y) (m := m) (d := d) HB1.out)
  clear HB1 HC
  generalize w1.heap.size = b5 at *
  go_loopw [7, 8] (fun i _ wr => ∃ (k : Nat), k ≤ N ∧ i = .int .i64 k ∧ Hid (HK w W (.slice p N c) b5 Y m d wr) ∧ Hid (∀ j < k, hitB W (rs.getD j rul0) n Y = false)) (fun i _ _ => N - (intOf i).toNat)
  case atStart => exact ⟨0, by omega, rfl, HK1, fun j hj => by omega⟩
  case round =>
    obtain ⟨k, hk, rfl, HB, HNo⟩ := hrel
    obtain ⟨c0, c1⟩ := cal_cells HB.out.box
    by_cases hlt : k < N
    · have hx : k < rs.length := by rw [HN.out]; exact hlt
      obtain rfl := HS.out.at_ (by omega)
      have hrc := (HS.out.cell k hx).below HB.out.box.below (HS.out.lt (by omega))
      have HFk := hideS (HF.out (rs.getD k rul0) (by rw [List.getD_eq_getElem?_getD, List.getElem?_eq_getElem hx]; exact List.getElem_mem hx))
      obtain ⟨r, hr⟩ : ∃ r, rs.getD k rul0 = r := ⟨_, rfl⟩
      rw [hr] at hrc HFk
      have HRk := hideS hr
      clear hr hx
      obtain ⟨g0, g1, g2, g3, g4, g5, g6, g7, g8⟩ := hrc
      by_cases k4 : r.kind = 4
      · have HH : Hid (hitB W r n Y = (r.day == n)) := by show _ = _; unfold hitB; rw [if_pos k4]
        by_cases hd : r.day = n
        · have HE : Hid (true = R) := by
            show _ = _
            rw [← HR.out]
            refine (List.any_eq_true.2 ⟨r, ?_, ?_⟩).symm
            · rw [← HRk.out, List.getD_eq_getElem?_getD, List.getElem?_eq_getElem (by rw [HN.out]; exact hlt)]; exact List.getElem_mem _
            · rw [HH.out]; exact beq_iff_eq.2 hd
          obtain ⟨kind, mon, day, nth, wd, offs, fr, to, mv⟩ := r
          dsimp only at *
          subst k4 hd
          clear HH HFk HRk
          go_wp2_with fail
          go_ret
          obtain rfl := HE.out
          exact ⟨rfl, (HB.out.step ((Below.refl _ wr).alloc (Nat.le_refl _) _)).box.below⟩
        · have HNk : Hid (∀ j < k + 1, hitB W (rs.getD j rul0) n Y = false) := fun j hj => by
            by_cases hjk : j < k
            · exact HNo.out j hjk
            · obtain rfl : j = k := by omega
              rw [HRk.out, HH.out]; exact beq_eq_false_iff_ne.2 hd
          have hd' : (r.day == n) = false := beq_eq_false_iff_ne.2 hd
          obtain ⟨kind, mon, day, nth, wd, offs, fr, to, mv⟩ := r
          dsimp only at *
          subst k4
          clear HH HFk HRk hd
          go_wp2_with fail
          go_roundw
          case rel => exact ⟨k + 1, by omega, by go_num, HB.out.step ((Below.refl _ wr).alloc (Nat.le_refl _) _), HNk⟩
          case measure => simp [intOf]; omega
      · have HD := hideS (fun (y : Int) (wx : World) => refDay_any W y r (.slice (some ⟨b, off, none⟩) N c) wx h0 h1 HFk.out k4)
        have k4' : (r.kind == 4) = false := beq_eq_false_iff_ne.2 k4
        have HH : Hid (hitB W r n Y = (dayO W r (Y - 1) == some n || dayO W r Y == some n || dayO W r (Y + 1) == some n)) := by show _ = _; unfold hitB; rw [if_neg k4]
        clear k4
        have e0 : ∀ o, (wr.alloc o).cell? ⟨b5, 0, none⟩ = some (.int .i64 Y) := fun o => (((Below.refl _ wr).alloc (Nat.le_refl _) o).cell (p := ⟨b5, 0, none⟩) HB.out.lt).trans HB.out.d0
        have HKb := hideS (HK2.first (r := r) HB.out)
        have hrk : ∃ r', r' = r := ⟨r, rfl⟩
        obtain ⟨r', hr'⟩ := hrk
        rw [← hr'] at HH HFk HRk HD HKb
        have HR' := hideS hr'
        obtain ⟨kind, mon, day, nth, wd, offs, fr, to, mv⟩ := r
        dsimp only at *
        clear hr'
        go_wp2_with fail
        clear e0 g0 g1 g2 g3 g4 g5 g6 g7 g8 c0 c1
        generalize wr.heap.size = b8 at *
        go_loopw [9, 10, 11] (fun y _ _ w2 => ∃ (t : Nat) (I : Int), t ≤ 3 ∧ 1899 ≤ I ∧ I ≤ 2201 ∧ y = .int .i64 I ∧ Hid (I = Y - 1 + t) ∧ Hid (HK2 w W (.slice (some ⟨b, off, none⟩) N c) b5 Y m d b8 r' w2) ∧ Hid (∀ s < t, (dayO W r' (Y - 1 + (s : Nat)) == some n) = false)) (fun y _ _ _ => (Y + 2 - intOf y).toNat)
        case atStart => exact ⟨0, Y - 1, by omega, by omega, by omega, rfl, by show _ = _; omega, by have := HR'.out; subst this; exact HKb, fun s hs => by omega⟩
        case round =>
          clear HKb HB
          obtain ⟨t, I, ht, hI0, hI1, rfl, HI, HKb, HNt⟩ := hrel
          obtain ⟨c0, c1⟩ := cal_cells HKb.out.hk.box
          have d0 := HKb.out.hk.d0
          have q0 : wr.cell? ⟨b8, 0, none⟩ = some (.int .i64 r'.kind) := HKb.out.rc.c0
          have q1 : wr.cell? ⟨b8, 1, none⟩ = some (.int .i64 r'.mon) := HKb.out.rc.c1
          have q2 : wr.cell? ⟨b8, 2, none⟩ = some (.int .i64 r'.day) := HKb.out.rc.c2
          have q3 : wr.cell? ⟨b8, 3, none⟩ = some (.int .i64 r'.nth) := HKb.out.rc.c3
          have q4 : wr.cell? ⟨b8, 4, none⟩ = some (.int .i64 r'.wd) := HKb.out.rc.c4
          have q5 : wr.cell? ⟨b8, 5, none⟩ = some (.int .i64 r'.off) := HKb.out.rc.c5
          have q6 : wr.cell? ⟨b8, 6, none⟩ = some (.int .i64 r'.fr) := HKb.out.rc.c6
          have q7 : wr.cell? ⟨b8, 7, none⟩ = some (.int .i64 r'.to) := HKb.out.rc.c7
          have q8 : wr.cell? ⟨b8, 8, none⟩ = some (.int .i64 r'.mv) := HKb.out.rc.c8
          by_cases ht3 : t < 3
          · have hIY : I ≤ Y + 1 := by have := HI.out; omega
            have HDy := hideS (fun wx => HD.out I wx)
            obtain ⟨o, ho⟩ : ∃ o, dayO W r' I = o := ⟨_, rfl⟩
            rw [ho] at HDy
            have HOo := hideS ho
            clear ho
            rcases o with _ | x
            · have HNt' : Hid (∀ s < t + 1, (dayO W r' (Y - 1 + (s : Nat)) == some n) = false) := fun s hs => by
                by_cases hst : s < t
                · exact HNt.out s hst
                · obtain rfl : s = t := by omega
                  rw [← HI.out, HOo.out]; rfl
              dsimp only [Option.getD, Option.isSome] at HDy
              go_wp2_with (go_at_call 79; refine (HDy.out _).mono ?_; rintro e w3 ⟨rfl, hb3⟩; have HKc := hideS (HKb.out.step hb3); clear hb3)
              go_roundw
              case rel => exact ⟨t + 1, I + 1, by omega, by omega, by omega, rfl, by have := HI.out; show _ = _; omega, HKc, HNt'⟩
              case measure => simp [intOf]; omega
            · by_cases hxn : x = n
              · have HE : Hid (true = R) := by
                  show _ = _
                  rw [← HR.out]
                  refine (List.any_eq_true.2 ⟨r', ?_, ?_⟩).symm
                  · rw [← HRk.out, List.getD_eq_getElem?_getD, List.getElem?_eq_getElem (by rw [HN.out]; exact hlt)]; exact List.getElem_mem _
                  · rw [HH.out]
                    have e1 : (dayO W r' I == some n) = true := by rw [HOo.out, hxn]; exact beq_self_eq_true _
                    have := HI.out
                    rcases (show t = 0 ∨ t = 1 ∨ t = 2 by omega) with rfl | rfl | rfl
                    · rw [show Y - 1 = I by omega, e1]; rfl
                    · rw [show Y = I by omega, e1, Bool.or_true]; rfl
                    · rw [show Y + 1 = I by omega, e1, Bool.or_true]
                subst hxn
                dsimp only [Option.getD, Option.isSome] at HDy
                go_wp2_with (go_at_call 79; refine (HDy.out _).mono ?_; rintro e w3 ⟨rfl, hb3⟩; have HKc := hideS (HKb.out.step hb3); clear hb3)
                go_ret
                obtain rfl := HE.out
                exact ⟨rfl, HKc.out.hk.box.below⟩
              · have HNt' : Hid (∀ s < t + 1, (dayO W r' (Y - 1 + (s : Nat)) == some n) = false) := fun s hs => by
                  by_cases hst : s < t
                  · exact HNt.out s hst
                  · obtain rfl : s = t := by omega
                    rw [← HI.out, HOo.out]
                    exact beq_eq_false_iff_ne.2 (fun a => hxn (Option.some.inj a))
                have hxn' : (x == n) = false := beq_eq_false_iff_ne.2 hxn
                clear hxn
                dsimp only [Option.getD, Option.isSome] at HDy
                go_wp2_with (go_at_call 79; refine (HDy.out _).mono ?_; rintro e w3 ⟨rfl, hb3⟩; have HKc := hideS (HKb.out.step hb3); clear hb3)
                go_roundw
                case rel => exact ⟨t + 1, I + 1, by omega, by omega, by omega, rfl, by have := HI.out; show _ = _; omega, HKc, HNt'⟩
                case measure => simp [intOf]; omega
          · have hIY : ¬ I ≤ Y + 1 := by have := HI.out; omega
            have HNk : Hid (∀ j < k + 1, hitB W (rs.getD j rul0) n Y = false) := fun j hj => by
              by_cases hjk : j < k
              · exact HNo.out j hjk
              · obtain rfl : j = k := by omega
                rw [HRk.out, HH.out]
                have a0 := HNt.out 0 (by omega)
                have a1 := HNt.out 1 (by omega)
                have a2 := HNt.out 2 (by omega)
                rw [show Y - 1 + ((0 : Nat) : Int) = Y - 1 by omega] at a0
                rw [show Y - 1 + ((1 : Nat) : Int) = Y by omega] at a1
                rw [show Y - 1 + ((2 : Nat) : Int) = Y + 1 by omega] at a2
                rw [a0, a1, a2]; rfl
            go_wp2_with fail
            go_roundw
            case rel => exact ⟨k + 1, by omega, by go_num, HKb.out.hk, HNk⟩
            case measure => simp [intOf]; omega
    · have HE : Hid (false = R) := by
        show _ = _
        rw [← HR.out]
        refine (Bool.eq_false_iff.2 fun a => ?_).symm
        obtain ⟨r, hm, hr⟩ := List.any_eq_true.1 a
        obtain ⟨j, hj, rfl⟩ := List.getElem_of_mem hm
        have := HNo.out j (by have := HN.out; omega)
        rw [List.getD_eq_getElem?_getD, List.getElem?_eq_getElem hj] at this
        exact Bool.noConfusion (this.symm.trans hr)
      have hge : ¬ (k : Int) < N := by omega
      go_wp2_with fail
      go_ret
      obtain rfl := HE.out
      exact ⟨rfl, HB.out.box.below⟩
end Go.Proofs.Ytelghkhcplmnmaa
