/- The contract of the document's holiday. The contracts of the document's in, fit and Check. -/
import Derived.Test.YtcbbbkngjdlcjaaHay
import Derived.Test.YtcbbbkngjdlcjaaHbb
namespace Go.Proofs.Ytcbbbkngjdlcjaa
open Go.RowKit

/-- What stands in memory while the rules are gone through: the calendar's box and the date's cells. -/
structure HK (w : World) (W : Int) (v : Value) (b5 : Nat) (Y m d : Int) (wr : World) : Prop where
  box : CBox w W v wr
  d0 : wr.cell? ⟨b5, 0, none⟩ = some (.int .i64 Y)
  d1 : wr.cell? ⟨b5, 1, none⟩ = some (.int .i64 m)
  d2 : wr.cell? ⟨b5, 2, none⟩ = some (.int .i64 d)
  lt : b5 < wr.heap.size
theorem HK.step {w wr w' : World} {W : Int} {v : Value} {b5 : Nat} {Y m d : Int} (h : HK w W v b5 Y m d wr) (hb : Below wr.heap.size wr w') : HK w W v b5 Y m d w' :=
  ⟨h.box.step hb, (hb.cell (p := ⟨b5, 0, none⟩) h.lt).trans h.d0, (hb.cell (p := ⟨b5, 1, none⟩) h.lt).trans h.d1, (hb.cell (p := ⟨b5, 2, none⟩) h.lt).trans h.d2, Nat.lt_of_lt_of_le h.lt hb.size⟩
theorem HK.first {w w1 : World} {W : Int} {v : Value} {Y m d : Int} (h : CBox w W v w1) : HK w W v w1.heap.size Y m d (w1.alloc (.cells #[.int .i64 Y, .int .i64 m, .int .i64 d] 63)) :=
  ⟨h.step ((Below.refl _ w1).alloc (Nat.le_refl _) _), by simp, by simp, by simp, by simp⟩

structure HK2 (w : World) (W : Int) (v : Value) (b5 : Nat) (Y m d : Int) (b8 : Nat) (r : Rul) (wr : World) : Prop where
  hk : HK w W v b5 Y m d wr
  rc : RCells wr b8 0 r
  lt8 : b8 < wr.heap.size
theorem HK2.step {w wr w' : World} {W : Int} {v : Value} {b5 : Nat} {Y m d : Int} {b8 : Nat} {r : Rul} (h : HK2 w W v b5 Y m d b8 r wr) (hb : Below wr.heap.size wr w') : HK2 w W v b5 Y m d b8 r w' :=
  ⟨h.hk.step hb, h.rc.below hb h.lt8, Nat.lt_of_lt_of_le h.lt8 hb.size⟩
theorem HK2.first {w wr : World} {W : Int} {v : Value} {b5 : Nat} {Y m d : Int} {r : Rul} (h : HK w W v b5 Y m d wr) :
    HK2 w W v b5 Y m d wr.heap.size r (wr.alloc (.cells #[.int .i64 r.kind, .int .i64 r.mon, .int .i64 r.day, .int .i64 r.nth, .int .i64 r.wd, .int .i64 r.off, .int .i64 r.fr, .int .i64 r.to, .int .i64 r.mv] 61)) :=
  ⟨h.step ((Below.refl _ wr).alloc (Nat.le_refl _) _), ⟨by simp, by simp, by simp, by simp, by simp, by simp, by simp, by simp, by simp⟩, by simp⟩

set_option maxHeartbeats 1600000 in
theorem refHol_any (W n Y m d : Int) (p : Option Addr) (b off c : Nat) (rs : List Rul) (w : World) (h0 : 0 ≤ W) (h1 : W ≤ 126) (hs : RSrc w p b off rs) (hf : ∀ r ∈ rs, fitB r = true) (hn : rs.length ≤ 100) (hd : IsD n Y m d) :
    Calls Try.prog 50 #[.agg #[.int .i64 W, .slice p rs.length c], .int .i64 n] w fun e w' => e = .returned (.bool (holB W rs n Y)) ∧ Below w.heap.size w w' := by
  have HC := hideS (fun wx => refCiv_ok n Y m d wx hd)
  unfold dateV at HC
  have HS := hideS hs
  have HF := hideS hf
  obtain ⟨N, hN⟩ : ∃ N, rs.length = N := ⟨_, rfl⟩
  have HN := hideS hN
  rw [hN] at hn ⊢
  obtain ⟨R, hR⟩ : ∃ R, holB W rs n Y = R := ⟨_, rfl⟩
  rw [hR]
  have HR := hideS hR
  obtain ⟨y0, y1, _, _, _, _⟩ := hd.1
  clear hN hR hs hf hd
  go_enter Try.func50, Try.ntmps50
  go_wp2_with (go_at_call 30; refine (HC.out _).mono ?_; rintro e w1 ⟨rfl, hb1⟩; have HB1 := hideS (CBox.first hb1); clear hb1)
  have HK1 := hideS (HK.first (Y := Y) (m := m) (d := d) HB1.out)
  clear HB1 HC
  generalize w1.heap.size = b5 at *
  go_loopw [7, 8] (fun i _ wr => ∃ (k : Nat), k ≤ N ∧ i = .int .i64 k ∧ Hid (HK w W (.slice p N c) b5 Y m d wr) ∧ Hid (∀ j < k, hitB W (rs.getD j rul0) n Y = false)) (fun i _ _ => N - (intOf i).toNat)
  case atStart => exact ⟨0, by omega, rfl, HK1, fun j hj => by omega⟩
  case round =>
    obtain ⟨k, hk, rfl, HB, HNo⟩ := hrel
    obtain ⟨c0, c1⟩ := cal_cells HB.out.box
    by_cases hlt : k < N
    · have hx : k < rs.length := by rw [HN.out]; exact hlt
      obtain rfl := HS.out.at_ (by omega)
      have hrc := (HS.out.cell k hx).below HB.out.box.below (HS.out.lt (by omega))
      have HFk := hideS (HF.out (rs.getD k rul0) (by rw [List.getD_eq_getElem?_getD, List.getElem?_eq_getElem hx]; exact List.getElem_mem hx))
      obtain ⟨r, hr⟩ : ∃ r, rs.getD k rul0 = r := ⟨_, rfl⟩
      rw [hr] at hrc HFk
      have HRk := hideS hr
      clear hr hx
      obtain ⟨g0, g1, g2, g3, g4, g5, g6, g7, g8⟩ := hrc
      by_cases k4 : r.kind = 4
      · have HH : Hid (hitB W r n Y = (r.day == n)) := by show _ = _; unfold hitB; rw [if_pos k4]
        by_cases hd : r.day = n
        · have HE : Hid (true = R) := by
            show _ = _
            rw [← HR.out]
            refine (List.any_eq_true.2 ⟨r, ?_, ?_⟩).symm
            · rw [← HRk.out, List.getD_eq_getElem?_getD, List.getElem?_eq_getElem (by rw [HN.out]; exact hlt)]; exact List.getElem_mem _
            · rw [HH.out]; exact beq_iff_eq.2 hd
          obtain ⟨kind, mon, day, nth, wd, offs, fr, to, mv⟩ := r
          dsimp only at *
          subst k4 hd
          clear HH HFk HRk
          go_wp2_with fail
          go_ret
          obtain rfl := HE.out
          exact ⟨rfl, (HB.out.step ((Below.refl _ wr).alloc (Nat.le_refl _) _)).box.below⟩
        · have HNk : Hid (∀ j < k + 1, hitB W (rs.getD j rul0) n Y = false) := fun j hj => by
            by_cases hjk : j < k
            · exact HNo.out j hjk
            · obtain rfl : j = k := by omega
              rw [HRk.out, HH.out]; exact beq_eq_false_iff_ne.2 hd
          have hd' : (r.day == n) = false := beq_eq_false_iff_ne.2 hd
          obtain ⟨kind, mon, day, nth, wd, offs, fr, to, mv⟩ := r
          dsimp only at *
          subst k4
          clear HH HFk HRk hd
          go_wp2_with fail
          go_roundw
          case rel => exact ⟨k + 1, by omega, by go_num, HB.out.step ((Below.refl _ wr).alloc (Nat.le_refl _) _), HNk⟩
          case measure => simp [intOf]; omega
      · have HD := hideS (fun (y : Int) (wx : World) => refDay_any W y r (.slice (some ⟨b, off, none⟩) N c) wx h0 h1 HFk.out k4)
        have k4' : (r.kind == 4) = false := beq_eq_false_iff_ne.2 k4
        have HH : Hid (hitB W r n Y = (dayO W r (Y - 1) == some n || dayO W r Y == some n || dayO W r (Y + 1) == some n)) := by show _ = _; unfold hitB; rw [if_neg k4]
        clear k4
        have e0 : ∀ o, (wr.alloc o).cell? ⟨b5, 0, none⟩ = some (.int .i64 Y) := fun o => (((Below.refl _ wr).alloc (Nat.le_refl _) o).cell (p := ⟨b5, 0, none⟩) HB.out.lt).trans HB.out.d0
        have HKb := hideS (HK2.first (r := r) HB.out)
        have hrk : ∃ r', r' = r := ⟨r, rfl⟩
        obtain ⟨r', hr'⟩ := hrk
        rw [← hr'] at HH HFk HRk HD HKb
        have HR' := hideS hr'
        obtain ⟨kind, mon, day, nth, wd, offs, fr, to, mv⟩ := r
        dsimp only at *
        clear hr'
        go_wp2_with fail
        clear e0 g0 g1 g2 g3 g4 g5 g6 g7 g8 c0 c1
        generalize wr.heap.size = b8 at *
        go_loopw [9, 10, 11] (fun y _ _ w2 => ∃ (t : Nat) (I : Int), t ≤ 3 ∧ 1899 ≤ I ∧ I ≤ 2201 ∧ y = .int .i64 I ∧ Hid (I = Y - 1 + t) ∧ Hid (HK2 w W (.slice (some ⟨b, off, none⟩) N c) b5 Y m d b8 r' w2) ∧ Hid (∀ s < t, (dayO W r' (Y - 1 + (s : Nat)) == some n) = false)) (fun y _ _ _ => (Y + 2 - intOf y).toNat)
        case atStart => exact ⟨0, Y - 1, by omega, by omega, by omega, rfl, by show _ = _; omega, by have := HR'.out; subst this; exact HKb, fun s hs => by omega⟩
        case round =>
          clear HKb HB
          obtain ⟨t, I, ht, hI0, hI1, rfl, HI, HKb, HNt⟩ := hrel
          obtain ⟨c0, c1⟩ := cal_cells HKb.out.hk.box
          have d0 := HKb.out.hk.d0
          have q0 : wr.cell? ⟨b8, 0, none⟩ = some (.int .i64 r'.kind) := HKb.out.rc.c0
          have q1 : wr.cell? ⟨b8, 1, none⟩ = some (.int .i64 r'.mon) := HKb.out.rc.c1
          have q2 : wr.cell? ⟨b8, 2, none⟩ = some (.int .i64 r'.day) := HKb.out.rc.c2
          have q3 : wr.cell? ⟨b8, 3, none⟩ = some (.int .i64 r'.nth) := HKb.out.rc.c3
          have q4 : wr.cell? ⟨b8, 4, none⟩ = some (.int .i64 r'.wd) := HKb.out.rc.c4
          have q5 : wr.cell? ⟨b8, 5, none⟩ = some (.int .i64 r'.off) := HKb.out.rc.c5
          have q6 : wr.cell? ⟨b8, 6, none⟩ = some (.int .i64 r'.fr) := HKb.out.rc.c6
          have q7 : wr.cell? ⟨b8, 7, none⟩ = some (.int .i64 r'.to) := HKb.out.rc.c7
          have q8 : wr.cell? ⟨b8, 8, none⟩ = some (.int .i64 r'.mv) := HKb.out.rc.c8
          by_cases ht3 : t < 3
          · have hIY : I ≤ Y + 1 := by have := HI.out; omega
            have HDy := hideS (fun wx => HD.out I wx)
            obtain ⟨o, ho⟩ : ∃ o, dayO W r' I = o := ⟨_, rfl⟩
            rw [ho] at HDy
            have HOo := hideS ho
            clear ho
            rcases o with _ | x
            · have HNt' : Hid (∀ s < t + 1, (dayO W r' (Y - 1 + (s : Nat)) == some n) = false) := fun s hs => by
                by_cases hst : s < t
                · exact HNt.out s hst
                · obtain rfl : s = t := by omega
                  rw [← HI.out, HOo.out]; rfl
              dsimp only [Option.getD, Option.isSome] at HDy
              go_wp2_with (go_at_call 67; refine (HDy.out _).mono ?_; rintro e w3 ⟨rfl, hb3⟩; have HKc := hideS (HKb.out.step hb3); clear hb3)
              go_roundw
              case rel => exact ⟨t + 1, I + 1, by omega, by omega, by omega, rfl, by have := HI.out; show _ = _; omega, HKc, HNt'⟩
              case measure => simp [intOf]; omega
            · by_cases hxn : x = n
              · have HE : Hid (true = R) := by
                  show _ = _
                  rw [← HR.out]
                  refine (List.any_eq_true.2 ⟨r', ?_, ?_⟩).symm
                  · rw [← HRk.out, List.getD_eq_getElem?_getD, List.getElem?_eq_getElem (by rw [HN.out]; exact hlt)]; exact List.getElem_mem _
                  · rw [HH.out]
                    have e1 : (dayO W r' I == some n) = true := by rw [HOo.out, hxn]; exact beq_self_eq_true _
                    have := HI.out
                    rcases (show t = 0 ∨ t = 1 ∨ t = 2 by omega) with rfl | rfl | rfl
                    · rw [show Y - 1 = I by omega, e1]; rfl
                    · rw [show Y = I by omega, e1, Bool.or_true]; rfl
                    · rw [show Y + 1 = I by omega, e1, Bool.or_true]
                subst hxn
                dsimp only [Option.getD, Option.isSome] at HDy
                go_wp2_with (go_at_call 67; refine (HDy.out _).mono ?_; rintro e w3 ⟨rfl, hb3⟩; have HKc := hideS (HKb.out.step hb3); clear hb3)
                go_ret
                obtain rfl := HE.out
                exact ⟨rfl, HKc.out.hk.box.below⟩
              · have HNt' : Hid (∀ s < t + 1, (dayO W r' (Y - 1 + (s : Nat)) == some n) = false) := fun s hs => by
                  by_cases hst : s < t
                  · exact HNt.out s hst
                  · obtain rfl : s = t := by omega
                    rw [← HI.out, HOo.out]
                    exact beq_eq_false_iff_ne.2 (fun a => hxn (Option.some.inj a))
                have hxn' : (x == n) = false := beq_eq_false_iff_ne.2 hxn
                clear hxn
                dsimp only [Option.getD, Option.isSome] at HDy
                go_wp2_with (go_at_call 67; refine (HDy.out _).mono ?_; rintro e w3 ⟨rfl, hb3⟩; have HKc := hideS (HKb.out.step hb3); clear hb3)
                go_roundw
                case rel => exact ⟨t + 1, I + 1, by omega, by omega, by omega, rfl, by have := HI.out; show _ = _; omega, HKc, HNt'⟩
                case measure => simp [intOf]; omega
          · have hIY : ¬ I ≤ Y + 1 := by have := HI.out; omega
            have HNk : Hid (∀ j < k + 1, hitB W (rs.getD j rul0) n Y = false) := fun j hj => by
              by_cases hjk : j < k
              · exact HNo.out j hjk
              · obtain rfl : j = k := by omega
                rw [HRk.out, HH.out]
                have a0 := HNt.out 0 (by omega)
                have a1 := HNt.out 1 (by omega)
                have a2 := HNt.out 2 (by omega)
                rw [show Y - 1 + ((0 : Nat) : Int) = Y - 1 by omega] at a0
                rw [show Y - 1 + ((1 : Nat) : Int) = Y by omega] at a1
                rw [show Y - 1 + ((2 : Nat) : Int) = Y + 1 by omega] at a2
                rw [a0, a1, a2]; rfl
            go_wp2_with fail
            go_roundw
            case rel => exact ⟨k + 1, by omega, by go_num, HKb.out.hk, HNk⟩
            case measure => simp [intOf]; omega
    · have HE : Hid (false = R) := by
        show _ = _
        rw [← HR.out]
        refine (Bool.eq_false_iff.2 fun a => ?_).symm
        obtain ⟨r, hm, hr⟩ := List.any_eq_true.1 a
        obtain ⟨j, hj, rfl⟩ := List.getElem_of_mem hm
        have := HNo.out j (by have := HN.out; omega)
        rw [List.getD_eq_getElem?_getD, List.getElem?_eq_getElem hj] at this
        exact Bool.noConfusion (this.symm.trans hr)
      have hge : ¬ (k : Int) < N := by omega
      go_wp2_with fail
      go_ret
      obtain rfl := HE.out
      exact ⟨rfl, HB.out.box.below⟩
end Go.Proofs.Ytcbbbkngjdlcjaa
namespace Go.Proofs.Ytcbbbkngjdlcjaa
open Go.RowKit

theorem refIn_any (n lo hi : Int) (w : World) :
    Calls Try.prog 28 #[.int .i64 n, .int .i64 lo, .int .i64 hi] w fun e w' => e = .returned (.bool (decide (lo ≤ n ∧ n ≤ hi))) ∧ w' = w := by
  by_cases h1 : lo ≤ n <;> by_cases h2 : n ≤ hi
  all_goals
    first | rw [decide_eq_true (⟨h1, h2⟩ : lo ≤ n ∧ n ≤ hi)] | rw [decide_eq_false (fun h : lo ≤ n ∧ n ≤ hi => by omega)]
    go_enter Try.func28, Try.ntmps28
    go_wp2
    go_ret
    exact ⟨rfl, rfl⟩

theorem retB {a b : Bool} (h : a = b) : Ending.returned (.bool a) = .returned (.bool b) := by rw [h]
theorem fit4 (mon day nth wd off fr to mv : Int) : fitB ⟨4, mon, day, nth, wd, off, fr, to, mv⟩ = decide (mon = 0 ∧ nth = 0 ∧ wd = 0 ∧ off = 0 ∧ fr = 0 ∧ to = 0 ∧ mv = 0 ∧ 0 ≤ day ∧ day ≤ 109572) := by
  unfold fitB; dsimp only; rw [if_pos rfl]
def RngR (fr to mv : Int) : Prop := 1900 ≤ fr ∧ fr ≤ 2199 ∧ fr ≤ to ∧ to ≤ 2199 ∧ 0 ≤ mv ∧ mv ≤ 2
theorem fit_rng {kind mon day nth wd off fr to mv : Int} (h4 : kind ≠ 4) (h : ¬ RngR fr to mv) : fitB ⟨kind, mon, day, nth, wd, off, fr, to, mv⟩ = false := by
  unfold fitB; dsimp only; rw [if_neg h4, show decide (1900 ≤ fr ∧ fr ≤ 2199 ∧ fr ≤ to ∧ to ≤ 2199 ∧ 0 ≤ mv ∧ mv ≤ 2) = false from decide_eq_false h, Bool.false_and]
theorem fit1 {mon day nth wd off fr to mv : Int} (h : RngR fr to mv) : fitB ⟨1, mon, day, nth, wd, off, fr, to, mv⟩ = decide (nth = 0 ∧ wd = 0 ∧ off = 0 ∧ 1 ≤ mon ∧ mon ≤ 12 ∧ 1 ≤ day ∧ day ≤ mostI mon) := by
  unfold fitB; dsimp only
  rw [if_neg (by decide), show decide (1900 ≤ fr ∧ fr ≤ 2199 ∧ fr ≤ to ∧ to ≤ 2199 ∧ 0 ≤ mv ∧ mv ≤ 2) = true from decide_eq_true h, Bool.true_and, if_pos rfl]
theorem fit2 {mon day nth wd off fr to mv : Int} (h : RngR fr to mv) : fitB ⟨2, mon, day, nth, wd, off, fr, to, mv⟩ = decide (day = 0 ∧ off = 0 ∧ 1 ≤ mon ∧ mon ≤ 12 ∧ 0 ≤ wd ∧ wd ≤ 6 ∧ 1 ≤ nth ∧ nth ≤ 5) := by
  unfold fitB; dsimp only
  rw [if_neg (by decide), show decide (1900 ≤ fr ∧ fr ≤ 2199 ∧ fr ≤ to ∧ to ≤ 2199 ∧ 0 ≤ mv ∧ mv ≤ 2) = true from decide_eq_true h, Bool.true_and, if_neg (by decide), if_pos rfl]
theorem fit3 {mon day nth wd off fr to mv : Int} (h : RngR fr to mv) : fitB ⟨3, mon, day, nth, wd, off, fr, to, mv⟩ = decide (mon = 0 ∧ day = 0 ∧ nth = 0 ∧ wd = 0 ∧ -100 ≤ off ∧ off ≤ 100) := by
  unfold fitB; dsimp only
  rw [if_neg (by decide), show decide (1900 ≤ fr ∧ fr ≤ 2199 ∧ fr ≤ to ∧ to ≤ 2199 ∧ 0 ≤ mv ∧ mv ≤ 2) = true from decide_eq_true h, Bool.true_and, if_neg (by decide), if_neg (by decide), if_pos rfl]
theorem fit_no {kind mon day nth wd off fr to mv : Int} (h1 : kind ≠ 1) (h2 : kind ≠ 2) (h3 : kind ≠ 3) (h4 : kind ≠ 4) : fitB ⟨kind, mon, day, nth, wd, off, fr, to, mv⟩ = false := by
  unfold fitB; dsimp only
  rw [if_neg h4, if_neg h1, if_neg h2, if_neg h3, Bool.and_false]

set_option maxHeartbeats 1600000 in
theorem refFit_four (mon day nth wd off fr to mv : Int) (w : World) :
    Calls Try.prog 29 #[.agg #[.int .i64 4, .int .i64 mon, .int .i64 day, .int .i64 nth, .int .i64 wd, .int .i64 off, .int .i64 fr, .int .i64 to, .int .i64 mv]] w fun e w' => e = .returned (.bool (fitB ⟨4, mon, day, nth, wd, off, fr, to, mv⟩)) ∧ Below w.heap.size w w' := by
  rw [fit4]
  obtain ⟨R, hR⟩ : ∃ R, decide (mon = 0 ∧ nth = 0 ∧ wd = 0 ∧ off = 0 ∧ fr = 0 ∧ to = 0 ∧ mv = 0 ∧ 0 ≤ day ∧ day ≤ 109572) = R := ⟨_, rfl⟩
  rw [hR]
  have HR := hideS hR
  clear hR
  go_enter Try.func29, Try.ntmps29
  go_wp2_with (go_at_call 28; refine (refIn_any _ _ _ _).mono ?_; rintro e w1 ⟨rfl, rfl⟩)
  all_goals
    go_ret
    refine ⟨retB (Eq.trans ?_ HR.out), (Below.refl w.heap.size w).alloc (Nat.le_refl _) _⟩
    first | exact (decide_eq_false (by omega)).symm | (rw [Bool.eq_iff_iff]; simp only [Bool.and_eq_true, decide_eq_true_eq]; omega)

set_option maxHeartbeats 1600000 in
theorem refFit_rng (kind mon day nth wd off fr to mv : Int) (w : World) (h4 : kind ≠ 4) (h : ¬ RngR fr to mv) :
    Calls Try.prog 29 #[.agg #[.int .i64 kind, .int .i64 mon, .int .i64 day, .int .i64 nth, .int .i64 wd, .int .i64 off, .int .i64 fr, .int .i64 to, .int .i64 mv]] w fun e w' => e = .returned (.bool (fitB ⟨kind, mon, day, nth, wd, off, fr, to, mv⟩)) ∧ Below w.heap.size w w' := by
  rw [fit_rng h4 h]
  have h4' : (kind == 4) = false := beq_eq_false_iff_ne.2 h4
  have HI := hideS (fun (n lo hi : Int) (wx : World) => refIn_any n lo hi wx)
  unfold RngR at h
  by_cases a : 1900 ≤ fr ∧ fr ≤ 2199
  · by_cases b : fr ≤ to ∧ to ≤ 2199
    · have c : ¬ (0 ≤ mv ∧ mv ≤ 2) := by omega
      have ia := hideS (fun wx => HI.out fr 1900 2199 wx)
      have ib := hideS (fun wx => HI.out to fr 2199 wx)
      have ic := hideS (fun wx => HI.out mv 0 2 wx)
      rw [decide_eq_true a] at ia
      rw [decide_eq_true b] at ib
      rw [decide_eq_false c] at ic
      clear h h4 a b c HI
      go_enter Try.func29, Try.ntmps29
      go_wp2_with (first | (go_at_call_of 28 (Value.int IntKind.i64 1900); refine (ia.out _).mono ?_; rintro e w1 ⟨rfl, rfl⟩) | (go_at_call_of 28 (Value.int IntKind.i64 to); refine (ib.out _).mono ?_; rintro e w1 ⟨rfl, rfl⟩) | (go_at_call_of 28 (Value.int IntKind.i64 mv); refine (ic.out _).mono ?_; rintro e w1 ⟨rfl, rfl⟩))
      go_ret
      exact ⟨rfl, (Below.refl w.heap.size w).alloc (Nat.le_refl _) _⟩
    · have ia := hideS (fun wx => HI.out fr 1900 2199 wx)
      have ib := hideS (fun wx => HI.out to fr 2199 wx)
      rw [decide_eq_true a] at ia
      rw [decide_eq_false b] at ib
      clear h h4 a b HI
      go_enter Try.func29, Try.ntmps29
      go_wp2_with (first | (go_at_call_of 28 (Value.int IntKind.i64 1900); refine (ia.out _).mono ?_; rintro e w1 ⟨rfl, rfl⟩) | (go_at_call_of 28 (Value.int IntKind.i64 to); refine (ib.out _).mono ?_; rintro e w1 ⟨rfl, rfl⟩))
      go_ret
      exact ⟨rfl, (Below.refl w.heap.size w).alloc (Nat.le_refl _) _⟩
  · have ia := hideS (fun wx => HI.out fr 1900 2199 wx)
    rw [decide_eq_false a] at ia
    clear h h4 a HI
    go_enter Try.func29, Try.ntmps29
    go_wp2_with (go_at_call 28; refine (ia.out _).mono ?_; rintro e w1 ⟨rfl, rfl⟩)
    go_ret
    exact ⟨rfl, (Below.refl w.heap.size w).alloc (Nat.le_refl _) _⟩

set_option maxHeartbeats 3200000 in
theorem refFit_rest (kind mon day nth wd off fr to mv : Int) (w : World) (h1 : kind ≠ 1) (h4 : kind ≠ 4) (h : RngR fr to mv) :
    Calls Try.prog 29 #[.agg #[.int .i64 kind, .int .i64 mon, .int .i64 day, .int .i64 nth, .int .i64 wd, .int .i64 off, .int .i64 fr, .int .i64 to, .int .i64 mv]] w fun e w' => e = .returned (.bool (fitB ⟨kind, mon, day, nth, wd, off, fr, to, mv⟩)) ∧ Below w.heap.size w w' := by
  have HI := hideS (fun (n lo hi : Int) (wx : World) => refIn_any n lo hi wx)
  have ia := hideS (fun wx => HI.out fr 1900 2199 wx)
  have ib := hideS (fun wx => HI.out to fr 2199 wx)
  have ic := hideS (fun wx => HI.out mv 0 2 wx)
  rw [decide_eq_true ⟨h.1, h.2.1⟩] at ia
  rw [decide_eq_true ⟨h.2.2.1, h.2.2.2.1⟩] at ib
  rw [decide_eq_true ⟨h.2.2.2.2.1, h.2.2.2.2.2⟩] at ic
  have HB2 : Hid (∀ (o1 o2 : Obj), Below w.heap.size w ((w.alloc o1).alloc o2)) := fun o1 o2 => ((Below.refl w.heap.size w).alloc (Nat.le_refl _) _).alloc (by simp) _
  have h4' : (kind == 4) = false := beq_eq_false_iff_ne.2 h4
  have h1' : (kind == 1) = false := beq_eq_false_iff_ne.2 h1
  by_cases k2 : kind = 2
  · subst k2
    rw [fit2 h]
    obtain ⟨R, hR⟩ : ∃ R, decide (day = 0 ∧ off = 0 ∧ 1 ≤ mon ∧ mon ≤ 12 ∧ 0 ≤ wd ∧ wd ≤ 6 ∧ 1 ≤ nth ∧ nth ≤ 5) = R := ⟨_, rfl⟩
    rw [hR]
    have HR := hideS hR
    clear hR h h1 h4 h1' h4'
    go_enter Try.func29, Try.ntmps29
    go_wp2_with (first | (go_at_call_of 28 (Value.int IntKind.i64 1900); refine (ia.out _).mono ?_; rintro e w1 ⟨rfl, rfl⟩) | (go_at_call_of 28 (Value.int IntKind.i64 2199); refine (ib.out _).mono ?_; rintro e w1 ⟨rfl, rfl⟩) | (go_at_call_of 28 (Value.int IntKind.i64 2); refine (ic.out _).mono ?_; rintro e w1 ⟨rfl, rfl⟩) | (go_at_call 28; refine (refIn_any _ _ _ _).mono ?_; rintro e w1 ⟨rfl, rfl⟩))
    all_goals
      go_ret
      refine ⟨retB (Eq.trans ?_ HR.out), HB2.out _ _⟩
      first | exact (decide_eq_false (by omega)).symm | (rw [Bool.eq_iff_iff]; simp only [Bool.and_eq_true, decide_eq_true_eq]; omega)
  · by_cases k3 : kind = 3
    · subst k3
      rw [fit3 h]
      obtain ⟨R, hR⟩ : ∃ R, decide (mon = 0 ∧ day = 0 ∧ nth = 0 ∧ wd = 0 ∧ -100 ≤ off ∧ off ≤ 100) = R := ⟨_, rfl⟩
      rw [hR]
      have HR := hideS hR
      clear hR h h1 h4 h1' h4' k2
      go_enter Try.func29, Try.ntmps29
      go_wp2_with (first | (go_at_call_of 28 (Value.int IntKind.i64 1900); refine (ia.out _).mono ?_; rintro e w1 ⟨rfl, rfl⟩) | (go_at_call_of 28 (Value.int IntKind.i64 2199); refine (ib.out _).mono ?_; rintro e w1 ⟨rfl, rfl⟩) | (go_at_call_of 28 (Value.int IntKind.i64 2); refine (ic.out _).mono ?_; rintro e w1 ⟨rfl, rfl⟩) | (go_at_call 28; refine (refIn_any _ _ _ _).mono ?_; rintro e w1 ⟨rfl, rfl⟩))
      all_goals
        go_ret
        refine ⟨retB (Eq.trans ?_ HR.out), HB2.out _ _⟩
        first | exact (decide_eq_false (by omega)).symm | (rw [Bool.eq_iff_iff]; simp only [Bool.and_eq_true, decide_eq_true_eq]; omega)
    · rw [fit_no h1 k2 k3 h4]
      have k2' : (kind == 2) = false := beq_eq_false_iff_ne.2 k2
      have k3' : (kind == 3) = false := beq_eq_false_iff_ne.2 k3
      clear h h1 h4 k2 k3
      go_enter Try.func29, Try.ntmps29
      go_wp2_with (first | (go_at_call_of 28 (Value.int IntKind.i64 1900); refine (ia.out _).mono ?_; rintro e w1 ⟨rfl, rfl⟩) | (go_at_call_of 28 (Value.int IntKind.i64 2199); refine (ib.out _).mono ?_; rintro e w1 ⟨rfl, rfl⟩) | (go_at_call_of 28 (Value.int IntKind.i64 2); refine (ic.out _).mono ?_; rintro e w1 ⟨rfl, rfl⟩))
      go_ret
      exact ⟨rfl, HB2.out _ _⟩
end Go.Proofs.Ytcbbbkngjdlcjaa
