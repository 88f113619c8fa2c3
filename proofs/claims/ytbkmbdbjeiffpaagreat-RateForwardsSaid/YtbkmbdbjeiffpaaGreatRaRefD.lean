/- The contracts of the document's Forward and Convert. -/
import Derived.Test.YtbkmbdbjeiffpaaGreatRaRefC
namespace Go.Proofs.YtbkmbdbjeiffpaaGreat
open Go.RowKit

/-- A number above 0. -/
def posB (u : Int) : Bool := finB u && ltB 0 u
/-- The three words that Forward is asked for. -/
def fwI (a b c : Int) : Nat → Int
  | 0 => a
  | 1 => b
  | _ => c
theorem fw_u64 {a b c : Int} (ha : U64 a) (hb : U64 b) (hc : U64 c) : ∀ m, U64 (fwI a b c m)
  | 0 => ha
  | 1 => hb
  | _ + 2 => hc
theorem fw_cell (w : World) (a b c : Int) (m : Nat) (hm : m < 3) : (w.alloc (.cells #[.int .u64 a, .int .u64 b, .int .u64 c] 26)).cell? ⟨w.heap.size, m, none⟩ = some (.int .u64 (fwI a b c m)) := by
  rcases (show m = 0 ∨ m = 1 ∨ m = 2 by omega) with rfl | rfl | rfl
  · simp [fwI]
  · simp [fwI]
  · simp [fwI]

set_option maxHeartbeats 3200000 in
theorem refForward_bad (a b c : Int) (w : World) (ha : U64 a) (hb : U64 b) (hc : U64 c) (h : (posB a && posB b && posB c) = false) :
    Calls Tryz.prog 5 #[.int .u64 a, .int .u64 b, .int .u64 c] w fun e w' => e = .returned (.tuple #[.int .u64 0, .int .i64 91]) ∧ Below w.heap.size w w' := by
  have HU := hideS (fw_u64 ha hb hc)
  have HC := hideS (fw_cell w a b c)
  have HAll : Hid (¬ ∀ j < 3, posB (fwI a b c j) = true) := fun f => by
    have f0 : posB a = true := f 0 (by omega)
    have f1 : posB b = true := f 1 (by omega)
    have f2 : posB c = true := f 2 (by omega)
    rw [f0, f1, f2] at h; exact Bool.noConfusion h
  have HBw := hideS ((Below.refl w.heap.size w).alloc (Nat.le_refl _) (.cells #[.int .u64 a, .int .u64 b, .int .u64 c] 26))
  clear ha hb hc h
  go_enter Tryz.func5, Tryz.ntmps5
  go_wp2_with fail
  generalize hwa : w.alloc (.cells #[.int .u64 a, .int .u64 b, .int .u64 c] 26) = wa at *
  clear hwa
  generalize fwI a b c = V at *
  go_loopw [9] (fun i wr => ∃ m : Nat, m ≤ 3 ∧ i = .int .i64 m ∧ Hid (wr = wa) ∧ Hid (∀ j < m, posB (V j) = true)) (fun i _ => 3 - (intOf i).toNat)
  case atStart => exact ⟨0, by omega, rfl, rfl, fun j hj => by omega⟩
  case round =>
    obtain ⟨m, hm, rfl, HW, HJ⟩ := hrel
    obtain rfl : wr = wa := HW.out
    by_cases hlt : m < 3
    · have k0 := HC.out m hlt
      have H1 := hideS fun w => refNum_any (V m) w (HU.out m)
      have H2 := hideS fun w => refAbove_any (V m) w (HU.out m)
      have HP : Hid (finB (V m) = true → ltB 0 (V m) = true → ∀ j < m + 1, posB (V j) = true) := fun a b j hj => by
        by_cases e : j < m
        · exact HJ.out j e
        · obtain rfl : j = m := by omega
          unfold posB; rw [a, b]; rfl
      generalize V m = x at *
      generalize finB x = b1 at *
      generalize ltB 0 x = b2 at *
      have hi : (m : Int) < 3 := by omega
      cases b1
      · go_wp2_with fail
        refine (H1.out _).mono ?_
        rintro e w' ⟨rfl, rfl⟩
        go_wp2_with fail
        go_ret2
        exact ⟨rfl, HBw.out⟩
      · cases b2
        · go_wp2_with fail
          refine (H1.out _).mono ?_
          rintro e w' ⟨rfl, rfl⟩
          go_wp2_with fail
          refine (H2.out _).mono ?_
          rintro e w' ⟨rfl, rfl⟩
          go_wp2_with fail
          go_ret2
          exact ⟨rfl, HBw.out⟩
        · have HP2 := hideS (HP.out rfl rfl)
          go_wp2_with fail
          refine (H1.out _).mono ?_
          rintro e w' ⟨rfl, rfl⟩
          go_wp2_with fail
          refine (H2.out _).mono ?_
          rintro e w' ⟨rfl, rfl⟩
          go_wp2_with fail
          go_roundw
          case rel => exact ⟨m + 1, by omega, by go_num, trivial, HP2⟩
          case measure => simp [intOf]; omega
    · obtain rfl : m = 3 := by omega
      exact absurd HJ.out HAll.out

set_option maxHeartbeats 3200000 in
theorem refForward_ok (a b c q d r : Int) (w : World) (ha : U64 a) (hb : U64 b) (hc : U64 c) (h : (posB a && posB b && posB c) = true) (H6 : Hid (Stp2 15 a b q)) (H7 : Hid (Stp2 16 q 4607182418800017408 d)) (H8 : Hid (Stp2 15 d c r)) (hf : U64 r) :
    Calls Tryz.prog 5 #[.int .u64 a, .int .u64 b, .int .u64 c] w fun e w' => e = .returned (.tuple #[.int .u64 (enyU r), .int .i64 (enyE r)]) ∧ Below w.heap.size w w' := by
  have HU := hideS (fw_u64 ha hb hc)
  have HC := hideS (fw_cell w a b c)
  have HAll : Hid (∀ j < 3, finB (fwI a b c j) = true ∧ ltB 0 (fwI a b c j) = true) := by
    have h0 : posB a = true ∧ posB b = true ∧ posB c = true := by
      cases h1 : posB a <;> cases h2 : posB b <;> cases h3 : posB c <;> simp [h1, h2, h3] at h ⊢
    have e : ∀ x, posB x = true → finB x = true ∧ ltB 0 x = true := fun x hx => by
      unfold posB at hx
      cases h1 : finB x <;> cases h2 : ltB 0 x <;> simp [h1, h2] at hx ⊢
    intro j hj
    rcases (show j = 0 ∨ j = 1 ∨ j = 2 by omega) with rfl | rfl | rfl
    · exact e _ h0.1
    · exact e _ h0.2.1
    · exact e _ h0.2.2
  have HN := hideS fun w => refNum_any r w hf
  have hE := eny_cases r
  generalize enyU r = eu at *
  generalize enyE r = ee at *
  have HB0 := hideS ((Below.refl w.heap.size w).alloc (Nat.le_refl _) (.cells #[.int .u64 a, .int .u64 b, .int .u64 c] 26))
  clear ha hb hc h hf
  go_enter Tryz.func5, Tryz.ntmps5
  go_wp2_with fail
  generalize hwa : w.alloc (.cells #[.int .u64 a, .int .u64 b, .int .u64 c] 26) = wa at *
  clear hwa
  generalize fwI a b c = V at *
  go_loopw [9] (fun i wr => ∃ m : Nat, m ≤ 3 ∧ i = .int .i64 m ∧ Hid (wr = wa)) (fun i _ => 3 - (intOf i).toNat)
  case atStart => exact ⟨0, by omega, rfl, rfl⟩
  case round =>
    obtain ⟨m, hm, rfl, HW⟩ := hrel
    obtain rfl : wr = wa := HW.out
    by_cases hlt : m < 3
    · have k0 := HC.out m hlt
      have H1 := hideS fun w => refNum_any (V m) w (HU.out m)
      have H2 := hideS fun w => refAbove_any (V m) w (HU.out m)
      rw [(HAll.out m hlt).1] at H1
      rw [(HAll.out m hlt).2] at H2
      generalize V m = x at *
      have hi : (m : Int) < 3 := by omega
      go_wp2_with fail
      refine (H1.out _).mono ?_
      rintro e w' ⟨rfl, rfl⟩
      go_wp2_with fail
      refine (H2.out _).mono ?_
      rintro e w' ⟨rfl, rfl⟩
      go_wp2_with fail
      go_roundw
      case rel => exact ⟨m + 1, by omega, by go_num, trivial⟩
      case measure => simp [intOf]; omega
    · obtain rfl : m = 3 := by omega
      go_wp2_with fail
      refine (H6.out _).mono ?_
      rintro e w1 ⟨rfl, hb⟩
      have HB1 := hideS (HB0.out.trans (hb.mono HB0.out.size))
      clear hb HB0
      go_wp2_with fail
      refine (H7.out _).mono ?_
      rintro e w2 ⟨rfl, hb⟩
      have HB2 := hideS (HB1.out.trans (hb.mono HB1.out.size))
      clear hb HB1
      go_wp2_with fail
      refine (H8.out _).mono ?_
      rintro e w3 ⟨rfl, hb⟩
      have HB3 := hideS (HB2.out.trans (hb.mono HB2.out.size))
      clear hb HB2
      rcases hE with ⟨e1, e2, e3⟩ | ⟨e1, e2, e3⟩
      all_goals
        rw [e1] at HN
        go_wp2_with fail
        refine (HN.out _).mono ?_
        rintro e w' ⟨rfl, rfl⟩
        go_wp2_with fail
        go_ret2
        exact ⟨by rw [e2, e3]; rfl, HB3.out⟩

set_option maxHeartbeats 1600000 in
theorem refConvert_kind (k k' r t : Int) (w : World) (h : ¬ ((1 ≤ k ∧ k ≤ 6) ∧ (1 ≤ k' ∧ k' ≤ 6))) :
    Calls Tryz.prog 8 #[.int .i64 k, .int .i64 k', .int .u64 r, .int .u64 t] w fun e w' => e = .returned (.tuple #[.int .u64 0, .int .i64 90]) ∧ Below w.heap.size w w' := by
  have HK := hideS fun w => refKind_any k w
  have HK' := hideS fun w => refKind_any k' w
  by_cases h1 : 1 ≤ k ∧ k ≤ 6
  · rw [decide_eq_true h1] at HK
    rw [decide_eq_false (fun a => h ⟨h1, a⟩)] at HK'
    clear h h1
    go_enter Tryz.func8, Tryz.ntmps8
    go_wp2_with fail
    refine (HK.out _).mono ?_
    rintro e w' ⟨rfl, rfl⟩
    go_wp2_with fail
    refine (HK'.out _).mono ?_
    rintro e w' ⟨rfl, rfl⟩
    go_wp2_with fail
    go_ret2
    exact ⟨rfl, Below.refl _ _⟩
  · rw [decide_eq_false h1] at HK
    clear h h1 HK'
    go_enter Tryz.func8, Tryz.ntmps8
    go_wp2_with fail
    refine (HK.out _).mono ?_
    rintro e w' ⟨rfl, rfl⟩
    go_wp2_with fail
    go_ret2
    exact ⟨rfl, Below.refl _ _⟩

set_option maxHeartbeats 1600000 in
theorem refConvert_err (k k' r t u E : Int) (w : World) (h1 : 1 ≤ k ∧ k ≤ 6) (h2 : 1 ≤ k' ∧ k' ≤ 6) (hE : E ≠ 0) (HF : Hid (∀ wx, Calls Tryz.prog 22 #[.int .i64 k, .int .u64 r, .int .u64 t] wx fun e w' => e = .returned (.tuple #[.int .u64 u, .int .i64 E]) ∧ Below wx.heap.size wx w')) :
    Calls Tryz.prog 8 #[.int .i64 k, .int .i64 k', .int .u64 r, .int .u64 t] w fun e w' => e = .returned (.tuple #[.int .u64 0, .int .i64 E]) ∧ Below w.heap.size w w' := by
  have HK := hideS fun w => refKind_any k w
  have HK' := hideS fun w => refKind_any k' w
  rw [decide_eq_true h1] at HK
  rw [decide_eq_true h2] at HK'
  have hE' : (E != 0) = true := bne_iff_ne.2 hE
  clear h1 h2 hE
  go_enter Tryz.func8, Tryz.ntmps8
  go_wp2_with fail
  refine (HK.out _).mono ?_
  rintro e w' ⟨rfl, rfl⟩
  go_wp2_with fail
  refine (HK'.out _).mono ?_
  rintro e w' ⟨rfl, rfl⟩
  go_wp2_with fail
  refine (HF.out _).mono ?_
  rintro e w1 ⟨rfl, hb1⟩
  go_wp2_with fail
  go_ret2
  exact ⟨rfl, hb1⟩

set_option maxHeartbeats 1600000 in
theorem refConvert_ok (k k' r t u v E : Int) (w : World) (h1 : 1 ≤ k ∧ k ≤ 6) (h2 : 1 ≤ k' ∧ k' ≤ 6) (HF : Hid (∀ wx, Calls Tryz.prog 22 #[.int .i64 k, .int .u64 r, .int .u64 t] wx fun e w' => e = .returned (.tuple #[.int .u64 u, .int .i64 0]) ∧ Below wx.heap.size wx w')) (HY : Hid (∀ wx, Calls Tryz.prog 23 #[.int .i64 k', .int .u64 u, .int .u64 t] wx fun e w' => e = .returned (.tuple #[.int .u64 v, .int .i64 E]) ∧ Below wx.heap.size wx w')) :
    Calls Tryz.prog 8 #[.int .i64 k, .int .i64 k', .int .u64 r, .int .u64 t] w fun e w' => e = .returned (.tuple #[.int .u64 v, .int .i64 E]) ∧ Below w.heap.size w w' := by
  have HK := hideS fun w => refKind_any k w
  have HK' := hideS fun w => refKind_any k' w
  rw [decide_eq_true h1] at HK
  rw [decide_eq_true h2] at HK'
  clear h1 h2
  go_enter Tryz.func8, Tryz.ntmps8
  go_wp2_with fail
  refine (HK.out _).mono ?_
  rintro e w' ⟨rfl, rfl⟩
  go_wp2_with fail
  refine (HK'.out _).mono ?_
  rintro e w' ⟨rfl, rfl⟩
  go_wp2_with fail
  refine (HF.out _).mono ?_
  rintro e w1 ⟨rfl, hb1⟩
  go_wp2_with fail
  refine (HY.out _).mono ?_
  rintro e w2 ⟨rfl, hb2⟩
  go_wp2_with fail
  go_ret2
  exact ⟨rfl, hb1.trans (hb2.mono hb1.size)⟩
end Go.Proofs.YtbkmbdbjeiffpaaGreat
