/- The contracts of the document's Check, asked, open, Holiday and Open. The contracts of the document's isDay, asked, open, Holiday, Open and search. -/
import Derived.Test.YtcbbbkngjdlcjaaHbd
import Derived.Test.YtcbbbkngjdlcjaaHay
namespace Go.Proofs.Ytcbbbkngjdlcjaa
open Go.RowKit

set_option maxHeartbeats 1600000 in
theorem refCheck_loop (W : Int) (p : Option Addr) (b off c : Nat) (rs : List Rul) (K : Nat) (A B : Int) (w : World) (w0 : 0 ≤ W ∧ W ≤ 126) (hs : RSrc w p b off rs) (hl : rs.length ≤ 64) (hK : K ≤ rs.length) (hf : ∀ j < K, fitB (rs.getD j rul0) = true)
    (hE : (K = rs.length ∧ A = 0 ∧ B = 0) ∨ (K < rs.length ∧ fitB (rs.getD K rul0) = false ∧ A = 60 ∧ B = K)) :
    Calls Try.prog 16 #[.agg #[.int .i64 W, .slice p rs.length c]] w fun e w' => e = .returned (.tuple #[.int .i64 A, .int .i64 B]) ∧ Below w.heap.size w w' := by
  have hi := fun wx => refIn_any W 0 126 wx
  rw [decide_eq_true w0] at hi
  have HI := hideS hi
  clear hi w0
  have HS := hideS hs
  have HF := hideS hf
  have HE := hideS hE
  clear hs hf hE
  obtain ⟨N, hN⟩ : ∃ N, rs.length = N := ⟨_, rfl⟩
  have HN := hideS hN
  rw [hN] at hl hK ⊢
  rw [hN] at HE
  clear hN
  go_enter Try.func16, Try.ntmps16
  go_wp2_with (go_at_call 28; refine (HI.out _).mono ?_; rintro e w1 ⟨rfl, rfl⟩)
  have HB0 : Hid (CBox w W (.slice p N c) (w.alloc (.cells #[.int .i64 W, .slice p N c] 24))) := Below.refl _ _
  go_loopw [4] (fun i wr => ∃ (k : Nat), k ≤ K ∧ i = .int .i64 k ∧ Hid (CBox w W (.slice p N c) wr)) (fun i _ => N - (intOf i).toNat)
  case atStart => exact ⟨0, by omega, rfl, HB0⟩
  case round =>
    obtain ⟨k, hk, rfl, HB⟩ := hrel
    obtain ⟨c0, c1⟩ := cal_cells HB.out
    by_cases hlt : k < N
    · have hx : k < rs.length := by rw [HN.out]; exact hlt
      obtain rfl := HS.out.at_ (by omega)
      have hrc := (HS.out.cell k hx).below HB.out.below (HS.out.lt (by omega))
      obtain ⟨r, hr⟩ : ∃ r, rs.getD k rul0 = r := ⟨_, rfl⟩
      rw [hr] at hrc
      have HRk := hideS hr
      clear hr hx
      obtain ⟨g0, g1, g2, g3, g4, g5, g6, g7, g8⟩ := hrc
      have hft := fun wx => refFit_any r wx
      by_cases hkK : k < K
      · have e1 := HF.out k hkK
        rw [HRk.out] at e1
        rw [e1] at hft
        have HFt := hideS hft
        clear hft e1
        obtain ⟨kind, mon, day, nth, wd, offs, fr, to, mv⟩ := r
        dsimp only at *
        go_wp2_with (go_at_call 29; refine (HFt.out _).mono ?_; rintro e w2 ⟨rfl, hb2⟩; have HB2 := hideS (HB.out.step hb2); clear hb2)
        go_roundw
        case rel => exact ⟨k + 1, by omega, by go_num, HB2⟩
        case measure => simp [intOf]; omega
      · obtain rfl : k = K := by omega
        have hEE : fitB r = false ∧ A = 60 ∧ B = k := by
          rcases HE.out with ⟨a, _⟩ | ⟨_, a, b⟩
          · omega
          · rw [HRk.out] at a; exact ⟨a, b⟩
        rw [hEE.1] at hft
        have HFt := hideS hft
        have HA := hideS hEE.2
        clear hft hEE
        obtain ⟨kind, mon, day, nth, wd, offs, fr, to, mv⟩ := r
        dsimp only at *
        go_wp2_with (go_at_call 29; refine (HFt.out _).mono ?_; rintro e w2 ⟨rfl, hb2⟩; have HB2 := hideS (HB.out.step hb2); clear hb2)
        go_ret2
        obtain ⟨rfl, rfl⟩ := HA.out
        exact ⟨rfl, HB2.out.below⟩
    · have HA : Hid (A = 0 ∧ B = 0) := by
        rcases HE.out with ⟨_, a⟩ | ⟨a, _⟩
        · exact a
        · omega
      have hge : ¬ (k : Int) < N := by omega
      go_wp2_with fail
      go_ret2
      obtain ⟨rfl, rfl⟩ := HA.out
      exact ⟨rfl, HB.out.below⟩

set_option maxHeartbeats 400000 in
theorem refCheck_any (W : Int) (p : Option Addr) (b off c : Nat) (rs : List Rul) (A B : Int) (w : World) (h : ChkR W rs A B) (hs : RSrc w p b off rs) (hl : rs.length ≤ 1000000) :
    Calls Try.prog 16 #[.agg #[.int .i64 W, .slice p rs.length c]] w fun e w' => e = .returned (.tuple #[.int .i64 A, .int .i64 B]) ∧ Below w.heap.size w w' := by
  cases h with
  | long h =>
    generalize rs.length = N at *
    have h' : (64 : Int) < N := by omega
    clear hs h
    go_enter Try.func16, Try.ntmps16
    go_wp2_with fail
    go_ret2
    exact ⟨rfl, (Below.refl w.heap.size w).alloc (Nat.le_refl _) _⟩
  | week h h2 =>
    have hi := fun wx => refIn_any W 0 126 wx
    rw [decide_eq_false h2] at hi
    have HI := hideS hi
    generalize rs.length = N at *
    have h' : ¬ (64 : Int) < N := by omega
    clear hs h hi h2
    go_enter Try.func16, Try.ntmps16
    go_wp2_with (go_at_call 28; refine (HI.out _).mono ?_; rintro e w1 ⟨rfl, rfl⟩)
    go_ret2
    exact ⟨rfl, (Below.refl w.heap.size w).alloc (Nat.le_refl _) _⟩
  | rule k h1 h2 h3 h4 h5 => exact refCheck_loop W p b off c rs k 60 k w h2 hs h1 (by omega) h5 (Or.inr ⟨h3, h4, rfl, rfl⟩)
  | ok h => exact refCheck_loop W p b off c rs rs.length 0 0 w ⟨h.w0, h.w1⟩ hs h.len (Nat.le_refl _) (fun j hj => h.fit _ (getD_mem hj)) (Or.inl ⟨rfl, rfl, rfl⟩)
end Go.Proofs.Ytcbbbkngjdlcjaa
namespace Go.Proofs.Ytcbbbkngjdlcjaa
open Go.RowKit

theorem refIsDay_any (n : Int) (w : World) :
    Calls Try.prog 33 #[.int .i64 n] w fun e w' => e = .returned (.bool (decide (isDayP n))) ∧ w' = w := by
  have HI := hideS (fun wx => refIn_any n 0 109572 wx)
  rw [show decide (isDayP n) = decide (0 ≤ n ∧ n ≤ 109572) from decide_eq_decide.2 Iff.rfl]
  generalize decide (0 ≤ n ∧ n ≤ 109572) = R at *
  go_enter Try.func33, Try.ntmps33
  go_wp2_with (go_at_call 28; refine (HI.out _).mono ?_; rintro e w1 ⟨rfl, rfl⟩)
  go_ret
  exact ⟨rfl, rfl⟩

set_option maxHeartbeats 800000 in
theorem refOpenD_any (W n : Int) (p : Option Addr) (b off c : Nat) (rs : List Rul) (w : World) (h : OkC W rs) (hs : RSrc w p b off rs) (hn : isDayP n) :
    Calls Try.prog 34 #[.agg #[.int .i64 W, .slice p rs.length c], .int .i64 n] w fun e w' => e = .returned (.bool (opB W rs n)) ∧ Below w.heap.size w w' := by
  obtain ⟨y, m, d, hd⟩ := isD_ex hn.1 hn.2
  unfold opB
  rw [yr_eq hd]
  have HH : Hid (∀ wx, Below w.heap.size w wx → Calls Try.prog 50 #[.agg #[.int .i64 W, .slice p rs.length c], .int .i64 n] wx fun e w' => e = .returned (.bool (holB W rs n y)) ∧ Below wx.heap.size wx w') := fun wx hb =>
    refHol_any W n y m d p b off c rs wx h.w0 h.w1 (hs.below hb) h.fit (by have := h.len; omega) hd
  have HO := hideS (fun wx => refOff_any W n (.slice p rs.length c) wx)
  clear h hs hd hn
  generalize holB W rs n y = H at *
  generalize rs.length = N at *
  generalize offB W n = F at *
  cases F
  · go_enter Try.func34, Try.ntmps34
    go_wp2_with fail
    refine (HO.out _).mono ?_
    rintro e w1 ⟨rfl, hb1⟩
    have HB1 := hideS (CBox.first hb1)
    obtain ⟨c0, c1⟩ := cal_cells HB1.out
    clear hb1
    go_wp2_with (go_at_call 50; refine (HH.out _ HB1.out.below).mono ?_; rintro e w2 ⟨rfl, hb2⟩)
    go_ret
    exact ⟨rfl, (HB1.out.step hb2).below⟩
  · go_enter Try.func34, Try.ntmps34
    go_wp2_with (go_at_call 49; refine (HO.out _).mono ?_; rintro e w1 ⟨rfl, hb1⟩)
    go_ret
    exact ⟨rfl, (CBox.first hb1).below⟩
end Go.Proofs.Ytcbbbkngjdlcjaa
