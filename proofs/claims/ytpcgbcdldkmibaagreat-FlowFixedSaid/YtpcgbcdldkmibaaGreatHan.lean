/- The contract of the program's Check. The contracts of sched's Check, and of what it calls. The contract of the document's point. -/
import Derived.Test.YtpcgbcdldkmibaaGreatHam
namespace Go.Proofs.YtpcgbcdldkmibaaGreat
open Go.RowKit

def CBoxP (w : World) (W : Int) (v : Value) (wr : World) : Prop := Below (w.heap.size + 1) (w.alloc (.cells #[.int .i64 W, v] 25)) wr
theorem CBoxP.cells {w w1 : World} {W : Int} {v : Value} (hb : CBoxP w W v w1) :
    w1.cell? ⟨w.heap.size, 0, none⟩ = some (.int .i64 W) ∧ w1.cell? ⟨w.heap.size, 1, none⟩ = some v := by
  refine ⟨?_, ?_⟩
  · rw [Below.cell hb (p := ⟨w.heap.size, 0, none⟩) (by simp)]; simp
  · rw [Below.cell hb (p := ⟨w.heap.size, 1, none⟩) (by simp)]; simp
theorem CBoxP.step {w wr w' : World} {W : Int} {v : Value} (h : CBoxP w W v wr) (hb : Below wr.heap.size wr w') : CBoxP w W v w' :=
  Below.trans h (hb.mono (by have := Below.size h; simp at this; omega))
theorem CBoxP.below {w wr : World} {W : Int} {v : Value} (h : CBoxP w W v wr) : Below w.heap.size w wr :=
  ((Below.refl w.heap.size w).alloc (Nat.le_refl _) _).trans (Below.mono h (by omega))
theorem CBoxP.first {w w' : World} {W : Int} {v : Value} (hb : Below (w.alloc (.cells #[.int .i64 W, v] 25)).heap.size (w.alloc (.cells #[.int .i64 W, v] 25)) w') : CBoxP w W v w' :=
  hb.mono (by simp)
theorem below3 {wr w2 w3 : World} {o : Obj} (h2 : Below (wr.alloc o).heap.size (wr.alloc o) w2) (h3 : Below w2.heap.size w2 w3) : Below wr.heap.size wr w3 :=
  (((Below.refl wr.heap.size wr).alloc (Nat.le_refl _) o).trans (h2.mono (by simp))).trans (h3.mono (by have := h2.size; simp at this; omega))

set_option maxHeartbeats 3200000 in
theorem check_loop (W : Int) (p : Option Addr) (b off c : Nat) (rs : List Rul) (K : Nat) (A B : Int) (w : World) (w0 : 0 ≤ W ∧ W ≤ 126) (hs : RSrc w p b off rs) (hl : rs.length ≤ 64) (hK : K ≤ rs.length) (hf : ∀ j < K, fitB (rs.getD j rul0) = true)
    (hE : (K = rs.length ∧ A = 0 ∧ B = 0) ∨ (K < rs.length ∧ fitB (rs.getD K rul0) = false ∧ A = 60 ∧ B = K)) :
    Calls Tryz.prog 148 #[.agg #[.int .i64 W, .slice p rs.length c]] w fun e w' => e = .returned (.tuple #[.int .i64 A, .int .i64 B]) ∧ Below w.heap.size w w' := by
  obtain ⟨w0, w1⟩ := w0
  have w1' : ¬ 127 ≤ W := by omega
  have HS := hideS hs
  have HF := hideS hf
  have HE := hideS hE
  clear hs hf hE
  obtain ⟨N, hN⟩ : ∃ N, rs.length = N := ⟨_, rfl⟩
  have HN := hideS hN
  rw [hN] at hl hK ⊢
  rw [hN] at HE
  clear hN
  go_enter Tryz.func148, Tryz.ntmps148
  go_wp2_with fail
  have HB0 : Hid (CBoxP w W (.slice p N c) (w.alloc (.cells #[.int .i64 W, .slice p N c] 25))) := Below.refl _ _
  go_loopw [21] (fun i wr => ∃ (k : Nat), k ≤ K ∧ i = .int .i64 k ∧ Hid (CBoxP w W (.slice p N c) wr)) (fun i _ => N - (intOf i).toNat)
  case atStart => exact ⟨0, by omega, rfl, HB0⟩
  case round =>
    obtain ⟨k, hk, rfl, HB⟩ := hrel
    by_cases hlt : k < N
    · have hx : k < rs.length := by rw [HN.out]; exact hlt
      obtain rfl := HS.out.at_ (by omega)
      have hrc := (HS.out.cell k hx).below HB.out.below (HS.out.lt (by omega))
      have hft := HF.out k
      have hEE : k < K ∨ (fitB (rs.getD k rul0) = false ∧ A = 60 ∧ B = k) := by
        by_cases hkK : k < K
        · exact Or.inl hkK
        · obtain rfl : k = K := by omega
          rcases HE.out with ⟨a, _⟩ | ⟨_, a⟩
          · omega
          · exact Or.inr a
      generalize rs.getD k rul0 = r at hrc hft hEE
      clear hx
      obtain ⟨g0, g1, g2, g3, g4, g5, g6, g7, g8⟩ := hrc
      have key : ∀ R, fitB r = R → (k < K ∧ R = true) ∨ (R = false ∧ A = 60 ∧ B = k) := fun R hR => by
        rw [← hR]
        by_cases a : k < K
        · exact Or.inl ⟨a, hft a⟩
        · rcases hEE with b | b
          · exact absurd b a
          · exact Or.inr b
      clear hft hEE
      have HKey := hideS key
      clear key
      obtain ⟨kind, mon, day, nth, wd, offs, fr, to, mv⟩ := r
      dsimp only at *
      by_cases hkd : kind = 1 ∨ kind = 2 ∨ kind = 3 ∨ kind = 4
      · rcases hkd with rfl | rfl | rfl | rfl
        · have HH := hideS (fun wx => (holidayOf_any 1 mon day nth wd offs fr to mv wx (by omega) : Calls Tryz.prog 177 _ wx fun e w' => e = .returned (.iface 230 _) ∧ Below wx.heap.size wx w'))
          have HM := hideS (fun wx => may1_any mon day nth wd offs fr to mv wx)
          obtain ⟨R, hR⟩ : ∃ R, fitB ⟨1, mon, day, nth, wd, offs, fr, to, mv⟩ = R := ⟨_, rfl⟩
          have hKK := HKey.out R hR
          rw [hR] at HM
          clear hR HKey
          rcases hKK with ⟨a, rfl⟩ | ⟨rfl, a⟩
          · go_wp2_with (first | (go_at_call 177; refine (HH.out _).mono ?_; rintro e w2 ⟨rfl, hb2⟩) | (go_at_call 223; refine (HM.out _).mono ?_; rintro e w3 ⟨rfl, hb3⟩))
            have HB2 := hideS (HB.out.step (below3 hb2 hb3))
            clear hb2 hb3
            go_roundw
            case rel => exact ⟨k + 1, by omega, by go_num, HB2⟩
            case measure => simp [intOf]; omega
          · have HA := hideS a
            clear a
            go_wp2_with (first | (go_at_call 177; refine (HH.out _).mono ?_; rintro e w2 ⟨rfl, hb2⟩) | (go_at_call 223; refine (HM.out _).mono ?_; rintro e w3 ⟨rfl, hb3⟩))
            go_ret2
            obtain ⟨rfl, rfl⟩ := HA.out
            exact ⟨rfl, (HB.out.step (below3 hb2 hb3)).below⟩
        · have HH := hideS (fun wx => (holidayOf_any 2 mon day nth wd offs fr to mv wx (by omega) : Calls Tryz.prog 177 _ wx fun e w' => e = .returned (.iface 231 _) ∧ Below wx.heap.size wx w'))
          have HM := hideS (fun wx => may2_any mon day nth wd offs fr to mv wx)
          obtain ⟨R, hR⟩ : ∃ R, fitB ⟨2, mon, day, nth, wd, offs, fr, to, mv⟩ = R := ⟨_, rfl⟩
          have hKK := HKey.out R hR
          rw [hR] at HM
          clear hR HKey
          rcases hKK with ⟨a, rfl⟩ | ⟨rfl, a⟩
          · go_wp2_with (first | (go_at_call 177; refine (HH.out _).mono ?_; rintro e w2 ⟨rfl, hb2⟩) | (go_at_call 226; refine (HM.out _).mono ?_; rintro e w3 ⟨rfl, hb3⟩))
            have HB2 := hideS (HB.out.step (below3 hb2 hb3))
            clear hb2 hb3
            go_roundw
            case rel => exact ⟨k + 1, by omega, by go_num, HB2⟩
            case measure => simp [intOf]; omega
          · have HA := hideS a
            clear a
            go_wp2_with (first | (go_at_call 177; refine (HH.out _).mono ?_; rintro e w2 ⟨rfl, hb2⟩) | (go_at_call 226; refine (HM.out _).mono ?_; rintro e w3 ⟨rfl, hb3⟩))
            go_ret2
            obtain ⟨rfl, rfl⟩ := HA.out
            exact ⟨rfl, (HB.out.step (below3 hb2 hb3)).below⟩
        · have HH := hideS (fun wx => (holidayOf_any 3 mon day nth wd offs fr to mv wx (by omega) : Calls Tryz.prog 177 _ wx fun e w' => e = .returned (.iface 232 _) ∧ Below wx.heap.size wx w'))
          have HM := hideS (fun wx => may3_any mon day nth wd offs fr to mv wx)
          obtain ⟨R, hR⟩ : ∃ R, fitB ⟨3, mon, day, nth, wd, offs, fr, to, mv⟩ = R := ⟨_, rfl⟩
          have hKK := HKey.out R hR
          rw [hR] at HM
          clear hR HKey
          rcases hKK with ⟨a, rfl⟩ | ⟨rfl, a⟩
          · go_wp2_with (first | (go_at_call 177; refine (HH.out _).mono ?_; rintro e w2 ⟨rfl, hb2⟩) | (go_at_call 228; refine (HM.out _).mono ?_; rintro e w3 ⟨rfl, hb3⟩))
            have HB2 := hideS (HB.out.step (below3 hb2 hb3))
            clear hb2 hb3
            go_roundw
            case rel => exact ⟨k + 1, by omega, by go_num, HB2⟩
            case measure => simp [intOf]; omega
          · have HA := hideS a
            clear a
            go_wp2_with (first | (go_at_call 177; refine (HH.out _).mono ?_; rintro e w2 ⟨rfl, hb2⟩) | (go_at_call 228; refine (HM.out _).mono ?_; rintro e w3 ⟨rfl, hb3⟩))
            go_ret2
            obtain ⟨rfl, rfl⟩ := HA.out
            exact ⟨rfl, (HB.out.step (below3 hb2 hb3)).below⟩
        · have HH := hideS (fun wx => (holidayOf_any 4 mon day nth wd offs fr to mv wx (by omega) : Calls Tryz.prog 177 _ wx fun e w' => e = .returned (.iface 233 _) ∧ Below wx.heap.size wx w'))
          have HM := hideS (fun wx => may4_any mon day nth wd offs fr to mv wx)
          obtain ⟨R, hR⟩ : ∃ R, fitB ⟨4, mon, day, nth, wd, offs, fr, to, mv⟩ = R := ⟨_, rfl⟩
          have hKK := HKey.out R hR
          rw [hR] at HM
          clear hR HKey
          rcases hKK with ⟨a, rfl⟩ | ⟨rfl, a⟩
          · go_wp2_with (first | (go_at_call 177; refine (HH.out _).mono ?_; rintro e w2 ⟨rfl, hb2⟩) | (go_at_call 232; refine (HM.out _).mono ?_; rintro e w3 ⟨rfl, hb3⟩))
            have HB2 := hideS (HB.out.step (below3 hb2 hb3))
            clear hb2 hb3
            go_roundw
            case rel => exact ⟨k + 1, by omega, by go_num, HB2⟩
            case measure => simp [intOf]; omega
          · have HA := hideS a
            clear a
            go_wp2_with (first | (go_at_call 177; refine (HH.out _).mono ?_; rintro e w2 ⟨rfl, hb2⟩) | (go_at_call 232; refine (HM.out _).mono ?_; rintro e w3 ⟨rfl, hb3⟩))
            go_ret2
            obtain ⟨rfl, rfl⟩ := HA.out
            exact ⟨rfl, (HB.out.step (below3 hb2 hb3)).below⟩
      · have HH := hideS (fun wx => holidayOf_none kind mon day nth wd offs fr to mv wx hkd)
        have HM := hideS (fun wx => may0_any wx)
        have HA : Hid (A = 60 ∧ B = k) := by
          rcases HKey.out _ (fit_no (fun a => hkd (by omega)) (fun a => hkd (by omega)) (fun a => hkd (by omega)) (fun a => hkd (by omega))) with ⟨_, a⟩ | ⟨_, a⟩
          · exact Bool.noConfusion a
          · exact a
        clear HKey hkd
        go_wp2_with (first | (go_at_call 177; refine (HH.out _).mono ?_; rintro e w2 ⟨rfl, hb2⟩) | (go_at_call 234; refine (HM.out _).mono ?_; rintro e w3 ⟨rfl, hb3⟩))
        go_ret2
        obtain ⟨rfl, rfl⟩ := HA.out
        exact ⟨rfl, (HB.out.step (below3 hb2 hb3)).below⟩
    · have HA : Hid (A = 0 ∧ B = 0) := by
        rcases HE.out with ⟨_, a⟩ | ⟨a, _⟩
        · exact a
        · omega
      have hge : ¬ (k : Int) < N := by omega
      go_wp2_with fail
      go_ret2
      obtain ⟨rfl, rfl⟩ := HA.out
      exact ⟨rfl, HB.out.below⟩

set_option maxHeartbeats 400000 in
theorem check_any (W : Int) (p : Option Addr) (b off c : Nat) (rs : List Rul) (A B : Int) (w : World) (h : ChkR W rs A B) (hs : RSrc w p b off rs) (hl : rs.length ≤ 9223372036854775807) :
    Calls Tryz.prog 148 #[.agg #[.int .i64 W, .slice p rs.length c]] w fun e w' => e = .returned (.tuple #[.int .i64 A, .int .i64 B]) ∧ Below w.heap.size w w' := by
  cases h with
  | long h =>
    generalize rs.length = N at *
    have h' : (64 : Int) < N := by omega
    clear hs h
    go_enter Tryz.func148, Tryz.ntmps148
    go_wp2_with fail
    go_ret2
    exact ⟨rfl, (Below.refl w.heap.size w).alloc (Nat.le_refl _) _⟩
  | week h h2 =>
    generalize rs.length = N at *
    have h' : ¬ (64 : Int) < N := by omega
    clear hs h
    rcases (show W < 0 ∨ (¬ W < 0 ∧ 127 ≤ W) by omega) with a | ⟨a, a2⟩
    all_goals
      clear h2
      go_enter Tryz.func148, Tryz.ntmps148
      go_wp2_with fail
      go_ret2
      exact ⟨rfl, (Below.refl w.heap.size w).alloc (Nat.le_refl _) _⟩
  | rule k h1 h2 h3 h4 h5 => exact check_loop W p b off c rs k 60 k w h2 hs h1 (by omega) h5 (Or.inr ⟨h3, h4, rfl, rfl⟩)
  | ok h => exact check_loop W p b off c rs rs.length 0 0 w ⟨h.w0, h.w1⟩ hs h.len (Nat.le_refl _) (fun j hj => h.fit _ (getD_mem hj)) (Or.inl ⟨rfl, rfl, rfl⟩)
end Go.Proofs.YtpcgbcdldkmibaaGreat
namespace Go.Proofs.YtpcgbcdldkmibaaGreat
open Go.RowKit

theorem schIn_any (n lo hi : Int) (w : World) :
    Calls Tryz.prog 176 #[.int .i64 n, .int .i64 lo, .int .i64 hi] w fun e w' => e = .returned (.bool (decide (lo ≤ n ∧ n ≤ hi))) ∧ w' = w := by
  by_cases h1 : lo ≤ n <;> by_cases h2 : n ≤ hi
  all_goals
    first | rw [decide_eq_true (⟨h1, h2⟩ : lo ≤ n ∧ n ≤ hi)] | rw [decide_eq_false (fun h : lo ≤ n ∧ n ≤ hi => by omega)]
    go_enter Tryz.func176, Tryz.ntmps176
    go_wp2
    go_ret
    exact ⟨rfl, rfl⟩

theorem schDay_any (n : Int) (w : World) :
    Calls Tryz.prog 146 #[.int .i64 n] w fun e w' => e = .returned (.bool (decide (0 ≤ n ∧ n ≤ 109572))) ∧ w' = w := by
  have H := hideS (fun wx => schIn_any n 0 109572 wx)
  generalize decide (0 ≤ n ∧ n ≤ 109572) = d at *
  go_enter Tryz.func146, Tryz.ntmps146
  go_wp2_with (go_at_call 176; refine (H.out _).mono ?_; rintro e w1 ⟨rfl, rfl⟩)
  go_ret
  exact ⟨rfl, rfl⟩

theorem known_any (n : Int) (w : World) :
    Calls Tryz.prog 178 #[.int .i64 n] w fun e w' => e = .returned (.tuple #[.int .i64 (if 0 ≤ n ∧ n ≤ 109572 then n else 0), .bool (decide (0 ≤ n ∧ n ≤ 109572))]) ∧ w' = w := by
  have H := hideS (fun wx => schDay_any n wx)
  by_cases h : 0 ≤ n ∧ n ≤ 109572
  · rw [decide_eq_true h] at H ⊢
    rw [if_pos h]
    go_enter Tryz.func178, Tryz.ntmps178
    go_wp2_with (go_at_call 146; refine (H.out _).mono ?_; rintro e w1 ⟨rfl, rfl⟩)
    go_ret2
    exact ⟨rfl, rfl⟩
  · rw [decide_eq_false h] at H ⊢
    rw [if_neg h]
    go_enter Tryz.func178, Tryz.ntmps178
    go_wp2_with (go_at_call 146; refine (H.out _).mono ?_; rintro e w1 ⟨rfl, rfl⟩)
    go_ret2
    exact ⟨rfl, rfl⟩

theorem stubF_any (s : Spc) (W : Int) (v : Value) (w : World) (t1 : 1 ≤ s.stub) (t2 : s.stub ≤ 4) :
    Calls Tryz.prog 103 #[.agg #[.int .i64 s.st, .int .i64 s.en, .int .i64 s.n, .int .i64 s.unit, .int .i64 s.stub, .int .i64 s.roll, .int .i64 s.conv, .int .i64 s.lag, .int .i64 W, v]] w fun e w' => e = .returned (.bool (decide (s.stub ≤ 2))) ∧ Below w.heap.size w w' := by
  have HB := hideS (SBox.zero w s W v).below
  obtain ⟨st, en, n, unit, stub, roll, conv, lag⟩ := s
  dsimp only at *
  rcases (show stub = 1 ∨ stub = 2 ∨ stub = 3 ∨ stub = 4 by omega) with rfl | rfl | rfl | rfl
  all_goals
    go_enter Tryz.func103, Tryz.ntmps103
    go_wp2
    go_ret
    exact ⟨rfl, HB.out⟩

structure InP (n unit stub roll conv lag : Int) : Prop where
  hn : ∀ wx, Calls Tryz.prog 176 #[.int .i64 n, .int .i64 1, .int .i64 1200] wx fun e w' => e = .returned (.bool (decide (1 ≤ n ∧ n ≤ 1200))) ∧ wx = w'
  hu : ∀ wx, Calls Tryz.prog 176 #[.int .i64 unit, .int .i64 1, .int .i64 4] wx fun e w' => e = .returned (.bool (decide (1 ≤ unit ∧ unit ≤ 4))) ∧ wx = w'
  ht : ∀ wx, Calls Tryz.prog 176 #[.int .i64 stub, .int .i64 1, .int .i64 4] wx fun e w' => e = .returned (.bool (decide (1 ≤ stub ∧ stub ≤ 4))) ∧ wx = w'
  hr : ∀ wx, Calls Tryz.prog 176 #[.int .i64 roll, .int .i64 0, .int .i64 2] wx fun e w' => e = .returned (.bool (decide (0 ≤ roll ∧ roll ≤ 2))) ∧ wx = w'
  hc : ∀ wx, Calls Tryz.prog 176 #[.int .i64 conv, .int .i64 0, .int .i64 4] wx fun e w' => e = .returned (.bool (decide (0 ≤ conv ∧ conv ≤ 4))) ∧ wx = w'
  hl : ∀ wx, Calls Tryz.prog 176 #[.int .i64 lag, .int .i64 0, .int .i64 30] wx fun e w' => e = .returned (.bool (decide (0 ≤ lag ∧ lag ≤ 30))) ∧ wx = w'
theorem inP (n unit stub roll conv lag : Int) : InP n unit stub roll conv lag :=
  have t : ∀ x lo hi wx, Calls Tryz.prog 176 #[.int .i64 x, .int .i64 lo, .int .i64 hi] wx fun e w' => e = .returned (.bool (decide (lo ≤ x ∧ x ≤ hi))) ∧ wx = w' := fun x lo hi wx => (schIn_any x lo hi wx).mono fun _ _ ⟨a, b⟩ => ⟨a, b.symm⟩
  ⟨fun wx => t _ _ _ wx, fun wx => t _ _ _ wx, fun wx => t _ _ _ wx, fun wx => t _ _ _ wx, fun wx => t _ _ _ wx, fun wx => t _ _ _ wx⟩

set_option maxRecDepth 10000 in
set_option maxHeartbeats 3200000 in
theorem fits_c0 (st en n unit stub roll conv lag W : Int) (v : Value) (w : World) (a : decide (st < en) = false) (x y : Bool) (hx : (unit == 3) = x) (hy : (unit == 4) = y) :
    Calls Tryz.prog 147 #[.agg #[.int .i64 st, .int .i64 en, .int .i64 n, .int .i64 unit, .int .i64 stub, .int .i64 roll, .int .i64 conv, .int .i64 lag, .int .i64 W, v]] w fun e w' => e = .returned (.bool false) ∧ Below w.heap.size w w' := by
  have HB := hideS (SBox.zero w ⟨st, en, n, unit, stub, roll, conv, lag⟩ W v).below
  dsimp only at *
  cases x <;> cases y
  all_goals
    go_enter Tryz.func147, Tryz.ntmps147
    go_wp2_with fail
    go_ret
    exact ⟨rfl, HB.out⟩

set_option maxRecDepth 10000 in
set_option maxHeartbeats 3200000 in
theorem fits_c1 (st en n unit stub roll conv lag W : Int) (v : Value) (w : World) (a : decide (st < en) = true) (x y : Bool) (hx : (unit == 3) = x) (hy : (unit == 4) = y) (hn : Hid (∀ wx, Calls Tryz.prog 176 #[.int .i64 n, .int .i64 1, .int .i64 1200] wx fun e w' => e = .returned (.bool false) ∧ wx = w')) :
    Calls Tryz.prog 147 #[.agg #[.int .i64 st, .int .i64 en, .int .i64 n, .int .i64 unit, .int .i64 stub, .int .i64 roll, .int .i64 conv, .int .i64 lag, .int .i64 W, v]] w fun e w' => e = .returned (.bool false) ∧ Below w.heap.size w w' := by
  have HB := hideS (SBox.zero w ⟨st, en, n, unit, stub, roll, conv, lag⟩ W v).below
  dsimp only at *
  cases x <;> cases y
  all_goals
    go_enter Tryz.func147, Tryz.ntmps147
    go_wp2_with fail
    refine (hn.out _).mono ?_
    rintro e w1 ⟨rfl, rfl⟩
    go_wp2_with fail
    go_ret
    exact ⟨rfl, HB.out⟩

set_option maxRecDepth 10000 in
set_option maxHeartbeats 3200000 in
theorem fits_c2 (st en n unit stub roll conv lag W : Int) (v : Value) (w : World) (a : decide (st < en) = true) (x y : Bool) (hx : (unit == 3) = x) (hy : (unit == 4) = y) (hn : Hid (∀ wx, Calls Tryz.prog 176 #[.int .i64 n, .int .i64 1, .int .i64 1200] wx fun e w' => e = .returned (.bool true) ∧ wx = w')) (hu : Hid (∀ wx, Calls Tryz.prog 176 #[.int .i64 unit, .int .i64 1, .int .i64 4] wx fun e w' => e = .returned (.bool false) ∧ wx = w')) :
    Calls Tryz.prog 147 #[.agg #[.int .i64 st, .int .i64 en, .int .i64 n, .int .i64 unit, .int .i64 stub, .int .i64 roll, .int .i64 conv, .int .i64 lag, .int .i64 W, v]] w fun e w' => e = .returned (.bool false) ∧ Below w.heap.size w w' := by
  have HB := hideS (SBox.zero w ⟨st, en, n, unit, stub, roll, conv, lag⟩ W v).below
  dsimp only at *
  cases x <;> cases y
  all_goals
    go_enter Tryz.func147, Tryz.ntmps147
    go_wp2_with fail
    refine (hn.out _).mono ?_
    rintro e w1 ⟨rfl, rfl⟩
    go_wp2_with fail
    refine (hu.out _).mono ?_
    rintro e w1 ⟨rfl, rfl⟩
    go_wp2_with fail
    go_ret
    exact ⟨rfl, HB.out⟩

set_option maxRecDepth 10000 in
set_option maxHeartbeats 3200000 in
theorem fits_c3 (st en n unit stub roll conv lag W : Int) (v : Value) (w : World) (a : decide (st < en) = true) (x y : Bool) (hx : (unit == 3) = x) (hy : (unit == 4) = y) (hn : Hid (∀ wx, Calls Tryz.prog 176 #[.int .i64 n, .int .i64 1, .int .i64 1200] wx fun e w' => e = .returned (.bool true) ∧ wx = w')) (hu : Hid (∀ wx, Calls Tryz.prog 176 #[.int .i64 unit, .int .i64 1, .int .i64 4] wx fun e w' => e = .returned (.bool true) ∧ wx = w')) (ht : Hid (∀ wx, Calls Tryz.prog 176 #[.int .i64 stub, .int .i64 1, .int .i64 4] wx fun e w' => e = .returned (.bool false) ∧ wx = w')) :
    Calls Tryz.prog 147 #[.agg #[.int .i64 st, .int .i64 en, .int .i64 n, .int .i64 unit, .int .i64 stub, .int .i64 roll, .int .i64 conv, .int .i64 lag, .int .i64 W, v]] w fun e w' => e = .returned (.bool false) ∧ Below w.heap.size w w' := by
  have HB := hideS (SBox.zero w ⟨st, en, n, unit, stub, roll, conv, lag⟩ W v).below
  dsimp only at *
  cases x <;> cases y
  all_goals
    go_enter Tryz.func147, Tryz.ntmps147
    go_wp2_with fail
    refine (hn.out _).mono ?_
    rintro e w1 ⟨rfl, rfl⟩
    go_wp2_with fail
    refine (hu.out _).mono ?_
    rintro e w1 ⟨rfl, rfl⟩
    go_wp2_with fail
    refine (ht.out _).mono ?_
    rintro e w1 ⟨rfl, rfl⟩
    go_wp2_with fail
    go_ret
    exact ⟨rfl, HB.out⟩

set_option maxRecDepth 10000 in
set_option maxHeartbeats 3200000 in
theorem fits_c4 (st en n unit stub roll conv lag W : Int) (v : Value) (w : World) (a : decide (st < en) = true) (x y : Bool) (hx : (unit == 3) = x) (hy : (unit == 4) = y) (hn : Hid (∀ wx, Calls Tryz.prog 176 #[.int .i64 n, .int .i64 1, .int .i64 1200] wx fun e w' => e = .returned (.bool true) ∧ wx = w')) (hu : Hid (∀ wx, Calls Tryz.prog 176 #[.int .i64 unit, .int .i64 1, .int .i64 4] wx fun e w' => e = .returned (.bool true) ∧ wx = w')) (ht : Hid (∀ wx, Calls Tryz.prog 176 #[.int .i64 stub, .int .i64 1, .int .i64 4] wx fun e w' => e = .returned (.bool true) ∧ wx = w')) (hr : Hid (∀ wx, Calls Tryz.prog 176 #[.int .i64 roll, .int .i64 0, .int .i64 2] wx fun e w' => e = .returned (.bool false) ∧ wx = w')) :
    Calls Tryz.prog 147 #[.agg #[.int .i64 st, .int .i64 en, .int .i64 n, .int .i64 unit, .int .i64 stub, .int .i64 roll, .int .i64 conv, .int .i64 lag, .int .i64 W, v]] w fun e w' => e = .returned (.bool false) ∧ Below w.heap.size w w' := by
  have HB := hideS (SBox.zero w ⟨st, en, n, unit, stub, roll, conv, lag⟩ W v).below
  dsimp only at *
  cases x <;> cases y
  all_goals
    go_enter Tryz.func147, Tryz.ntmps147
    go_wp2_with fail
    refine (hn.out _).mono ?_
    rintro e w1 ⟨rfl, rfl⟩
    go_wp2_with fail
    refine (hu.out _).mono ?_
    rintro e w1 ⟨rfl, rfl⟩
    go_wp2_with fail
    refine (ht.out _).mono ?_
    rintro e w1 ⟨rfl, rfl⟩
    go_wp2_with fail
    refine (hr.out _).mono ?_
    rintro e w1 ⟨rfl, rfl⟩
    go_wp2_with fail
    go_ret
    exact ⟨rfl, HB.out⟩

set_option maxRecDepth 10000 in
set_option maxHeartbeats 3200000 in
theorem fits_c5 (st en n unit stub roll conv lag W : Int) (v : Value) (w : World) (a : decide (st < en) = true) (g : (roll == 0) = false) (hx : (unit == 3) = false) (hy : (unit == 4) = false) (hn : Hid (∀ wx, Calls Tryz.prog 176 #[.int .i64 n, .int .i64 1, .int .i64 1200] wx fun e w' => e = .returned (.bool true) ∧ wx = w')) (hu : Hid (∀ wx, Calls Tryz.prog 176 #[.int .i64 unit, .int .i64 1, .int .i64 4] wx fun e w' => e = .returned (.bool true) ∧ wx = w')) (ht : Hid (∀ wx, Calls Tryz.prog 176 #[.int .i64 stub, .int .i64 1, .int .i64 4] wx fun e w' => e = .returned (.bool true) ∧ wx = w')) (hr : Hid (∀ wx, Calls Tryz.prog 176 #[.int .i64 roll, .int .i64 0, .int .i64 2] wx fun e w' => e = .returned (.bool true) ∧ wx = w')) :
    Calls Tryz.prog 147 #[.agg #[.int .i64 st, .int .i64 en, .int .i64 n, .int .i64 unit, .int .i64 stub, .int .i64 roll, .int .i64 conv, .int .i64 lag, .int .i64 W, v]] w fun e w' => e = .returned (.bool false) ∧ Below w.heap.size w w' := by
  have HB := hideS (SBox.zero w ⟨st, en, n, unit, stub, roll, conv, lag⟩ W v).below
  dsimp only at *
  go_enter Tryz.func147, Tryz.ntmps147
  go_wp2_with fail
  refine (hn.out _).mono ?_
  rintro e w1 ⟨rfl, rfl⟩
  go_wp2_with fail
  refine (hu.out _).mono ?_
  rintro e w1 ⟨rfl, rfl⟩
  go_wp2_with fail
  refine (ht.out _).mono ?_
  rintro e w1 ⟨rfl, rfl⟩
  go_wp2_with fail
  refine (hr.out _).mono ?_
  rintro e w1 ⟨rfl, rfl⟩
  go_wp2_with fail
  go_ret
  exact ⟨rfl, HB.out⟩

set_option maxRecDepth 10000 in
set_option maxHeartbeats 3200000 in
theorem fits_c6a (st en n unit stub roll conv lag W : Int) (v : Value) (w : World) (a : decide (st < en) = true) (g : (roll == 0) = true) (x y : Bool) (hx : (unit == 3) = x) (hy : (unit == 4) = y) (hn : Hid (∀ wx, Calls Tryz.prog 176 #[.int .i64 n, .int .i64 1, .int .i64 1200] wx fun e w' => e = .returned (.bool true) ∧ wx = w')) (hu : Hid (∀ wx, Calls Tryz.prog 176 #[.int .i64 unit, .int .i64 1, .int .i64 4] wx fun e w' => e = .returned (.bool true) ∧ wx = w')) (ht : Hid (∀ wx, Calls Tryz.prog 176 #[.int .i64 stub, .int .i64 1, .int .i64 4] wx fun e w' => e = .returned (.bool true) ∧ wx = w')) (hr : Hid (∀ wx, Calls Tryz.prog 176 #[.int .i64 roll, .int .i64 0, .int .i64 2] wx fun e w' => e = .returned (.bool true) ∧ wx = w')) (hc : Hid (∀ wx, Calls Tryz.prog 176 #[.int .i64 conv, .int .i64 0, .int .i64 4] wx fun e w' => e = .returned (.bool false) ∧ wx = w')) :
    Calls Tryz.prog 147 #[.agg #[.int .i64 st, .int .i64 en, .int .i64 n, .int .i64 unit, .int .i64 stub, .int .i64 roll, .int .i64 conv, .int .i64 lag, .int .i64 W, v]] w fun e w' => e = .returned (.bool false) ∧ Below w.heap.size w w' := by
  have HB := hideS (SBox.zero w ⟨st, en, n, unit, stub, roll, conv, lag⟩ W v).below
  dsimp only at *
  cases x <;> cases y
  all_goals
    go_enter Tryz.func147, Tryz.ntmps147
    go_wp2_with fail
    refine (hn.out _).mono ?_
    rintro e w1 ⟨rfl, rfl⟩
    go_wp2_with fail
    refine (hu.out _).mono ?_
    rintro e w1 ⟨rfl, rfl⟩
    go_wp2_with fail
    refine (ht.out _).mono ?_
    rintro e w1 ⟨rfl, rfl⟩
    go_wp2_with fail
    refine (hr.out _).mono ?_
    rintro e w1 ⟨rfl, rfl⟩
    go_wp2_with fail
    refine (hc.out _).mono ?_
    rintro e w1 ⟨rfl, rfl⟩
    go_wp2_with fail
    go_ret
    exact ⟨rfl, HB.out⟩

set_option maxRecDepth 10000 in
set_option maxHeartbeats 3200000 in
theorem fits_c7a (st en n unit stub roll conv lag W : Int) (v : Value) (w : World) (a : decide (st < en) = true) (g : (roll == 0) = true) (x y : Bool) (hx : (unit == 3) = x) (hy : (unit == 4) = y) (hn : Hid (∀ wx, Calls Tryz.prog 176 #[.int .i64 n, .int .i64 1, .int .i64 1200] wx fun e w' => e = .returned (.bool true) ∧ wx = w')) (hu : Hid (∀ wx, Calls Tryz.prog 176 #[.int .i64 unit, .int .i64 1, .int .i64 4] wx fun e w' => e = .returned (.bool true) ∧ wx = w')) (ht : Hid (∀ wx, Calls Tryz.prog 176 #[.int .i64 stub, .int .i64 1, .int .i64 4] wx fun e w' => e = .returned (.bool true) ∧ wx = w')) (hr : Hid (∀ wx, Calls Tryz.prog 176 #[.int .i64 roll, .int .i64 0, .int .i64 2] wx fun e w' => e = .returned (.bool true) ∧ wx = w')) (hc : Hid (∀ wx, Calls Tryz.prog 176 #[.int .i64 conv, .int .i64 0, .int .i64 4] wx fun e w' => e = .returned (.bool true) ∧ wx = w')) (hl : Hid (∀ wx, Calls Tryz.prog 176 #[.int .i64 lag, .int .i64 0, .int .i64 30] wx fun e w' => e = .returned (.bool false) ∧ wx = w')) :
    Calls Tryz.prog 147 #[.agg #[.int .i64 st, .int .i64 en, .int .i64 n, .int .i64 unit, .int .i64 stub, .int .i64 roll, .int .i64 conv, .int .i64 lag, .int .i64 W, v]] w fun e w' => e = .returned (.bool false) ∧ Below w.heap.size w w' := by
  have HB := hideS (SBox.zero w ⟨st, en, n, unit, stub, roll, conv, lag⟩ W v).below
  dsimp only at *
  cases x <;> cases y
  all_goals
    go_enter Tryz.func147, Tryz.ntmps147
    go_wp2_with fail
    refine (hn.out _).mono ?_
    rintro e w1 ⟨rfl, rfl⟩
    go_wp2_with fail
    refine (hu.out _).mono ?_
    rintro e w1 ⟨rfl, rfl⟩
    go_wp2_with fail
    refine (ht.out _).mono ?_
    rintro e w1 ⟨rfl, rfl⟩
    go_wp2_with fail
    refine (hr.out _).mono ?_
    rintro e w1 ⟨rfl, rfl⟩
    go_wp2_with fail
    refine (hc.out _).mono ?_
    rintro e w1 ⟨rfl, rfl⟩
    go_wp2_with fail
    refine (hl.out _).mono ?_
    rintro e w1 ⟨rfl, rfl⟩
    go_wp2_with fail
    go_ret
    exact ⟨rfl, HB.out⟩

set_option maxRecDepth 10000 in
set_option maxHeartbeats 3200000 in
theorem fits_yesa (st en n unit stub roll conv lag W : Int) (v : Value) (w : World) (a : decide (st < en) = true) (g : (roll == 0) = true) (x y : Bool) (hx : (unit == 3) = x) (hy : (unit == 4) = y) (hn : Hid (∀ wx, Calls Tryz.prog 176 #[.int .i64 n, .int .i64 1, .int .i64 1200] wx fun e w' => e = .returned (.bool true) ∧ wx = w')) (hu : Hid (∀ wx, Calls Tryz.prog 176 #[.int .i64 unit, .int .i64 1, .int .i64 4] wx fun e w' => e = .returned (.bool true) ∧ wx = w')) (ht : Hid (∀ wx, Calls Tryz.prog 176 #[.int .i64 stub, .int .i64 1, .int .i64 4] wx fun e w' => e = .returned (.bool true) ∧ wx = w')) (hr : Hid (∀ wx, Calls Tryz.prog 176 #[.int .i64 roll, .int .i64 0, .int .i64 2] wx fun e w' => e = .returned (.bool true) ∧ wx = w')) (hc : Hid (∀ wx, Calls Tryz.prog 176 #[.int .i64 conv, .int .i64 0, .int .i64 4] wx fun e w' => e = .returned (.bool true) ∧ wx = w')) (hl : Hid (∀ wx, Calls Tryz.prog 176 #[.int .i64 lag, .int .i64 0, .int .i64 30] wx fun e w' => e = .returned (.bool true) ∧ wx = w')) :
    Calls Tryz.prog 147 #[.agg #[.int .i64 st, .int .i64 en, .int .i64 n, .int .i64 unit, .int .i64 stub, .int .i64 roll, .int .i64 conv, .int .i64 lag, .int .i64 W, v]] w fun e w' => e = .returned (.bool true) ∧ Below w.heap.size w w' := by
  have HB := hideS (SBox.zero w ⟨st, en, n, unit, stub, roll, conv, lag⟩ W v).below
  dsimp only at *
  cases x <;> cases y
  all_goals
    go_enter Tryz.func147, Tryz.ntmps147
    go_wp2_with fail
    refine (hn.out _).mono ?_
    rintro e w1 ⟨rfl, rfl⟩
    go_wp2_with fail
    refine (hu.out _).mono ?_
    rintro e w1 ⟨rfl, rfl⟩
    go_wp2_with fail
    refine (ht.out _).mono ?_
    rintro e w1 ⟨rfl, rfl⟩
    go_wp2_with fail
    refine (hr.out _).mono ?_
    rintro e w1 ⟨rfl, rfl⟩
    go_wp2_with fail
    refine (hc.out _).mono ?_
    rintro e w1 ⟨rfl, rfl⟩
    go_wp2_with fail
    refine (hl.out _).mono ?_
    rintro e w1 ⟨rfl, rfl⟩
    go_wp2_with fail
    go_ret
    exact ⟨rfl, HB.out⟩

set_option maxRecDepth 10000 in
set_option maxHeartbeats 3200000 in
theorem fits_c6b (st en n unit stub roll conv lag W : Int) (v : Value) (w : World) (a : decide (st < en) = true) (g : (roll == 0) = false) (hx : (unit == 3) = true) (hn : Hid (∀ wx, Calls Tryz.prog 176 #[.int .i64 n, .int .i64 1, .int .i64 1200] wx fun e w' => e = .returned (.bool true) ∧ wx = w')) (hu : Hid (∀ wx, Calls Tryz.prog 176 #[.int .i64 unit, .int .i64 1, .int .i64 4] wx fun e w' => e = .returned (.bool true) ∧ wx = w')) (ht : Hid (∀ wx, Calls Tryz.prog 176 #[.int .i64 stub, .int .i64 1, .int .i64 4] wx fun e w' => e = .returned (.bool true) ∧ wx = w')) (hr : Hid (∀ wx, Calls Tryz.prog 176 #[.int .i64 roll, .int .i64 0, .int .i64 2] wx fun e w' => e = .returned (.bool true) ∧ wx = w')) (hc : Hid (∀ wx, Calls Tryz.prog 176 #[.int .i64 conv, .int .i64 0, .int .i64 4] wx fun e w' => e = .returned (.bool false) ∧ wx = w')) :
    Calls Tryz.prog 147 #[.agg #[.int .i64 st, .int .i64 en, .int .i64 n, .int .i64 unit, .int .i64 stub, .int .i64 roll, .int .i64 conv, .int .i64 lag, .int .i64 W, v]] w fun e w' => e = .returned (.bool false) ∧ Below w.heap.size w w' := by
  have HB := hideS (SBox.zero w ⟨st, en, n, unit, stub, roll, conv, lag⟩ W v).below
  dsimp only at *
  go_enter Tryz.func147, Tryz.ntmps147
  go_wp2_with fail
  refine (hn.out _).mono ?_
  rintro e w1 ⟨rfl, rfl⟩
  go_wp2_with fail
  refine (hu.out _).mono ?_
  rintro e w1 ⟨rfl, rfl⟩
  go_wp2_with fail
  refine (ht.out _).mono ?_
  rintro e w1 ⟨rfl, rfl⟩
  go_wp2_with fail
  refine (hr.out _).mono ?_
  rintro e w1 ⟨rfl, rfl⟩
  go_wp2_with fail
  refine (hc.out _).mono ?_
  rintro e w1 ⟨rfl, rfl⟩
  go_wp2_with fail
  go_ret
  exact ⟨rfl, HB.out⟩

set_option maxRecDepth 10000 in
set_option maxHeartbeats 3200000 in
theorem fits_c7b (st en n unit stub roll conv lag W : Int) (v : Value) (w : World) (a : decide (st < en) = true) (g : (roll == 0) = false) (hx : (unit == 3) = true) (hn : Hid (∀ wx, Calls Tryz.prog 176 #[.int .i64 n, .int .i64 1, .int .i64 1200] wx fun e w' => e = .returned (.bool true) ∧ wx = w')) (hu : Hid (∀ wx, Calls Tryz.prog 176 #[.int .i64 unit, .int .i64 1, .int .i64 4] wx fun e w' => e = .returned (.bool true) ∧ wx = w')) (ht : Hid (∀ wx, Calls Tryz.prog 176 #[.int .i64 stub, .int .i64 1, .int .i64 4] wx fun e w' => e = .returned (.bool true) ∧ wx = w')) (hr : Hid (∀ wx, Calls Tryz.prog 176 #[.int .i64 roll, .int .i64 0, .int .i64 2] wx fun e w' => e = .returned (.bool true) ∧ wx = w')) (hc : Hid (∀ wx, Calls Tryz.prog 176 #[.int .i64 conv, .int .i64 0, .int .i64 4] wx fun e w' => e = .returned (.bool true) ∧ wx = w')) (hl : Hid (∀ wx, Calls Tryz.prog 176 #[.int .i64 lag, .int .i64 0, .int .i64 30] wx fun e w' => e = .returned (.bool false) ∧ wx = w')) :
    Calls Tryz.prog 147 #[.agg #[.int .i64 st, .int .i64 en, .int .i64 n, .int .i64 unit, .int .i64 stub, .int .i64 roll, .int .i64 conv, .int .i64 lag, .int .i64 W, v]] w fun e w' => e = .returned (.bool false) ∧ Below w.heap.size w w' := by
  have HB := hideS (SBox.zero w ⟨st, en, n, unit, stub, roll, conv, lag⟩ W v).below
  dsimp only at *
  go_enter Tryz.func147, Tryz.ntmps147
  go_wp2_with fail
  refine (hn.out _).mono ?_
  rintro e w1 ⟨rfl, rfl⟩
  go_wp2_with fail
  refine (hu.out _).mono ?_
  rintro e w1 ⟨rfl, rfl⟩
  go_wp2_with fail
  refine (ht.out _).mono ?_
  rintro e w1 ⟨rfl, rfl⟩
  go_wp2_with fail
  refine (hr.out _).mono ?_
  rintro e w1 ⟨rfl, rfl⟩
  go_wp2_with fail
  refine (hc.out _).mono ?_
  rintro e w1 ⟨rfl, rfl⟩
  go_wp2_with fail
  refine (hl.out _).mono ?_
  rintro e w1 ⟨rfl, rfl⟩
  go_wp2_with fail
  go_ret
  exact ⟨rfl, HB.out⟩

set_option maxRecDepth 10000 in
set_option maxHeartbeats 3200000 in
theorem fits_yesb (st en n unit stub roll conv lag W : Int) (v : Value) (w : World) (a : decide (st < en) = true) (g : (roll == 0) = false) (hx : (unit == 3) = true) (hn : Hid (∀ wx, Calls Tryz.prog 176 #[.int .i64 n, .int .i64 1, .int .i64 1200] wx fun e w' => e = .returned (.bool true) ∧ wx = w')) (hu : Hid (∀ wx, Calls Tryz.prog 176 #[.int .i64 unit, .int .i64 1, .int .i64 4] wx fun e w' => e = .returned (.bool true) ∧ wx = w')) (ht : Hid (∀ wx, Calls Tryz.prog 176 #[.int .i64 stub, .int .i64 1, .int .i64 4] wx fun e w' => e = .returned (.bool true) ∧ wx = w')) (hr : Hid (∀ wx, Calls Tryz.prog 176 #[.int .i64 roll, .int .i64 0, .int .i64 2] wx fun e w' => e = .returned (.bool true) ∧ wx = w')) (hc : Hid (∀ wx, Calls Tryz.prog 176 #[.int .i64 conv, .int .i64 0, .int .i64 4] wx fun e w' => e = .returned (.bool true) ∧ wx = w')) (hl : Hid (∀ wx, Calls Tryz.prog 176 #[.int .i64 lag, .int .i64 0, .int .i64 30] wx fun e w' => e = .returned (.bool true) ∧ wx = w')) :
    Calls Tryz.prog 147 #[.agg #[.int .i64 st, .int .i64 en, .int .i64 n, .int .i64 unit, .int .i64 stub, .int .i64 roll, .int .i64 conv, .int .i64 lag, .int .i64 W, v]] w fun e w' => e = .returned (.bool true) ∧ Below w.heap.size w w' := by
  have HB := hideS (SBox.zero w ⟨st, en, n, unit, stub, roll, conv, lag⟩ W v).below
  dsimp only at *
  go_enter Tryz.func147, Tryz.ntmps147
  go_wp2_with fail
  refine (hn.out _).mono ?_
  rintro e w1 ⟨rfl, rfl⟩
  go_wp2_with fail
  refine (hu.out _).mono ?_
  rintro e w1 ⟨rfl, rfl⟩
  go_wp2_with fail
  refine (ht.out _).mono ?_
  rintro e w1 ⟨rfl, rfl⟩
  go_wp2_with fail
  refine (hr.out _).mono ?_
  rintro e w1 ⟨rfl, rfl⟩
  go_wp2_with fail
  refine (hc.out _).mono ?_
  rintro e w1 ⟨rfl, rfl⟩
  go_wp2_with fail
  refine (hl.out _).mono ?_
  rintro e w1 ⟨rfl, rfl⟩
  go_wp2_with fail
  go_ret
  exact ⟨rfl, HB.out⟩

set_option maxRecDepth 10000 in
set_option maxHeartbeats 3200000 in
theorem fits_c6d (st en n unit stub roll conv lag W : Int) (v : Value) (w : World) (a : decide (st < en) = true) (g : (roll == 0) = false) (hx : (unit == 3) = false) (hy : (unit == 4) = true) (hn : Hid (∀ wx, Calls Tryz.prog 176 #[.int .i64 n, .int .i64 1, .int .i64 1200] wx fun e w' => e = .returned (.bool true) ∧ wx = w')) (hu : Hid (∀ wx, Calls Tryz.prog 176 #[.int .i64 unit, .int .i64 1, .int .i64 4] wx fun e w' => e = .returned (.bool true) ∧ wx = w')) (ht : Hid (∀ wx, Calls Tryz.prog 176 #[.int .i64 stub, .int .i64 1, .int .i64 4] wx fun e w' => e = .returned (.bool true) ∧ wx = w')) (hr : Hid (∀ wx, Calls Tryz.prog 176 #[.int .i64 roll, .int .i64 0, .int .i64 2] wx fun e w' => e = .returned (.bool true) ∧ wx = w')) (hc : Hid (∀ wx, Calls Tryz.prog 176 #[.int .i64 conv, .int .i64 0, .int .i64 4] wx fun e w' => e = .returned (.bool false) ∧ wx = w')) :
    Calls Tryz.prog 147 #[.agg #[.int .i64 st, .int .i64 en, .int .i64 n, .int .i64 unit, .int .i64 stub, .int .i64 roll, .int .i64 conv, .int .i64 lag, .int .i64 W, v]] w fun e w' => e = .returned (.bool false) ∧ Below w.heap.size w w' := by
  have HB := hideS (SBox.zero w ⟨st, en, n, unit, stub, roll, conv, lag⟩ W v).below
  dsimp only at *
  go_enter Tryz.func147, Tryz.ntmps147
  go_wp2_with fail
  refine (hn.out _).mono ?_
  rintro e w1 ⟨rfl, rfl⟩
  go_wp2_with fail
  refine (hu.out _).mono ?_
  rintro e w1 ⟨rfl, rfl⟩
  go_wp2_with fail
  refine (ht.out _).mono ?_
  rintro e w1 ⟨rfl, rfl⟩
  go_wp2_with fail
  refine (hr.out _).mono ?_
  rintro e w1 ⟨rfl, rfl⟩
  go_wp2_with fail
  refine (hc.out _).mono ?_
  rintro e w1 ⟨rfl, rfl⟩
  go_wp2_with fail
  go_ret
  exact ⟨rfl, HB.out⟩

set_option maxRecDepth 10000 in
set_option maxHeartbeats 3200000 in
theorem fits_c7d (st en n unit stub roll conv lag W : Int) (v : Value) (w : World) (a : decide (st < en) = true) (g : (roll == 0) = false) (hx : (unit == 3) = false) (hy : (unit == 4) = true) (hn : Hid (∀ wx, Calls Tryz.prog 176 #[.int .i64 n, .int .i64 1, .int .i64 1200] wx fun e w' => e = .returned (.bool true) ∧ wx = w')) (hu : Hid (∀ wx, Calls Tryz.prog 176 #[.int .i64 unit, .int .i64 1, .int .i64 4] wx fun e w' => e = .returned (.bool true) ∧ wx = w')) (ht : Hid (∀ wx, Calls Tryz.prog 176 #[.int .i64 stub, .int .i64 1, .int .i64 4] wx fun e w' => e = .returned (.bool true) ∧ wx = w')) (hr : Hid (∀ wx, Calls Tryz.prog 176 #[.int .i64 roll, .int .i64 0, .int .i64 2] wx fun e w' => e = .returned (.bool true) ∧ wx = w')) (hc : Hid (∀ wx, Calls Tryz.prog 176 #[.int .i64 conv, .int .i64 0, .int .i64 4] wx fun e w' => e = .returned (.bool true) ∧ wx = w')) (hl : Hid (∀ wx, Calls Tryz.prog 176 #[.int .i64 lag, .int .i64 0, .int .i64 30] wx fun e w' => e = .returned (.bool false) ∧ wx = w')) :
    Calls Tryz.prog 147 #[.agg #[.int .i64 st, .int .i64 en, .int .i64 n, .int .i64 unit, .int .i64 stub, .int .i64 roll, .int .i64 conv, .int .i64 lag, .int .i64 W, v]] w fun e w' => e = .returned (.bool false) ∧ Below w.heap.size w w' := by
  have HB := hideS (SBox.zero w ⟨st, en, n, unit, stub, roll, conv, lag⟩ W v).below
  dsimp only at *
  go_enter Tryz.func147, Tryz.ntmps147
  go_wp2_with fail
  refine (hn.out _).mono ?_
  rintro e w1 ⟨rfl, rfl⟩
  go_wp2_with fail
  refine (hu.out _).mono ?_
  rintro e w1 ⟨rfl, rfl⟩
  go_wp2_with fail
  refine (ht.out _).mono ?_
  rintro e w1 ⟨rfl, rfl⟩
  go_wp2_with fail
  refine (hr.out _).mono ?_
  rintro e w1 ⟨rfl, rfl⟩
  go_wp2_with fail
  refine (hc.out _).mono ?_
  rintro e w1 ⟨rfl, rfl⟩
  go_wp2_with fail
  refine (hl.out _).mono ?_
  rintro e w1 ⟨rfl, rfl⟩
  go_wp2_with fail
  go_ret
  exact ⟨rfl, HB.out⟩

set_option maxRecDepth 10000 in
set_option maxHeartbeats 3200000 in
theorem fits_yesd (st en n unit stub roll conv lag W : Int) (v : Value) (w : World) (a : decide (st < en) = true) (g : (roll == 0) = false) (hx : (unit == 3) = false) (hy : (unit == 4) = true) (hn : Hid (∀ wx, Calls Tryz.prog 176 #[.int .i64 n, .int .i64 1, .int .i64 1200] wx fun e w' => e = .returned (.bool true) ∧ wx = w')) (hu : Hid (∀ wx, Calls Tryz.prog 176 #[.int .i64 unit, .int .i64 1, .int .i64 4] wx fun e w' => e = .returned (.bool true) ∧ wx = w')) (ht : Hid (∀ wx, Calls Tryz.prog 176 #[.int .i64 stub, .int .i64 1, .int .i64 4] wx fun e w' => e = .returned (.bool true) ∧ wx = w')) (hr : Hid (∀ wx, Calls Tryz.prog 176 #[.int .i64 roll, .int .i64 0, .int .i64 2] wx fun e w' => e = .returned (.bool true) ∧ wx = w')) (hc : Hid (∀ wx, Calls Tryz.prog 176 #[.int .i64 conv, .int .i64 0, .int .i64 4] wx fun e w' => e = .returned (.bool true) ∧ wx = w')) (hl : Hid (∀ wx, Calls Tryz.prog 176 #[.int .i64 lag, .int .i64 0, .int .i64 30] wx fun e w' => e = .returned (.bool true) ∧ wx = w')) :
    Calls Tryz.prog 147 #[.agg #[.int .i64 st, .int .i64 en, .int .i64 n, .int .i64 unit, .int .i64 stub, .int .i64 roll, .int .i64 conv, .int .i64 lag, .int .i64 W, v]] w fun e w' => e = .returned (.bool true) ∧ Below w.heap.size w w' := by
  have HB := hideS (SBox.zero w ⟨st, en, n, unit, stub, roll, conv, lag⟩ W v).below
  dsimp only at *
  go_enter Tryz.func147, Tryz.ntmps147
  go_wp2_with fail
  refine (hn.out _).mono ?_
  rintro e w1 ⟨rfl, rfl⟩
  go_wp2_with fail
  refine (hu.out _).mono ?_
  rintro e w1 ⟨rfl, rfl⟩
  go_wp2_with fail
  refine (ht.out _).mono ?_
  rintro e w1 ⟨rfl, rfl⟩
  go_wp2_with fail
  refine (hr.out _).mono ?_
  rintro e w1 ⟨rfl, rfl⟩
  go_wp2_with fail
  refine (hc.out _).mono ?_
  rintro e w1 ⟨rfl, rfl⟩
  go_wp2_with fail
  refine (hl.out _).mono ?_
  rintro e w1 ⟨rfl, rfl⟩
  go_wp2_with fail
  go_ret
  exact ⟨rfl, HB.out⟩

theorem fits_no (s : Spc) (W : Int) (v : Value) (w : World) (h0 : isDayP s.st) (h1 : isDayP s.en) (h : ¬ SpcOk s) :
    Calls Tryz.prog 147 #[.agg #[.int .i64 s.st, .int .i64 s.en, .int .i64 s.n, .int .i64 s.unit, .int .i64 s.stub, .int .i64 s.roll, .int .i64 s.conv, .int .i64 s.lag, .int .i64 W, v]] w fun e w' => e = .returned (.bool false) ∧ Below w.heap.size w w' := by
  have hc := spc_cases h0 h1 h
  clear h h0 h1
  obtain ⟨st, en, n, unit, stub, roll, conv, lag⟩ := s
  dsimp only at *
  obtain ⟨hn, hu, ht, hr, hcv, hlg⟩ := inP n unit stub roll conv lag
  have hru : (1 ≤ unit ∧ unit ≤ 4) → (roll = 0 ∨ 3 ≤ unit) → ((roll == 0) = true ∨ ((roll == 0) = false ∧ ((unit == 3) = true ∨ ((unit == 3) = false ∧ (unit == 4) = true)))) := fun a b => by
    by_cases e : roll = 0
    · exact Or.inl (beq_iff_eq.2 e)
    · refine Or.inr ⟨beq_eq_false_iff_ne.2 e, ?_⟩
      by_cases e3 : unit = 3
      · exact Or.inl (beq_iff_eq.2 e3)
      · exact Or.inr ⟨beq_eq_false_iff_ne.2 e3, beq_iff_eq.2 (by omega)⟩
  rcases hc with a | ⟨a, b⟩ | ⟨a, b, c⟩ | ⟨a, b, c, d⟩ | ⟨a, b, c, d, f⟩ | ⟨a, b, c, d, f, g, g2⟩ | ⟨a, b, c, d, f, g, k⟩ | ⟨a, b, c, d, f, g, k, l⟩
  · exact fits_c0 st en n unit stub roll conv lag W v w (decide_eq_false (by omega)) _ _ rfl rfl
  · rw [decide_eq_false b] at hn
    exact fits_c1 st en n unit stub roll conv lag W v w (decide_eq_true a) _ _ rfl rfl hn
  · rw [decide_eq_true b] at hn
    rw [decide_eq_false c] at hu
    exact fits_c2 st en n unit stub roll conv lag W v w (decide_eq_true a) _ _ rfl rfl hn hu
  · rw [decide_eq_true b] at hn
    rw [decide_eq_true c] at hu
    rw [decide_eq_false d] at ht
    exact fits_c3 st en n unit stub roll conv lag W v w (decide_eq_true a) _ _ rfl rfl hn hu ht
  · rw [decide_eq_true b] at hn
    rw [decide_eq_true c] at hu
    rw [decide_eq_true d] at ht
    rw [decide_eq_false f] at hr
    exact fits_c4 st en n unit stub roll conv lag W v w (decide_eq_true a) _ _ rfl rfl hn hu ht hr
  all_goals
    rw [decide_eq_true b] at hn
    rw [decide_eq_true c] at hu
    rw [decide_eq_true d] at ht
    rw [decide_eq_true f] at hr
  · exact fits_c5 st en n unit stub roll conv lag W v w (decide_eq_true a) (beq_eq_false_iff_ne.2 g) (beq_eq_false_iff_ne.2 (by omega)) (beq_eq_false_iff_ne.2 (by omega)) hn hu ht hr
  · rw [decide_eq_false k] at hcv
    rcases hru c g with g | ⟨g, x | ⟨x, y⟩⟩
    · exact fits_c6a st en n unit stub roll conv lag W v w (decide_eq_true a) g _ _ rfl rfl hn hu ht hr hcv
    · exact fits_c6b st en n unit stub roll conv lag W v w (decide_eq_true a) g x hn hu ht hr hcv
    · exact fits_c6d st en n unit stub roll conv lag W v w (decide_eq_true a) g x y hn hu ht hr hcv
  · rw [decide_eq_true k] at hcv
    rw [decide_eq_false l] at hlg
    rcases hru c g with g | ⟨g, x | ⟨x, y⟩⟩
    · exact fits_c7a st en n unit stub roll conv lag W v w (decide_eq_true a) g _ _ rfl rfl hn hu ht hr hcv hlg
    · exact fits_c7b st en n unit stub roll conv lag W v w (decide_eq_true a) g x hn hu ht hr hcv hlg
    · exact fits_c7d st en n unit stub roll conv lag W v w (decide_eq_true a) g x y hn hu ht hr hcv hlg

theorem fits_yes (s : Spc) (W : Int) (v : Value) (w : World) (h : SpcOk s) :
    Calls Tryz.prog 147 #[.agg #[.int .i64 s.st, .int .i64 s.en, .int .i64 s.n, .int .i64 s.unit, .int .i64 s.stub, .int .i64 s.roll, .int .i64 s.conv, .int .i64 s.lag, .int .i64 W, v]] w fun e w' => e = .returned (.bool true) ∧ Below w.heap.size w w' := by
  obtain ⟨h0, h1, lt, n1, n2, u1, u2, t1, t2, r1, r2, ru, c1, c2, l1, l2⟩ := h
  obtain ⟨st, en, n, unit, stub, roll, conv, lag⟩ := s
  dsimp only at *
  obtain ⟨hn, hu, ht, hr, hcv, hlg⟩ := inP n unit stub roll conv lag
  rw [decide_eq_true ⟨n1, n2⟩] at hn
  rw [decide_eq_true ⟨u1, u2⟩] at hu
  rw [decide_eq_true ⟨t1, t2⟩] at ht
  rw [decide_eq_true ⟨r1, r2⟩] at hr
  rw [decide_eq_true ⟨c1, c2⟩] at hcv
  rw [decide_eq_true ⟨l1, l2⟩] at hlg
  by_cases e : roll = 0
  · exact fits_yesa st en n unit stub roll conv lag W v w (decide_eq_true lt) (beq_iff_eq.2 e) _ _ rfl rfl hn hu ht hr hcv hlg
  · by_cases e3 : unit = 3
    · exact fits_yesb st en n unit stub roll conv lag W v w (decide_eq_true lt) (beq_eq_false_iff_ne.2 e) (beq_iff_eq.2 e3) hn hu ht hr hcv hlg
    · exact fits_yesd st en n unit stub roll conv lag W v w (decide_eq_true lt) (beq_eq_false_iff_ne.2 e) (beq_eq_false_iff_ne.2 e3) (beq_iff_eq.2 (by omega)) hn hu ht hr hcv hlg

set_option maxHeartbeats 3200000 in
theorem schCheck_range (s : Spc) (W : Int) (v : Value) (w : World) (h : ¬ (isDayP s.st ∧ isDayP s.en)) :
    Calls Tryz.prog 101 #[.agg #[.int .i64 s.st, .int .i64 s.en, .int .i64 s.n, .int .i64 s.unit, .int .i64 s.stub, .int .i64 s.roll, .int .i64 s.conv, .int .i64 s.lag, .int .i64 W, v]] w fun e w' => e = .returned (.int .i64 51) ∧ Below w.heap.size w w' := by
  have HB := hideS (SBox.zero w s W v).below
  obtain ⟨st, en, n, unit, stub, roll, conv, lag⟩ := s
  dsimp only at *
  have H1 := hideS (fun wx => schDay_any st wx)
  have H2 := hideS (fun wx => schDay_any en wx)
  by_cases a : 0 ≤ st ∧ st ≤ 109572
  · rw [decide_eq_true a] at H1
    rw [decide_eq_false (fun b : 0 ≤ en ∧ en ≤ 109572 => h ⟨a, b⟩)] at H2
    clear h a
    go_enter Tryz.func101, Tryz.ntmps101
    go_wp2_with fail
    refine (H1.out _).mono ?_
    rintro e w1 ⟨rfl, rfl⟩
    go_wp2_with fail
    refine (H2.out _).mono ?_
    rintro e w1 ⟨rfl, rfl⟩
    go_wp2_with fail
    go_ret
    exact ⟨rfl, HB.out⟩
  · rw [decide_eq_false a] at H1
    clear h a H2
    go_enter Tryz.func101, Tryz.ntmps101
    go_wp2_with fail
    refine (H1.out _).mono ?_
    rintro e w1 ⟨rfl, rfl⟩
    go_wp2_with fail
    go_ret
    exact ⟨rfl, HB.out⟩

set_option maxHeartbeats 3200000 in
theorem schCheck_spec (s : Spc) (W : Int) (v : Value) (w : World) (h0 : isDayP s.st) (h1 : isDayP s.en) (h : ¬ SpcOk s) :
    Calls Tryz.prog 101 #[.agg #[.int .i64 s.st, .int .i64 s.en, .int .i64 s.n, .int .i64 s.unit, .int .i64 s.stub, .int .i64 s.roll, .int .i64 s.conv, .int .i64 s.lag, .int .i64 W, v]] w fun e w' => e = .returned (.int .i64 80) ∧ Below w.heap.size w w' := by
  have HB := hideS (SBox.zero w s W v).below
  have HF := hideS (fun wx => fits_no s W v wx h0 h1 h)
  obtain ⟨st, en, n, unit, stub, roll, conv, lag⟩ := s
  dsimp only at *
  have H1 := hideS (fun wx => schDay_any st wx)
  have H2 := hideS (fun wx => schDay_any en wx)
  rw [decide_eq_true (⟨h0.1, h0.2⟩ : 0 ≤ st ∧ st ≤ 109572)] at H1
  rw [decide_eq_true (⟨h1.1, h1.2⟩ : 0 ≤ en ∧ en ≤ 109572)] at H2
  clear h h0 h1
  go_enter Tryz.func101, Tryz.ntmps101
  go_wp2_with fail
  refine (H1.out _).mono ?_
  rintro e w1 ⟨rfl, rfl⟩
  go_wp2_with fail
  refine (H2.out _).mono ?_
  rintro e w1 ⟨rfl, rfl⟩
  go_wp2_with fail
  refine (HF.out _).mono ?_
  rintro e w2 ⟨rfl, hb2⟩
  go_wp2_with fail
  go_ret
  exact ⟨rfl, HB.out.trans (hb2.mono HB.out.size)⟩

set_option maxHeartbeats 3200000 in
theorem schCheck_cal (s : Spc) (W A B : Int) (v : Value) (w : World) (h : SpcOk s) (HC : Hid (∀ wx, Below w.heap.size w wx → Calls Tryz.prog 148 #[.agg #[.int .i64 W, v]] wx fun e w' => e = .returned (.tuple #[.int .i64 A, .int .i64 B]) ∧ Below wx.heap.size wx w')) :
    Calls Tryz.prog 101 #[.agg #[.int .i64 s.st, .int .i64 s.en, .int .i64 s.n, .int .i64 s.unit, .int .i64 s.stub, .int .i64 s.roll, .int .i64 s.conv, .int .i64 s.lag, .int .i64 W, v]] w fun e w' => e = .returned (.int .i64 A) ∧ Below w.heap.size w w' := by
  have HB := hideS (SBox.zero w s W v)
  have HF := hideS (fun wx => fits_yes s W v wx h)
  have h0 := h.s0
  have h1 := h.e0
  obtain ⟨st, en, n, unit, stub, roll, conv, lag⟩ := s
  dsimp only at *
  have H1 := hideS (fun wx => schDay_any st wx)
  have H2 := hideS (fun wx => schDay_any en wx)
  rw [decide_eq_true (⟨h0.1, h0.2⟩ : 0 ≤ st ∧ st ≤ 109572)] at H1
  rw [decide_eq_true (⟨h1.1, h1.2⟩ : 0 ≤ en ∧ en ≤ 109572)] at H2
  clear h h0 h1
  go_enter Tryz.func101, Tryz.ntmps101
  go_wp2_with fail
  refine (H1.out _).mono ?_
  rintro e w1 ⟨rfl, rfl⟩
  go_wp2_with fail
  refine (H2.out _).mono ?_
  rintro e w1 ⟨rfl, rfl⟩
  go_wp2_with fail
  refine (HF.out _).mono ?_
  rintro e w2 ⟨rfl, hb2⟩
  have HB2 := hideS (HB.out.step hb2)
  clear hb2
  obtain ⟨_, _, _, _, _, _, _, _, q8, q9⟩ := HB2.out.cells
  go_wp2_with fail
  refine (HC.out _ HB2.out.below).mono ?_
  rintro e w3 ⟨rfl, hb3⟩
  go_wp2_with fail
  go_ret
  exact ⟨rfl, (HB2.out.step hb3).below⟩

theorem schCheck_any (s : Spc) (W A B E : Int) (p : Option Addr) (b off c : Nat) (rs : List Rul) (w : World) (hA : ChkR W rs A B) (h : SpcR s A E) (hs : RSrc w p b off rs) (hl : rs.length ≤ 9223372036854775807) :
    Calls Tryz.prog 101 #[.agg #[.int .i64 s.st, .int .i64 s.en, .int .i64 s.n, .int .i64 s.unit, .int .i64 s.stub, .int .i64 s.roll, .int .i64 s.conv, .int .i64 s.lag, .int .i64 W, .slice p rs.length c]] w fun e w' => e = .returned (.int .i64 E) ∧ Below w.heap.size w w' := by
  cases h with
  | range h => exact schCheck_range s W _ w h
  | spec h0 h1 h => exact schCheck_spec s W _ w h0 h1 h
  | cal h => exact schCheck_cal s W A B _ w h (fun wx hb => check_any W p b off c rs A B wx hA (hs.below hb) hl)
end Go.Proofs.YtpcgbcdldkmibaaGreat
namespace Go.Proofs.YtpcgbcdldkmibaaGreat
open Go.RowKit

theorem step_1 {s : Spc} {k : Int} (h : s.unit = 1) : stepN s k = k * s.n := by unfold stepN; rw [if_neg (by omega)]
theorem step_2 {s : Spc} {k : Int} (h : s.unit = 2) : stepN s k = 7 * k * s.n := by unfold stepN; rw [if_pos (Or.inl h), if_pos h, Int.mul_assoc]
theorem step_3 {s : Spc} {k : Int} (h : s.unit = 3) : stepN s k = k * s.n := by unfold stepN; rw [if_neg (by omega)]
theorem step_4 {s : Spc} {k : Int} (h : s.unit = 4) : stepN s k = 12 * (k * s.n) := by unfold stepN; rw [if_pos (Or.inr h), if_neg (by omega)]
theorem mul_bdS {k n : Int} (k0 : -200000 ≤ k) (k1 : k ≤ 200000) (n0 : 1 ≤ n) (n1 : n ≤ 1200) : -240000000 ≤ k * n ∧ k * n ≤ 240000000 := by
  rcases Int.le_total 0 k with h | h
  · have a := Int.mul_le_mul_of_nonneg_left n1 h
    have b := Int.mul_nonneg h (show 0 ≤ n by omega)
    omega
  · have a := Int.mul_le_mul_of_nonneg_left n1 (show 0 ≤ -k by omega)
    have b := Int.mul_nonneg (show 0 ≤ -k by omega) (show 0 ≤ n by omega)
    rw [Int.neg_mul, Int.neg_mul] at a
    rw [Int.neg_mul] at b
    omega

set_option maxHeartbeats 3200000 in
theorem ref8Point_no (s : Spc) (W a k : Int) (v : Value) (w : World) (h : ¬ isDayP a ∨ k < -200000 ∨ 200000 < k) :
    Calls Tryz.prog 113 #[.agg #[.int .i64 s.st, .int .i64 s.en, .int .i64 s.n, .int .i64 s.unit, .int .i64 s.stub, .int .i64 s.roll, .int .i64 s.conv, .int .i64 s.lag, .int .i64 W, v], .int .i64 a, .int .i64 k] w fun e w' => e = .returned (.tuple #[.int .i64 0, .bool false]) ∧ Below w.heap.size w w' := by
  have HB := hideS (SBox.zero w s W v).below
  obtain ⟨st, en, n, unit, stub, roll, conv, lag⟩ := s
  dsimp only at *
  have H1 := hideS (fun wx => ref8In_any a 0 109572 wx)
  by_cases ha : 0 ≤ a ∧ a ≤ 109572
  · rw [decide_eq_true ha] at H1
    rcases (show k < -200000 ∨ (¬ k < -200000 ∧ 200000 < k) by
      rcases h with b | b
      · exact absurd ha b
      · omega) with b | ⟨b, b2⟩
    all_goals
      clear h ha
      go_enter Tryz.func113, Tryz.ntmps113
      go_wp2_with (go_at_call 159; refine (H1.out _).mono ?_; rintro e w1 ⟨rfl, rfl⟩)
      go_ret2
      exact ⟨rfl, HB.out⟩
  · rw [decide_eq_false ha] at H1
    clear h ha
    go_enter Tryz.func113, Tryz.ntmps113
    go_wp2_with (go_at_call 159; refine (H1.out _).mono ?_; rintro e w1 ⟨rfl, rfl⟩)
    go_ret2
    exact ⟨rfl, HB.out⟩

set_option maxHeartbeats 3200000 in
theorem ref8Point_days (s : Spc) (W a k : Int) (v : Value) (w : World) (h : SpcOk s) (ha : isDayP a) (k0 : -200000 ≤ k) (k1 : k ≤ 200000) (hu : s.unit ≤ 2) :
    Calls Tryz.prog 113 #[.agg #[.int .i64 s.st, .int .i64 s.en, .int .i64 s.n, .int .i64 s.unit, .int .i64 s.stub, .int .i64 s.roll, .int .i64 s.conv, .int .i64 s.lag, .int .i64 W, v], .int .i64 a, .int .i64 k] w fun e w' => e = .returned (.tuple #[.int .i64 ((ptO s a k).getD 0), .bool (ptO s a k).isSome]) ∧ Below w.heap.size w w' := by
  rw [pt_days ha hu]
  have HB := hideS (SBox.zero w s W v).below
  obtain ⟨b0, b1⟩ := mul_bdS k0 k1 h.n1 h.n2
  have hu1 := h.u1
  rcases (show s.unit = 1 ∨ s.unit = 2 by omega) with u | u
  · rw [step_1 u]
    clear h hu hu1
    obtain ⟨st, en, n, unit, stub, roll, conv, lag⟩ := s
    dsimp only at *
    subst u
    have H1 := hideS (fun wx => ref8In_any a 0 109572 wx)
    rw [decide_eq_true (⟨ha.1, ha.2⟩ : 0 ≤ a ∧ a ≤ 109572)] at H1
    obtain ⟨a0, a1⟩ := ha
    obtain ⟨M, hM⟩ : ∃ M, k * n = M := ⟨_, rfl⟩
    rw [hM] at b0 b1 ⊢
    have H2 := hideS (fun wx => ref8In_any (a + M) 0 109572 wx)
    have k0' : ¬ k < -200000 := by omega
    have k1' : ¬ 200000 < k := by omega
    by_cases hd : 0 ≤ a + M ∧ a + M ≤ 109572
    · rw [if_pos (show isDayP (a + M) from hd)]
      rw [decide_eq_true hd] at H2
      clear hd
      go_enter Tryz.func113, Tryz.ntmps113
      go_wp2_with fail
      refine (H1.out _).mono ?_
      rintro e w1 ⟨rfl, rfl⟩
      go_wp2_with fail
      refine (H2.out _).mono ?_
      rintro e w1 ⟨rfl, rfl⟩
      go_wp2_with fail
      go_ret2
      exact ⟨rfl, HB.out⟩
    · rw [if_neg (show ¬ isDayP (a + M) from hd)]
      rw [decide_eq_false hd] at H2
      clear hd
      go_enter Tryz.func113, Tryz.ntmps113
      go_wp2_with fail
      refine (H1.out _).mono ?_
      rintro e w1 ⟨rfl, rfl⟩
      go_wp2_with fail
      refine (H2.out _).mono ?_
      rintro e w1 ⟨rfl, rfl⟩
      go_wp2_with fail
      go_ret2
      exact ⟨rfl, HB.out⟩
  · rw [step_2 u]
    clear h hu hu1
    obtain ⟨st, en, n, unit, stub, roll, conv, lag⟩ := s
    dsimp only at *
    subst u
    have H1 := hideS (fun wx => ref8In_any a 0 109572 wx)
    rw [decide_eq_true (⟨ha.1, ha.2⟩ : 0 ≤ a ∧ a ≤ 109572)] at H1
    obtain ⟨a0, a1⟩ := ha
    have e7 : 7 * k * n = 7 * (k * n) := Int.mul_assoc _ _ _
    obtain ⟨M, hM⟩ : ∃ M, k * n = M := ⟨_, rfl⟩
    obtain ⟨M7, hM7⟩ : ∃ M7, 7 * k * n = M7 := ⟨_, rfl⟩
    rw [hM] at b0 b1 e7
    rw [hM7] at e7 ⊢
    have c0 : -1680000000 ≤ M7 := by omega
    have c1 : M7 ≤ 1680000000 := by omega
    have H2 := hideS (fun wx => ref8In_any (a + M7) 0 109572 wx)
    have k0' : ¬ k < -200000 := by omega
    have k1' : ¬ 200000 < k := by omega
    clear e7
    by_cases hd : 0 ≤ a + M7 ∧ a + M7 ≤ 109572
    · rw [if_pos (show isDayP (a + M7) from hd)]
      rw [decide_eq_true hd] at H2
      clear hd
      go_enter Tryz.func113, Tryz.ntmps113
      go_wp2_with fail
      refine (H1.out _).mono ?_
      rintro e w1 ⟨rfl, rfl⟩
      go_wp2_with fail
      refine (H2.out _).mono ?_
      rintro e w1 ⟨rfl, rfl⟩
      go_wp2_with fail
      go_ret2
      exact ⟨rfl, HB.out⟩
    · rw [if_neg (show ¬ isDayP (a + M7) from hd)]
      rw [decide_eq_false hd] at H2
      clear hd
      go_enter Tryz.func113, Tryz.ntmps113
      go_wp2_with fail
      refine (H1.out _).mono ?_
      rintro e w1 ⟨rfl, rfl⟩
      go_wp2_with fail
      refine (H2.out _).mono ?_
      rintro e w1 ⟨rfl, rfl⟩
      go_wp2_with fail
      go_ret2
      exact ⟨rfl, HB.out⟩
end Go.Proofs.YtpcgbcdldkmibaaGreat
