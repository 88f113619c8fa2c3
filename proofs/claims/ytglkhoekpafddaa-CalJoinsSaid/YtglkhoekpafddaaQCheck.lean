/- The contract of the program's Check. -/
import Derived.Test.YtglkhoekpafddaaQMay
namespace Go.Proofs.Ytglkhoekpafddaa
open Go.RowKit

def CBoxP (w : World) (W : Int) (v : Value) (wr : World) : Prop := Below (w.heap.size + 1) (w.alloc (.cells #[.int .i64 W, v] 24)) wr
theorem CBoxP.cells {w w1 : World} {W : Int} {v : Value} (hb : CBoxP w W v w1) :
    w1.cell? ⟨w.heap.size, 0, none⟩ = some (.int .i64 W) ∧ w1.cell? ⟨w.heap.size, 1, none⟩ = some v := by
  refine ⟨?_, ?_⟩
  · rw [Below.cell hb (p := ⟨w.heap.size, 0, none⟩) (by simp)]; simp
  · rw [Below.cell hb (p := ⟨w.heap.size, 1, none⟩) (by simp)]; simp
theorem CBoxP.step {w wr w' : World} {W : Int} {v : Value} (h : CBoxP w W v wr) (hb : Below wr.heap.size wr w') : CBoxP w W v w' :=
  Below.trans h (hb.mono (by have := Below.size h; simp at this; omega))
theorem CBoxP.below {w wr : World} {W : Int} {v : Value} (h : CBoxP w W v wr) : Below w.heap.size w wr :=
  ((Below.refl w.heap.size w).alloc (Nat.le_refl _) _).trans (Below.mono h (by omega))
theorem CBoxP.first {w w' : World} {W : Int} {v : Value} (hb : Below (w.alloc (.cells #[.int .i64 W, v] 24)).heap.size (w.alloc (.cells #[.int .i64 W, v] 24)) w') : CBoxP w W v w' :=
  hb.mono (by simp)
theorem below3 {wr w2 w3 : World} {o : Obj} (h2 : Below (wr.alloc o).heap.size (wr.alloc o) w2) (h3 : Below w2.heap.size w2 w3) : Below wr.heap.size wr w3 :=
  (((Below.refl wr.heap.size wr).alloc (Nat.le_refl _) o).trans (h2.mono (by simp))).trans (h3.mono (by have := h2.size; simp at this; omega))

set_option maxHeartbeats 3200000 in
theorem check_loop (W : Int) (p : Option Addr) (b off c : Nat) (rs : List Rul) (K : Nat) (A B : Int) (w : World) (w0 : 0 ≤ W ∧ W ≤ 126) (hs : RSrc w p b off rs) (hl : rs.length ≤ 64) (hK : K ≤ rs.length) (hf : ∀ j < K, fitB (rs.getD j rul0) = true)
    (hE : (K = rs.length ∧ A = 0 ∧ B = 0) ∨ (K < rs.length ∧ fitB (rs.getD K rul0) = false ∧ A = 60 ∧ B = K)) :
    Calls Try.prog 10 #[.agg #[.int .i64 W, .slice p rs.length c]] w fun e w' => e = .returned (.tuple #[.int .i64 A, .int .i64 B]) ∧ Below w.heap.size w w' := by
  obtain ⟨w0, w1⟩ := w0
  have w1' : ¬ 127 ≤ W := by omega
  have HS := hideS hs
  have HF := hideS hf
  have HE := hideS hE
  clear hs hf hE
  obtain ⟨N, hN⟩ : ∃ N, rs.length = N := ⟨_, rfl⟩
  have HN := hideS hN
  rw [hN] at hl hK ⊢
  rw [hN] at HE
  clear hN
  go_enter Try.func10, Try.ntmps10
  go_wp2_with fail
  have HB0 : Hid (CBoxP w W (.slice p N c) (w.alloc (.cells #[.int .i64 W, .slice p N c] 24))) := Below.refl _ _
  go_loopw [21] (fun i wr => ∃ (k : Nat), k ≤ K ∧ i = .int .i64 k ∧ Hid (CBoxP w W (.slice p N c) wr)) (fun i _ => N - (intOf i).toNat)
  case atStart => exact ⟨0, by omega, rfl, HB0⟩
  case round =>
    obtain ⟨k, hk, rfl, HB⟩ := hrel
    by_cases hlt : k < N
    · have hx : k < rs.length := by rw [HN.out]; exact hlt
      obtain rfl := HS.out.at_ (by omega)
      have hrc := (HS.out.cell k hx).below HB.out.below (HS.out.lt (by omega))
      have hft := HF.out k
      have hEE : k < K ∨ (fitB (rs.getD k rul0) = false ∧ A = 60 ∧ B = k) := by
        by_cases hkK : k < K
        · exact Or.inl hkK
        · obtain rfl : k = K := by omega
          rcases HE.out with ⟨a, _⟩ | ⟨_, a⟩
          · omega
          · exact Or.inr a
      generalize rs.getD k rul0 = r at hrc hft hEE
      clear hx
      obtain ⟨g0, g1, g2, g3, g4, g5, g6, g7, g8⟩ := hrc
      have key : ∀ R, fitB r = R → (k < K ∧ R = true) ∨ (R = false ∧ A = 60 ∧ B = k) := fun R hR => by
        rw [← hR]
        by_cases a : k < K
        · exact Or.inl ⟨a, hft a⟩
        · rcases hEE with b | b
          · exact absurd b a
          · exact Or.inr b
      clear hft hEE
      have HKey := hideS key
      clear key
      obtain ⟨kind, mon, day, nth, wd, offs, fr, to, mv⟩ := r
      dsimp only at *
      by_cases hkd : kind = 1 ∨ kind = 2 ∨ kind = 3 ∨ kind = 4
      · rcases hkd with rfl | rfl | rfl | rfl
        · have HH := hideS (fun wx => (holidayOf_any 1 mon day nth wd offs fr to mv wx (by omega) : Calls Try.prog 26 _ wx fun e w' => e = .returned (.iface 65 _) ∧ Below wx.heap.size wx w'))
          have HM := hideS (fun wx => may1_any mon day nth wd offs fr to mv wx)
          obtain ⟨R, hR⟩ : ∃ R, fitB ⟨1, mon, day, nth, wd, offs, fr, to, mv⟩ = R := ⟨_, rfl⟩
          have hKK := HKey.out R hR
          rw [hR] at HM
          clear hR HKey
          rcases hKK with ⟨a, rfl⟩ | ⟨rfl, a⟩
          · go_wp2_with (first | (go_at_call 26; refine (HH.out _).mono ?_; rintro e w2 ⟨rfl, hb2⟩) | (go_at_call 93; refine (HM.out _).mono ?_; rintro e w3 ⟨rfl, hb3⟩))
            have HB2 := hideS (HB.out.step (below3 hb2 hb3))
            clear hb2 hb3
            go_roundw
            case rel => exact ⟨k + 1, by omega, by go_num, HB2⟩
            case measure => simp [intOf]; omega
          · have HA := hideS a
            clear a
            go_wp2_with (first | (go_at_call 26; refine (HH.out _).mono ?_; rintro e w2 ⟨rfl, hb2⟩) | (go_at_call 93; refine (HM.out _).mono ?_; rintro e w3 ⟨rfl, hb3⟩))
            go_ret2
            obtain ⟨rfl, rfl⟩ := HA.out
            exact ⟨rfl, (HB.out.step (below3 hb2 hb3)).below⟩
        · have HH := hideS (fun wx => (holidayOf_any 2 mon day nth wd offs fr to mv wx (by omega) : Calls Try.prog 26 _ wx fun e w' => e = .returned (.iface 66 _) ∧ Below wx.heap.size wx w'))
          have HM := hideS (fun wx => may2_any mon day nth wd offs fr to mv wx)
          obtain ⟨R, hR⟩ : ∃ R, fitB ⟨2, mon, day, nth, wd, offs, fr, to, mv⟩ = R := ⟨_, rfl⟩
          have hKK := HKey.out R hR
          rw [hR] at HM
          clear hR HKey
          rcases hKK with ⟨a, rfl⟩ | ⟨rfl, a⟩
          · go_wp2_with (first | (go_at_call 26; refine (HH.out _).mono ?_; rintro e w2 ⟨rfl, hb2⟩) | (go_at_call 96; refine (HM.out _).mono ?_; rintro e w3 ⟨rfl, hb3⟩))
            have HB2 := hideS (HB.out.step (below3 hb2 hb3))
            clear hb2 hb3
            go_roundw
            case rel => exact ⟨k + 1, by omega, by go_num, HB2⟩
            case measure => simp [intOf]; omega
          · have HA := hideS a
            clear a
            go_wp2_with (first | (go_at_call 26; refine (HH.out _).mono ?_; rintro e w2 ⟨rfl, hb2⟩) | (go_at_call 96; refine (HM.out _).mono ?_; rintro e w3 ⟨rfl, hb3⟩))
            go_ret2
            obtain ⟨rfl, rfl⟩ := HA.out
            exact ⟨rfl, (HB.out.step (below3 hb2 hb3)).below⟩
        · have HH := hideS (fun wx => (holidayOf_any 3 mon day nth wd offs fr to mv wx (by omega) : Calls Try.prog 26 _ wx fun e w' => e = .returned (.iface 67 _) ∧ Below wx.heap.size wx w'))
          have HM := hideS (fun wx => may3_any mon day nth wd offs fr to mv wx)
          obtain ⟨R, hR⟩ : ∃ R, fitB ⟨3, mon, day, nth, wd, offs, fr, to, mv⟩ = R := ⟨_, rfl⟩
          have hKK := HKey.out R hR
          rw [hR] at HM
          clear hR HKey
          rcases hKK with ⟨a, rfl⟩ | ⟨rfl, a⟩
          · go_wp2_with (first | (go_at_call 26; refine (HH.out _).mono ?_; rintro e w2 ⟨rfl, hb2⟩) | (go_at_call 98; refine (HM.out _).mono ?_; rintro e w3 ⟨rfl, hb3⟩))
            have HB2 := hideS (HB.out.step (below3 hb2 hb3))
            clear hb2 hb3
            go_roundw
            case rel => exact ⟨k + 1, by omega, by go_num, HB2⟩
            case measure => simp [intOf]; omega
          · have HA := hideS a
            clear a
            go_wp2_with (first | (go_at_call 26; refine (HH.out _).mono ?_; rintro e w2 ⟨rfl, hb2⟩) | (go_at_call 98; refine (HM.out _).mono ?_; rintro e w3 ⟨rfl, hb3⟩))
            go_ret2
            obtain ⟨rfl, rfl⟩ := HA.out
            exact ⟨rfl, (HB.out.step (below3 hb2 hb3)).below⟩
        · have HH := hideS (fun wx => (holidayOf_any 4 mon day nth wd offs fr to mv wx (by omega) : Calls Try.prog 26 _ wx fun e w' => e = .returned (.iface 68 _) ∧ Below wx.heap.size wx w'))
          have HM := hideS (fun wx => may4_any mon day nth wd offs fr to mv wx)
          obtain ⟨R, hR⟩ : ∃ R, fitB ⟨4, mon, day, nth, wd, offs, fr, to, mv⟩ = R := ⟨_, rfl⟩
          have hKK := HKey.out R hR
          rw [hR] at HM
          clear hR HKey
          rcases hKK with ⟨a, rfl⟩ | ⟨rfl, a⟩
          · go_wp2_with (first | (go_at_call 26; refine (HH.out _).mono ?_; rintro e w2 ⟨rfl, hb2⟩) | (go_at_call 102; refine (HM.out _).mono ?_; rintro e w3 ⟨rfl, hb3⟩))
            have HB2 := hideS (HB.out.step (below3 hb2 hb3))
            clear hb2 hb3
            go_roundw
            case rel => exact ⟨k + 1, by omega, by go_num, HB2⟩
            case measure => simp [intOf]; omega
          · have HA := hideS a
            clear a
            go_wp2_with (first | (go_at_call 26; refine (HH.out _).mono ?_; rintro e w2 ⟨rfl, hb2⟩) | (go_at_call 102; refine (HM.out _).mono ?_; rintro e w3 ⟨rfl, hb3⟩))
            go_ret2
            obtain ⟨rfl, rfl⟩ := HA.out
            exact ⟨rfl, (HB.out.step (below3 hb2 hb3)).below⟩
      · have HH := hideS (fun wx => holidayOf_none kind mon day nth wd offs fr to mv wx hkd)
        have HM := hideS (fun wx => may0_any wx)
        have HA : Hid (A = 60 ∧ B = k) := by
          rcases HKey.out _ (fit_no (fun a => hkd (by omega)) (fun a => hkd (by omega)) (fun a => hkd (by omega)) (fun a => hkd (by omega))) with ⟨_, a⟩ | ⟨_, a⟩
          · exact Bool.noConfusion a
          · exact a
        clear HKey hkd
        go_wp2_with (first | (go_at_call 26; refine (HH.out _).mono ?_; rintro e w2 ⟨rfl, hb2⟩) | (go_at_call 104; refine (HM.out _).mono ?_; rintro e w3 ⟨rfl, hb3⟩))
        go_ret2
        obtain ⟨rfl, rfl⟩ := HA.out
        exact ⟨rfl, (HB.out.step (below3 hb2 hb3)).below⟩
    · have HA : Hid (A = 0 ∧ B = 0) := by
        rcases HE.out with ⟨_, a⟩ | ⟨a, _⟩
        · exact a
        · omega
      have hge : ¬ (k : Int) < N := by omega
      go_wp2_with fail
      go_ret2
      obtain ⟨rfl, rfl⟩ := HA.out
      exact ⟨rfl, HB.out.below⟩

set_option maxHeartbeats 400000 in
theorem check_any (W : Int) (p : Option Addr) (b off c : Nat) (rs : List Rul) (A B : Int) (w : World) (h : ChkR W rs A B) (hs : RSrc w p b off rs) (hl : rs.length ≤ 9223372036854775807) :
    Calls Try.prog 10 #[.agg #[.int .i64 W, .slice p rs.length c]] w fun e w' => e = .returned (.tuple #[.int .i64 A, .int .i64 B]) ∧ Below w.heap.size w w' := by
  cases h with
  | long h =>
    generalize rs.length = N at *
    have h' : (64 : Int) < N := by omega
    clear hs h
    go_enter Try.func10, Try.ntmps10
    go_wp2_with fail
    go_ret2
    exact ⟨rfl, (Below.refl w.heap.size w).alloc (Nat.le_refl _) _⟩
  | week h h2 =>
    generalize rs.length = N at *
    have h' : ¬ (64 : Int) < N := by omega
    clear hs h
    rcases (show W < 0 ∨ (¬ W < 0 ∧ 127 ≤ W) by omega) with a | ⟨a, a2⟩
    all_goals
      clear h2
      go_enter Try.func10, Try.ntmps10
      go_wp2_with fail
      go_ret2
      exact ⟨rfl, (Below.refl w.heap.size w).alloc (Nat.le_refl _) _⟩
  | rule k h1 h2 h3 h4 h5 => exact check_loop W p b off c rs k 60 k w h2 hs h1 (by omega) h5 (Or.inr ⟨h3, h4, rfl, rfl⟩)
  | ok h => exact check_loop W p b off c rs rs.length 0 0 w ⟨h.w0, h.w1⟩ hs h.len (Nat.le_refl _) (fun j hj => h.fit _ (getD_mem hj)) (Or.inl ⟨rfl, rfl, rfl⟩)
end Go.Proofs.Ytglkhoekpafddaa
