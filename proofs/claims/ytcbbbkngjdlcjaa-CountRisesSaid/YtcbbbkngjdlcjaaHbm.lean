/- The contracts of the document's Add and Count. The contracts of the document's Count turned round or refused, and of moves. -/
import Derived.Test.YtcbbbkngjdlcjaaHbl
namespace Go.Proofs.Ytcbbbkngjdlcjaa
open Go.RowKit

set_option maxHeartbeats 1600000 in
theorem refCount_up (W x y : Int) (p : Option Addr) (b off c : Nat) (rs : List Rul) (w : World) (h : OkC W rs) (hs : RSrc w p b off rs) (hx : isDayP x) (hy : isDayP y) (hxy : x ≤ y) :
    Calls Try.prog 18 #[.agg #[.int .i64 W, .slice p rs.length c], .int .i64 x, .int .i64 y] w fun e w' => e = .returned (.tuple #[.int .i64 (cntN (opB W rs) x (y - x).toNat : Nat), .int .i64 0]) ∧ Below w.heap.size w w' := by
  have HC : Hid (∀ wx, Below w.heap.size w wx → Calls Try.prog 16 #[.agg #[.int .i64 W, .slice p rs.length c]] wx fun e w' => e = .returned (.tuple #[.int .i64 0, .int .i64 0]) ∧ Below wx.heap.size wx w') := fun wx hb => refCheck_any W p b off c rs 0 0 wx (.ok h) (hs.below hb) (by have := h.len; omega)
  have HO : Hid (∀ z wx, isDayP z → Below w.heap.size w wx → Calls Try.prog 34 #[.agg #[.int .i64 W, .slice p rs.length c], .int .i64 z] wx fun e w' => e = .returned (.bool (opB W rs z)) ∧ Below wx.heap.size wx w') := fun z wx hz hb => refOpenD_any W z p b off c rs wx h (hs.below hb) hz
  have hd1 := fun wx => refIsDay_any x wx
  have hd2 := fun wx => refIsDay_any y wx
  rw [decide_eq_true hx] at hd1
  rw [decide_eq_true hy] at hd2
  have HD1 := hideS hd1
  have HD2 := hideS hd2
  obtain ⟨x0, x1⟩ := hx
  obtain ⟨y0, y1⟩ := hy
  clear h hs hd1 hd2
  generalize opB W rs = op at *
  generalize rs.length = N at *
  have hlt : ¬ y < x := by omega
  obtain ⟨R, hR⟩ : ∃ R : Int, ((cntN op x (y - x).toNat : Nat) : Int) = R := ⟨_, rfl⟩
  rw [hR]
  have HR := hideS hR
  clear hR
  have HB0 : Hid (Below w.heap.size w (w.alloc (.cells #[.int .i64 W, .slice p N c] 24))) := (Below.refl w.heap.size w).alloc (Nat.le_refl _) _
  go_enter Try.func18, Try.ntmps18
  go_wp2_with fail
  refine (HC.out _ HB0.out).mono ?_
  rintro e w1 ⟨rfl, hb1⟩
  have HB1 := hideS (CBox.first hb1)
  clear hb1
  go_wp2_with fail
  refine (HD1.out _).mono ?_
  rintro e w2 ⟨rfl, hw2⟩
  obtain rfl := hw2.symm
  clear hw2
  go_wp2_with fail
  refine (HD2.out _).mono ?_
  rintro e w2 ⟨rfl, hw2⟩
  obtain rfl := hw2.symm
  clear hw2
  go_wp2_with fail
  go_loopw [12, 13] (fun m i wr => ∃ (k : Nat) (I M : Int), x ≤ I ∧ I ≤ y ∧ 0 ≤ M ∧ M ≤ 200000 ∧ i = .int .i64 I ∧ m = .int .i64 M ∧ Hid (I = x + k ∧ M = (cntN op x k : Nat)) ∧ Hid (CBox w W (.slice p N c) wr)) (fun _ i _ => (y - intOf i).toNat)
  case atStart => exact ⟨0, x, 0, by omega, by omega, by omega, by omega, rfl, rfl, ⟨by omega, rfl⟩, HB1⟩
  case round =>
    clear HB1
    obtain ⟨k, I, M, hI0, hI1, hM0, hM1, rfl, rfl, HI, HB⟩ := hrel
    obtain ⟨c0, c1⟩ := cal_cells HB.out
    by_cases hIy : I < y
    · have hop := fun wx hb => HO.out I wx ⟨by omega, by omega⟩ hb
      have HB5 : Hid (cntN op x (k + 1) ≤ 150000) := by
        have := cnt_le op x (k + 1)
        have := HI.out.1
        show _ ≤ _
        omega
      cases ho : op I
      · rw [ho] at hop
        have HOi := hideS hop
        have HI' : Hid (I + 1 = x + (k + 1 : Nat) ∧ M = (cntN op x (k + 1) : Nat)) := by
          obtain ⟨e1, e2⟩ := HI.out
          refine ⟨by omega, ?_⟩
          show M = ((cntN op x k + (if op (x + k) then 1 else 0) : Nat) : Int)
          rw [← e1, ho, e2]; simp
        clear hop ho
        go_wp2_with (go_at_call 34; refine (HOi.out _ HB.out.below).mono ?_; rintro e w2 ⟨rfl, hb2⟩; have HB2 := hideS (HB.out.step hb2); clear hb2)
        go_roundw
        case rel => exact ⟨k + 1, I + 1, M, by omega, by omega, by omega, by omega, rfl, rfl, HI', HB2⟩
        case measure => simp [intOf]; omega
      · rw [ho] at hop
        have HOi := hideS hop
        have HI' : Hid (I + 1 = x + (k + 1 : Nat) ∧ M + 1 = (cntN op x (k + 1) : Nat)) := by
          obtain ⟨e1, e2⟩ := HI.out
          refine ⟨by omega, ?_⟩
          show M + 1 = ((cntN op x k + (if op (x + k) then 1 else 0) : Nat) : Int)
          rw [← e1, ho, e2]; simp
        clear hop ho
        go_wp2_with (go_at_call 34; refine (HOi.out _ HB.out.below).mono ?_; rintro e w2 ⟨rfl, hb2⟩; have HB2 := hideS (HB.out.step hb2); clear hb2)
        go_roundw
        case rel => exact ⟨k + 1, I + 1, M + 1, by omega, by omega, by omega, by have := HI'.out.2; have := HB5.out; omega, rfl, rfl, HI', HB2⟩
        case measure => simp [intOf]; omega
    · have HE : Hid (M = R) := by
        obtain ⟨e1, e2⟩ := HI.out
        show _ = _
        rw [e2, ← HR.out, show (y - x).toNat = k by omega]
      go_wp2_with fail
      go_ret2
      obtain rfl := HE.out
      exact ⟨rfl, HB.out.below⟩
end Go.Proofs.Ytcbbbkngjdlcjaa
namespace Go.Proofs.Ytcbbbkngjdlcjaa
open Go.RowKit

set_option maxHeartbeats 1600000 in
theorem refCount_down (W x y : Int) (p : Option Addr) (b off c : Nat) (rs : List Rul) (w : World) (h : OkC W rs) (hs : RSrc w p b off rs) (hx : isDayP x) (hy : isDayP y) (hxy : y < x) :
    Calls Try.prog 18 #[.agg #[.int .i64 W, .slice p rs.length c], .int .i64 x, .int .i64 y] w fun e w' => e = .returned (.tuple #[.int .i64 (-((cntN (opB W rs) y (x - y).toNat : Nat) : Int)), .int .i64 0]) ∧ Below w.heap.size w w' := by
  have HC : Hid (∀ wx, Below w.heap.size w wx → Calls Try.prog 16 #[.agg #[.int .i64 W, .slice p rs.length c]] wx fun e w' => e = .returned (.tuple #[.int .i64 0, .int .i64 0]) ∧ Below wx.heap.size wx w') := fun wx hb => refCheck_any W p b off c rs 0 0 wx (.ok h) (hs.below hb) (by have := h.len; omega)
  have HU : Hid (∀ wx, Below w.heap.size w wx → Calls Try.prog 18 #[.agg #[.int .i64 W, .slice p rs.length c], .int .i64 y, .int .i64 x] wx fun e w' => e = .returned (.tuple #[.int .i64 (cntN (opB W rs) y (x - y).toNat : Nat), .int .i64 0]) ∧ Below wx.heap.size wx w') := fun wx hb => refCount_up W y x p b off c rs wx h (hs.below hb) hy hx (by omega)
  have hd1 := fun wx => refIsDay_any x wx
  have hd2 := fun wx => refIsDay_any y wx
  rw [decide_eq_true hx] at hd1
  rw [decide_eq_true hy] at hd2
  have HD1 := hideS hd1
  have HD2 := hideS hd2
  have hc := cnt_le (opB W rs) y (x - y).toNat
  obtain ⟨x0, x1⟩ := hx
  obtain ⟨y0, y1⟩ := hy
  clear h hs hd1 hd2
  obtain ⟨M, hM⟩ : ∃ M : Int, ((cntN (opB W rs) y (x - y).toNat : Nat) : Int) = M := ⟨_, rfl⟩
  rw [hM] at HU ⊢
  have m0 : 0 ≤ M := by omega
  have m1 : M ≤ 200000 := by omega
  clear hM hc
  generalize rs.length = N at *
  have HB0 : Hid (Below w.heap.size w (w.alloc (.cells #[.int .i64 W, .slice p N c] 24))) := (Below.refl w.heap.size w).alloc (Nat.le_refl _) _
  go_enter Try.func18, Try.ntmps18
  go_wp2_with fail
  refine (HC.out _ HB0.out).mono ?_
  rintro e w1 ⟨rfl, hb1⟩
  have HB1 := hideS (CBox.first hb1)
  obtain ⟨c0, c1⟩ := cal_cells HB1.out
  clear hb1
  go_wp2_with fail
  refine (HD1.out _).mono ?_
  rintro e w2 ⟨rfl, hw2⟩
  obtain rfl := hw2.symm
  clear hw2
  go_wp2_with fail
  refine (HD2.out _).mono ?_
  rintro e w2 ⟨rfl, hw2⟩
  obtain rfl := hw2.symm
  clear hw2
  go_wp2_with (go_at_call 18; refine (HU.out _ HB1.out.below).mono ?_; rintro e w3 ⟨rfl, hb3⟩; have HB3 := hideS (HB1.out.step hb3); clear hb3)
  go_ret2
  exact ⟨rfl, HB3.out.below⟩

set_option maxHeartbeats 800000 in
theorem refCount_bad (W x y : Int) (p : Option Addr) (b off c : Nat) (rs : List Rul) (A B E : Int) (w : World) (h : ChkR W rs A B) (hs : RSrc w p b off rs) (hl : rs.length ≤ 1000000) (hE : (A ≠ 0 ∧ E = A) ∨ (A = 0 ∧ ¬ (isDayP x ∧ isDayP y) ∧ E = 51)) :
    Calls Try.prog 18 #[.agg #[.int .i64 W, .slice p rs.length c], .int .i64 x, .int .i64 y] w fun e w' => e = .returned (.tuple #[.int .i64 0, .int .i64 E]) ∧ Below w.heap.size w w' := by
  have HC : Hid (∀ wx, Below w.heap.size w wx → Calls Try.prog 16 #[.agg #[.int .i64 W, .slice p rs.length c]] wx fun e w' => e = .returned (.tuple #[.int .i64 A, .int .i64 B]) ∧ Below wx.heap.size wx w') := fun wx hb => refCheck_any W p b off c rs A B wx h (hs.below hb) hl
  generalize rs.length = N at *
  have HB0 : Hid (Below w.heap.size w (w.alloc (.cells #[.int .i64 W, .slice p N c] 24))) := (Below.refl w.heap.size w).alloc (Nat.le_refl _) _
  have hd1 := fun wx => refIsDay_any x wx
  have hd2 := fun wx => refIsDay_any y wx
  clear h hs hl
  rcases hE with ⟨a, rfl⟩ | ⟨rfl, a, rfl⟩
  · have a' : (E != 0) = true := bne_iff_ne.2 a
    clear hd1 hd2 a
    go_enter Try.func18, Try.ntmps18
    go_wp2_with (go_at_call 16; refine (HC.out _ HB0.out).mono ?_; rintro e w1 ⟨rfl, hb1⟩)
    go_ret2
    exact ⟨rfl, HB0.out.trans (hb1.mono HB0.out.size)⟩
  · by_cases hx : isDayP x
    · have hy : ¬ isDayP y := fun e => a ⟨hx, e⟩
      rw [decide_eq_true hx] at hd1
      rw [decide_eq_false hy] at hd2
      have HD1 := hideS hd1
      have HD2 := hideS hd2
      clear hd1 hd2 hx hy a
      go_enter Try.func18, Try.ntmps18
      go_wp2_with fail
      refine (HC.out _ HB0.out).mono ?_
      rintro e w1 ⟨rfl, hb1⟩
      go_wp2_with fail
      refine (HD1.out _).mono ?_
      rintro e w2 ⟨rfl, hw2⟩
      obtain rfl := hw2.symm
      clear hw2
      go_wp2_with fail
      refine (HD2.out _).mono ?_
      rintro e w2 ⟨rfl, hw2⟩
      obtain rfl := hw2.symm
      clear hw2
      go_wp2_with fail
      go_ret2
      exact ⟨rfl, HB0.out.trans (hb1.mono HB0.out.size)⟩
    · rw [decide_eq_false hx] at hd1
      have HD1 := hideS hd1
      clear hd1 hd2 hx a
      go_enter Try.func18, Try.ntmps18
      go_wp2_with (first | (go_at_call 16; refine (HC.out _ HB0.out).mono ?_; rintro e w1 ⟨rfl, hb1⟩) | (go_at_call 33; refine (HD1.out _).mono ?_; rintro e w2 ⟨rfl, rfl⟩))
      go_ret2
      exact ⟨rfl, HB0.out.trans (hb1.mono HB0.out.size)⟩
end Go.Proofs.Ytcbbbkngjdlcjaa
