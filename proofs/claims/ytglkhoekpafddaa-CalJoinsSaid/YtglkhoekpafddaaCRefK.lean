/- The contracts of the document's Count turned round or refused, and of moves. -/
import Derived.Test.YtglkhoekpafddaaCRefJ
namespace Go.Proofs.Ytglkhoekpafddaa
open Go.RowKit

set_option maxHeartbeats 1600000 in
theorem refCount_down (W x y : Int) (p : Option Addr) (b off c : Nat) (rs : List Rul) (w : World) (h : OkC W rs) (hs : RSrc w p b off rs) (hx : isDayP x) (hy : isDayP y) (hxy : y < x) :
    Calls Try.prog 24 #[.agg #[.int .i64 W, .slice p rs.length c], .int .i64 x, .int .i64 y] w fun e w' => e = .returned (.tuple #[.int .i64 (-((cntN (opB W rs) y (x - y).toNat : Nat) : Int)), .int .i64 0]) ∧ Below w.heap.size w w' := by
  have HC : Hid (∀ wx, Below w.heap.size w wx → Calls Try.prog 11 #[.agg #[.int .i64 W, .slice p rs.length c]] wx fun e w' => e = .returned (.tuple #[.int .i64 0, .int .i64 0]) ∧ Below wx.heap.size wx w') := fun wx hb => refCheck_any W p b off c rs 0 0 wx (.ok h) (hs.below hb) (by have := h.len; omega)
  have HU : Hid (∀ wx, Below w.heap.size w wx → Calls Try.prog 24 #[.agg #[.int .i64 W, .slice p rs.length c], .int .i64 y, .int .i64 x] wx fun e w' => e = .returned (.tuple #[.int .i64 (cntN (opB W rs) y (x - y).toNat : Nat), .int .i64 0]) ∧ Below wx.heap.size wx w') := fun wx hb => refCount_up W y x p b off c rs wx h (hs.below hb) hy hx (by omega)
  have hd1 := fun wx => refIsDay_any x wx
  have hd2 := fun wx => refIsDay_any y wx
  rw [decide_eq_true hx] at hd1
  rw [decide_eq_true hy] at hd2
  have HD1 := hideS hd1
  have HD2 := hideS hd2
  have hc := cnt_le (opB W rs) y (x - y).toNat
  obtain ⟨x0, x1⟩ := hx
  obtain ⟨y0, y1⟩ := hy
  clear h hs hd1 hd2
  obtain ⟨M, hM⟩ : ∃ M : Int, ((cntN (opB W rs) y (x - y).toNat : Nat) : Int) = M := ⟨_, rfl⟩
  rw [hM] at HU ⊢
  have m0 : 0 ≤ M := by omega
  have m1 : M ≤ 200000 := by omega
  clear hM hc
  generalize rs.length = N at *
  have HB0 : Hid (Below w.heap.size w (w.alloc (.cells #[.int .i64 W, .slice p N c] 24))) := (Below.refl w.heap.size w).alloc (Nat.le_refl _) _
  go_enter Try.func24, Try.ntmps24
  go_wp2_with fail
  refine (HC.out _ HB0.out).mono ?_
  rintro e w1 ⟨rfl, hb1⟩
  have HB1 := hideS (CBox.first hb1)
  obtain ⟨c0, c1⟩ := cal_cells HB1.out
  clear hb1
  go_wp2_with fail
  refine (HD1.out _).mono ?_
  rintro e w2 ⟨rfl, hw2⟩
  obtain rfl := hw2.symm
  clear hw2
  go_wp2_with fail
  refine (HD2.out _).mono ?_
  rintro e w2 ⟨rfl, hw2⟩
  obtain rfl := hw2.symm
  clear hw2
  go_wp2_with (go_at_call 24; refine (HU.out _ HB1.out.below).mono ?_; rintro e w3 ⟨rfl, hb3⟩; have HB3 := hideS (HB1.out.step hb3); clear hb3)
  go_ret2
  exact ⟨rfl, HB3.out.below⟩

set_option maxHeartbeats 800000 in
theorem refCount_bad (W x y : Int) (p : Option Addr) (b off c : Nat) (rs : List Rul) (A B E : Int) (w : World) (h : ChkR W rs A B) (hs : RSrc w p b off rs) (hl : rs.length ≤ 1000000) (hE : (A ≠ 0 ∧ E = A) ∨ (A = 0 ∧ ¬ (isDayP x ∧ isDayP y) ∧ E = 51)) :
    Calls Try.prog 24 #[.agg #[.int .i64 W, .slice p rs.length c], .int .i64 x, .int .i64 y] w fun e w' => e = .returned (.tuple #[.int .i64 0, .int .i64 E]) ∧ Below w.heap.size w w' := by
  have HC : Hid (∀ wx, Below w.heap.size w wx → Calls Try.prog 11 #[.agg #[.int .i64 W, .slice p rs.length c]] wx fun e w' => e = .returned (.tuple #[.int .i64 A, .int .i64 B]) ∧ Below wx.heap.size wx w') := fun wx hb => refCheck_any W p b off c rs A B wx h (hs.below hb) hl
  generalize rs.length = N at *
  have HB0 : Hid (Below w.heap.size w (w.alloc (.cells #[.int .i64 W, .slice p N c] 24))) := (Below.refl w.heap.size w).alloc (Nat.le_refl _) _
  have hd1 := fun wx => refIsDay_any x wx
  have hd2 := fun wx => refIsDay_any y wx
  clear h hs hl
  rcases hE with ⟨a, rfl⟩ | ⟨rfl, a, rfl⟩
  · have a' : (E != 0) = true := bne_iff_ne.2 a
    clear hd1 hd2 a
    go_enter Try.func24, Try.ntmps24
    go_wp2_with (go_at_call 11; refine (HC.out _ HB0.out).mono ?_; rintro e w1 ⟨rfl, hb1⟩)
    go_ret2
    exact ⟨rfl, HB0.out.trans (hb1.mono HB0.out.size)⟩
  · by_cases hx : isDayP x
    · have hy : ¬ isDayP y := fun e => a ⟨hx, e⟩
      rw [decide_eq_true hx] at hd1
      rw [decide_eq_false hy] at hd2
      have HD1 := hideS hd1
      have HD2 := hideS hd2
      clear hd1 hd2 hx hy a
      go_enter Try.func24, Try.ntmps24
      go_wp2_with fail
      refine (HC.out _ HB0.out).mono ?_
      rintro e w1 ⟨rfl, hb1⟩
      go_wp2_with fail
      refine (HD1.out _).mono ?_
      rintro e w2 ⟨rfl, hw2⟩
      obtain rfl := hw2.symm
      clear hw2
      go_wp2_with fail
      refine (HD2.out _).mono ?_
      rintro e w2 ⟨rfl, hw2⟩
      obtain rfl := hw2.symm
      clear hw2
      go_wp2_with fail
      go_ret2
      exact ⟨rfl, HB0.out.trans (hb1.mono HB0.out.size)⟩
    · rw [decide_eq_false hx] at hd1
      have HD1 := hideS hd1
      clear hd1 hd2 hx a
      go_enter Try.func24, Try.ntmps24
      go_wp2_with (first | (go_at_call 11; refine (HC.out _ HB0.out).mono ?_; rintro e w1 ⟨rfl, hb1⟩) | (go_at_call 42; refine (HD1.out _).mono ?_; rintro e w2 ⟨rfl, rfl⟩))
      go_ret2
      exact ⟨rfl, HB0.out.trans (hb1.mono HB0.out.size)⟩

set_option maxHeartbeats 800000 in
theorem refMoves_any (W : Int) (p : Option Addr) (b off c : Nat) (rs : List Rul) (w : World) (hs : RSrc w p b off rs) (hl : rs.length ≤ 1000000) :
    Calls Try.prog 45 #[.agg #[.int .i64 W, .slice p rs.length c]] w fun e w' => e = .returned (.bool (movesB rs)) ∧ Below w.heap.size w w' := by
  have HS := hideS hs
  obtain ⟨R, hR⟩ : ∃ R, movesB rs = R := ⟨_, rfl⟩
  rw [hR]
  have HR := hideS hR
  obtain ⟨N, hN⟩ : ∃ N, rs.length = N := ⟨_, rfl⟩
  have HN := hideS hN
  rw [hN] at hl ⊢
  clear hR hs hN
  have HB0 : Hid (CBox w W (.slice p N c) (w.alloc (.cells #[.int .i64 W, .slice p N c] 24))) := Below.refl _ _
  go_enter Try.func45, Try.ntmps45
  go_wp2_with fail
  have HMv : Hid (∀ j < 0, (rs.getD j rul0).mv = 0) := fun j hj => by omega
  go_loop [3] (fun i => ∃ (k : Nat), k ≤ N ∧ i = .int .i64 k ∧ Hid (∀ j < k, (rs.getD j rul0).mv = 0)) (fun i => N - (intOf i).toNat)
  case atStart => exact ⟨0, by omega, rfl, HMv⟩
  case round =>
    clear HMv
    obtain ⟨k, hk, rfl, HM⟩ := hrel
    by_cases hlt : k < N
    · have hx : k < rs.length := by rw [HN.out]; exact hlt
      obtain rfl := HS.out.at_ (by omega)
      have hrc := (HS.out.cell k hx).below HB0.out.below (HS.out.lt (by omega))
      have g8 := hrc.c8
      have HMem := hideS (getD_mem hx)
      obtain ⟨mv, hmv⟩ : ∃ mv, (rs.getD k rul0).mv = mv := ⟨_, rfl⟩
      rw [hmv] at g8
      have HMk := hideS hmv
      clear hrc hx hmv
      by_cases hz : mv = 0
      · have HM' : Hid (∀ j < k + 1, (rs.getD j rul0).mv = 0) := fun j hj => by
          by_cases hjk : j < k
          · exact HM.out j hjk
          · obtain rfl : j = k := by omega
            rw [HMk.out, hz]
        subst hz
        go_wp2_with fail
        go_round
        case rel => exact ⟨k + 1, by omega, by go_num, HM'⟩
        case measure => simp [intOf]; omega
      · have HE : Hid (true = R) := by
          show _ = _
          rw [← HR.out]
          exact (List.any_eq_true.2 ⟨_, HMem.out, by rw [HMk.out]; exact bne_iff_ne.2 hz⟩).symm
        have hz' : (mv != 0) = true := bne_iff_ne.2 hz
        clear hz
        go_wp2_with fail
        go_ret
        obtain rfl := HE.out
        exact ⟨rfl, HB0.out.below⟩
    · have HE : Hid (false = R) := by
        show _ = _
        rw [← HR.out]
        refine (Bool.eq_false_iff.2 fun a => ?_).symm
        obtain ⟨r, hm, hr⟩ := List.any_eq_true.1 a
        obtain ⟨j, hj, rfl⟩ := List.getElem_of_mem hm
        have := HM.out j (by have := HN.out; omega)
        rw [List.getD_eq_getElem?_getD, List.getElem?_eq_getElem hj] at this
        exact (bne_iff_ne.1 hr) this
      have hge : ¬ (k : Int) < N := by omega
      go_wp2_with fail
      go_ret
      obtain rfl := HE.out
      exact ⟨rfl, HB0.out.below⟩
end Go.Proofs.Ytglkhoekpafddaa
