/- The contract of the document's Print. -/
import Derived.Test.YtgigmepilpfefaaDoorDRefTxt
import Derived.Laws.BytesString
import Derived.Deep.RegionHeld3
namespace Go.Proofs.YtgigmepilpfefaaDoor
open Go.RowKit

theorem pad_size (n k : Nat) : (padB n k).size = k := by
  induction k with
  | zero => rfl
  | succ k ih =>
    show ((⟨#[dg (n / 10 ^ k)]⟩ : ByteArray) ++ padB n k).size = k + 1
    rw [ByteArray.size_append, ih]
    show 1 + k = k + 1
    omega

theorem conv_one (b : Int) (w : World) : (convert 51 9 (.slice (some ⟨w.heap.size, 0, none⟩) 1 1)).run Tryd.prog (w.alloc (.cells #[.int .u8 b] 5)) = .ok (.string ⟨#[UInt8.ofNat b.toNat]⟩) (w.alloc (.cells #[.int .u8 b] 5)) := by
  rw [run_convert_bytes_string _ 51 9 5 _ 1 1 Tryd.underlying51 Tryd.underlying5 Tryd.underlying9]
  rw [run_bytesToString _ ⟨w.heap.size, 0, none⟩ 1 1 [b] ?_]
  · rfl
  · simp [loadCells, go_sem]

set_option maxHeartbeats 800000 in
theorem padded_any (n k : Nat) (w : World) (hn : n < 10000) (hk : k ≤ 4) :
    Calls Tryd.prog 22 #[.int .i64 (n : Int), .int .i64 (k : Int)] w fun e w' => e = .returned (.string (padB n k)) ∧ Below w.heap.size w w' := by
  obtain ⟨R, hR⟩ : ∃ R, padB n k = R := ⟨_, rfl⟩
  rw [hR]
  have HR := hideS hR
  clear hR
  obtain ⟨K, hK⟩ : ∃ K : Int, (k : Int) = K := ⟨_, rfl⟩
  rw [hK]
  have HK := hideS hK
  have k0 : 0 ≤ K := by omega
  have k1 : K ≤ 4 := by omega
  clear hK
  obtain ⟨N0, hN⟩ : ∃ N : Int, (n : Int) = N := ⟨_, rfl⟩
  rw [hN]
  have HN0 := hideS hN
  have n0 : 0 ≤ N0 := by omega
  have n1 : N0 ≤ 10000 := by omega
  clear hN
  go_enter Tryd.func22, Tryd.ntmps22
  go_wp2_with fail
  go_loopw [6, 0, 5] (fun i c v wr => ∃ (j : Nat) (I N : Int) (s : ByteArray), 0 ≤ I ∧ I ≤ K ∧ 0 ≤ N ∧ N ≤ 10000 ∧ i = .int .i64 I ∧ c = .int .i64 N ∧ v = .string s ∧ s.size ≤ 4 ∧ Hid (Below w.heap.size w wr) ∧ Hid (I = j ∧ N = (n / 10 ^ j : Nat) ∧ s = padB n j)) (fun i _ _ _ => (K - intOf i).toNat)
  case atStart => exact ⟨0, 0, N0, ⟨#[]⟩, by omega, by omega, by omega, by omega, rfl, rfl, rfl, by decide, Below.refl _ _, rfl, by rw [Nat.pow_zero, Nat.div_one]; exact HN0.out.symm, rfl⟩
  case round =>
    obtain ⟨j, I, N, s, hI0, hI1, hN0, hN1, rfl, rfl, rfl, hs, HB, HI⟩ := hrel
    by_cases hlt : I < K
    · have hcv := fun b wx => conv_one b wx
      have m0 : 0 ≤ N % 10 := by omega
      have m1 : N % 10 ≤ 9 := by omega
      have HS : Hid ((⟨#[UInt8.ofNat (48 + N % 10).toNat]⟩ : ByteArray) ++ s = padB n (j + 1)) := by
        obtain ⟨_, e2, e3⟩ := HI.out
        show _ = (⟨#[dg (n / 10 ^ j)]⟩ : ByteArray) ++ padB n j
        rw [e3]
        unfold dg
        rw [show (48 + N % 10).toNat = 48 + n / 10 ^ j % 10 by omega]
      have HN' : Hid (N / 10 = (n / 10 ^ (j + 1) : Nat)) := by
        obtain ⟨_, e2, _⟩ := HI.out
        show _ = _
        rw [Nat.pow_succ, ← Nat.div_div_eq_div_mul]
        omega
      have HZ : Hid (s.size ≤ 3) := by
        obtain ⟨e1, _, e3⟩ := HI.out
        show _ ≤ _
        rw [e3, pad_size]; omega
      go_wp2_with fail
      go_roundw
      case rel => exact ⟨j + 1, I + 1, N / 10, _, by omega, by omega, by omega, by omega, rfl, rfl, rfl, by rw [ByteArray.size_append]; have := HZ.out; show 1 + s.size ≤ 4; omega, HB.out.alloc HB.out.size _, by have := HI.out.1; omega, HN'.out, HS.out⟩
      case measure => simp [intOf]; omega
    · have HE : Hid (s = R) := by
        obtain ⟨e1, _, e3⟩ := HI.out
        have := HK.out
        show _ = _
        rw [e3, ← HR.out, show j = k by omega]
      go_wp2_with fail
      go_ret
      obtain rfl := HE.out
      exact ⟨rfl, HB.out⟩

def Cells3 (b : Nat) (y m d : Int) (w : World) : Prop := w.cell? ⟨b, 0, none⟩ = some (.int .i64 y) ∧ w.cell? ⟨b, 1, none⟩ = some (.int .i64 m) ∧ w.cell? ⟨b, 2, none⟩ = some (.int .i64 d)
theorem Cells3.below {b : Nat} {y m d : Int} {w w' : World} (h : Cells3 b y m d w) (hb : Below w.heap.size w w') (hz : b < w.heap.size) : Cells3 b y m d w' :=
  ⟨(hb.cell (p := ⟨b, 0, none⟩) hz).trans h.1, (hb.cell (p := ⟨b, 1, none⟩) hz).trans h.2.1, (hb.cell (p := ⟨b, 2, none⟩) hz).trans h.2.2⟩
theorem boxed {w w1 : World} {y m d : Int} (hb : Below w.heap.size w w1) : ∃ wa, w1.alloc (.cells #[.int .i64 y, .int .i64 m, .int .i64 d] 44) = wa ∧ Hid (Cells3 w1.heap.size y m d wa) ∧ Hid (w1.heap.size < wa.heap.size) ∧ Hid (Below w.heap.size w wa) := by
  refine ⟨_, rfl, ⟨?_, ?_, ?_⟩, ?_, hb.alloc hb.size _⟩
  · simp
  · simp
  · simp
  · show _ < _; simp

set_option maxHeartbeats 1600000 in
theorem refPrint_ok (n : Int) (y m d : Nat) (w : World) (h : IsD n y m d) :
    Calls Tryd.prog 8 #[.int .i64 n] w fun e w' => e = .returned (.tuple #[.string (dateT y m d), .int .i64 0]) ∧ Below w.heap.size w w' := by
  have HC := hideS (refCiv_ok n y m d w h)
  unfold dateV at HC
  obtain ⟨y1, y2, m1, m2, d1, d2⟩ := h.1
  have d3 := len_hi (y : Int) (m : Int)
  have H1 : Hid (∀ w, Calls Tryd.prog 22 #[.int .i64 (y : Int), .int .i64 4] w fun e w' => e = .returned (.string (t4 y)) ∧ Below w.heap.size w w') := fun w => by
    have := padded_any y 4 w (by omega) (by omega)
    rw [pad4] at this; exact this
  have H2 : Hid (∀ w, Calls Tryd.prog 22 #[.int .i64 (m : Int), .int .i64 2] w fun e w' => e = .returned (.string (t2 m)) ∧ Below w.heap.size w w') := fun w => by
    have := padded_any m 2 w (by omega) (by omega)
    rw [pad2] at this; exact this
  have H3 : Hid (∀ w, Calls Tryd.prog 22 #[.int .i64 (d : Int), .int .i64 2] w fun e w' => e = .returned (.string (t2 d)) ∧ Below w.heap.size w w') := fun w => by
    have := padded_any d 2 w (by omega) (by omega)
    rw [pad2] at this; exact this
  unfold dateT dash
  have z1 : (t4 y).size = 4 := rfl
  have z2 : (t2 m).size = 2 := rfl
  have z3 : (t2 d).size = 2 := rfl
  clear h d2 d3
  generalize t4 y = s1 at *
  generalize t2 m = s2 at *
  generalize t2 d = s3 at *
  generalize (y : Int) = Y at *
  generalize (m : Int) = M at *
  generalize (d : Int) = D at *
  go_enter Tryd.func8, Tryd.ntmps8
  go_wp2_with fail
  refine HC.out.mono ?_
  rintro e w1 ⟨rfl, hb1⟩
  have HB1 := hideS hb1
  clear hb1
  go_wp2_with fail
  obtain ⟨wa, hwa, HS1, hz, HBa⟩ := boxed (y := Y) (m := M) (d := D) HB1.out
  rw [hwa]
  clear hwa
  generalize w1.heap.size = b at *
  go_region_held3 (fun w' => w'.cell? ⟨b, 0, none⟩ = some (.int .i64 Y) ∧ w'.cell? ⟨b, 1, none⟩ = some (.int .i64 M) ∧ w'.cell? ⟨b, 2, none⟩ = some (.int .i64 D)) (first | exact HS1.out | exact HS2.out | exact HS3.out | exact HS4.out | go_keep) (first | ((go_at_call_of 22 (Value.int IntKind.i64 Y); refine (H1.out _).mono ?_; rintro e w2 ⟨rfl, hb2⟩; have HB2 := hideS (HBa.out.drew.trans (hb2.mono HBa.out.drew.size)); have HS2 := hideS (Cells3.below (w := wa.drew) HS1.out hb2 hz.out); have hz2 := hideS (Nat.lt_of_lt_of_le hz.out hb2.size); clear hb2)) | ((go_at_call_of 22 (Value.int IntKind.i64 M); refine (H2.out _).mono ?_; rintro e w3 ⟨rfl, hb3⟩; have HB3 := hideS (HB2.out.trans (hb3.mono HB2.out.size)); have HS3 := hideS (Cells3.below HS2.out hb3 hz2.out); have hz3 := hideS (Nat.lt_of_lt_of_le hz2.out hb3.size); clear hb3)) | ((go_at_call_of 22 (Value.int IntKind.i64 D); refine (H3.out _).mono ?_; rintro e w4 ⟨rfl, hb4⟩; have HB4 := hideS (HB3.out.trans (hb4.mono HB3.out.size)); have HS4 := hideS (Cells3.below HS3.out hb4 hz3.out); clear hb4)))
  all_goals
    go_wp2_with fail
    go_ret2
    exact ⟨rfl, HB4.out⟩
theorem refPrint_bad (n : Int) (w : World) (h : ¬ (0 ≤ n ∧ n ≤ 109572)) :
    Calls Tryd.prog 8 #[.int .i64 n] w fun e w' => e = .returned (.tuple #[.string ⟨#[]⟩, .int .i64 51]) ∧ Below w.heap.size w w' := by
  have HC := hideS (refCiv_bad n w h)
  unfold dateV at HC
  clear h
  go_enter Tryd.func8, Tryd.ntmps8
  go_wp2_with (go_at_call 21; refine HC.out.mono ?_; rintro e w1 ⟨rfl, hb1⟩)
  go_ret2
  exact ⟨rfl, hb1.trans (((Below.refl _ w1).alloc (Nat.le_refl _) _).mono hb1.size)⟩
end Go.Proofs.YtgigmepilpfefaaDoor
