/- The contracts of the document's Check, asked, open, Holiday and Open. The contracts of the document's in, Check and point of schedules. -/
import Derived.Test.YtelghkhcplmnmaaHaj
import Derived.Test.YtelghkhcplmnmaaHae
import Derived.Test.YtelghkhcplmnmaaHag
import Derived.Test.YtelghkhcplmnmaaHah
namespace Go.Proofs.Ytelghkhcplmnmaa
open Go.RowKit

set_option maxHeartbeats 1600000 in
theorem refCheck_loop (W : Int) (p : Option Addr) (b off c : Nat) (rs : List Rul) (K : Nat) (A B : Int) (w : World) (w0 : 0 ≤ W ∧ W ≤ 126) (hs : RSrc w p b off rs) (hl : rs.length ≤ 64) (hK : K ≤ rs.length) (hf : ∀ j < K, fitB (rs.getD j rul0) = true)
    (hE : (K = rs.length ∧ A = 0 ∧ B = 0) ∨ (K < rs.length ∧ fitB (rs.getD K rul0) = false ∧ A = 60 ∧ B = K)) :
    Calls Try.prog 40 #[.agg #[.int .i64 W, .slice p rs.length c]] w fun e w' => e = .returned (.tuple #[.int .i64 A, .int .i64 B]) ∧ Below w.heap.size w w' := by
  have hi := fun wx => refIn_any W 0 126 wx
  rw [decide_eq_true w0] at hi
  have HI := hideS hi
  clear hi w0
  have HS := hideS hs
  have HF := hideS hf
  have HE := hideS hE
  clear hs hf hE
  obtain ⟨N, hN⟩ : ∃ N, rs.length = N := ⟨_, rfl⟩
  have HN := hideS hN
  rw [hN] at hl hK ⊢
  rw [hN] at HE
  clear hN
  go_enter Try.func40, Try.ntmps40
  go_wp2_with (go_at_call 47; refine (HI.out _).mono ?_; rintro e w1 ⟨rfl, rfl⟩)
  have HB0 : Hid (CBox w W (.slice p N c) (w.alloc (.cells #[.int .i64 W, .slice p N c] 24))) := Below.refl _ _
  go_loopw [4] (fun i wr => ∃ (k : Nat), k ≤ K ∧ i = .int .i64 k ∧ Hid (CBox w W (.slice p N c) wr)) (fun i _ => N - (intOf i).toNat)
  case atStart => exact ⟨0, by omega, rfl, HB0⟩
  case round =>
    obtain ⟨k, hk, rfl, HB⟩ := hrel
    obtain ⟨c0, c1⟩ := cal_cells HB.out
    by_cases hlt : k < N
    · have hx : k < rs.length := by rw [HN.out]; exact hlt
      obtain rfl := HS.out.at_ (by omega)
      have hrc := (HS.out.cell k hx).below HB.out.below (HS.out.lt (by omega))
      obtain ⟨r, hr⟩ : ∃ r, rs.getD k rul0 = r := ⟨_, rfl⟩
      rw [hr] at hrc
      have HRk := hideS hr
      clear hr hx
      obtain ⟨g0, g1, g2, g3, g4, g5, g6, g7, g8⟩ := hrc
      have hft := fun wx => refFit_any r wx
      by_cases hkK : k < K
      · have e1 := HF.out k hkK
        rw [HRk.out] at e1
        rw [e1] at hft
        have HFt := hideS hft
        clear hft e1
        obtain ⟨kind, mon, day, nth, wd, offs, fr, to, mv⟩ := r
        dsimp only at *
        go_wp2_with (go_at_call 61; refine (HFt.out _).mono ?_; rintro e w2 ⟨rfl, hb2⟩; have HB2 := hideS (HB.out.step hb2); clear hb2)
        go_roundw
        case rel => exact ⟨k + 1, by omega, by go_num, HB2⟩
        case measure => simp [intOf]; omega
      · obtain rfl : k = K := by omega
        have hEE : fitB r = false ∧ A = 60 ∧ B = k := by
          rcases HE.out with ⟨a, _⟩ | ⟨_, a, b⟩
          · omega
          · rw [HRk.out] at a; exact ⟨a, b⟩
        rw [hEE.1] at hft
        have HFt := hideS hft
        have HA := hideS hEE.2
        clear hft hEE
        obtain ⟨kind, mon, day, nth, wd, offs, fr, to, mv⟩ := r
        dsimp only at *
        go_wp2_with (go_at_call 61; refine (HFt.out _).mono ?_; rintro e w2 ⟨rfl, hb2⟩; have HB2 := hideS (HB.out.step hb2); clear hb2)
        go_ret2
        obtain ⟨rfl, rfl⟩ := HA.out
        exact ⟨rfl, HB2.out.below⟩
    · have HA : Hid (A = 0 ∧ B = 0) := by
        rcases HE.out with ⟨_, a⟩ | ⟨a, _⟩
        · exact a
        · omega
      have hge : ¬ (k : Int) < N := by omega
      go_wp2_with fail
      go_ret2
      obtain ⟨rfl, rfl⟩ := HA.out
      exact ⟨rfl, HB.out.below⟩

set_option maxHeartbeats 400000 in
theorem refCheck_any (W : Int) (p : Option Addr) (b off c : Nat) (rs : List Rul) (A B : Int) (w : World) (h : ChkR W rs A B) (hs : RSrc w p b off rs) (hl : rs.length ≤ 1000000) :
    Calls Try.prog 40 #[.agg #[.int .i64 W, .slice p rs.length c]] w fun e w' => e = .returned (.tuple #[.int .i64 A, .int .i64 B]) ∧ Below w.heap.size w w' := by
  cases h with
  | long h =>
    generalize rs.length = N at *
    have h' : (64 : Int) < N := by omega
    clear hs h
    go_enter Try.func40, Try.ntmps40
    go_wp2_with fail
    go_ret2
    exact ⟨rfl, (Below.refl w.heap.size w).alloc (Nat.le_refl _) _⟩
  | week h h2 =>
    have hi := fun wx => refIn_any W 0 126 wx
    rw [decide_eq_false h2] at hi
    have HI := hideS hi
    generalize rs.length = N at *
    have h' : ¬ (64 : Int) < N := by omega
    clear hs h hi h2
    go_enter Try.func40, Try.ntmps40
    go_wp2_with (go_at_call 47; refine (HI.out _).mono ?_; rintro e w1 ⟨rfl, rfl⟩)
    go_ret2
    exact ⟨rfl, (Below.refl w.heap.size w).alloc (Nat.le_refl _) _⟩
  | rule k h1 h2 h3 h4 h5 => exact refCheck_loop W p b off c rs k 60 k w h2 hs h1 (by omega) h5 (Or.inr ⟨h3, h4, rfl, rfl⟩)
  | ok h => exact refCheck_loop W p b off c rs rs.length 0 0 w ⟨h.w0, h.w1⟩ hs h.len (Nat.le_refl _) (fun j hj => h.fit _ (getD_mem hj)) (Or.inl ⟨rfl, rfl, rfl⟩)
end Go.Proofs.Ytelghkhcplmnmaa
namespace Go.Proofs.Ytelghkhcplmnmaa
open Go.RowKit

theorem ref8In_any (n lo hi : Int) (w : World) :
    Calls Try.prog 39 #[.int .i64 n, .int .i64 lo, .int .i64 hi] w fun e w' => e = .returned (.bool (decide (lo ≤ n ∧ n ≤ hi))) ∧ w' = w := by
  by_cases h1 : lo ≤ n <;> by_cases h2 : n ≤ hi
  all_goals
    first | rw [decide_eq_true (⟨h1, h2⟩ : lo ≤ n ∧ n ≤ hi)] | rw [decide_eq_false (fun h : lo ≤ n ∧ n ≤ hi => by omega)]
    go_enter Try.func39, Try.ntmps39
    go_wp2
    go_ret
    exact ⟨rfl, rfl⟩

/-- A box with a schedule in it stands at the call's first block. -/
def SBox (w : World) (s : Spc) (W : Int) (v : Value) (wr : World) : Prop := Below (w.heap.size + 1) (w.alloc (.cells #[.int .i64 s.st, .int .i64 s.en, .int .i64 s.n, .int .i64 s.unit, .int .i64 s.stub, .int .i64 s.roll, .int .i64 s.conv, .int .i64 s.lag, .int .i64 W, v] 26)) wr
theorem SBox.step {w wr w' : World} {s : Spc} {W : Int} {v : Value} (h : SBox w s W v wr) (hb : Below wr.heap.size wr w') : SBox w s W v w' :=
  Below.trans h (hb.mono (by have := Below.size h; simp at this; omega))
theorem SBox.below {w wr : World} {s : Spc} {W : Int} {v : Value} (h : SBox w s W v wr) : Below w.heap.size w wr :=
  ((Below.refl w.heap.size w).alloc (Nat.le_refl _) _).trans (Below.mono h (by omega))
theorem SBox.zero (w : World) (s : Spc) (W : Int) (v : Value) : SBox w s W v (w.alloc (.cells #[.int .i64 s.st, .int .i64 s.en, .int .i64 s.n, .int .i64 s.unit, .int .i64 s.stub, .int .i64 s.roll, .int .i64 s.conv, .int .i64 s.lag, .int .i64 W, v] 26)) := Below.refl _ _
/-- Its cells. -/
structure SCells (w : World) (s : Spc) (W : Int) (v : Value) (wr : World) : Prop where
  c0 : wr.cell? ⟨w.heap.size, 0, none⟩ = some (.int .i64 s.st)
  c1 : wr.cell? ⟨w.heap.size, 1, none⟩ = some (.int .i64 s.en)
  c2 : wr.cell? ⟨w.heap.size, 2, none⟩ = some (.int .i64 s.n)
  c3 : wr.cell? ⟨w.heap.size, 3, none⟩ = some (.int .i64 s.unit)
  c4 : wr.cell? ⟨w.heap.size, 4, none⟩ = some (.int .i64 s.stub)
  c5 : wr.cell? ⟨w.heap.size, 5, none⟩ = some (.int .i64 s.roll)
  c6 : wr.cell? ⟨w.heap.size, 6, none⟩ = some (.int .i64 s.conv)
  c7 : wr.cell? ⟨w.heap.size, 7, none⟩ = some (.int .i64 s.lag)
  c8 : wr.cell? ⟨w.heap.size, 8, none⟩ = some (.int .i64 W)
  c9 : wr.cell? ⟨w.heap.size, 9, none⟩ = some v
theorem SBox.cells {w wr : World} {s : Spc} {W : Int} {v : Value} (h : SBox w s W v wr) : SCells w s W v wr := by
  have e : ∀ j, wr.cell? ⟨w.heap.size, j, none⟩ = (#[.int .i64 s.st, .int .i64 s.en, .int .i64 s.n, .int .i64 s.unit, .int .i64 s.stub, .int .i64 s.roll, .int .i64 s.conv, .int .i64 s.lag, .int .i64 W, v] : Array Value)[j]? := fun j => by
    rw [Below.cell h (p := ⟨w.heap.size, j, none⟩) (by simp)]
    exact new_cell0 w _ _ j
  exact ⟨e 0, e 1, e 2, e 3, e 4, e 5, e 6, e 7, e 8, e 9⟩

set_option maxHeartbeats 3200000 in
theorem ref8Check_range (s : Spc) (W : Int) (v : Value) (w : World) (h : ¬ (isDayP s.st ∧ isDayP s.en)) :
    Calls Try.prog 25 #[.agg #[.int .i64 s.st, .int .i64 s.en, .int .i64 s.n, .int .i64 s.unit, .int .i64 s.stub, .int .i64 s.roll, .int .i64 s.conv, .int .i64 s.lag, .int .i64 W, v]] w fun e w' => e = .returned (.int .i64 51) ∧ Below w.heap.size w w' := by
  have HB := hideS (SBox.zero w s W v).below
  obtain ⟨st, en, n, unit, stub, roll, conv, lag⟩ := s
  dsimp only at *
  have H1 := hideS (fun wx => ref8In_any st 0 109572 wx)
  have H2 := hideS (fun wx => ref8In_any en 0 109572 wx)
  by_cases a : 0 ≤ st ∧ st ≤ 109572
  · rw [decide_eq_true a] at H1
    rw [decide_eq_false (fun b : 0 ≤ en ∧ en ≤ 109572 => h ⟨a, b⟩)] at H2
    clear a h
    go_enter Try.func25, Try.ntmps25
    go_wp2_with fail
    refine (H1.out _).mono ?_
    rintro e w1 ⟨rfl, rfl⟩
    go_wp2_with fail
    refine (H2.out _).mono ?_
    rintro e w1 ⟨rfl, rfl⟩
    go_wp2_with fail
    go_ret
    exact ⟨rfl, HB.out⟩
  · rw [decide_eq_false a] at H1
    clear a h
    go_enter Try.func25, Try.ntmps25
    go_wp2_with (go_at_call 39; refine (H1.out _).mono ?_; rintro e w1 ⟨rfl, rfl⟩)
    go_ret
    exact ⟨rfl, HB.out⟩

/-- What the ranges tell. -/
structure InH (st en n unit stub roll conv lag : Int) : Prop where
  hs : ∀ wx, Calls Try.prog 39 #[.int .i64 st, .int .i64 0, .int .i64 109572] wx fun e w' => e = .returned (.bool (decide (0 ≤ st ∧ st ≤ 109572))) ∧ wx = w'
  he : ∀ wx, Calls Try.prog 39 #[.int .i64 en, .int .i64 0, .int .i64 109572] wx fun e w' => e = .returned (.bool (decide (0 ≤ en ∧ en ≤ 109572))) ∧ wx = w'
  hn : ∀ wx, Calls Try.prog 39 #[.int .i64 n, .int .i64 1, .int .i64 1200] wx fun e w' => e = .returned (.bool (decide (1 ≤ n ∧ n ≤ 1200))) ∧ wx = w'
  hu : ∀ wx, Calls Try.prog 39 #[.int .i64 unit, .int .i64 1, .int .i64 4] wx fun e w' => e = .returned (.bool (decide (1 ≤ unit ∧ unit ≤ 4))) ∧ wx = w'
  ht : ∀ wx, Calls Try.prog 39 #[.int .i64 stub, .int .i64 1, .int .i64 4] wx fun e w' => e = .returned (.bool (decide (1 ≤ stub ∧ stub ≤ 4))) ∧ wx = w'
  hr : ∀ wx, Calls Try.prog 39 #[.int .i64 roll, .int .i64 0, .int .i64 2] wx fun e w' => e = .returned (.bool (decide (0 ≤ roll ∧ roll ≤ 2))) ∧ wx = w'
  hc : ∀ wx, Calls Try.prog 39 #[.int .i64 conv, .int .i64 0, .int .i64 4] wx fun e w' => e = .returned (.bool (decide (0 ≤ conv ∧ conv ≤ 4))) ∧ wx = w'
  hl : ∀ wx, Calls Try.prog 39 #[.int .i64 lag, .int .i64 0, .int .i64 30] wx fun e w' => e = .returned (.bool (decide (0 ≤ lag ∧ lag ≤ 30))) ∧ wx = w'
theorem inH (st en n unit stub roll conv lag : Int) : InH st en n unit stub roll conv lag :=
  have t : ∀ x lo hi wx, Calls Try.prog 39 #[.int .i64 x, .int .i64 lo, .int .i64 hi] wx fun e w' => e = .returned (.bool (decide (lo ≤ x ∧ x ≤ hi))) ∧ wx = w' := fun x lo hi wx => (ref8In_any x lo hi wx).mono fun _ _ ⟨a, b⟩ => ⟨a, b.symm⟩
  ⟨fun wx => t _ _ _ wx, fun wx => t _ _ _ wx, fun wx => t _ _ _ wx, fun wx => t _ _ _ wx, fun wx => t _ _ _ wx, fun wx => t _ _ _ wx, fun wx => t _ _ _ wx, fun wx => t _ _ _ wx⟩

set_option maxHeartbeats 6400000 in
theorem ref8Check_spec (s : Spc) (W : Int) (v : Value) (w : World) (h0 : isDayP s.st) (h1 : isDayP s.en) (h : ¬ SpcOk s) :
    Calls Try.prog 25 #[.agg #[.int .i64 s.st, .int .i64 s.en, .int .i64 s.n, .int .i64 s.unit, .int .i64 s.stub, .int .i64 s.roll, .int .i64 s.conv, .int .i64 s.lag, .int .i64 W, v]] w fun e w' => e = .returned (.int .i64 80) ∧ Below w.heap.size w w' := by
  have HB := hideS (SBox.zero w s W v).below
  have hc := spc_cases h0 h1 h
  clear h
  obtain ⟨st, en, n, unit, stub, roll, conv, lag⟩ := s
  dsimp only at *
  obtain ⟨hs, he, hn, hu, ht, hr, hcv, hlg⟩ := inH st en n unit stub roll conv lag
  have hs := hideS hs
  have he := hideS he
  have hn := hideS hn
  have hu := hideS hu
  have ht := hideS ht
  have hr := hideS hr
  have hcv := hideS hcv
  have hlg := hideS hlg
  rw [decide_eq_true (⟨h0.1, h0.2⟩ : 0 ≤ st ∧ st ≤ 109572)] at hs
  rw [decide_eq_true (⟨h1.1, h1.2⟩ : 0 ≤ en ∧ en ≤ 109572)] at he
  clear h0 h1
  rcases hc with a | ⟨a, b⟩ | ⟨a, b, c⟩ | ⟨a, b, c, d⟩ | ⟨a, b, c, d, f⟩ | ⟨a, b, c, d, f, g, g2⟩ | ⟨a, b, c, d, f, g, k⟩ | ⟨a, b, c, d, f, g, k, l⟩
  · go_enter Try.func25, Try.ntmps25
    go_wp2_with fail
    refine (hs.out _).mono ?_
    rintro e w1 ⟨rfl, rfl⟩
    go_wp2_with fail
    refine (he.out _).mono ?_
    rintro e w1 ⟨rfl, rfl⟩
    go_wp2_with fail
    go_ret
    exact ⟨rfl, HB.out⟩
  · rw [decide_eq_false b] at hn
    clear b
    have a' : ¬ en ≤ st := by omega
    go_enter Try.func25, Try.ntmps25
    go_wp2_with fail
    refine (hs.out _).mono ?_
    rintro e w1 ⟨rfl, rfl⟩
    go_wp2_with fail
    refine (he.out _).mono ?_
    rintro e w1 ⟨rfl, rfl⟩
    go_wp2_with fail
    refine (hn.out _).mono ?_
    rintro e w1 ⟨rfl, rfl⟩
    go_wp2_with fail
    go_ret
    exact ⟨rfl, HB.out⟩
  · rw [decide_eq_true b] at hn
    rw [decide_eq_false c] at hu
    clear b c
    have a' : ¬ en ≤ st := by omega
    go_enter Try.func25, Try.ntmps25
    go_wp2_with fail
    refine (hs.out _).mono ?_
    rintro e w1 ⟨rfl, rfl⟩
    go_wp2_with fail
    refine (he.out _).mono ?_
    rintro e w1 ⟨rfl, rfl⟩
    go_wp2_with fail
    refine (hn.out _).mono ?_
    rintro e w1 ⟨rfl, rfl⟩
    go_wp2_with fail
    refine (hu.out _).mono ?_
    rintro e w1 ⟨rfl, rfl⟩
    go_wp2_with fail
    go_ret
    exact ⟨rfl, HB.out⟩
  · rw [decide_eq_true b] at hn
    rw [decide_eq_true c] at hu
    rw [decide_eq_false d] at ht
    clear b c d
    have a' : ¬ en ≤ st := by omega
    go_enter Try.func25, Try.ntmps25
    go_wp2_with fail
    refine (hs.out _).mono ?_
    rintro e w1 ⟨rfl, rfl⟩
    go_wp2_with fail
    refine (he.out _).mono ?_
    rintro e w1 ⟨rfl, rfl⟩
    go_wp2_with fail
    refine (hn.out _).mono ?_
    rintro e w1 ⟨rfl, rfl⟩
    go_wp2_with fail
    refine (hu.out _).mono ?_
    rintro e w1 ⟨rfl, rfl⟩
    go_wp2_with fail
    refine (ht.out _).mono ?_
    rintro e w1 ⟨rfl, rfl⟩
    go_wp2_with fail
    go_ret
    exact ⟨rfl, HB.out⟩
  · rw [decide_eq_true b] at hn
    rw [decide_eq_true c] at hu
    rw [decide_eq_true d] at ht
    rw [decide_eq_false f] at hr
    clear b c d f
    have a' : ¬ en ≤ st := by omega
    go_enter Try.func25, Try.ntmps25
    go_wp2_with fail
    refine (hs.out _).mono ?_
    rintro e w1 ⟨rfl, rfl⟩
    go_wp2_with fail
    refine (he.out _).mono ?_
    rintro e w1 ⟨rfl, rfl⟩
    go_wp2_with fail
    refine (hn.out _).mono ?_
    rintro e w1 ⟨rfl, rfl⟩
    go_wp2_with fail
    refine (hu.out _).mono ?_
    rintro e w1 ⟨rfl, rfl⟩
    go_wp2_with fail
    refine (ht.out _).mono ?_
    rintro e w1 ⟨rfl, rfl⟩
    go_wp2_with fail
    refine (hr.out _).mono ?_
    rintro e w1 ⟨rfl, rfl⟩
    go_wp2_with fail
    go_ret
    exact ⟨rfl, HB.out⟩
  · rw [decide_eq_true b] at hn
    rw [decide_eq_true c] at hu
    rw [decide_eq_true d] at ht
    rw [decide_eq_true f] at hr
    clear b c d f
    have a' : ¬ en ≤ st := by omega
    have g' : (roll != 0) = true := bne_iff_ne.2 g
    go_enter Try.func25, Try.ntmps25
    go_wp2_with fail
    refine (hs.out _).mono ?_
    rintro e w1 ⟨rfl, rfl⟩
    go_wp2_with fail
    refine (he.out _).mono ?_
    rintro e w1 ⟨rfl, rfl⟩
    go_wp2_with fail
    refine (hn.out _).mono ?_
    rintro e w1 ⟨rfl, rfl⟩
    go_wp2_with fail
    refine (hu.out _).mono ?_
    rintro e w1 ⟨rfl, rfl⟩
    go_wp2_with fail
    refine (ht.out _).mono ?_
    rintro e w1 ⟨rfl, rfl⟩
    go_wp2_with fail
    refine (hr.out _).mono ?_
    rintro e w1 ⟨rfl, rfl⟩
    go_wp2_with fail
    go_ret
    exact ⟨rfl, HB.out⟩
  · rw [decide_eq_true b] at hn
    rw [decide_eq_true c] at hu
    rw [decide_eq_true d] at ht
    rw [decide_eq_true f] at hr
    rw [decide_eq_false k] at hcv
    clear b c d f k
    have a' : ¬ en ≤ st := by omega
    have g' : (roll != 0) = false ∨ ((roll != 0) = true ∧ ¬ unit < 3) := by
      by_cases e : roll = 0
      · exact Or.inl (by rw [e]; rfl)
      · exact Or.inr ⟨bne_iff_ne.2 e, by omega⟩
    clear g
    rcases g' with g | ⟨g, g2⟩
    all_goals
      go_enter Try.func25, Try.ntmps25
      go_wp2_with fail
      refine (hs.out _).mono ?_
      rintro e w1 ⟨rfl, rfl⟩
      go_wp2_with fail
      refine (he.out _).mono ?_
      rintro e w1 ⟨rfl, rfl⟩
      go_wp2_with fail
      refine (hn.out _).mono ?_
      rintro e w1 ⟨rfl, rfl⟩
      go_wp2_with fail
      refine (hu.out _).mono ?_
      rintro e w1 ⟨rfl, rfl⟩
      go_wp2_with fail
      refine (ht.out _).mono ?_
      rintro e w1 ⟨rfl, rfl⟩
      go_wp2_with fail
      refine (hr.out _).mono ?_
      rintro e w1 ⟨rfl, rfl⟩
      go_wp2_with fail
      refine (hcv.out _).mono ?_
      rintro e w1 ⟨rfl, rfl⟩
      go_wp2_with fail
      go_ret
      exact ⟨rfl, HB.out⟩
  · rw [decide_eq_true b] at hn
    rw [decide_eq_true c] at hu
    rw [decide_eq_true d] at ht
    rw [decide_eq_true f] at hr
    rw [decide_eq_true k] at hcv
    rw [decide_eq_false l] at hlg
    clear b c d f k l
    have a' : ¬ en ≤ st := by omega
    have g' : (roll != 0) = false ∨ ((roll != 0) = true ∧ ¬ unit < 3) := by
      by_cases e : roll = 0
      · exact Or.inl (by rw [e]; rfl)
      · exact Or.inr ⟨bne_iff_ne.2 e, by omega⟩
    clear g
    rcases g' with g | ⟨g, g2⟩
    all_goals
      go_enter Try.func25, Try.ntmps25
      go_wp2_with fail
      refine (hs.out _).mono ?_
      rintro e w1 ⟨rfl, rfl⟩
      go_wp2_with fail
      refine (he.out _).mono ?_
      rintro e w1 ⟨rfl, rfl⟩
      go_wp2_with fail
      refine (hn.out _).mono ?_
      rintro e w1 ⟨rfl, rfl⟩
      go_wp2_with fail
      refine (hu.out _).mono ?_
      rintro e w1 ⟨rfl, rfl⟩
      go_wp2_with fail
      refine (ht.out _).mono ?_
      rintro e w1 ⟨rfl, rfl⟩
      go_wp2_with fail
      refine (hr.out _).mono ?_
      rintro e w1 ⟨rfl, rfl⟩
      go_wp2_with fail
      refine (hcv.out _).mono ?_
      rintro e w1 ⟨rfl, rfl⟩
      go_wp2_with fail
      refine (hlg.out _).mono ?_
      rintro e w1 ⟨rfl, rfl⟩
      go_wp2_with fail
      go_ret
      exact ⟨rfl, HB.out⟩

set_option maxHeartbeats 3200000 in
theorem ref8Check_cal (s : Spc) (W A B : Int) (v : Value) (w : World) (h : SpcOk s) (HC : Hid (∀ wx, Below w.heap.size w wx → Calls Try.prog 40 #[.agg #[.int .i64 W, v]] wx fun e w' => e = .returned (.tuple #[.int .i64 A, .int .i64 B]) ∧ Below wx.heap.size wx w')) :
    Calls Try.prog 25 #[.agg #[.int .i64 s.st, .int .i64 s.en, .int .i64 s.n, .int .i64 s.unit, .int .i64 s.stub, .int .i64 s.roll, .int .i64 s.conv, .int .i64 s.lag, .int .i64 W, v]] w fun e w' => e = .returned (.int .i64 A) ∧ Below w.heap.size w w' := by
  have HB := hideS (SBox.zero w s W v).below
  obtain ⟨h0, h1, lt, n1, n2, u1, u2, t1, t2, r1, r2, ru, c1, c2, l1, l2⟩ := h
  obtain ⟨st, en, n, unit, stub, roll, conv, lag⟩ := s
  dsimp only at *
  obtain ⟨hs, he, hn, hu, ht, hr, hcv, hlg⟩ := inH st en n unit stub roll conv lag
  have hs := hideS hs
  have he := hideS he
  have hn := hideS hn
  have hu := hideS hu
  have ht := hideS ht
  have hr := hideS hr
  have hcv := hideS hcv
  have hlg := hideS hlg
  rw [decide_eq_true (⟨h0.1, h0.2⟩ : 0 ≤ st ∧ st ≤ 109572)] at hs
  rw [decide_eq_true (⟨h1.1, h1.2⟩ : 0 ≤ en ∧ en ≤ 109572)] at he
  rw [decide_eq_true ⟨n1, n2⟩] at hn
  rw [decide_eq_true ⟨u1, u2⟩] at hu
  rw [decide_eq_true ⟨t1, t2⟩] at ht
  rw [decide_eq_true ⟨r1, r2⟩] at hr
  rw [decide_eq_true ⟨c1, c2⟩] at hcv
  rw [decide_eq_true ⟨l1, l2⟩] at hlg
  have a' : ¬ en ≤ st := by omega
  have g' : (roll != 0) = false ∨ ((roll != 0) = true ∧ ¬ unit < 3) := by
    by_cases e : roll = 0
    · exact Or.inl (by rw [e]; rfl)
    · exact Or.inr ⟨bne_iff_ne.2 e, by omega⟩
  clear h0 h1 lt n1 n2 u1 u2 t1 t2 r1 r2 ru c1 c2 l1 l2
  rcases g' with g | ⟨g, g2⟩
  all_goals
    go_enter Try.func25, Try.ntmps25
    go_wp2_with fail
    refine (hs.out _).mono ?_
    rintro e w1 ⟨rfl, rfl⟩
    go_wp2_with fail
    refine (he.out _).mono ?_
    rintro e w1 ⟨rfl, rfl⟩
    go_wp2_with fail
    refine (hn.out _).mono ?_
    rintro e w1 ⟨rfl, rfl⟩
    go_wp2_with fail
    refine (hu.out _).mono ?_
    rintro e w1 ⟨rfl, rfl⟩
    go_wp2_with fail
    refine (ht.out _).mono ?_
    rintro e w1 ⟨rfl, rfl⟩
    go_wp2_with fail
    refine (hr.out _).mono ?_
    rintro e w1 ⟨rfl, rfl⟩
    go_wp2_with fail
    refine (hcv.out _).mono ?_
    rintro e w1 ⟨rfl, rfl⟩
    go_wp2_with fail
    refine (hlg.out _).mono ?_
    rintro e w1 ⟨rfl, rfl⟩
    go_wp2_with fail
    refine (HC.out _ HB.out).mono ?_
    rintro e w2 ⟨rfl, hb2⟩
    go_wp2_with fail
    go_ret
    exact ⟨rfl, HB.out.trans (hb2.mono HB.out.size)⟩
end Go.Proofs.Ytelghkhcplmnmaa
