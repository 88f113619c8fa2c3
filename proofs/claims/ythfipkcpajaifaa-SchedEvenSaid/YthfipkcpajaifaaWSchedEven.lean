/- The walk of SchedEven: days and weeks that come out even. -/
import Derived.Test.YthfipkcpajaifaaSpM
import Derived.Test.YthfipkcpajaifaaHas
import Derived.Test.YthfipkcpajaifaaSpI
namespace Go.Proofs.Ythfipkcpajaifaa
open Go.RowKit

/-- The days wanted. -/
def wantP (start S : Int) (m : Nat) : List Int := (List.range m).map fun (i : Nat) => start + (i : Int) * S
theorem wantP_len (start S : Int) (m : Nat) : (wantP start S m).length = m := by unfold wantP; simp
theorem wantP_succ (start S : Int) (m : Nat) : wantP start S (m + 1) = wantP start S m ++ [start + (m : Int) * S] := by
  unfold wantP; rw [List.range_succ, List.map_append]; rfl
theorem even_want {s : Spc} {S : Int} {k : Nat} (h : SpcOk s) (hE : EvenR s S k) (hk : 1 ≤ k) : datL s (k - 1) = wantP s.st S (k + 1) := by
  have hl : (datL s (k - 1)).length = k + 1 := by rw [dat_len]; omega
  refine List.ext_getElem (by rw [hl, wantP_len]) fun i h1 h2 => ?_
  have e := even_list h hE i (by omega)
  rw [List.getD_eq_getElem?_getD, List.getElem?_eq_getElem h1] at e
  have e2 : (wantP s.st S (k + 1))[i]? = some (s.st + (i : Int) * S) := by
    unfold wantP
    rw [List.getElem?_map, List.getElem?_range (by omega)]; rfl
  rw [List.getElem?_eq_getElem h2] at e2
  rw [Option.some.inj e2]; exact e

/-- The schedule's box. -/
structure EBx (w : World) (s : Spc) (wr : World) : Prop where
  hb : wr.heap[w.heap.size]? = some (.cells #[.int .i64 s.st, .int .i64 s.en, .int .i64 s.n, .int .i64 s.unit, .int .i64 s.stub, .int .i64 s.roll, .int .i64 s.conv, .int .i64 s.lag, .int .i64 0, .slice none 0 0] 26 (0, 0))
  bl : Below w.heap.size w wr
theorem EBx.lt {w wr : World} {s : Spc} (h : EBx w s wr) : w.heap.size < wr.heap.size := (Array.getElem?_eq_some_iff.1 h.hb).1
theorem EBx.stay {w wr w' : World} {s : Spc} {B : Nat} (h : EBx w s wr) (hb : Below B wr w') (hB : w.heap.size < B) : EBx w s w' := ⟨by rw [hb.block _ hB]; exact h.hb, h.bl.trans (hb.mono (Nat.le_of_lt hB))⟩
theorem EBx.step {w wr w' : World} {s : Spc} (h : EBx w s wr) (hb : Below wr.heap.size wr w') : EBx w s w' := h.stay hb h.lt
theorem EBx.first (w : World) (s : Spc) : EBx w s (w.alloc (.cells #[.int .i64 s.st, .int .i64 s.en, .int .i64 s.n, .int .i64 s.unit, .int .i64 s.stub, .int .i64 s.roll, .int .i64 s.conv, .int .i64 s.lag, .int .i64 0, .slice none 0 0] 26)) :=
  ⟨heap_alloc_new w _, (Below.refl w.heap.size w).alloc (Nat.le_refl _) _⟩
theorem EBx.set {w wr : World} {s : Spc} (h : EBx w s wr) (T : Int) : EBx w { s with stub := T } (wr.setCell ⟨w.heap.size, 4, none⟩ (.int .i64 T)) :=
  ⟨by rw [set_block (.int .i64 T) h.hb]; rfl, h.bl.setCell (p := ⟨w.heap.size, 4, none⟩) (Nat.le_refl _) _⟩
theorem EBx.cells {w wr : World} {s : Spc} (h : EBx w s wr) : SCells w s 0 (.slice none 0 0) wr := by
  have e : ∀ j, wr.cell? ⟨w.heap.size, j, none⟩ = (#[.int .i64 s.st, .int .i64 s.en, .int .i64 s.n, .int .i64 s.unit, .int .i64 s.stub, .int .i64 s.roll, .int .i64 s.conv, .int .i64 s.lag, .int .i64 0, .slice none 0 0] : Array Value)[j]? := fun j => by
    simp only [World.cell?, h.hb, Option.isSome_none, Bool.false_eq_true, if_false]
  exact ⟨e 0, e 1, e 2, e 3, e 4, e 5, e 6, e 7, e 8, e 9⟩
theorem isrc_set {w : World} {p : Option Addr} {b off g o : Nat} {xs : List Int} {v : Value} (h : ISrc w p b off xs) (hne : 0 < xs.length → b ≠ g) : ISrc (w.setCell ⟨g, o, none⟩ v) p b off xs := by
  refine ⟨h.at_, fun hx => by have := h.lt hx; rw [Go.Sort.setCell_eq]; simpa [Go.Sort.mapBlock] using this, fun j hj => ?_⟩
  have hn := hne (by omega)
  rw [← h.cell j hj, Go.Sort.setCell_eq]
  simp [World.cell?, Go.Sort.mapBlock, Array.getElem?_modify, Ne.symm hn]

set_option maxHeartbeats 3200000 in
theorem schedEven_out (start n k : Int) (wk : Bool) (w : World) (h : ¬ (0 ≤ start ∧ start ≤ 109572 ∧ 1 ≤ n ∧ n ≤ 1200 ∧ 1 ≤ k ∧ k ≤ 1200)) :
    Calls Try.prog 8 #[.int .i64 start, .int .i64 n, .int .i64 k, .bool wk] w fun e w' => e = .returned (.bool true) ∧ Below w.heap.size w w' := by
  have hc : decide (start < 0) = true ∨ (decide (start < 0) = false ∧ decide (109572 < start) = true) ∨ (decide (start < 0) = false ∧ decide (109572 < start) = false ∧ decide (n < 1) = true) ∨ (decide (start < 0) = false ∧ decide (109572 < start) = false ∧ decide (n < 1) = false ∧ decide (1200 < n) = true) ∨ (decide (start < 0) = false ∧ decide (109572 < start) = false ∧ decide (n < 1) = false ∧ decide (1200 < n) = false ∧ decide (k < 1) = true) ∨ (decide (start < 0) = false ∧ decide (109572 < start) = false ∧ decide (n < 1) = false ∧ decide (1200 < n) = false ∧ decide (k < 1) = false ∧ decide (1200 < k) = true) := by
    simp only [decide_eq_true_eq, decide_eq_false_iff_not]
    omega
  clear h
  rcases hc with a | ⟨a, b⟩ | ⟨a, b, c⟩ | ⟨a, b, c, d⟩ | ⟨a, b, c, d, f⟩ | ⟨a, b, c, d, f, g⟩
  all_goals
    go_enter Try.func8, Try.ntmps8
    go_wp2_with (go_at_call 9; refine (awake8 _).mono ?_; rintro e w9 ⟨rfl, hb9⟩)
    go_ret
    exact ⟨rfl, hb9⟩

/-- The numbers of an even schedule. -/
structure EvH (start n S P : Int) (k : Nat) (u : Int) : Prop where
  (st0 : 0 ≤ start) (st1 : start ≤ 109572) (n0 : 1 ≤ n) (n1 : n ≤ 1200) (k0 : 1 ≤ k) (k1 : k ≤ 1200) (S0 : 1 ≤ S) (S1 : S ≤ 8400) (hP : (k : Int) * S = P) (P0 : 0 ≤ P) (P1 : P ≤ 10080000)
  hu : (u = 1 ∧ S = n) ∨ (u = 2 ∧ S = 7 * n)

set_option maxHeartbeats 3200000 in
theorem schedEven_far (start n S P u : Int) (k : Nat) (wk : Bool) (w : World) (H : EvH start n S P k u) (hw : (wk = false ∧ u = 1) ∨ (wk = true ∧ u = 2)) (hf : 109572 < start + P) :
    Calls Try.prog 8 #[.int .i64 start, .int .i64 n, .int .i64 (k : Int), .bool wk] w fun e w' => e = .returned (.bool true) ∧ Below w.heap.size w w' := by
  obtain ⟨st0, st1, n0, n1, k0, k1, S0, S1, hP, P0, P1, hu⟩ := H
  have a : decide (start < 0) = false := decide_eq_false (by omega)
  have b : decide (109572 < start) = false := decide_eq_false (by omega)
  have c : decide (n < 1) = false := decide_eq_false (by omega)
  have d : decide (1200 < n) = false := decide_eq_false (by omega)
  have e : decide ((k : Int) < 1) = false := decide_eq_false (by omega)
  have f : decide ((1200 : Int) < (k : Int)) = false := decide_eq_false (by omega)
  have g : decide (109572 < start + P) = true := decide_eq_true hf
  have hS : (wk = false ∧ n = S) ∨ (wk = true ∧ 7 * n = S) := by
    rcases hw with ⟨x, y⟩ | ⟨x, y⟩
    · exact Or.inl ⟨x, by omega⟩
    · exact Or.inr ⟨x, by omega⟩
  have HB0 : Hid (∀ o, Below w.heap.size w (w.alloc o)) := fun o => (Below.refl w.heap.size w).alloc (Nat.le_refl _) o
  clear hu hw hf
  rcases hS with ⟨rfl, hS⟩ | ⟨rfl, hS⟩
  · subst hS
    go_enter Try.func8, Try.ntmps8
    go_wp2_with (go_at_call 9; refine (awake8 _).mono ?_; rintro e w9 ⟨rfl, hb9⟩)
    go_ret
    exact ⟨rfl, (HB0.out _).trans (hb9.mono (HB0.out _).size)⟩
  · go_enter Try.func8, Try.ntmps8
    go_wp2_with (go_at_call 9; refine (awake8 _).mono ?_; rintro e w9 ⟨rfl, hb9⟩)
    go_ret
    exact ⟨rfl, (HB0.out _).trans (hb9.mono (HB0.out _).size)⟩

set_option maxRecDepth 10000 in
set_option maxHeartbeats 16000000 in
theorem schedEven_in (start n S P u : Int) (k : Nat) (wk : Bool) (w : World) (H : EvH start n S P k u) (hw : (wk = false ∧ u = 1) ∨ (wk = true ∧ u = 2)) (hf : start + P ≤ 109572)
    (HDt : Hid (∀ T : Int, 1 ≤ T → T ≤ 4 → ∀ wx, Calls Try.prog 12 #[.agg #[.int .i64 start, .int .i64 (start + P), .int .i64 n, .int .i64 u, .int .i64 T, .int .i64 0, .int .i64 0, .int .i64 0, .int .i64 0, .slice none 0 0]] wx fun e w' => IntsOut (wantP start S (k + 1)) 0 wx e w' ∧ Below wx.heap.size wx w')) :
    Calls Try.prog 8 #[.int .i64 start, .int .i64 n, .int .i64 (k : Int), .bool wk] w fun e w' => e = .returned (.bool true) ∧ Below w.heap.size w w' := by
  obtain ⟨st0, st1, n0, n1, k0, k1, S0, S1, hP, P0, P1, hu⟩ := H
  have a : decide (start < 0) = false := decide_eq_false (by omega)
  have b : decide (109572 < start) = false := decide_eq_false (by omega)
  have c : decide (n < 1) = false := decide_eq_false (by omega)
  have d : decide (1200 < n) = false := decide_eq_false (by omega)
  have e : decide ((k : Int) < 1) = false := decide_eq_false (by omega)
  have f : decide ((1200 : Int) < (k : Int)) = false := decide_eq_false (by omega)
  have g : decide (109572 < start + P) = false := decide_eq_false (by omega)
  obtain ⟨wt, hwt⟩ : ∃ wt : Nat → List Int, wt = wantP start S := ⟨_, rfl⟩
  have HWs : Hid (∀ m, wt (m + 1) = wt m ++ [start + (m : Int) * S]) := fun m => by rw [hwt]; exact wantP_succ start S m
  have HWl : Hid (∀ m, (wt m).length = m) := fun m => by rw [hwt]; exact wantP_len start S m
  have HW0 : Hid (wt 0 = []) := by show wt 0 = []; rw [hwt]; rfl
  unfold IntsOut at HDt
  rw [wantP_len, ← hwt] at HDt
  have HSame : Hid (∀ (q q' : Option Addr) (g x g' x' : Nat) wx, ISrc wx q g 0 (wt (k + 1)) → ISrc wx q' g' 0 (wt (k + 1)) → Calls Try.prog 17 #[.slice q (k + 1) x, .slice q' (k + 1) x'] wx fun e w' => e = .returned (.bool true) ∧ Below wx.heap.size wx w') := fun q q' g x g' x' wx h1 h2 => by
    have := ref8SameInts_same q q' g 0 x g' 0 x' (wt (k + 1)) wx h1 h2 (by rw [HWl.out]; omega)
    rw [HWl.out] at this
    exact this
  have hS : (wk = false ∧ u = 1 ∧ n = S) ∨ (wk = true ∧ u = 2 ∧ 7 * n = S) := by
    rcases hw with ⟨x, y⟩ | ⟨x, y⟩
    · exact Or.inl ⟨x, y, by omega⟩
    · exact Or.inr ⟨x, y, by omega⟩
  have HE0 := hideS (EBx.first w ⟨start, start + P, n, u, 1, 0, 0, 0⟩)
  dsimp only at HE0
  clear hu hw hf hwt
  rcases hS with ⟨rfl, rfl, hS⟩ | ⟨rfl, rfl, hS⟩
  · subst hS
    go_enter Try.func8, Try.ntmps8
    go_wp2_with fail
    go_loopw [11, 12] (fun vw i wr => ∃ (m : Nat) (q : Option Addr) (c : Nat), m ≤ k + 1 ∧ i = .int .i64 (m : Int) ∧ vw = .slice q m c ∧ Hid (wr.ownsRow (w.heap.size + 1) 3 1 (.slice q m c) m ((wt m).map iV)) ∧ Hid (EBx w ⟨start, start + P, n, 1, 1, 0, 0, 0⟩ wr)) (fun _ i _ => k + 1 - (intOf i).toNat)
    case atStart => exact ⟨0, none, 0, by omega, rfl, rfl, by show World.ownsRow _ _ _ _ _ _ _; rw [HW0.out]; exact iown_nil _ _, HE0⟩
    case round =>
      clear HE0
      obtain ⟨m, q, c, hm, rfl, rfl, HO, HE⟩ := hrel
      by_cases hlt : m ≤ k
      · have hi : decide ((m : Int) ≤ (k : Int)) = true := decide_eq_true (by omega)
        obtain ⟨Q, hQ⟩ : ∃ Q : Int, (m : Int) * n = Q := ⟨_, rfl⟩
        have hQ0 : 0 ≤ Q ∧ Q ≤ 10080000 := by
          rw [← hQ]
          have h1 := Int.mul_nonneg (show (0 : Int) ≤ (m : Int) by omega) (show (0 : Int) ≤ n by omega)
          have h2 := Int.mul_le_mul_of_nonneg_left S1 (show (0 : Int) ≤ (m : Int) by omega)
          omega
        obtain ⟨Q0, Q1⟩ := hQ0
        have HNx : Hid (wt (m + 1) = wt m ++ [start + Q]) := by show _ = _; rw [HWs.out, hQ]
        have HOa : Hid (∀ o, (wr.alloc o).ownsRow (w.heap.size + 1) 3 1 (.slice q m c) m ((wt m).map iV)) := fun o => iown_below HO.out ((Below.refl _ wr).alloc (Nat.le_refl _) o)
        have HEa : Hid (∀ o, EBx w ⟨start, start + P, n, 1, 1, 0, 0, 0⟩ (wr.alloc o)) := fun o => HE.out.step ((Below.refl _ wr).alloc (Nat.le_refl _) o)
        have HZa : Hid (∀ o, w.heap.size + 1 ≤ (wr.alloc o).heap.size) := fun o => by have := (HEa.out o).lt; omega
        go_wp2_with (at_builtin; refine wpList_append_int _ rfl (.tmp 62) (.tmp 68) rfl (w.heap.size + 1) (.slice q m c) m (wt m) rfl (HOa.out _) wr.heap.size (start + Q) rfl (by simp) (by omega) (HZa.out _) ?_; intro v5 w5 ho5 hg5; have HE5 := hideS ((HEa.out _).stay (igrown_below (HOa.out _) hg5 (HZa.out _)) (Nat.lt_succ_self _)); rw [← HNx.out] at ho5; obtain ⟨q5, g5, k5, hv5, _, _, _, _⟩ := iown_src ho5 (HWl.out _); subst hv5; have HO5 := hideS ho5; clear ho5 hg5)
        go_roundw
        case rel => exact ⟨m + 1, q5, k5, by omega, by go_num, rfl, HO5, HE5⟩
        case measure => simp [intOf]; omega
      · have hmk : m = k + 1 := by omega
        have hi : decide ((m : Int) ≤ (k : Int)) = false := decide_eq_false (by omega)
        rw [← hmk] at HSame HDt
        clear hmk
        obtain ⟨p6, g6, c6, hv6, hs6, hg6, _, _⟩ := iown_src HO.out (HWl.out _)
        obtain ⟨rfl, rfl⟩ : q = p6 ∧ c = c6 := by cases hv6; exact ⟨rfl, rfl⟩
        have HS6 := hideS hs6
        clear hv6 hs6 HO
        go_wp2_with fail
        go_loopw [13] (fun t wx => ∃ (T T0 : Int), t = .int .i64 T ∧ 1 ≤ T ∧ T ≤ 5 ∧ Hid (EBx w ⟨start, start + P, n, 1, T0, 0, 0, 0⟩ wx) ∧ Hid (ISrc wx q g6 0 (wt m))) (fun t _ => (5 - intOf t).toNat)
        case atStart => exact ⟨1, 1, rfl, by omega, by omega, HE, HS6⟩
        case round =>
          clear HE HS6
          obtain ⟨T, T0, rfl, t1, t5, HE, HS6⟩ := hrel
          by_cases ht : T ≤ 4
          · have hT : decide (T ≤ 4) = true := decide_eq_true ht
            obtain ⟨c0, c1, c2, c3, c4, c5, c6', c7, c8, c9⟩ := HE.out.cells
            have hfz := frozen_of_row wr w.heap.size 4 _ _ HE.out.hb
            have HE1 := hideS (HE.out.set T)
            have HS1 := hideS (isrc_set (g := w.heap.size) (o := 4) (v := .int .i64 T) HS6.out (fun _ => by omega))
            dsimp only at c0 c1 c2 c3 c4 c5 c6' c7 c8 c9 HE1
            go_wp2_with fail
            refine (HDt.out T t1 ht _).mono ?_
            rintro e w2 ⟨⟨q2, g2, k2, rfl, hs2, hk2, _⟩, hb2⟩
            have HE2 := hideS (HE1.out.step hb2)
            have HS2 := hideS (HS1.out.below hb2)
            have HS3 := hideS hs2
            clear hs2 hb2 c0 c1 c2 c3 c4 c5 c6' c7 c8 c9 hfz
            go_wp2_with (go_at_call 17; refine (HSame.out _ _ g2 _ g6 _ _ HS3.out HS2.out).mono ?_; rintro e w3 ⟨rfl, hb3⟩)
            have HE3 := hideS (HE2.out.step hb3)
            have HS4 := hideS (HS2.out.below hb3)
            go_roundw
            case rel => exact ⟨T + 1, T, rfl, by omega, by omega, HE3, HS4⟩
            case measure => simp [intOf]; omega
          · have hT : decide (T ≤ 4) = false := decide_eq_false ht
            go_wp2_with (go_at_call 9; refine (awake8 _).mono ?_; rintro e w9 ⟨rfl, hb9⟩)
            go_ret
            exact ⟨rfl, (HE.out.step hb9).bl⟩
  · go_enter Try.func8, Try.ntmps8
    go_wp2_with fail
    go_loopw [11, 12] (fun vw i wr => ∃ (m : Nat) (q : Option Addr) (c : Nat), m ≤ k + 1 ∧ i = .int .i64 (m : Int) ∧ vw = .slice q m c ∧ Hid (wr.ownsRow (w.heap.size + 1) 3 1 (.slice q m c) m ((wt m).map iV)) ∧ Hid (EBx w ⟨start, start + P, n, 2, 1, 0, 0, 0⟩ wr)) (fun _ i _ => k + 1 - (intOf i).toNat)
    case atStart => exact ⟨0, none, 0, by omega, rfl, rfl, by show World.ownsRow _ _ _ _ _ _ _; rw [HW0.out]; exact iown_nil _ _, HE0⟩
    case round =>
      clear HE0
      obtain ⟨m, q, c, hm, rfl, rfl, HO, HE⟩ := hrel
      by_cases hlt : m ≤ k
      · have hi : decide ((m : Int) ≤ (k : Int)) = true := decide_eq_true (by omega)
        obtain ⟨Q, hQ⟩ : ∃ Q : Int, (m : Int) * S = Q := ⟨_, rfl⟩
        have hQ0 : 0 ≤ Q ∧ Q ≤ 10080000 := by
          rw [← hQ]
          have h1 := Int.mul_nonneg (show (0 : Int) ≤ (m : Int) by omega) (show (0 : Int) ≤ S by omega)
          have h2 := Int.mul_le_mul_of_nonneg_left S1 (show (0 : Int) ≤ (m : Int) by omega)
          omega
        obtain ⟨Q0, Q1⟩ := hQ0
        have HNx : Hid (wt (m + 1) = wt m ++ [start + Q]) := by show _ = _; rw [HWs.out, hQ]
        have HOa : Hid (∀ o, (wr.alloc o).ownsRow (w.heap.size + 1) 3 1 (.slice q m c) m ((wt m).map iV)) := fun o => iown_below HO.out ((Below.refl _ wr).alloc (Nat.le_refl _) o)
        have HEa : Hid (∀ o, EBx w ⟨start, start + P, n, 2, 1, 0, 0, 0⟩ (wr.alloc o)) := fun o => HE.out.step ((Below.refl _ wr).alloc (Nat.le_refl _) o)
        have HZa : Hid (∀ o, w.heap.size + 1 ≤ (wr.alloc o).heap.size) := fun o => by have := (HEa.out o).lt; omega
        go_wp2_with (at_builtin; refine wpList_append_int _ rfl (.tmp 62) (.tmp 68) rfl (w.heap.size + 1) (.slice q m c) m (wt m) rfl (HOa.out _) wr.heap.size (start + Q) rfl (by simp) (by omega) (HZa.out _) ?_; intro v5 w5 ho5 hg5; have HE5 := hideS ((HEa.out _).stay (igrown_below (HOa.out _) hg5 (HZa.out _)) (Nat.lt_succ_self _)); rw [← HNx.out] at ho5; obtain ⟨q5, g5, k5, hv5, _, _, _, _⟩ := iown_src ho5 (HWl.out _); subst hv5; have HO5 := hideS ho5; clear ho5 hg5)
        go_roundw
        case rel => exact ⟨m + 1, q5, k5, by omega, by go_num, rfl, HO5, HE5⟩
        case measure => simp [intOf]; omega
      · have hmk : m = k + 1 := by omega
        have hi : decide ((m : Int) ≤ (k : Int)) = false := decide_eq_false (by omega)
        rw [← hmk] at HSame HDt
        clear hmk
        obtain ⟨p6, g6, c6, hv6, hs6, hg6, _, _⟩ := iown_src HO.out (HWl.out _)
        obtain ⟨rfl, rfl⟩ : q = p6 ∧ c = c6 := by cases hv6; exact ⟨rfl, rfl⟩
        have HS6 := hideS hs6
        clear hv6 hs6 HO
        go_wp2_with fail
        go_loopw [13] (fun t wx => ∃ (T T0 : Int), t = .int .i64 T ∧ 1 ≤ T ∧ T ≤ 5 ∧ Hid (EBx w ⟨start, start + P, n, 2, T0, 0, 0, 0⟩ wx) ∧ Hid (ISrc wx q g6 0 (wt m))) (fun t _ => (5 - intOf t).toNat)
        case atStart => exact ⟨1, 1, rfl, by omega, by omega, HE, HS6⟩
        case round =>
          clear HE HS6
          obtain ⟨T, T0, rfl, t1, t5, HE, HS6⟩ := hrel
          by_cases ht : T ≤ 4
          · have hT : decide (T ≤ 4) = true := decide_eq_true ht
            obtain ⟨c0, c1, c2, c3, c4, c5, c6', c7, c8, c9⟩ := HE.out.cells
            have hfz := frozen_of_row wr w.heap.size 4 _ _ HE.out.hb
            have HE1 := hideS (HE.out.set T)
            have HS1 := hideS (isrc_set (g := w.heap.size) (o := 4) (v := .int .i64 T) HS6.out (fun _ => by omega))
            dsimp only at c0 c1 c2 c3 c4 c5 c6' c7 c8 c9 HE1
            go_wp2_with fail
            refine (HDt.out T t1 ht _).mono ?_
            rintro e w2 ⟨⟨q2, g2, k2, rfl, hs2, hk2, _⟩, hb2⟩
            have HE2 := hideS (HE1.out.step hb2)
            have HS2 := hideS (HS1.out.below hb2)
            have HS3 := hideS hs2
            clear hs2 hb2 c0 c1 c2 c3 c4 c5 c6' c7 c8 c9 hfz
            go_wp2_with (go_at_call 17; refine (HSame.out _ _ g2 _ g6 _ _ HS3.out HS2.out).mono ?_; rintro e w3 ⟨rfl, hb3⟩)
            have HE3 := hideS (HE2.out.step hb3)
            have HS4 := hideS (HS2.out.below hb3)
            go_roundw
            case rel => exact ⟨T + 1, T, rfl, by omega, by omega, HE3, HS4⟩
            case measure => simp [intOf]; omega
          · have hT : decide (T ≤ 4) = false := decide_eq_false ht
            go_wp2_with (go_at_call 9; refine (awake8 _).mono ?_; rintro e w9 ⟨rfl, hb9⟩)
            go_ret
            exact ⟨rfl, (HE.out.step hb9).bl⟩

theorem schedEven_walk (start n k : Int) (wk : Bool) (w : World) (_ : I64 start) (_ : I64 n) (_ : I64 k) :
    Calls Try.prog 8 #[.int .i64 start, .int .i64 n, .int .i64 k, .bool wk] w fun e w' => e = .returned (.bool true) ∧ Below w.heap.size w w' := by
  by_cases h : 0 ≤ start ∧ start ≤ 109572 ∧ 1 ≤ n ∧ n ≤ 1200 ∧ 1 ≤ k ∧ k ≤ 1200
  · obtain ⟨a, b, c, d, e, f⟩ := h
    obtain ⟨kn, rfl⟩ : ∃ kn : Nat, k = (kn : Int) := ⟨k.toNat, by omega⟩
    have key : ∀ (S u : Int), ((u = 1 ∧ S = n) ∨ (u = 2 ∧ S = 7 * n)) → ((wk = false ∧ u = 1) ∨ (wk = true ∧ u = 2)) → Calls Try.prog 8 #[.int .i64 start, .int .i64 n, .int .i64 (kn : Int), .bool wk] w fun e w' => e = .returned (.bool true) ∧ Below w.heap.size w w' := fun S u hu hw => by
      have S0 : 1 ≤ S := by omega
      have S1 : S ≤ 8400 := by omega
      have P0 := Int.mul_nonneg (show (0 : Int) ≤ (kn : Int) by omega) (show (0 : Int) ≤ S by omega)
      have P1 := Int.mul_le_mul_of_nonneg_left S1 (show (0 : Int) ≤ (kn : Int) by omega)
      have P2 := Int.mul_le_mul_of_nonneg_left S0 (show (0 : Int) ≤ (kn : Int) by omega)
      have H : EvH start n S ((kn : Int) * S) kn u := ⟨a, b, c, d, by omega, by omega, S0, S1, rfl, P0, by omega, hu⟩
      by_cases hf : start + (kn : Int) * S ≤ 109572
      · refine schedEven_in start n S _ u kn wk w H hw hf (fun T t1 t4 wx => ?_)
        have hok : SpcOk ⟨start, start + (kn : Int) * S, n, u, T, 0, 0, 0⟩ := ⟨⟨a, b⟩, ⟨by show 0 ≤ start + _; omega, hf⟩, by show start < start + _; omega, c, d, by show 1 ≤ u; omega, by show u ≤ 4; omega, t1, t4, (show (0 : Int) ≤ 0 by decide), (show (0 : Int) ≤ 2 by decide), Or.inl rfl, (show (0 : Int) ≤ 0 by decide), (show (0 : Int) ≤ 4 by decide), (show (0 : Int) ≤ 0 by decide), (show (0 : Int) ≤ 30 by decide)⟩
        have hE : EvenR ⟨start, start + (kn : Int) * S, n, u, T, 0, 0, 0⟩ S kn := even_of hu c (by omega) rfl
        obtain ⟨hK, hcut⟩ := even_dat hok hE
        refine (schDates_yes ⟨start, start + (kn : Int) * S, n, u, T, 0, 0, 0⟩ 0 (kn - 1) none 0 0 0 [] wx hok calA_ok hK (rsrc_nil wx)).mono ?_
        rintro e w' ⟨ho, hb⟩
        have hi := ints_of ho
        rw [if_pos (by omega), if_pos (by omega), hcut, even_want hok hE (by omega)] at hi
        exact ⟨hi, hb⟩
      · exact schedEven_far start n S _ u kn wk w H hw (by omega)
    cases wk
    · exact key n 1 (Or.inl ⟨rfl, rfl⟩) (Or.inl ⟨rfl, rfl⟩)
    · exact key (7 * n) 2 (Or.inr ⟨rfl, rfl⟩) (Or.inr ⟨rfl, rfl⟩)
  · exact schedEven_out start n k wk w h
end Go.Proofs.Ythfipkcpajaifaa
