/- The contracts of AddDigits, SubDigits, CmpDigits. The contracts of both, low and Plus of the document. -/
import Derived.Test.YtbkmbdbjeiffpaaHaj
import Derived.Lib.MinMax
import Derived.Test.YtbkmbdbjeiffpaaHag
import Derived.Test.YtbkmbdbjeiffpaaHah
namespace Go.Proofs.Ytbkmbdbjeiffpaa
open Go.RowKit

theorem DN.form {w : World} {v : Value} {N : Nat} (h : DN w v N) : ∃ p c, v = .slice p (nd N) c := by
  rcases h with ⟨h0, p, c, rfl⟩ | ⟨h0, g, c, rfl, _⟩
  · exact ⟨p, c, by rw [h0]; rfl⟩
  · exact ⟨_, _, rfl⟩

set_option maxRecDepth 10000 in
set_option maxHeartbeats 800000 in
theorem addDigits_form (p q : Option Addr) (c d m n L A B : Nat) (w : World) (hA : Hid (DN w (.slice p m c) A)) (hB : Hid (DN w (.slice q n d) B)) (hL : max (m : Int) (n : Int) = (L : Int)) (hm : m ≤ 10000000) (hn : n ≤ 10000000) (hA2 : Hid (A < 2 ^ (32 * m))) (hB2 : Hid (B < 2 ^ (32 * n))) :
    Calls Try.prog 68 #[.slice p m c, .slice q n d] w fun e w' => ∃ v, e = .returned v ∧ DN w' v (A + B) ∧ From w.heap.size v ∧ Below w.heap.size w w' := by
  have hL1 : m ≤ L := by omega
  have hL2 : n ≤ L := by omega
  have hL3 : L ≤ 10000000 := by omega
  have hmk := fun w => run_make_row' (P := Try.prog) 54 26 (.int .u64 0) 8 Try.underlying54 info_u64 rfl .i64 .i64 (L + 1) (by omega) (by omega) w
  have ec : ((L + 1 : Nat) : Int) = (L : Int) + 1 := by omega
  rw [ec] at hmk
  clear ec
  have HO := hide (half_made w (L + 1) (A + B))
  go_enter Try.func68, Try.ntmps68
  go_wp2_with fail
  go_loopw [7, 8] (fun s i wr => ∃ k c : Nat, k ≤ L + 1 ∧ c ≤ 1 ∧ i = .int .i64 k ∧ s = .int .u64 c ∧ Hid (c = cry A B k) ∧ Hid (Half wr w.heap.size (L + 1) (A + B) k) ∧ Hid (Below w.heap.size w wr)) (fun _ i _ => L + 1 - (intOf i).toNat)
  case atStart => exact ⟨0, 0, Nat.zero_le _, Nat.zero_le _, rfl, rfl, (cry_zero A B).symm, HO, (Below.refl _ _).alloc (Nat.le_refl _) _⟩
  case round =>
    clear HO hmk
    obtain ⟨k, x, hk, hx, rfl, rfl, HC, HH, HB⟩ := hrel
    by_cases hlt : k < L + 1
    · have H1 := hide (digit_any _ A k wr (hA.out.below HB.out))
      have H2 := hide (digit_any _ B k wr (hB.out.below HB.out))
      have b1 := dgt_lt A k
      have b2 := dgt_lt B k
      have h1 := HH.out.cell (i := k) (by omega)
      have f1 := HH.out.frozen k
      have HS := hide fun a b (ha : a = dgt A k) (hb : b = dgt B k) => add_round (s := a + b + x) ha hb HC.out rfl
      generalize hD : dgt A k = a at H1 b1
      generalize hE : dgt B k = b at H2 b2
      have HS := hide (HS.out a b hD.symm hE.symm)
      clear hD hE
      go_wp2_with fail
      refine H1.out.mono ?_
      rintro e w' ⟨rfl, rfl⟩
      go_wp2_with fail
      refine H2.out.mono ?_
      rintro e w' ⟨rfl, rfl⟩
      go_wp2_with fail
      go_roundw
      case rel => exact ⟨k + 1, (a + b + x) / 4294967296, by omega, by omega, by go_num, by go_num, HS.out.2, half_step HH.out (by rw [← HS.out.1]; omega), HB.out.setCell (Nat.le_refl _) _⟩
      case measure => simp [intOf]; omega
    · obtain rfl : k = L + 1 := by omega
      have HO2 := hide (half_end HH.out)
      have hM : Hid (A + B < 2 ^ (32 * (L + 1))) := sum_lt hA2.out hB2.out (by omega) (by omega)
      have hlt2 := HO2.out.lt
      have HD := hide (dn_mk HO2.out.row hM.out (Nat.le_refl _) hlt2)
      go_wp2_with fail
      refine (trim_row _ _ _ _ _ HO2.out.row hM.out (Nat.le_refl _) (by omega)).mono ?_
      rintro e w' ⟨rfl, rfl⟩
      go_wp2_with fail
      go_ret
      exact ⟨_, rfl, HD.out, from_at _ _ _ _ (Nat.le_refl _), HB.out⟩

theorem addDigits_any (u v : Value) (A B : Nat) (w : World) (hA : DN w u A) (hB : DN w v B) (ha : nd A ≤ 10000000) (hb : nd B ≤ 10000000) :
    Calls Try.prog 68 #[u, v] w fun e w' => ∃ v, e = .returned v ∧ DN w' v (A + B) ∧ From w.heap.size v ∧ Below w.heap.size w w' := by
  obtain ⟨p, c, rfl⟩ := hA.form
  obtain ⟨q, d, rfl⟩ := hB.form
  exact addDigits_form p q c d (nd A) (nd B) (max (nd A) (nd B)) A B w hA hB (by omega) ha hb (nd_lt A) (nd_lt B)

set_option maxRecDepth 10000 in
set_option maxHeartbeats 400000 in
theorem subDigits_nil (p : Option Addr) (c : Nat) (v : Value) (w : World) :
    Calls Try.prog 70 #[.slice p 0 c, v] w fun e w' => ∃ v, e = .returned v ∧ DN w' v 0 ∧ From w.heap.size v ∧ Below w.heap.size w w' := by
  have hmk := fun w => run_make_row' (P := Try.prog) 54 26 (.int .u64 0) 8 Try.underlying54 info_u64 rfl .i64 .i64 0 (by omega) (by omega) w
  rw [show ((0 : Nat) : Int) = 0 from rfl] at hmk
  go_enter Try.func70, Try.ntmps70
  go_wp2_with fail
  go_loopw [6, 7] (fun s i wr => i = .int .i64 0 ∧ s = .int .u64 0 ∧ Hid (Below w.heap.size w wr)) (fun _ _ _ => 0)
  case atStart => exact ⟨rfl, rfl, (Below.refl _ _).alloc (Nat.le_refl _) _⟩
  case round =>
    obtain ⟨rfl, rfl, HB⟩ := hrel
    go_wp2_with fail
    refine (trim_row w.heap.size 0 0 0 _ (fun i hi => absurd hi (by omega)) (by decide) (Nat.le_refl _) (by omega)).mono ?_
    rintro e w' ⟨rfl, rfl⟩
    go_wp2_with fail
    go_ret
    exact ⟨_, rfl, Or.inl ⟨rfl, _, _, rfl⟩, from_at _ _ _ _ (Nat.le_refl _), HB.out⟩

set_option maxRecDepth 10000 in
set_option maxHeartbeats 800000 in
theorem subDigits_row (g : Nat) (v : Value) (c m B D : Nat) (w : World) (hrow : Hid (RowIs w g m (B + D))) (hg : g < w.heap.size) (hB : Hid (DN w v B)) (hm : m ≤ 10000000) (hA2 : Hid (B + D < 2 ^ (32 * m))) :
    Calls Try.prog 70 #[.slice (some ⟨g, 0, none⟩) m c, v] w fun e w' => ∃ v, e = .returned v ∧ DN w' v D ∧ From w.heap.size v ∧ Below w.heap.size w w' := by
  have hmk := fun w => run_make_row' (P := Try.prog) 54 26 (.int .u64 0) 8 Try.underlying54 info_u64 rfl .i64 .i64 m (by omega) (by omega) w
  have HO := hide (half_made w m D)
  go_enter Try.func70, Try.ntmps70
  go_wp2_with fail
  go_loopw [6, 7] (fun s i wr => ∃ k c : Nat, k ≤ m ∧ c ≤ 1 ∧ i = .int .i64 k ∧ s = .int .u64 c ∧ Hid (c = cry B D k) ∧ Hid (Half wr w.heap.size m D k) ∧ Hid (Below w.heap.size w wr)) (fun _ i _ => m - (intOf i).toNat)
  case atStart => exact ⟨0, 0, Nat.zero_le _, Nat.zero_le _, rfl, rfl, (cry_zero B D).symm, HO, (Below.refl _ _).alloc (Nat.le_refl _) _⟩
  case round =>
    clear HO hmk
    obtain ⟨k, x, hk, hx, rfl, rfl, HC, HH, HB⟩ := hrel
    by_cases hlt : k < m
    · have hc : wr.cell? ⟨g, k, none⟩ = some (.int .u64 (dgt (B + D) k : Int)) := (HB.out.cell (p := ⟨g, k, none⟩) hg).trans (hrow.out k hlt)
      have H2 := hide fun q => digit_any _ B k (wr.drewN q) (hB.out.below (below_drewN HB.out q))
      have b1 := dgt_lt (B + D) k
      have b2 := dgt_lt B k
      have h1 := HH.out.cell (i := k) (by omega)
      have f1 := HH.out.frozen k
      have HS := hide (sub_round (k := k) rfl rfl HC.out)
      generalize dgt (B + D) k = a at hc b1 HS
      generalize dgt B k = b at H2 b2 HS
      have hle := HS.out.1
      have hle2 := HS.out.2.2.1
      have w1 : IntKind.u64.wrap ((a : Int) + 4294967296) = (a : Int) + 4294967296 := by rw [IntKind.wrap_u64]; omega
      have w2 : IntKind.u64.wrap ((a : Int) + 4294967296 - (b : Int)) = (a : Int) + 4294967296 - (b : Int) := by rw [IntKind.wrap_u64]; omega
      have w3 : IntKind.u64.wrap ((a : Int) + 4294967296 - (b : Int) - (x : Int)) = ((a + 4294967296 - b - x : Nat) : Int) := by rw [IntKind.wrap_u64]; omega
      have hs : a + 4294967296 - b - x < 8589934592 := by omega
      generalize a + 4294967296 - b - x = s at w3 HS hle2 hs
      go_wp2_with fail
      go_quiet ((go_at_call 74; exact Calls.quiet_of_same (H2.out _)))
      go_wp2_with fail
      go_roundw
      case rel => exact ⟨k + 1, 1 - s / 4294967296, by omega, by omega, by go_num, by go_num, HS.out.2.2.2, half_step (w := wr.drewN nq) HH.out (by rw [← HS.out.2.1]; omega), (below_drewN HB.out _).setCell (Nat.le_refl _) _⟩
      case measure => simp [intOf]; omega
    · obtain rfl : k = m := by omega
      have HO2 := hide (half_end HH.out)
      have hM : Hid (D < 2 ^ (32 * k)) := by show _ < _; have := hA2.out; omega
      have hlt2 := HO2.out.lt
      have HD := hide (dn_mk HO2.out.row hM.out (Nat.le_refl _) hlt2)
      go_wp2_with fail
      refine (trim_row _ _ _ _ _ HO2.out.row hM.out (Nat.le_refl _) (by omega)).mono ?_
      rintro e w' ⟨rfl, rfl⟩
      go_wp2_with fail
      go_ret
      exact ⟨_, rfl, HD.out, from_at _ _ _ _ (Nat.le_refl _), HB.out⟩

theorem subDigits_any (u v : Value) (A B : Nat) (w : World) (hA : DN w u A) (hB : DN w v B) (ha : nd A ≤ 10000000) (hle : B ≤ A) :
    Calls Try.prog 70 #[u, v] w fun e w' => ∃ v, e = .returned v ∧ DN w' v (A - B) ∧ From w.heap.size v ∧ Below w.heap.size w w' := by
  obtain ⟨D, rfl⟩ : ∃ D, A = B + D := ⟨A - B, by omega⟩
  rw [Nat.add_sub_cancel_left]
  rcases hA with ⟨h0, p, c, rfl⟩ | ⟨h0, g, c, rfl, hc, hg, hr⟩
  · rw [show D = 0 by omega]; exact subDigits_nil p c v w
  · exact subDigits_row g v c (nd (B + D)) B D w hr hg hB ha (nd_lt _)

theorem cmpDigits_len (p q : Option Addr) (m n c d A B : Nat) (w : World) (hA : Hid (nd A = m)) (hB : Hid (nd B = n)) (hne : m ≠ n) :
    Calls Try.prog 69 #[.slice p m c, .slice q n d] w fun e w' => e = .returned (.int .i64 (cmpN A B)) ∧ ∃ q, w' = w.drewN q := by
  rcases Nat.lt_or_gt_of_ne hne with h | h
  · have e : cmpN A B = -1 := cmpN_lt (nd_lt_lt (by rw [hA.out, hB.out]; exact h))
    rw [e]
    go_enter Try.func69, Try.ntmps69
    go_wp2
    go_ret
    exact ⟨rfl, 0, rfl⟩
  · have e : cmpN A B = 1 := cmpN_gt (nd_lt_lt (by rw [hA.out, hB.out]; exact h))
    rw [e]
    go_enter Try.func69, Try.ntmps69
    go_wp2
    go_ret
    exact ⟨rfl, 0, rfl⟩

theorem top_zero {A n : Nat} (h : A < 2 ^ (32 * n)) : A / 2 ^ (32 * n) = 0 := Nat.div_eq_of_lt h

set_option maxHeartbeats 800000 in
theorem cmpDigits_row (g f n c d A B : Nat) (w : World) (hrA : Hid (RowIs w g n A)) (hrB : Hid (RowIs w f n B)) (hA : Hid (A < 2 ^ (32 * n))) (hB : Hid (B < 2 ^ (32 * n))) (hn : n ≤ 10000000) :
    Calls Try.prog 69 #[.slice (some ⟨g, 0, none⟩) n c, .slice (some ⟨f, 0, none⟩) n d] w fun e w' => e = .returned (.int .i64 (cmpN A B)) ∧ ∃ q, w' = w.drewN q := by
  go_enter Try.func69, Try.ntmps69
  go_wp2_with fail
  go_loopw [5] (fun i wr => ∃ k : Nat, k ≤ n ∧ i = .int .i64 ((k : Int) - 1) ∧ Hid (A / 2 ^ (32 * k) = B / 2 ^ (32 * k)) ∧ Hid (∃ q, wr = w.drewN q)) (fun i _ => (intOf i + 1).toNat)
  case atStart => exact ⟨n, Nat.le_refl _, rfl, by show _ = _; rw [top_zero hA.out, top_zero hB.out], 0, rfl⟩
  case round =>
    obtain ⟨k, hk, rfl, HE, HQ⟩ := hrel
    cases k with
    | zero =>
      have e : cmpN A B = 0 := cmpN_eq (by have := HE.out; rw [Nat.mul_zero, Nat.pow_zero, Nat.div_one, Nat.div_one] at this; exact this)
      have E := hide e.symm
      clear e
      go_wp2_with fail
      go_ret
      exact ⟨ret_int E.out, HQ.out⟩
    | succ j =>
      have e1 : ((j + 1 : Nat) : Int) - 1 = (j : Int) := by omega
      rw [e1]
      have hc1 : wr.cell? ⟨g, j, none⟩ = some (.int .u64 (dgt A j : Int)) := by obtain ⟨q, rfl⟩ := HQ.out; exact hrA.out j (by omega)
      have hc2 : wr.cell? ⟨f, j, none⟩ = some (.int .u64 (dgt B j : Int)) := by obtain ⟨q, rfl⟩ := HQ.out; exact hrB.out j (by omega)
      clear e1
      have H1 := hide fun h => cmpN_lt (lt_of_top HE.out h)
      have H2 := hide fun h => cmpN_gt (lt_of_top HE.out.symm h)
      have H3 := hide fun h => eq_of_top HE.out h
      generalize dgt A j = a at hc1 H1 H2 H3
      generalize dgt B j = b at hc2 H1 H2 H3
      clear HE
      rcases Nat.lt_trichotomy a b with h | h | h
      · have e := H1.out h
        have E := hide e.symm
        clear e H1 H2 H3
        go_wp2_with fail
        go_quiet (fail)
        go_wp2_with fail
        go_ret
        refine ⟨ret_int E.out, ?_⟩
        obtain ⟨q, rfl⟩ := HQ.out; exact ⟨_, World.drewN_drewN _ _ _⟩
      · have H4 := hide (H3.out h)
        clear H1 H2 H3
        subst h
        go_wp2_with fail
        go_quiet (fail)
        go_wp2_with fail
        go_quiet (fail)
        go_wp2_with fail
        go_roundw
        case rel =>
          refine ⟨j, by omega, by go_num, H4, ?_⟩
          obtain ⟨q, rfl⟩ := HQ.out
          exact ⟨_, by first | exact World.drewN_drewN _ _ _ | rw [World.drewN_drewN, World.drewN_drewN]⟩
        case measure => simp [intOf]
      · have e := H2.out h
        have E := hide e.symm
        clear e H1 H2 H3
        go_wp2_with fail
        go_quiet (fail)
        go_wp2_with fail
        go_quiet (fail)
        go_wp2_with fail
        go_ret
        refine ⟨ret_int E.out, ?_⟩
        obtain ⟨q, rfl⟩ := HQ.out; exact ⟨_, by first | exact World.drewN_drewN _ _ _ | rw [World.drewN_drewN, World.drewN_drewN]⟩

set_option maxHeartbeats 800000 in
theorem cmpDigits_nil (p q : Option Addr) (c d : Nat) (w : World) :
    Calls Try.prog 69 #[.slice p 0 c, .slice q 0 d] w fun e w' => e = .returned (.int .i64 0) ∧ ∃ q, w' = w.drewN q := by
  go_enter Try.func69, Try.ntmps69
  go_wp2_with fail
  go_loop [5] (fun i => i = .int .i64 (-1)) (fun _ => 0)
  case atStart => rfl
  case round =>
    subst hrel
    go_wp2_with fail
    go_ret
    exact ⟨rfl, 0, rfl⟩

theorem cmpDigits_any (u v : Value) (A B : Nat) (w : World) (hA : DN w u A) (hB : DN w v B) (ha : nd A ≤ 10000000) :
    Calls Try.prog 69 #[u, v] w fun e w' => e = .returned (.int .i64 (cmpN A B)) ∧ ∃ q, w' = w.drewN q := by
  by_cases hne : nd A = nd B
  · rcases hA with ⟨h0, p, c, rfl⟩ | ⟨h0, g, c, rfl, hc, hg, hr⟩
    · rcases hB with ⟨h1, q, d, rfl⟩ | ⟨h1, f, d, rfl, hd, hf, hs⟩
      · rw [cmpN_eq (h0.trans h1.symm)]; exact cmpDigits_nil p q c d w
      · exfalso; have h2 := nd_pos h1; rw [h0, nd_zero] at hne; omega
    · rcases hB with ⟨h1, q, d, rfl⟩ | ⟨h1, f, d, rfl, hd, hf, hs⟩
      · exfalso; have h2 := nd_pos h0; rw [h1, nd_zero] at hne; omega
      · rw [← hne] at hs ⊢
        exact cmpDigits_row g f (nd A) c d A B w hr hs (nd_lt A) (by show _ < _; rw [hne]; exact nd_lt B) ha
  · obtain ⟨p, c, rfl⟩ := hA.form
    obtain ⟨q, d, rfl⟩ := hB.form
    exact cmpDigits_len p q _ _ c d A B w rfl rfl hne

end Go.Proofs.Ytbkmbdbjeiffpaa
namespace Go.Proofs.Ytbkmbdbjeiffpaa
open Go.RowKit

/-- The lesser exponent of two. -/
def bothE (X : Nat) (ex : Int) (Y : Nat) (ey : Int) : Int := if X = 0 then ey else if Y = 0 then ex else min ex ey
/-- A number with its sign. -/
def sg (neg : Bool) (N : Nat) : Int := if neg then -(N : Int) else (N : Int)

abbrev boxN (w : World) (n : Bool) (v : Value) (e : Int) : World := w.alloc (.cells #[.bool n, v, .int .i64 e] 56)
theorem boxN_below (w : World) (n : Bool) (v : Value) (e : Int) : Below w.heap.size w (boxN w n v e) := (Below.refl _ _).alloc (Nat.le_refl _) _

/-- Two boxes' six cells. -/
def Six (w : World) (B : Nat) (nx : Bool) (vx : Value) (ex : Int) (ny : Bool) (vy : Value) (ey : Int) : Prop :=
  w.cell? ⟨B, 0, none⟩ = some (.bool nx) ∧ w.cell? ⟨B, 1, none⟩ = some vx ∧ w.cell? ⟨B, 2, none⟩ = some (.int .i64 ex) ∧
  w.cell? ⟨B + 1, 0, none⟩ = some (.bool ny) ∧ w.cell? ⟨B + 1, 1, none⟩ = some vy ∧ w.cell? ⟨B + 1, 2, none⟩ = some (.int .i64 ey)
theorem six_box (w : World) (nx : Bool) (vx : Value) (ex : Int) (ny : Bool) (vy : Value) (ey : Int) : Six (boxN (boxN w nx vx ex) ny vy ey) w.heap.size nx vx ex ny vy ey := by
  have hb := boxN_below (boxN w nx vx ex) ny vy ey
  have hs : w.heap.size < (boxN w nx vx ex).heap.size := by simp
  refine ⟨?_, ?_, ?_, ?_, ?_, ?_⟩
  · rw [hb.cell (p := ⟨w.heap.size, 0, none⟩) hs]; simp
  · rw [hb.cell (p := ⟨w.heap.size, 1, none⟩) hs]; simp
  · rw [hb.cell (p := ⟨w.heap.size, 2, none⟩) hs]; simp
  · have e : w.heap.size + 1 = (boxN w nx vx ex).heap.size := by simp
    rw [e]; simp
  · have e : w.heap.size + 1 = (boxN w nx vx ex).heap.size := by simp
    rw [e]; simp
  · have e : w.heap.size + 1 = (boxN w nx vx ex).heap.size := by simp
    rw [e]; simp
theorem Six.below {w w' : World} {B : Nat} {nx ny : Bool} {vx vy : Value} {ex ey : Int} {s : Nat} (h : Six w B nx vx ex ny vy ey) (hb : Below s w w') (hs : B + 1 < s) : Six w' B nx vx ex ny vy ey := by
  obtain ⟨a, b, c, d, e, f⟩ := h
  exact ⟨(hb.cell (p := ⟨B, 0, none⟩) (by show B < s; omega)).trans a, (hb.cell (p := ⟨B, 1, none⟩) (by show B < s; omega)).trans b, (hb.cell (p := ⟨B, 2, none⟩) (by show B < s; omega)).trans c, (hb.cell (p := ⟨B + 1, 0, none⟩) hs).trans d, (hb.cell (p := ⟨B + 1, 1, none⟩) hs).trans e, (hb.cell (p := ⟨B + 1, 2, none⟩) hs).trans f⟩
theorem box2_size (w : World) (nx : Bool) (vx : Value) (ex : Int) (ny : Bool) (vy : Value) (ey : Int) : (boxN (boxN w nx vx ex) ny vy ey).heap.size = w.heap.size + 2 := by simp

set_option maxHeartbeats 800000 in
theorem both_any (nx ny : Bool) (vx vy : Value) (ex ey : Int) (X Y : Nat) (w : World) (hX : DN w vx X) (hY : DN w vy Y) :
    Calls Try.prog 66 #[.agg #[.bool nx, vx, .int .i64 ex], .agg #[.bool ny, vy, .int .i64 ey]] w fun e w' => e = .returned (.int .i64 (bothE X ex Y ey)) ∧ Below w.heap.size w w' := by
  have hbx := boxN_below w nx vx ex
  have hby : Below w.heap.size w (boxN (boxN w nx vx ex) ny vy ey) := hbx.trans ((boxN_below (boxN w nx vx ex) ny vy ey).mono (by simp))
  have H1 := hide (hX.below hby)
  have H2 := hide (hY.below hby)
  have HB := hide hby
  have H6 := hide (six_box w nx vx ex ny vy ey)
  have HZ := hide (box2_size w nx vx ex ny vy ey)
  clear hbx hby hX hY
  unfold bothE
  by_cases h0 : X = 0
  · subst h0
    rw [if_pos rfl]
    go_enter Try.func66, Try.ntmps66
    go_wp2_with fail
    refine (zero_at _ _ _ 0 true _ H1.out rfl).mono ?_
    rintro x w1 ⟨rfl, hb1⟩
    have H7 := hide (H6.out.below hb1 (by rw [HZ.out]; omega))
    have hz : w.heap.size + 1 < w1.heap.size := by have h9 := hb1.size; rw [HZ.out] at h9; omega
    obtain ⟨c0, c1, c2, c3, c4, c5⟩ := H7.out
    have HB1 := hide hb1
    clear hb1
    go_wp2_with fail
    go_ret
    exact ⟨rfl, HB.out.trans (HB1.out.mono (by rw [HZ.out]; omega))⟩
  · rw [if_neg h0]
    have HX := hide h0
    clear h0
    by_cases h0 : Y = 0
    · subst h0
      rw [if_pos rfl]
      go_enter Try.func66, Try.ntmps66
      go_wp2_with fail
      refine (zero_at _ _ _ X false _ H1.out (decide_eq_false HX.out)).mono ?_
      rintro x w1 ⟨rfl, hb1⟩
      have H7 := hide (H6.out.below hb1 (by rw [HZ.out]; omega))
      have hz : w.heap.size + 1 < w1.heap.size := by have h9 := hb1.size; rw [HZ.out] at h9; omega
      obtain ⟨c0, c1, c2, c3, c4, c5⟩ := H7.out
      have HB1 := hide hb1
      have H2 := hide (H2.out.below hb1)
      clear hb1
      go_wp2_with fail
      refine (zero_at _ _ _ 0 true _ H2.out rfl).mono ?_
      rintro x w2 ⟨rfl, hb2⟩
      obtain ⟨d0, d1, d2, d3, d4, d5⟩ := H7.out.below hb2 hz
      clear c0 c1 c2 c3 c4 c5
      have HB2 := hide hb2
      clear hb2
      go_wp2_with fail
      go_ret
      exact ⟨rfl, (HB.out.trans (HB1.out.mono (by rw [HZ.out]; omega))).trans (HB2.out.mono (by omega))⟩
    · rw [if_neg h0]
      have HY := hide h0
      clear h0
      go_enter Try.func66, Try.ntmps66
      go_wp2_with fail
      refine (zero_at _ _ _ X false _ H1.out (decide_eq_false HX.out)).mono ?_
      rintro x w1 ⟨rfl, hb1⟩
      have H7 := hide (H6.out.below hb1 (by rw [HZ.out]; omega))
      have hz : w.heap.size + 1 < w1.heap.size := by have h9 := hb1.size; rw [HZ.out] at h9; omega
      obtain ⟨c0, c1, c2, c3, c4, c5⟩ := H7.out
      have HB1 := hide hb1
      have H2 := hide (H2.out.below hb1)
      clear hb1
      go_wp2_with fail
      refine (zero_at _ _ _ Y false _ H2.out (decide_eq_false HY.out)).mono ?_
      rintro x w2 ⟨rfl, hb2⟩
      obtain ⟨d0, d1, d2, d3, d4, d5⟩ := H7.out.below hb2 hz
      clear c0 c1 c2 c3 c4 c5
      have HB2 := hide hb2
      clear hb2
      go_wp2_with fail
      go_ret
      exact ⟨rfl, (HB.out.trans (HB1.out.mono (by rw [HZ.out]; omega))).trans (HB2.out.mono (by omega))⟩

set_option maxHeartbeats 800000 in
theorem low_any (nx : Bool) (vx : Value) (ex e : Int) (X n : Nat) (w : World) (hX : DN w vx X) (hn : X ≠ 0 → ex - e = (n : Int)) (hn1 : n ≤ 100000000) (hnd : nd X ≤ 10000000) :
    Calls Try.prog 67 #[.agg #[.bool nx, vx, .int .i64 ex], .int .i64 e] w fun x w' => ∃ v, x = .returned v ∧ DN w' v (X * 2 ^ n) ∧ Below w.heap.size w w' := by
  have HB := hide (boxN_below w nx vx ex)
  have H1 := hide (hX.below HB.out)
  clear hX
  by_cases h0 : X = 0
  · subst h0
    rw [Nat.zero_mul]
    go_enter Try.func67, Try.ntmps67
    go_wp2_with fail
    refine (zero_at _ _ _ 0 true _ H1.out rfl).mono ?_
    rintro x w1 ⟨rfl, hb1⟩
    have HB1 := hide hb1
    clear hb1
    go_wp2_with fail
    go_ret
    exact ⟨_, rfl, Or.inl ⟨rfl, _, _, rfl⟩, HB.out.trans (HB1.out.mono (by simp))⟩
  · have he := hn h0
    have HX := hide h0
    clear h0 hn
    go_enter Try.func67, Try.ntmps67
    go_wp2_with fail
    refine (zero_at _ _ _ X false _ H1.out (decide_eq_false HX.out)).mono ?_
    rintro x w1 ⟨rfl, hb1⟩
    obtain ⟨c1, f1⟩ := bcell hb1
    have HB1 := hide hb1
    have H2 := hide (H1.out.below hb1)
    clear hb1
    go_wp2_with fail
    refine (shiftUp_any vx X n _ H2.out hnd hn1).mono ?_
    rintro x w2 ⟨v2, rfl, hd2, hb2⟩
    have HB2 := hide hb2
    have HD2 := hide hd2
    clear hb2 hd2
    have hz : w.heap.size ≤ w1.heap.size := by have := HB1.out.size; simp at this; omega
    go_wp2_with fail
    go_ret
    exact ⟨_, rfl, HD2.out, (HB.out.trans (HB1.out.mono (by simp))).trans (HB2.out.mono hz)⟩

end Go.Proofs.Ytbkmbdbjeiffpaa
